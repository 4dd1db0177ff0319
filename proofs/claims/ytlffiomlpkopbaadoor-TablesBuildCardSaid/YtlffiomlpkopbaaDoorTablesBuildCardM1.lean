/- Texts put together: TbRBuild, TbOwn, TbLawBuild. -/
import Derived.Test.YtlffiomlpkopbaaDoorTablesTwiceCardM1
namespace Go.Proofs.YtlffiomlpkopbaaDoor
open Go.RowKit Big

theorem run_append_w {P : Program} {w : World} (base : Nat) (t ty e : TypeId) (i : TypeInfo) (z : Value) (size bytes : Nat) (ht : P.underlying t = some (.slice e)) (hi : P.info? e = some i) (hz : i.zero = some z)
    (hsize : i.size = size) (hby : i.bytes = bytes) (hzs : z.cells.size = size) (hsz : 0 < size) (hz0 : ∀ n, .int .u64 n ∉ z.cells)
    (v : Value) (n : Nat) (xs : List Value) (hown : RowW w base e size v n xs)
    (a : Addr) (m c : Nat) (news : List Value) (hl : news.length = m * size) (hnews : ∀ j u, news[j]? = some u → w.cell? (a.add j) = some u) (h1 : ∀ u ∈ news, u.oneCell' = true) (hn0 : ∀ n, .int .u64 n ∉ news)
    (h63 : n + m ≤ maxLen) (hbytes : (n + m) * bytes ≤ 140737488355328) (hbase : base ≤ w.heap.size) :
    ∃ v' w', (Builtin.append_ #[t, t] ty #[v, .slice (some a) m c]).run P w = .ok v' w' ∧ RowW w' base e size v' (n + m) (xs ++ news) ∧ w.grownBy w' v.ownBlock := by
  subst hsize
  subst hby
  obtain ⟨hown, hw⟩ := hown
  have hsmall : n + m ≤ 9223372036854775807 := by simp only [maxLen] at h63; omega
  have hlen : (xs ++ news).length = (n + m) * i.size := by rw [List.length_append, hown.1, hl, Nat.add_mul]
  have hx0 : ∀ q, .int .u64 q ∉ xs := by
    intro q hq
    rcases hown.2 with ⟨rfl, rfl⟩ | ⟨g, cap, cur, rfl, hbg, hg, hnc, hcm, hcs, htake⟩
    · have hx : xs = [] := List.eq_nil_of_length_eq_zero (by simpa using hown.1)
      rw [hx] at hq; cases hq
    · obtain ⟨j, hj, hjq⟩ := List.mem_iff_getElem.1 hq
      have hc := hown.cells (g := g) rfl j (.int .u64 q) (by rw [List.getElem?_eq_getElem hj, hjq])
      rw [Go.WideShapes.add_plain] at hc
      exact hw g rfl _ _ hc
  have grown : ∀ (old : Nat), old < n + m → ∀ (row : Option Nat),
      RowW (w.drew.alloc (.cells (xs.toArray ++ news.toArray ++ Builtin.zeroCells z.cells (grownCap w (n + m) old e - (n + m))) e)) base e i.size
        (.slice (some ⟨w.heap.size, 0, none⟩) (n + m) (grownCap w (n + m) old e)) (n + m) (xs ++ news) ∧
      w.grownBy (w.drew.alloc (.cells (xs.toArray ++ news.toArray ++ Builtin.zeroCells z.cells (grownCap w (n + m) old e - (n + m))) e)) row := by
    intro old ho row
    have hge := grownCap_ge w (n + m) old e
    have hcm : grownCap w (n + m) old e ≤ maxLen := grownCap_le_maxLen w (n + m) old e h63
    refine ⟨⟨⟨hlen, .inr ⟨w.heap.size, _, _, rfl, hbase, heap_alloc_new w.drew _, hge, hcm, ?_, ?_⟩⟩, ?_⟩, ⟨rfl, rfl, rfl, by simp, fun k hk _ => heap_alloc_old w.drew _ hk⟩⟩
    · simp only [Array.size_append, List.size_toArray, size_zeroCells, hzs, hown.1, hl, ← Nat.add_mul]
      congr 1
      omega
    · simp only [Array.toList_append, List.append_assoc]
      rw [← List.append_assoc, ← hlen]
      exact List.take_left
    · intro g hg
      obtain rfl : w.heap.size = g := by simpa [Value.ownBlock] using hg
      refine NoWd.cells (heap_alloc_new w.drew _) (fun q hq => ?_)
      rcases Array.mem_append.1 hq with hq | hq
      · rcases Array.mem_append.1 hq with hq | hq
        · exact hx0 q (by simpa using hq)
        · exact hn0 q (by simpa using hq)
      · exact hz0 q (zeroCells_mem _ _ _ hq)
  rcases hown.2 with ⟨rfl, rfl⟩ | ⟨g, cap, cur, rfl, hbg, hg, hnc, hcm, hcs, htake⟩
  · have hx : xs = [] := List.eq_nil_of_length_eq_zero (by simpa using hown.1)
    subst hx
    by_cases hm : m = 0
    · subst hm
      have hn : news = [] := List.eq_nil_of_length_eq_zero (by simpa using hl)
      subst hn
      refine ⟨.slice none 0 0, w, ?_, RowW.nil w base e i.size, ⟨rfl, rfl, rfl, Nat.le_refl _, fun _ _ _ => rfl⟩⟩
      simp [Builtin.append_, run_underlying ht, sizeOf, typeInfo, hi, Builtin.lenOf, Builtin.firstCells, loadCells, loadCellsFrom]
    · have hr := run_append_nil (P := P) w t ty e i z ht hi hz a m c news hl hnews (by omega) (by omega) (by have hb := hbytes; simp only [Nat.zero_add] at hb; omega)
      have hgr := grown 0 (by omega) (Value.ownBlock (.slice none 0 0))
      simp only [Nat.zero_add, List.nil_append, Array.empty_append] at hgr ⊢
      exact ⟨_, _, hr, hgr.1, hgr.2⟩
  · by_cases hroom : n + m ≤ cap
    · have hfit : n * i.size + news.length ≤ cur.size := by rw [hl, hcs, ← Nat.add_mul]; exact Nat.mul_le_mul_right _ hroom
      have hr := run_append_room (P := P) w t ty e i ht hi g n cap cur hg a m c news hl hnews h1 hroom hfit
      refine ⟨_, _, hr, ⟨⟨hlen, .inr ⟨g, cap, _, rfl, hbg, setRow_heap w g cur _ e _ hg, hroom, hcm, ?_, ?_⟩⟩, ?_⟩, ⟨rfl, rfl, rfl, by simp, fun k _ hk => setRow_other w g k _ (fun e => hk (by simp [Value.ownBlock, e]))⟩⟩
      · simp only [List.size_toArray, List.length_append, List.length_take, List.length_drop, Array.length_toList]
        omega
      · rw [htake, ← hlen]
        exact List.take_left
      · intro g' hg'
        obtain rfl : g = g' := by simpa [Value.ownBlock] using hg'
        have hcur : ∀ q, .int .u64 q ∉ cur.toList := by
          intro q hq
          obtain ⟨j, hj, hjq⟩ := List.mem_iff_getElem.1 hq
          refine hw g rfl j q ?_
          rw [cell_of_row w g j cur e (0, 0) hg]
          simp at hj hjq
          rw [Array.getElem?_eq_getElem hj, hjq]
        refine NoWd.cells (setRow_heap w g cur _ e _ hg) (fun q hq => ?_)
        simp only [List.mem_toArray, List.mem_append] at hq
        rcases hq with hq | hq
        · rcases hq with hq | hq
          · exact hcur q (List.mem_of_mem_take hq)
          · exact hn0 q hq
        · exact hcur q (List.mem_of_mem_drop hq)
    · have holds : ∀ j u, xs[j]? = some u → w.cell? ((⟨g, 0, none⟩ : Addr).add j) = some u := hown.cells (g := g) rfl
      have hr := run_append_grow (P := P) w t ty e i z ht hi hz ⟨g, 0, none⟩ n cap xs hown.1 holds a m c news hl hnews (by omega) (by omega) (growslice_fits (by omega) hbytes)
      have hgr := grown cap (by omega) (Value.ownBlock (.slice (some ⟨g, 0, none⟩) n cap))
      exact ⟨_, _, hr, hgr.1, hgr.2⟩
theorem wpList_append_w {P : Program} {w : World} {ops : Array Oper} {rest : List Oper} {o : Oper} {a : Act} {Q : Exit → Act → World → Prop} (hgd : o.guard = none) (s x : Operand) (t : TypeId)
    (ho : o.op = .call { callee := .builtin .append, args := #[s, x], argTypes := #[t, t] })
    (base : Nat) (e : TypeId) (i : TypeInfo) (z : Value) (size bytes : Nat) (ht : P.underlying t = some (.slice e)) (hi : P.info? e = some i) (hz : i.zero = some z)
    (hsize : i.size = size) (hby : i.bytes = bytes) (hzs : z.cells.size = size) (hsz : 0 < size) (hz0 : ∀ n, .int .u64 n ∉ z.cells)
    (v : Value) (n : Nat) (xs : List Value) (hs : a.eval s = v) (hown : RowW w base e size v n xs)
    (ad : Addr) (m c : Nat) (news : List Value) (hx : a.eval x = .slice (some ad) m c) (hl : news.length = m * size) (hnews : ∀ j u, news[j]? = some u → w.cell? (ad.add j) = some u) (h1 : ∀ u ∈ news, u.oneCell' = true) (hn0 : ∀ n, .int .u64 n ∉ news)
    (h63 : n + m ≤ maxLen) (hbytes : (n + m) * bytes ≤ 140737488355328) (hbase : base ≤ w.heap.size)
    (h : ∀ v' w', RowW w' base e size v' (n + m) (xs ++ news) → w.grownBy w' v.ownBlock → wpList P ops Q rest (a.put o.dst v') w') : wpList P ops Q (o :: rest) a w := by
  refine wpList_plain hgd fun K' hK' => ?_
  obtain ⟨v', w', hr, h2, h3⟩ := run_append_w (P := P) base t o.type e i z size bytes ht hi hz hsize hby hzs hsz hz0 v n xs hown ad m c news hl hnews h1 hn0 h63 hbytes hbase
  unfold Oper.wp
  simp [execOp, ho, resolve, invoke, builtin, hs, hx, hr, Result.andThen]
  exact hK' _ _ (h v' w' h2 h3)
end Go.Proofs.YtlffiomlpkopbaaDoor

namespace Go.Proofs.YtlffiomlpkopbaaDoor

theorem vlen8 {vs : List Value} (h : vs.length = 8) : ∃ v0 v1 v2 v3 v4 v5 v6 v7, vs = [v0, v1, v2, v3, v4, v5, v6, v7] := by
  match vs, h with
  | [v0, v1, v2, v3, v4, v5, v6, v7], _ => exact ⟨v0, v1, v2, v3, v4, v5, v6, v7, rfl⟩
theorem vlen14 {vs : List Value} (h : vs.length = 14) : ∃ v0 v1 v2 v3 v4 v5 v6 v7 v8 v9 v10 v11 v12 v13, vs = [v0, v1, v2, v3, v4, v5, v6, v7, v8, v9, v10, v11, v12, v13] := by
  match vs, h with
  | [v0, v1, v2, v3, v4, v5, v6, v7, v8, v9, v10, v11, v12, v13], _ => exact ⟨v0, v1, v2, v3, v4, v5, v6, v7, v8, v9, v10, v11, v12, v13, rfl⟩
end Go.Proofs.YtlffiomlpkopbaaDoor

/- elenchusref16.Build. -/
namespace Go.Proofs.YtlffiomlpkopbaaDoor
open Go.RowKit Big Go.WideMaps

theorem tb_again (l : List Ap) (k : Nat) (hk : k < l.length) : (l.take k).any (fun b => decide (b.key = l[k].key)) = decide (tbFirst l l[k] ≠ k) := by
  have hle := tbFirst_le hk
  obtain ⟨h', hkey⟩ := tbFirst_key hk
  by_cases e : tbFirst l l[k] = k
  · rw [show decide (tbFirst l l[k] ≠ k) = false by simpa using e, List.any_eq_false]
    intro b hb
    obtain ⟨i, hi, rfl⟩ := List.mem_iff_getElem.1 hb
    rw [List.length_take] at hi
    rw [List.getElem_take]
    simp only [decide_eq_true_eq]
    intro hc
    have := tbFirst_min (by omega : i < l.length) hc
    omega
  · rw [show decide (tbFirst l l[k] ≠ k) = true by simpa using e, List.any_eq_true]
    exact ⟨_, List.mem_iff_getElem.2 ⟨tbFirst l l[k], by rw [List.length_take]; omega, List.getElem_take ..⟩, by simpa using hkey⟩
theorem any_snoc_take {α : Type} (f : α → Bool) (l : List α) (k : Nat) (h : k < l.length) : (l.take (k + 1)).any f = ((l.take k).any f || f l[k]) := by
  rw [List.take_succ_eq_append_getElem h, List.any_append]
  simp
/-- what the reference's Build answers: its rows' numbers are those handed in (below W0) or lie above -/
def RRBuild (W0 : World) (syms : List Sy) (l : List Ap) (w : World) (e : Ending) (w' : World) : Prop := ∃ p n c, e = .returned (.tuple #[.agg #[.slice p n c], .int .i64 (tbFault syms l)]) ∧ (tbFault syms l = 0 → TbsP (fun b => b < W0.heap.size ∨ w.heap.size < b) w' (.slice p n c) (tbTabs syms l)) ∧ (tbFault syms l ≠ 0 → p = none ∧ n = 0 ∧ c = 0) ∧ Below w.heap.size w w'

set_option maxRecDepth 100000 in
set_option maxHeartbeats 12800000 in
theorem RBuild_any (W0 : World) (vs v : Value) (syms : List Sy) (l : List Ap) (w : World) (hs0 : SysIn W0 vs syms) (h0 : ApsIn W0 v l) (hb0 : Below W0.heap.size W0 w) (hz : ∀ a ∈ l, ApSz a) (hl : l.length ≤ 1000) (hS : syms.length ≤ 100000) :
    Calls Tryd.prog 13 #[vs, v] w (RRBuild W0 syms l w) := by
  have h := h0.below hb0
  have hs := hs0.below hb0
  obtain ⟨W1, hW⟩ : ∃ W1, W1 = w.alloc (.cells #[.slice none 0 0] 37) := ⟨_, rfl⟩
  have b0 : Below w.heap.size w W1 := by rw [hW]; exact below1 w _
  have e0 : W1.heap[w.heap.size]? = some (.cells #[.slice none 0 0] 37 (0, 0)) := by rw [hW]; exact heap_alloc_new w _
  have hz1 : w.heap.size < W1.heap.size := (Array.getElem?_eq_some_iff.1 e0).1
  have HB0 := hid b0; have E0 := hid e0
  have hs' := hs; have h' := h
  obtain ⟨ps, cs, rfl, -, -, -, -⟩ := hs'
  obtain ⟨p, cap, rfl, i1, i2, -, -⟩ := h'
  unfold maxLen at i2
  have HC3 := hid (fun (w' : World) (hb : Below W1.heap.size W1 w') => RRClash_any (.slice p l.length cap) l w' (h.below (tbGo hb b0)) hz hl)
  have HF : Hid (tbFault syms l = if l.any (tbNoSym syms) then 1 else if l.any (tbBadCount syms) then 9 else if (tbClash l).2.2 then 6 else 0) := hid rfl
  obtain ⟨R, hR⟩ : ∃ R, R = tbFault syms l := ⟨_, rfl⟩
  have HR := hid hR
  rw [← hR] at HF
  have HHat := hid (fun (hp : 0 < l.length) => h.at hp)
  have HSat := hid (fun (hp : 0 < syms.length) => hs.at hp)
  have HZ := hid hz
  have HN1 := hid (fun (k : Nat) (hk : k < l.length) => any_take_next (tbNoSym syms) l k hk)
  have HX1 := hid (fun (k : Nat) (hk : k < l.length) => any_hit (tbNoSym syms) l k hk)
  have HN2 := hid (fun (k : Nat) (hk : k < l.length) => any_take_next (tbBadCount syms) l k hk)
  have HX2 := hid (fun (k : Nat) (hk : k < l.length) => any_hit (tbBadCount syms) l k hk)
  have H01 : Hid ((l.take 0).any (tbNoSym syms) = false) := hid (by simp)
  have H02 : Hid ((l.take 0).any (tbBadCount syms) = false) := hid (by simp)
  have HA1 : Hid ((l.take l.length).any (tbNoSym syms) = l.any (tbNoSym syms)) := hid (by rw [List.take_length])
  have HA2 : Hid ((l.take l.length).any (tbBadCount syms) = l.any (tbBadCount syms)) := hid (by rw [List.take_length])
  have HNo : Hid (∀ a, tbNoSym syms a = (decide (a.sym < 0) || decide ((syms.length : Int) ≤ a.sym))) := hid (fun _ => rfl)
  have HBad : Hid (∀ a, tbBadCount syms a = decide ((a.args.length : Int) ≠ (syms[a.sym.toNat]?.getD ⟨[], 0, 0⟩).arity)) := hid (fun _ => rfl)
  have HAll := hid (fun (hn : l.any (tbNoSym syms) = false) (k : Nat) (hk : k < l.length) => List.any_eq_false.1 hn l[k] (List.getElem_mem hk))
  have hmk := fun w => make_tabs syms.length hS w
  obtain ⟨L, hL⟩ : ∃ L, L = l.length := ⟨_, rfl⟩
  have HL := hid hL
  obtain ⟨S, hSe⟩ : ∃ S, S = syms.length := ⟨_, rfl⟩
  have HSe := hid hSe
  have Hin0 := hid h0; have Hbe0 := hid hb0
  have HRB : Hid (RRBuild W0 syms l w = fun e w' => ∃ p n c, e = .returned (.tuple #[.agg #[.slice p n c], .int .i64 R]) ∧ (R = 0 → TbsP (fun b => b < W0.heap.size ∨ w.heap.size < b) w' (.slice p n c) (tbTabs syms l)) ∧ (R ≠ 0 → p = none ∧ n = 0 ∧ c = 0) ∧ Below w.heap.size w w') := hid (by rw [hR]; rfl)
  rw [HRB.out]
  rw [← hL] at i1 hl HC3 ⊢
  rw [← hSe] at hS hmk HNo ⊢
  obtain ⟨c1, hc1⟩ : ∃ c, c = tbClash l := ⟨_, rfl⟩
  have HCl := hid hc1
  rw [← hc1] at HC3 HF
  obtain ⟨c1, c2, c3⟩ := c1
  dsimp only [RClash] at HC3 HF
  clear hs h h0 hs0 hb0 hz b0 e0 hR hL hSe HRB hc1
  go_enter Tryd.func13, Tryd.ntmps13
  go_upto_region 1 with fail
  rw [← hW]
  clear hW
  go_wp2_with fail
  go_loopw [22] (fun i wr => ∃ k : Nat, k ≤ L ∧ i = .int .i64 (k : Nat) ∧ Hid ((l.take k).any (tbNoSym syms) = false) ∧ Hid (Below W1.heap.size W1 wr)) (fun i _ => L - (intOf i).toNat)
  case atStart => exact ⟨0, Nat.zero_le _, rfl, H01, hid (Below.refl _ _)⟩
  case round =>
    obtain ⟨k, hk, rfl, HT, HB⟩ := hrel
    by_cases hlt : k < L
    · have hka : k < l.length := by rw [← HL.out]; exact hlt
      have hlt' : (k : Int) < (L : Int) := by omega
      obtain ⟨b, o, rfl, hb, hc⟩ := HHat.out (by omega)
      obtain ⟨pa, ca, n1, q1, m1, d1, x0, x1, x2, x3, -, -, -, -⟩ := hc k hka
      have hB1 := tbGo HB.out HB0.out
      have x0 := (hB1.cell (p := ⟨b, o + k * 4, none⟩) hb).trans x0
      have x1 := (hB1.cell (p := ⟨b, o + k * 4 + 1, none⟩) hb).trans x1
      have x2 := (hB1.cell (p := ⟨b, o + k * 4 + 2, none⟩) hb).trans x2
      have x3 := (hB1.cell (p := ⟨b, o + k * 4 + 3, none⟩) hb).trans x3
      have HNk := hid (HN1.out k hka HT.out)
      have HXk := hid (HX1.out k hka)
      have hno := HNo.out l[k]
      generalize tbNoSym syms l[k] = r at *
      generalize l[k].sym = sk at *
      generalize l[k].args.length = ak at *
      obtain ⟨W7, hW7⟩ : ∃ W7, W7 = wr.alloc (.cells #[.int .i64 sk, .slice pa ak ca, .bool n1, .slice q1 m1 d1] 34) := ⟨_, rfl⟩
      have b7 : Below wr.heap.size wr W7 := by rw [hW7]; exact below1 wr _
      have e7 : W7.heap[wr.heap.size]? = some (.cells #[.int .i64 sk, .slice pa ak ca, .bool n1, .slice q1 m1 d1] 34 (0, 0)) := by rw [hW7]; exact heap_alloc_new wr _
      obtain ⟨y0, -, -, -⟩ := cells4 e7
      have HB7 := hid (tbGo b7 HB.out)
      clear hc hB1 b7 e7
      go_upto_region 4 with fail
      rw [← hW7]
      clear hW7 x0 x1 x2 x3
      have fin1 : r = true → R = 1 := fun h => by rw [HF.out, HXk.out h]; rfl
      by_cases g1 : sk < 0
      · have hd : decide (sk < 0) = true := by simpa using g1
        obtain rfl : R = 1 := fin1 (by rw [hno, hd]; rfl)
        clear fin1 hno g1
        have e27 := (HB7.out.block w.heap.size hz1).trans E0.out
        have x0 : W7.cell? ⟨w.heap.size, 0, none⟩ = some (.slice none 0 0) := by rw [cell_of_row W7 _ 0 _ _ (0, 0) e27]; rfl
        have fz := frozen_of_row W7 w.heap.size 0 _ _ e27
        have hbs := heap_setCell_same W7 w.heap.size 0 _ _ (.slice none 0 0) e27
        have y0 : (W7.setCell ⟨w.heap.size, 0, none⟩ (.slice none 0 0)).cell? ⟨w.heap.size, 0, none⟩ = some (.slice none 0 0) := by rw [cell_of_row _ w.heap.size 0 _ _ (0, 0) hbs]; rfl
        have HBf := hid ((tbGo HB7.out HB0.out).setCell (p := ⟨w.heap.size, 0, none⟩) (Nat.le_refl _) (.slice none 0 0))
        clear e27 hbs
        go_wp2
        exact bodyPost_ret (v := .tuple #[.agg #[.slice none 0 0], .int .i64 1]) (by simp [results, Tryd.results13, go_sem, y0]) rfl (by first | exact ⟨none, 0, 0, rfl, fun h => absurd h (by decide), fun _ => ⟨rfl, rfl, rfl⟩, HBf.out⟩ | exact ⟨none, 0, 0, rfl, ⟨rfl, rfl, rfl⟩, HBf.out⟩)
      · have hd : decide (sk < 0) = false := by simpa using g1
        by_cases g2 : (S : Int) ≤ sk
        · have hd2 : decide ((S : Int) ≤ sk) = true := by simpa using g2
          obtain rfl : R = 1 := fin1 (by rw [hno, hd, hd2]; rfl)
          clear fin1 hno g1 g2
          have e27 := (HB7.out.block w.heap.size hz1).trans E0.out
          have x0 : W7.cell? ⟨w.heap.size, 0, none⟩ = some (.slice none 0 0) := by rw [cell_of_row W7 _ 0 _ _ (0, 0) e27]; rfl
          have fz := frozen_of_row W7 w.heap.size 0 _ _ e27
          have hbs := heap_setCell_same W7 w.heap.size 0 _ _ (.slice none 0 0) e27
          have y0 : (W7.setCell ⟨w.heap.size, 0, none⟩ (.slice none 0 0)).cell? ⟨w.heap.size, 0, none⟩ = some (.slice none 0 0) := by rw [cell_of_row _ w.heap.size 0 _ _ (0, 0) hbs]; rfl
          have HBf := hid ((tbGo HB7.out HB0.out).setCell (p := ⟨w.heap.size, 0, none⟩) (Nat.le_refl _) (.slice none 0 0))
          clear e27 hbs
          go_wp2
          exact bodyPost_ret (v := .tuple #[.agg #[.slice none 0 0], .int .i64 1]) (by simp [results, Tryd.results13, go_sem, y0]) rfl (by first | exact ⟨none, 0, 0, rfl, fun h => absurd h (by decide), fun _ => ⟨rfl, rfl, rfl⟩, HBf.out⟩ | exact ⟨none, 0, 0, rfl, ⟨rfl, rfl, rfl⟩, HBf.out⟩)
        · have hd2 : decide ((S : Int) ≤ sk) = false := by simpa using g2
          have hr0 : r = false := by rw [hno, hd, hd2]; rfl
          have HT2 := hid (HNk.out hr0)
          clear fin1 hno hr0 g1 g2
          go_wp2_with fail
          go_roundw
          case rel => exact ⟨k + 1, by omega, by go_num, HT2, HB7⟩
          case measure => simp [intOf]; omega
    · obtain rfl : L = k := by omega
      have hf1 : l.any (tbNoSym syms) = false := by rw [← HA1.out, ← HL.out]; exact HT.out
      have HFb : Hid (R = if l.any (tbBadCount syms) then 9 else if c3 then 6 else 0) := hid (by rw [HF.out, hf1]; rfl)
      have HAl := hid (HAll.out hf1)
      clear hf1 HT HF hk hlt HN1 HX1 H01 HA1 HAll
      obtain ⟨wa, rfl⟩ : ∃ wa, wa = wr := ⟨_, rfl⟩
      go_wp2_with fail
      go_loopw [40] (fun i wr => ∃ k : Nat, k ≤ L ∧ i = .int .i64 (k : Nat) ∧ Hid ((l.take k).any (tbBadCount syms) = false) ∧ Hid (Below W1.heap.size W1 wr)) (fun i _ => L - (intOf i).toNat)
      case atStart => exact ⟨0, Nat.zero_le _, rfl, H02, HB⟩
      case round =>
        obtain ⟨k, hk, rfl, HT, HBb⟩ := hrel
        by_cases hlt : k < L
        · have hka : k < l.length := by rw [← HL.out]; exact hlt
          have hlt' : (k : Int) < (L : Int) := by omega
          obtain ⟨b, o, rfl, hb, hc⟩ := HHat.out (by omega)
          obtain ⟨pa, ca, n1, q1, m1, d1, x0, x1, x2, x3, -, -, -, -⟩ := hc k hka
          have hB1 := tbGo HBb.out HB0.out
          have x0 := (hB1.cell (p := ⟨b, o + k * 4, none⟩) hb).trans x0
          have x1 := (hB1.cell (p := ⟨b, o + k * 4 + 1, none⟩) hb).trans x1
          have x2 := (hB1.cell (p := ⟨b, o + k * 4 + 2, none⟩) hb).trans x2
          have x3 := (hB1.cell (p := ⟨b, o + k * 4 + 3, none⟩) hb).trans x3
          have HNk := hid (HN2.out k hka HT.out)
          have HXk := hid (HX2.out k hka)
          have hal := HAl.out k hka
          rw [HNo.out] at hal
          simp only [Bool.or_eq_true, decide_eq_true_eq, not_or, Int.not_le, Int.not_lt] at hal
          obtain ⟨sy, hsy⟩ : ∃ sy : Nat, l[k].sym = (sy : Int) := ⟨l[k].sym.toNat, by omega⟩
          have hsS : sy < S := by omega
          have hsl : sy < syms.length := by rw [← HSe.out]; exact hsS
          have hsS' : (sy : Int) < (S : Int) := by omega
          obtain ⟨bs, os, rfl, hbs, hcs⟩ := HSat.out (by omega)
          obtain ⟨-, k1, -⟩ := hcs sy hsl
          have hbad : tbBadCount syms l[k] = decide ((l[k].args.length : Int) ≠ syms[sy].arity) := by rw [HBad.out, hsy]; simp [hsl]
          rw [hsy] at x0
          generalize syms[sy].arity = ar at *
          generalize tbBadCount syms l[k] = r at *
          generalize l[k].args.length = ak at *
          obtain ⟨W7, hW7⟩ : ∃ W7, W7 = wr.alloc (.cells #[.int .i64 (sy : Nat), .slice pa ak ca, .bool n1, .slice q1 m1 d1] 34) := ⟨_, rfl⟩
          have b7 : Below wr.heap.size wr W7 := by rw [hW7]; exact below1 wr _
          have e7 : W7.heap[wr.heap.size]? = some (.cells #[.int .i64 (sy : Nat), .slice pa ak ca, .bool n1, .slice q1 m1 d1] 34 (0, 0)) := by rw [hW7]; exact heap_alloc_new wr _
          have HSS : Hid (∀ w', Below W7.heap.size W7 w' → w'.cell? ⟨wr.heap.size, 0, none⟩ = some (.int .i64 (sy : Nat)) ∧ w'.cell? ⟨wr.heap.size, 1, none⟩ = some (.slice pa ak ca) ∧ w'.cell? ⟨bs, os + sy * 3 + 1, none⟩ = some (.int .i64 ar) ∧ Below W7.heap.size W7 w') := hid (fun w' hb => by
            have f0 := (hb.block wr.heap.size (Array.getElem?_eq_some_iff.1 e7).1).trans e7
            have f1 := cells4 f0
            have hb2 := tbGo hb (tbGo b7 hB1)
            exact ⟨f1.1, f1.2.1, (hb2.cell (p := ⟨bs, os + sy * 3 + 1, none⟩) hbs).trans k1, hb⟩)
          have HB7 := hid (tbGo b7 HBb.out)
          have hne : ((ak : Int) != ar) = r := by rw [hbad, Bool.eq_iff_iff]; simp
          clear hc hcs hB1 b7 e7 hal k1 hbad hsy hsl
          go_upto_region 10 with fail
          rw [← hW7]
          clear hW7 x0 x1 x2 x3
          go_region_held3 (fun w' => w'.cell? ⟨wr.heap.size, 0, none⟩ = some (.int .i64 (sy : Nat)) ∧ w'.cell? ⟨wr.heap.size, 1, none⟩ = some (.slice pa ak ca) ∧ w'.cell? ⟨bs, os + sy * 3 + 1, none⟩ = some (.int .i64 ar) ∧ Below W7.heap.size W7 w')
            (first | exact HSS.out _ (Below.drew (Below.refl _ _)) | (go_split_ands; refine ⟨?_, ?_, ?_, ?_⟩ <;> assumption))
            (fail)
          cases r with
          | true =>
            obtain rfl : R = 9 := by rw [HFb.out, HXk.out rfl]; rfl
            have HB8' := hid (show Below W1.heap.size W1 _ from Below.drew HB7.out)
            generalize W7.drew = W8 at *
            have HB8 : Hid (Below W1.heap.size W1 W8) := HB8'
            have e27 := (HB8.out.block w.heap.size hz1).trans E0.out
            have x0 : W8.cell? ⟨w.heap.size, 0, none⟩ = some (.slice none 0 0) := by rw [cell_of_row W8 _ 0 _ _ (0, 0) e27]; rfl
            have fz := frozen_of_row W8 w.heap.size 0 _ _ e27
            have hbs := heap_setCell_same W8 w.heap.size 0 _ _ (.slice none 0 0) e27
            have y0 : (W8.setCell ⟨w.heap.size, 0, none⟩ (.slice none 0 0)).cell? ⟨w.heap.size, 0, none⟩ = some (.slice none 0 0) := by rw [cell_of_row _ w.heap.size 0 _ _ (0, 0) hbs]; rfl
            have HBf := hid ((tbGo HB8.out HB0.out).setCell (p := ⟨w.heap.size, 0, none⟩) (Nat.le_refl _) (.slice none 0 0))
            clear e27 hbs
            go_wp2
            exact bodyPost_ret (v := .tuple #[.agg #[.slice none 0 0], .int .i64 9]) (by simp [results, Tryd.results13, go_sem, y0]) rfl (by first | exact ⟨none, 0, 0, rfl, fun h => absurd h (by decide), fun _ => ⟨rfl, rfl, rfl⟩, HBf.out⟩ | exact ⟨none, 0, 0, rfl, ⟨rfl, rfl, rfl⟩, HBf.out⟩)
          | false =>
            have HT2 := hid (HNk.out rfl)
            go_wp2_with fail
            go_roundw
            case rel => exact ⟨k + 1, by omega, by go_num, HT2, hid (Below.drew HB7.out)⟩
            case measure => simp [intOf]; omega
        · obtain rfl : L = k := by omega
          have hf2 : l.any (tbBadCount syms) = false := by rw [← HA2.out, ← HL.out]; exact HT.out
          have HFc : Hid (R = if c3 then 6 else 0) := hid (by rw [HFb.out, hf2]; rfl)
          have HC3b := hid (HC3.out wr HBb.out)
          clear hf2 HT HFb hk hlt HN2 HX2 H02 HA2 HC3
          go_wp2_with fail
          refine HC3b.out.mono ?_
          rintro e w2 ⟨rfl, b2⟩
          have HB2 := hid (tbGo b2 HBb.out)
          clear b2 HC3b
          cases c3 with
          | true =>
            obtain rfl : R = 6 := by rw [HFc.out]; rfl
            have e27 := (HB2.out.block w.heap.size hz1).trans E0.out
            have x0 : w2.cell? ⟨w.heap.size, 0, none⟩ = some (.slice none 0 0) := by rw [cell_of_row w2 _ 0 _ _ (0, 0) e27]; rfl
            have fz := frozen_of_row w2 w.heap.size 0 _ _ e27
            have hbs := heap_setCell_same w2 w.heap.size 0 _ _ (.slice none 0 0) e27
            have y0 : (w2.setCell ⟨w.heap.size, 0, none⟩ (.slice none 0 0)).cell? ⟨w.heap.size, 0, none⟩ = some (.slice none 0 0) := by rw [cell_of_row _ w.heap.size 0 _ _ (0, 0) hbs]; rfl
            have HBf := hid ((tbGo HB2.out HB0.out).setCell (p := ⟨w.heap.size, 0, none⟩) (Nat.le_refl _) (.slice none 0 0))
            clear e27 hbs
            go_wp2
            exact bodyPost_ret (v := .tuple #[.agg #[.slice none 0 0], .int .i64 6]) (by simp [results, Tryd.results13, go_sem, y0]) rfl (by first | exact ⟨none, 0, 0, rfl, fun h => absurd h (by decide), fun _ => ⟨rfl, rfl, rfl⟩, HBf.out⟩ | exact ⟨none, 0, 0, rfl, ⟨rfl, rfl, rfl⟩, HBf.out⟩)
          | false =>
            obtain rfl : R = 0 := by rw [HFc.out]; rfl
            have hfz := tbFault_zero HR.out.symm
            have HOk := hid hfz.2.2; have HSy := hid hfz.1
            clear hfz
            have hT0 := TbSt.made w2 w2.heap.size S (Nat.le_refl _)
            obtain ⟨W5, hW5⟩ : ∃ W5, W5 = (w2.alloc (.cells (madeCells #[.slice none 0 0, .bool false, .slice none 0 0] (S * 3)) 49)).alloc (.cells #[.slice (some ⟨w2.heap.size, 0, none⟩) S S] 37) := ⟨_, rfl⟩
            have b5 : Below w2.heap.size w2 W5 := by rw [hW5]; exact (below1 _ _).alloc (by simp) _
            have hT5 : TbSt W5 w2.heap.size w2.heap.size S (fun _ => False) (fun _ => ⟨[], 0⟩) (madeCells #[.slice none 0 0, .bool false, .slice none 0 0] (S * 3)) (fun _ => .slice none 0 0) := by
              rw [hW5]; exact hT0.below (below1 _ _)
            have e5 : W5.heap[w2.heap.size + 1]? = some (.cells #[.slice (some ⟨w2.heap.size, 0, none⟩) S S] 37 (0, 0)) := by
              rw [hW5]
              have := heap_alloc_new (w2.alloc (.cells (madeCells #[.slice none 0 0, .bool false, .slice none 0 0] (S * 3)) 49)) (.cells #[.slice (some ⟨w2.heap.size, 0, none⟩) S S] 37)
              rwa [size_alloc] at this
            have hz5 : w2.heap.size + 1 < W5.heap.size := (Array.getElem?_eq_some_iff.1 e5).1
            have hz02 : w.heap.size < w2.heap.size := Nat.lt_of_lt_of_le hz1 HB2.out.size
            have hz0 : W0.heap.size ≤ w.heap.size := Hbe0.out.size
            have HB5 := hid (tbGo b5 (tbGo HB2.out HB0.out))
            have E25 := hid ((b5.block w.heap.size hz02).trans ((HB2.out.block w.heap.size hz1).trans E0.out))
            have E5 := hid e5
            have HT5 : Hid (TbSt W5 w2.heap.size w2.heap.size S (fun b => b < W0.heap.size) (fun t : Nat => tbTab (l.take 0) (t : Nat)) (madeCells #[.slice none 0 0, .bool false, .slice none 0 0] (S * 3)) (fun _ => .slice none 0 0)) := hid (by
              have e : (fun t : Nat => tbTab (l.take 0) (t : Nat)) = fun _ => (⟨[], 0⟩ : Tb5) := by funext t; rw [List.take_zero]; rfl
              rw [e]
              exact hT5.more (fun _ h => h.elim) (fun _ _ _ h => by cases h) (by omega) (fun b hb => by omega))
            have HFA := hid (fun (k : Nat) (hk : k < l.length) => tb_again l k hk)
            have HPt := hid (fun (k s : Nat) (hk : k < l.length) (hs : l[k].sym = (s : Int)) (hf : tbFirst l l[k] = k) => tb_step_put l k s hk hs hf)
            have HPo := hid (fun (k : Nat) (hk : k < l.length) (hf : tbFirst l l[k] ≠ k) => tb_step_old l k hk HOk.out hf)
            have HPs := hid (fun (k : Nat) (hk : k < l.length) => tbTab_step l k hk)
            have HLen := hid (fun (k s : Nat) => tbTab_len (l.take k) (s : Int))
            have HAt0 := hid (fun (hp : 0 < l.length) => (show ApsIn W0 (.slice p l.length cap) l from Hin0.out).at hp)
            clear hT0 hT5 b5 e5
            go_upto_region 17 with fail
            rw [← hW5]
            clear hW5 hmk
            go_wp2_with fail
            go_loopw [70] (fun i wr => ∃ (k : Nat) (ct : Array Value) (V : Nat → Value), k ≤ L ∧ i = .int .i64 (k : Nat) ∧ Hid (TbSt wr w2.heap.size w2.heap.size S (fun b => b < W0.heap.size) (fun t : Nat => tbTab (l.take k) (t : Nat)) ct V) ∧ Hid (∀ t u, t < S → (V t).ownBlock = some u → W5.heap.size ≤ u) ∧ Hid (Apart (fun u => u = w2.heap.size) W5 wr)) (fun i _ => L - (intOf i).toNat)
            case atStart => exact ⟨0, _, _, Nat.zero_le _, rfl, HT5, hid (fun t u _ h => by cases h), hid (Apart.refl _ _)⟩
            case round =>
              obtain ⟨k, ct, V, hk, rfl, HT, HVb, HAp⟩ := hrel
              by_cases hlt : k < L
              · have hka : k < l.length := by rw [← HL.out]; exact hlt
                have hlt' : (k : Int) < (L : Int) := by omega
                obtain ⟨b, o, rfl, hb, hc⟩ := HAt0.out (by omega)
                obtain ⟨pa, ca, n1, q1, m1, d1, x0, x1, x2, x3, hq, hnm, hrw, -⟩ := hc k hka
                have hbw : Below w.heap.size w wr := HB5.out.trans (HAp.out.below (by omega) (fun u e => by omega))
                have hbw0 : Below W0.heap.size W0 wr := tbGo hbw Hbe0.out
                have x0 := (hbw0.cell (p := ⟨b, o + k * 4, none⟩) hb).trans x0
                have x1 := (hbw0.cell (p := ⟨b, o + k * 4 + 1, none⟩) hb).trans x1
                have x2 := (hbw0.cell (p := ⟨b, o + k * 4 + 2, none⟩) hb).trans x2
                have x3 := (hbw0.cell (p := ⟨b, o + k * 4 + 3, none⟩) hb).trans x3
                have e7 := (HAp.out.block (w2.heap.size + 1) (by omega) (by omega)).trans E5.out
                have xm : wr.cell? ⟨w2.heap.size + 1, 0, none⟩ = some (.slice (some ⟨w2.heap.size, 0, none⟩) S S) := by rw [cell_of_row wr _ 0 _ _ (0, 0) e7]; rfl
                have hsy := HSy.out _ (List.getElem_mem hka)
                obtain ⟨s, hs0⟩ : ∃ s : Nat, l[k].sym = (s : Int) := ⟨l[k].sym.toNat, by omega⟩
                have hsS : s < S := by have := HSe.out; omega
                have hsS' : (s : Int) < (S : Int) := by omega
                rw [hs0] at x0
                obtain ⟨na, hna⟩ : ∃ na, na = l[k].args.length := ⟨_, rfl⟩
                rw [← hna] at x1
                have Hna := hid hna
                obtain ⟨W7, hW7⟩ : ∃ W7, W7 = wr.alloc (.cells #[.int .i64 (s : Nat), .slice pa na ca, .bool n1, .slice q1 m1 d1] 34) := ⟨_, rfl⟩
                have b7 : Below wr.heap.size wr W7 := by rw [hW7]; exact below1 wr _
                have hz7 : wr.heap.size < W7.heap.size := by rw [hW7, size_alloc]; omega
                have e7a : W7.heap[wr.heap.size]? = some (.cells #[.int .i64 (s : Nat), .slice pa na ca, .bool n1, .slice q1 m1 d1] 34 (0, 0)) := by rw [hW7]; exact heap_alloc_new wr _
                obtain ⟨y0, y1, y2, y3⟩ := cells4 e7a
                have xm7 := (b7.cell (p := ⟨w2.heap.size + 1, 0, none⟩) (by show w2.heap.size + 1 < _; have := HAp.out.size; omega)).trans xm
                have HA7 := hid (HAp.out.go (Apart.of_below b7))
                have HT7 := hid (HT.out.below b7)
                have HB7 := hid (tbGo b7 hbw0)
                have HV7 := hid (fun (t u : Nat) (ht : t < S) (hu : (V t).ownBlock = some u) => show u < wr.heap.size by
                  obtain ⟨_, _, _, _, _, _, _, _, h5⟩ := HT.out.tabs t ht
                  exact (h5.base u hu).2.1)
                have E7a := hid e7a; have HQ := hid hq; have HNm := hid hnm; have HRw := hid hrw
                have Hs0 := hid hs0; have Hc := hid hc; have Hbb := hid hb
                have hwr5 := HAp.out.size
                clear hc hq hnm hrw hbw hbw0 e7 e7a hna b7 HT HAp hsy
                go_upto_region 20 with fail
                rw [← hW7]
                clear hW7 x0 x1 x2 x3 xm
                go_upto_region 22 with fail
                clear xm7 y1 y2 y3
                go_wp2_with fail
                obtain ⟨wo, rfl⟩ : ∃ wo, wo = wr := ⟨_, rfl⟩
                go_loopw [84, 17] (fun i ag wr => ∃ (j : Nat) (g : Bool), j ≤ k ∧ i = .int .i64 (j : Nat) ∧ ag = .bool g ∧ Hid (g = (l.take j).any (fun b => decide (b.key = (l[k]'hka).key))) ∧ Hid (Below W7.heap.size W7 wr)) (fun i _ _ => k - (intOf i).toNat)
                case atStart => exact ⟨0, false, Nat.zero_le _, rfl, rfl, hid (by simp), hid (Below.refl _ _)⟩
                case round =>
                  obtain ⟨j, g, hj, rfl, rfl, HI, HBi⟩ := hrel
                  by_cases hjk : j < k
                  · have hja : j < l.length := by omega
                    have hjk' : (j : Int) < (k : Int) := by omega
                    obtain ⟨pb, cb, n2, q2, m2, d2, z0, z1, z2, z3, hq2, -, -, -⟩ := Hc.out j hja
                    have hbj : Below W0.heap.size W0 wr := tbGo HBi.out HB7.out
                    have z0 := (hbj.cell (p := ⟨b, o + j * 4, none⟩) Hbb.out).trans z0
                    have z1 := (hbj.cell (p := ⟨b, o + j * 4 + 1, none⟩) Hbb.out).trans z1
                    have z2 := (hbj.cell (p := ⟨b, o + j * 4 + 2, none⟩) Hbb.out).trans z2
                    have z3 := (hbj.cell (p := ⟨b, o + j * 4 + 3, none⟩) Hbb.out).trans z3
                    have Hnx := hid (any_snoc_take (fun b => decide (b.key = (l[k]'hka).key)) l j hja)
                    have s1 := HZ.out _ (List.getElem_mem hka)
                    have s2 := HZ.out _ (List.getElem_mem hja)
                    have HSm0 := hid (fun W' (hw : Below W0.heap.size W0 W') => RSame_any (.agg #[.int .i64 l[k].sym, .slice pa l[k].args.length ca, .bool n1, .slice q1 m1 d1]) (.agg #[.int .i64 l[j].sym, .slice pb l[j].args.length cb, .bool n2, .slice q2 m2 d2]) l[k] l[j] W' ⟨_, rfl, HQ.out.below hw⟩ ⟨_, rfl, hq2.below hw⟩ (fun z hz => Nat.le_trans (s1.2.2 z hz) (by decide)) (fun z hz => Nat.le_trans (s2.2.2 z hz) (by decide)))
                    rw [← Hna.out, Hs0.out] at HSm0
                    obtain ⟨Q, hQ⟩ : ∃ Q : Bool, Q = decide (l[k].key = l[j].key) := ⟨_, rfl⟩
                    have Hnx2 : Hid ((l.take (j + 1)).any (fun b => decide (b.key = (l[k]'hka).key)) = (g || Q)) := hid (by rw [Hnx.out, HI.out, hQ]; congr 1; rw [Bool.eq_iff_iff]; simp only [decide_eq_true_eq]; exact eq_comm)
                    rw [← hQ] at HSm0
                    generalize l[j].sym = sj at *
                    generalize l[j].args.length = nj at *
                    obtain ⟨W8, hW8⟩ : ∃ W8, W8 = wr.alloc (.cells #[.int .i64 sj, .slice pb nj cb, .bool n2, .slice q2 m2 d2] 34) := ⟨_, rfl⟩
                    have b8 : Below wr.heap.size wr W8 := by rw [hW8]; exact below1 wr _
                    have e8 : W8.heap[wr.heap.size]? = some (.cells #[.int .i64 sj, .slice pb nj cb, .bool n2, .slice q2 m2 d2] 34 (0, 0)) := by rw [hW8]; exact heap_alloc_new wr _
                    obtain ⟨v0, v1, v2, v3⟩ := cells4 e8
                    have HB8 := hid (tbGo b8 HBi.out)
                    obtain ⟨u0, u1, u2, u3⟩ := cells4 ((HB8.out.block wo.heap.size hz7).trans E7a.out)
                    have HSm := hid (HSm0.out W8 (tbGo b8 hbj))
                    clear hq2 hbj Hnx s1 s2 HSm0 hQ b8 e8
                    go_upto_region 25 with fail
                    rw [← hW8]
                    clear hW8 z0 z1 z2 z3
                    cases g with
                    | true =>
                      have HI2 : Hid (true = (l.take (j + 1)).any (fun b => decide (b.key = (l[k]'hka).key))) := hid (by rw [Hnx2.out]; rfl)
                      go_wp2_with fail
                      go_roundw
                      case rel => exact ⟨j + 1, true, by omega, by go_num, rfl, HI2, HB8⟩
                      case measure => simp [intOf]; omega
                    | false =>
                      have HI2 : Hid (Q = (l.take (j + 1)).any (fun b => decide (b.key = (l[k]'hka).key))) := hid (by rw [Hnx2.out]; rfl)
                      go_wp2_with fail
                      refine HSm.out.mono ?_
                      rintro e w9 ⟨rfl, b9⟩
                      have HB9 := hid (tbGo b9 HB8.out)
                      go_wp2_with fail
                      go_roundw
                      case rel => exact ⟨j + 1, Q, by omega, by go_num, rfl, HI2, HB9⟩
                      case measure => simp [intOf]; omega
                  · obtain rfl : k = j := by omega
                    have HG : Hid (g = decide (tbFirst l (l[k]'hka) ≠ k)) := hid (HI.out.trans (HFA.out k hka))
                    have HTw := hid (HT7.out.below HBi.out)
                    have HAw := hid (HA7.out.go (Apart.of_below HBi.out))
                    have hwz := HBi.out.size
                    have E7w := hid ((HBi.out.block wo.heap.size hz7).trans E7a.out)
                    obtain ⟨u0, u1, u2, u3⟩ := cells4 E7w.out
                    have HBw := hid (tbGo HBi.out HB7.out)
                    clear HI
                    by_cases hn0 : na = 0
                    · have hd : ((na : Int) == 0) = true := by simp; omega
                      have hnil : l[k].args = [] := List.eq_nil_of_length_eq_zero (by rw [← Hna.out]; exact hn0)
                      have Hn0 := hid hn0
                      clear hn0
                      obtain ⟨r9, q9, m9, d9, c0, c1, c2, -, -⟩ := HTw.out.tabs s hsS
                      have hbk := HTw.out.block
                      have x1 : wr.cell? ⟨w2.heap.size, s * 3 + 1, none⟩ = some (.bool r9) := by rw [cell_of_row wr w2.heap.size _ ct _ (0, 0) hbk]; exact c1
                      have x2 : wr.cell? ⟨w2.heap.size, s * 3 + 2, none⟩ = some (.slice q9 m9 d9) := by rw [cell_of_row wr w2.heap.size _ ct _ (0, 0) hbk]; exact c2
                      have fz1 := frozen_of_row wr w2.heap.size (s * 3 + 1) ct _ hbk
                      have fz2 := frozen_of_row wr w2.heap.size (s * 3 + 2) ct _ hbk
                      have hb1 := heap_setCell_same wr w2.heap.size (s * 3 + 1) ct _ (.bool n1) hbk
                      have hb2 := heap_setCell_same _ w2.heap.size (s * 3 + 2) _ _ (.slice q1 m1 d1) hb1
                      have hap : Apart (fun u => u = w2.heap.size) wr ((wr.setCell ⟨w2.heap.size, s * 3 + 1, none⟩ (.bool n1)).setCell ⟨w2.heap.size, s * 3 + 2, none⟩ (.slice q1 m1 d1)) := (apart_set _ _ _ _).go (apart_set _ _ _ _)
                      have hraw := (HRw.out.below HBw.out).quiet hap (fun b e => e ▸ HTw.out.noWd)
                      have hT2 := HTw.out.els s hsS n1 q1 m1 d1 _ hb2 hap hraw
                      have hF : (fun t : Nat => if t = s then (⟨(tbTab (l.take k) ((s : Nat) : Int)).rows, l[k].val⟩ : Tb5) else tbTab (l.take k) (t : Nat)) = fun t : Nat => tbTab (l.take (k + 1)) (t : Nat) := by
                        funext t
                        rw [HPs.out k hka, Hs0.out]
                        by_cases e : t = s
                        · subst e; rw [if_pos rfl, if_pos rfl]; unfold tbAdd; rw [if_pos hnil]
                        · rw [if_neg e, if_neg (by omega)]
                      rw [hF] at hT2
                      have HT2 := hid hT2
                      have HA2 := hid (HAw.out.go hap)
                      clear hbk hb1 hb2 hap hraw hT2 hF hnil c0 c1 c2
                      go_wp2_with fail
                      go_roundw
                      case rel => exact ⟨k + 1, _, V, by omega, by go_num, HT2, HVb, HA2⟩
                      case measure => simp [intOf]; omega
                    · have hd : ((na : Int) == 0) = false := by simp; omega
                      have hne : l[k].args ≠ [] := fun e => hn0 (by rw [Hna.out, e]; rfl)
                      have Hne := hid hne
                      clear hn0 hne
                      cases g with
                      | true =>
                        have hf : tbFirst l l[k] ≠ k := by have := HG.out; simpa using this.symm
                        have hF := HPo.out k hka hf
                        have HT2 : Hid (TbSt wr w2.heap.size w2.heap.size S (fun b => b < W0.heap.size) (fun t : Nat => tbTab (l.take (k + 1)) (t : Nat)) ct V) := hid (by rw [← hF]; exact HTw.out)
                        clear hF hf
                        go_wp2_with fail
                        go_roundw
                        case rel => exact ⟨k + 1, ct, V, by omega, by go_num, HT2, HVb, HAw⟩
                        case measure => simp [intOf]; omega
                      | false =>
                        have hf : tbFirst l l[k] = k := by have := HG.out; simpa using this.symm
                        have HFn := hid (HPt.out k s hka Hs0.out hf)
                        clear hf
                        go_upto_region 30 with fail
                        obtain ⟨r9, q9, m9, d9, c0, -, -, -, hrw⟩ := HTw.out.tabs s hsS
                        obtain ⟨pr, cr, hVs⟩ := hrw.shape
                        obtain ⟨RL, hRL⟩ : ∃ RL, RL = (tbTab (l.take k) ((s : Nat) : Int)).rows.length := ⟨_, rfl⟩
                        have hRL2 : RL ≤ 1000 := by have := HLen.out k s; rw [hRL]; simp at this; omega
                        rw [← hRL] at hVs
                        obtain ⟨xs, hrow, hpush⟩ := hrw.push
                        rw [← hRL] at hrow hpush
                        have Hrow := hid hrow; have Hpush := hid hpush; have Hbase := hid hrw.base; have Hblk := hid HTw.out.block
                        have Hwr : Hid (w2.heap.size + 1 < wr.heap.size) := hid (by omega)
                        have HoffG := hid (fun u hu => (HTw.out.offG s u hsS hu).1)
                        have Hvs := hid hVs
                        have Hslt := hid (fun u (e : (Value.slice pr RL cr).ownBlock = some u) => HV7.out s u hsS (by rw [hVs]; exact e))
                        have Hsge := hid (fun u (e : (Value.slice pr RL cr).ownBlock = some u) => HVb.out s u hsS (by rw [hVs]; exact e))
                        obtain ⟨ir, hir, hrz0, hrz1, hrz2⟩ := info_parts infoRow16
                        have HC0 := hid c0
                        rw [hVs] at Hrow HC0
                        clear hVs hrow hpush hrw hRL c0 u0 u1 u2 u3
                        refine wp_region_write (w0 := wr) 14 1 [106, 107, 108, 109, 110, 111, 112, 113, 114, 115, 116, 117, 118, 119] [u106, u107, u108, u109, u110, u111, u112, u113, u114, u115, u116, u117, u118, u119] (S := (fun u => (Value.slice pr RL cr).ownBlock = some u))
                          (fun i => match i with | 0 => wEq (.pointer (some ⟨w2.heap.size, s * 3, none⟩)) | 1 => wEq (.pointer (some ⟨w2.heap.size, s * 3, none⟩)) | 2 => wEq (.pointer (some ⟨w2.heap.size, s * 3, none⟩)) | 3 => wEq (.pointer (some ⟨w2.heap.size, s * 3, none⟩)) | 4 => wEq (.slice pr RL cr) | 5 => wEq (.pointer (some ⟨wo.heap.size, 1, none⟩)) | 6 => wEq (.slice pa na ca) | 7 => wEq (.pointer (some ⟨wo.heap.size, 2, none⟩)) | 8 => wEq (.agg #[.bool n1, .slice q1 m1 d1]) | 9 => wEq (.agg #[.slice pa na ca, .bool n1, .slice q1 m1 d1]) | 10 => wRw [.slice pa na ca, .bool n1, .slice q1 m1 d1] 65 | 11 => wAny | 12 => wEq (.pointer (some ⟨w2.heap.size, s * 3, none⟩)) | _ => wEq (.pointer (some ⟨w2.heap.size, s * 3, none⟩))) 11 (fun v w => RowW w w2.heap.size 65 3 v (RL + 1) (xs ++ [.slice pa na ca, .bool n1, .slice q1 m1 d1]) ∧ ∀ u, v.ownBlock = some u → (Value.slice pr RL cr).ownBlock = some u ∨ wr.heap.size ≤ u) (fun _ _ _ h hb => ⟨h.1.below hb, h.2⟩) (by kernel_rfl) (by kernel_rfl) (by kernel_rfl) (by kernel_rfl) (by decide) rfl (by kernel_rfl) rfl (by decide) ?he1 ?_ ?_
                        case he1 => simp only [putAll, Act.put, List.setIfInBounds_toArray, List.set_cons_zero, List.set_cons_succ]
                        · intro i o hi ho vs wx hvl hb hB hdep K hK
                          have hvs := vlen14 hvl
                          obtain ⟨s106, s107, s108, s109, s110, s111, s112, s113, s114, s115, s116, s117, s118, s119, rfl⟩ := hvs
                          clear hvl
                          obtain ⟨x0, x1, x2, x4⟩ := cells4 ((hb.block wo.heap.size (by omega) (fun e => by have := Hslt.out _ e; omega)).trans E7w.out)
                          have x3 : wx.cell? ⟨w2.heap.size, s * 3, none⟩ = some (.slice pr RL cr) := by rw [cell_of_row wx w2.heap.size _ ct _ (0, 0) ((hb.block w2.heap.size (by have := Hwr.out; omega) (fun e => HoffG.out w2.heap.size (by rw [Hvs.out]; exact e) rfl)).trans Hblk.out)]; exact HC0.out
                          rcases i with _ | _ | _ | _ | _ | _ | _ | _ | _ | _ | _ | _ | _ | _ | i
                          all_goals (simp only [List.getElem?_toArray, List.getElem?_cons_zero, List.getElem?_cons_succ, Option.some.injEq] at ho)
                          all_goals try (subst ho)
                          all_goals try simp only [putAll, Act.put, List.setIfInBounds_toArray, List.set_cons_zero, List.set_cons_succ]
                          · go_simp
                            have hK' := hK.out
                            simp only [putAll, Act.put, List.setIfInBounds_toArray, List.set_cons_zero, List.set_cons_succ] at hK'
                            exact hK' _ _ rfl (fun _ => Below.refl _ _) (fun h => absurd h (by decide))
                          · go_simp
                            have hK' := hK.out
                            simp only [putAll, Act.put, List.setIfInBounds_toArray, List.set_cons_zero, List.set_cons_succ] at hK'
                            exact hK' _ _ rfl (fun _ => Below.refl _ _) (fun h => absurd h (by decide))
                          · have e1 : s107 = _ := hdep ⟨1, .data⟩ (by simp) rfl
                            have e1 := e1.symm
                            subst e1
                            go_simp
                            have hK' := hK.out
                            simp only [putAll, Act.put, List.setIfInBounds_toArray, List.set_cons_zero, List.set_cons_succ] at hK'
                            exact hK' _ _ rfl (fun _ => Below.refl _ _) (fun h => absurd h (by decide))
                          · have e2 : s108 = _ := hdep ⟨2, .data⟩ (by simp) rfl
                            have e2 := e2.symm
                            subst e2
                            go_simp
                            have hK' := hK.out
                            simp only [putAll, Act.put, List.setIfInBounds_toArray, List.set_cons_zero, List.set_cons_succ] at hK'
                            exact hK' _ _ rfl (fun _ => Below.refl _ _) (fun h => absurd h (by decide))
                          · have e3 : s109 = _ := hdep ⟨3, .data⟩ (by simp) rfl
                            have e3 := e3.symm
                            subst e3
                            go_simp
                            have hK' := hK.out
                            simp only [putAll, Act.put, List.setIfInBounds_toArray, List.set_cons_zero, List.set_cons_succ] at hK'
                            exact hK' _ _ rfl (fun _ => Below.refl _ _) (fun h => absurd h (by decide))
                          · go_simp
                            have hK' := hK.out
                            simp only [putAll, Act.put, List.setIfInBounds_toArray, List.set_cons_zero, List.set_cons_succ] at hK'
                            exact hK' _ _ rfl (fun _ => Below.refl _ _) (fun h => absurd h (by decide))
                          · have e5 : s111 = _ := hdep ⟨5, .data⟩ (by simp) rfl
                            have e5 := e5.symm
                            subst e5
                            go_simp
                            have hK' := hK.out
                            simp only [putAll, Act.put, List.setIfInBounds_toArray, List.set_cons_zero, List.set_cons_succ] at hK'
                            exact hK' _ _ rfl (fun _ => Below.refl _ _) (fun h => absurd h (by decide))
                          · go_simp
                            have hK' := hK.out
                            simp only [putAll, Act.put, List.setIfInBounds_toArray, List.set_cons_zero, List.set_cons_succ] at hK'
                            exact hK' _ _ rfl (fun _ => Below.refl _ _) (fun h => absurd h (by decide))
                          · have e7 : s113 = _ := hdep ⟨7, .data⟩ (by simp) rfl
                            have e7 := e7.symm
                            subst e7
                            go_simp
                            have hK' := hK.out
                            simp only [putAll, Act.put, List.setIfInBounds_toArray, List.set_cons_zero, List.set_cons_succ] at hK'
                            exact hK' _ _ rfl (fun _ => Below.refl _ _) (fun h => absurd h (by decide))
                          · have e6 : s112 = _ := hdep ⟨6, .data⟩ (by simp) rfl
                            have e6 := e6.symm
                            subst e6
                            have e8 : s114 = _ := hdep ⟨8, .data⟩ (by simp) rfl
                            have e8 := e8.symm
                            subst e8
                            go_simp
                            have hK' := hK.out
                            simp only [putAll, Act.put, List.setIfInBounds_toArray, List.set_cons_zero, List.set_cons_succ] at hK'
                            exact hK' _ _ rfl (fun _ => Below.refl _ _) (fun h => absurd h (by decide))
                          · have e9 : s115 = _ := hdep ⟨9, .data⟩ (by simp) rfl
                            have e9 := e9.symm
                            subst e9
                            go_simp
                            have hK' := hK.out
                            simp only [putAll, Act.put, List.setIfInBounds_toArray, List.set_cons_zero, List.set_cons_succ] at hK'
                            exact hK' _ _ ⟨_, rfl, heap_alloc_new _ _, fun e => by have := Hslt.out _ e; have := hb.size; omega⟩ (fun _ => below1 _ _) (fun h => absurd h (by decide))
                          · have e4 : s110 = _ := hdep ⟨4, .data⟩ (by simp) rfl
                            have e4 := e4.symm
                            subst e4
                            have e10 : (wRw [.slice pa na ca, .bool n1, .slice q1 m1 d1] 65).P s116 wx := hdep ⟨10, .data⟩ (by simp) rfl
                            have hbB := hB (Or.inl rfl)
                            obtain ⟨gg, ee8, hg8, hgS⟩ := e10
                            subst ee8
                            have hrow : RowW wx w2.heap.size 65 3 (.slice pr RL cr) RL xs := Hrow.out.below hbB
                            have hK' := hK.out
                            simp only [putAll, Act.put, List.setIfInBounds_toArray, List.set_cons_zero, List.set_cons_succ] at hK'
                            rw [if_pos (by rfl)]
                            refine step_append_w (.tmp 110) (.tmp 116) 47 ?ho w2.heap.size 65 ir _ 3 56 Tryd.underlying47 hir hrz0 hrz1 hrz2 rfl (by decide) (by intro n h; simp [Value.cells] at h) (.slice pr RL cr) RL xs ?hs hrow ⟨gg, 0, none⟩ 1 1 [.slice pa na ca, .bool n1, .slice q1 m1 d1] ?hx rfl ?c1 ?c2 ?c6 ?c3 ?c4 ?c5 ?_
                            case ho => rfl
                            case hs => rfl
                            case hx => rfl
                            case c1 => exact cellsAt hg8
                            case c2 => intro u hu; simp at hu; (rcases hu with rfl | rfl | rfl <;> rfl)
                            case c6 => intro n h; simp at h
                            case c3 => simp [maxLen]; omega
                            case c4 => omega
                            case c5 => have := hbB.size; have := Hwr.out; omega
                            intro v' w' hown' hgrow hfr
                            exact hK' _ _ trivial (fun h => absurd rfl h) (fun _ => ⟨(Apart.refl _ _).grown hgrow (fun k e => e), hown', fun u hu => (hfr u hu).imp_right (fun h => Nat.le_trans hbB.size h)⟩)
                          · have e0 : s106 = _ := hdep ⟨0, .data⟩ (by simp) rfl
                            have e0 := e0.symm
                            subst e0
                            go_simp
                            have hK' := hK.out
                            simp only [putAll, Act.put, List.setIfInBounds_toArray, List.set_cons_zero, List.set_cons_succ] at hK'
                            exact hK' _ _ rfl (fun _ => Below.refl _ _) (fun h => absurd h (by decide))
                          · have e12 : s118 = _ := hdep ⟨12, .data⟩ (by simp) rfl
                            have e12 := e12.symm
                            subst e12
                            go_simp
                            have hK' := hK.out
                            simp only [putAll, Act.put, List.setIfInBounds_toArray, List.set_cons_zero, List.set_cons_succ] at hK'
                            exact hK' _ _ rfl (fun _ => Below.refl _ _) (fun h => absurd h (by decide))
                          · omega
                        · intro vs wx hvl hb hf hJw
                          have hvs := vlen14 hvl
                          obtain ⟨s106, s107, s108, s109, s110, s111, s112, s113, s114, s115, s116, s117, s118, s119, rfl⟩ := hvs
                          have f13 : s119 = .pointer (some ⟨w2.heap.size, s * 3, none⟩) := hf 13 (by decide)
                          subst f13
                          obtain ⟨hown, hnn0⟩ := (show RowW wx w2.heap.size 65 3 s117 (RL + 1) (xs ++ [.slice pa na ca, .bool n1, .slice q1 m1 d1]) ∧ ∀ u, s117.ownBlock = some u → (Value.slice pr RL cr).ownBlock = some u ∨ wr.heap.size ≤ u from hJw)
                          have hsh := ownsRow_shape hown.1
                          obtain ⟨pn, cn, ev⟩ := hsh
                          subst ev
                          have hVs := Hvs.out
                          have hSV : ∀ u, (Value.slice pr RL cr).ownBlock = some u → (V s).ownBlock = some u := fun u e => by rw [hVs]; exact e
                          have hbk := (hb.block w2.heap.size (by have := Hwr.out; omega) (fun e => HoffG.out w2.heap.size (hSV w2.heap.size e) rfl)).trans Hblk.out
                          have x3 : wx.cell? ⟨w2.heap.size, s * 3, none⟩ = some (.slice pr RL cr) := by rw [cell_of_row wx w2.heap.size _ ct _ (0, 0) hbk]; exact HC0.out
                          have fz := frozen_of_row wx w2.heap.size (s * 3) ct _ hbk
                          have hb9 := heap_setCell_same wx w2.heap.size (s * 3) ct _ (.slice pn (RL + 1) cn) hbk
                          have hNg : NoWd wx w2.heap.size := NoWd.cells hbk HTw.out.noW
                          have hnb : ∀ u, (Value.slice pn (RL + 1) cn).ownBlock = some u → u ≠ w2.heap.size := fun u hu e => by
                            obtain ⟨cc, hcc⟩ := row_tag hown.1 u hu
                            rw [e, hbk] at hcc
                            injection hcc with hcc
                            injection hcc with _ hcc
                            revert hcc; decide
                          have hnS : ∀ u, (Value.slice pr RL cr).ownBlock = some u → NoWd wr u := fun u e => (Hbase.out u (hSV u e)).2.2
                          have hap9 := apart_set wx w2.heap.size (s * 3) (.slice pn (RL + 1) cn)
                          have hNSg : ∀ u, u = w2.heap.size → NoWd wx u := fun u e => by rw [e]; exact hNg
                          have hn0 : LsP 2 (fun b => b < W0.heap.size) NmQ wr (.slice pa na ca) l[k].args := by
                            have h1 := (HNm.out.p).apart (Apart.of_below (S := fun _ => False) HBw.out) (fun _ _ h => h) (fun _ _ h => h.below HBw.out)
                            rw [Hna.out]
                            exact h1
                          have hn9 : LsP 2 (fun b => b < W0.heap.size) NmQ (wx.setCell ⟨w2.heap.size, s * 3, none⟩ (.slice pn (RL + 1) cn)) (.slice pa na ca) l[k].args :=
                            (hn0.apart hb (fun u hu e => by have := Hsge.out u e; omega) (fun _ _ h => h.quiet hb hnS)).apart hap9 (fun u hu e => by omega) (fun _ _ h => h.quiet hap9 hNSg)
                          have hI9 := (((HRw.out.below HBw.out).quiet hb hnS).quiet hap9 hNSg)
                          have hApp : Apart (fun u => u = w2.heap.size ∨ (V s).ownBlock = some u) wr (wx.setCell ⟨w2.heap.size, s * 3, none⟩ (.slice pn (RL + 1) cn)) := (hb.mono (fun u e => .inr (hSV u e))).go (hap9.mono (fun u e => .inl e))
                          have hrow9 : RowW (wx.setCell ⟨w2.heap.size, s * 3, none⟩ (.slice pn (RL + 1) cn)) w2.heap.size 65 3 (.slice pn (RL + 1) cn) (RL + 1) (xs ++ [.slice pa na ca, .bool n1, .slice q1 m1 d1]) := hown.stays (fun u hu => hap9.block u (World.ownsRow.lt hown.1 u hu).2 (hnb u hu))
                          have hTw := HTw.out.row s hsS (.slice pn (RL + 1) cn) (l[k].args, l[k].val) hb9 hApp
                            (Hpush.out (fun b => b < W0.heap.size) (fun u => u = w2.heap.size ∨ (V s).ownBlock = some u) _ _ _ (l[k].args, l[k].val) hrow9 hApp (fun u e => by
                                rcases e with e | e
                                · rw [e]; exact HTw.out.noWd
                                · exact (Hbase.out u e).2.2)
                              (fun u hu e => by
                                rcases e with e | e
                                · omega
                                · have := HVb.out s u hsS e; omega) (fun _ h => h) rfl ⟨_, _, _, rfl, hn9, hI9⟩)
                            (fun u hu => (hnn0 u hu).imp_left (hSV u)) (fun u hu hA => by
                              rcases hnn0 u hu with h1 | h1
                              · have := Hsge.out u h1; omega
                              · omega) (by intro n h; cases h) (fun _ h => h) (fun _ h => .inl h)
                          have Hput : tbPut (tbTab (l.take k) ((s : Nat) : Int)) l[k] = ⟨(tbTab (l.take k) ((s : Nat) : Int)).rows ++ [(l[k].args, l[k].val)], (tbTab (l.take k) ((s : Nat) : Int)).els⟩ := by unfold tbPut; rw [if_neg Hne.out]
                          have hFe := HFn.out
                          rw [Hput] at hFe
                          rw [hFe] at hTw
                          have HT2 := hid hTw
                          have HA2 : Hid (Apart (fun u => u = w2.heap.size) W5 (wx.setCell ⟨w2.heap.size, s * 3, none⟩ (.slice pn (RL + 1) cn))) := hid (HAw.out.trans hApp (fun u e => by
                            rcases e with e | e
                            · exact .inl e
                            · exact .inr (HVb.out s u hsS e)))
                          have HV2 : Hid (∀ t u, t < S → (if t = s then Value.slice pn (RL + 1) cn else V t).ownBlock = some u → W5.heap.size ≤ u) := hid (fun t u ht hk => by
                            by_cases e : t = s
                            · rw [if_pos e] at hk
                              rcases hnn0 u hk with h1 | h1
                              · exact Hsge.out u h1
                              · omega
                            · rw [if_neg e] at hk; exact HVb.out t u ht hk)
                          clear hf hvl hJw hTw hFe Hput hI9 hn9 hn0 hap9 hApp hrow9 hnS hNSg hnb hNg hb9 hbk hown hnn0 hSV hVs
                          refine wpAny_one (i := 14) (by kernel_rfl) rfl ?_
                          intro K hK
                          simp only [putAll, Act.put, List.setIfInBounds_toArray, List.set_cons_zero, List.set_cons_succ]
                          have hK' := hK.out
                          go_simp
                          apply hK'
                          clear hK hK' x3 fz
                          refine wpAny_done (by kernel_rfl) ?_ _
                          try simp only [Act.put, List.setIfInBounds_toArray, List.set_cons_zero, List.set_cons_succ]
                          go_wp2_with fail
                          go_roundw
                          case rel => exact ⟨k + 1, _, _, by omega, by go_num, HT2, HV2, HA2⟩
                          case measure => simp [intOf]; omega
              · obtain rfl : L = k := by omega
                have hfin : l.take L = l := by rw [HL.out, List.take_length]
                have hT := HT.out
                rw [hfin] at hT
                have hin : TbsP (fun b => b < W0.heap.size ∨ w.heap.size < b) wr (.slice (some ⟨w2.heap.size, 0, none⟩) S S) (tbTabs syms l) := by
                  have := hT.in (P := fun b => b < W0.heap.size ∨ w.heap.size < b) (fun b hb => .inl hb) (fun b hb => .inr (by omega)) (by simp [maxLen]; omega)
                  unfold tbTabs
                  rw [← HSe.out]
                  exact this
                have hbw : Below w.heap.size w wr := HB5.out.trans (HAp.out.below (by omega) (fun u e => by omega))
                have e7 := (HAp.out.block (w2.heap.size + 1) (by omega) (by omega)).trans E5.out
                have e27 := (HAp.out.block w.heap.size (by omega) (by omega)).trans E25.out
                have x0 : wr.cell? ⟨w2.heap.size + 1, 0, none⟩ = some (.slice (some ⟨w2.heap.size, 0, none⟩) S S) := by rw [cell_of_row wr _ 0 _ _ (0, 0) e7]; rfl
                have x1 : wr.cell? ⟨w.heap.size, 0, none⟩ = some (.slice none 0 0) := by rw [cell_of_row wr _ 0 _ _ (0, 0) e27]; rfl
                have fz := frozen_of_row wr w.heap.size 0 _ _ e27
                have hbs := heap_setCell_same wr w.heap.size 0 _ _ (.slice (some ⟨w2.heap.size, 0, none⟩) S S) e27
                have y0 : (wr.setCell ⟨w.heap.size, 0, none⟩ (.slice (some ⟨w2.heap.size, 0, none⟩) S S)).cell? ⟨w.heap.size, 0, none⟩ = some (.slice (some ⟨w2.heap.size, 0, none⟩) S S) := by rw [cell_of_row _ w.heap.size 0 _ _ (0, 0) hbs]; rfl
                have HIn := hid (hin.apart (apart_set wr w.heap.size 0 (.slice (some ⟨w2.heap.size, 0, none⟩) S S)) (fun b hb e => by omega) (fun b e => by rw [e]; exact NoWd.cells e27 (by simp)))
                have HBf := hid (hbw.setCell (p := ⟨w.heap.size, 0, none⟩) (Nat.le_refl _) (.slice (some ⟨w2.heap.size, 0, none⟩) S S))
                clear hT hin hbw e7 e27 hbs hfin
                go_wp2
                exact bodyPost_ret (v := .tuple #[.agg #[.slice (some ⟨w2.heap.size, 0, none⟩) S S], .int .i64 0]) (by simp [results, Tryd.results13, go_sem, y0]) rfl (by first | exact ⟨_, S, S, rfl, fun _ => HIn.out, fun h => absurd rfl h, HBf.out⟩ | exact ⟨_, S, S, rfl, HIn.out, HBf.out⟩)
end Go.Proofs.YtlffiomlpkopbaaDoor
/- A copy of what is said, its numbers in rows of its own; what a store into them leaves. -/
namespace Go.Proofs.YtlffiomlpkopbaaDoor
open Go.RowKit Big Go.WideMaps

theorem NmQ.two {w : World} {c : List Value} {z : Int} (h : NmQ w c z) : c.length = 2 ∧ ∀ u ∈ c, u.oneCell' = true ∧ ∀ n, u ≠ .int .u64 n := by
  obtain ⟨n, s, rfl, h2⟩ := h
  obtain ⟨_, q, m, d, e⟩ := h2.shp
  obtain rfl : s = .slice q m d := by injection e with e; simp at e; exact e.2
  refine ⟨rfl, fun u hu => ?_⟩
  simp at hu
  rcases hu with rfl | rfl
  · exact ⟨rfl, nofun⟩
  · exact ⟨rfl, nofun⟩
theorem NmsIn.css {w : World} {ad : Addr} {n c : Nat} {l : List Int} (h : NmsIn w (.slice (some ad) n c) l) : ∃ css : List (List Value), css.length = l.length ∧ (∀ c ∈ css, c.length = 2) ∧ (∀ j u, css.flatten[j]? = some u → w.cell? (ad.add j) = some u) ∧ (∀ u ∈ css.flatten, u.oneCell' = true ∧ ∀ n, u ≠ .int .u64 n) ∧ ∀ i (hi : i < l.length) (hi' : i < css.length), NmQ w css[i] l[i] := by
  obtain ⟨-, -, -, -, h4⟩ := h.cells
  by_cases h0 : 0 < l.length
  · obtain ⟨b, o, e, hb, hc⟩ := h4 h0
    injection e with e
    subst e
    have hone : ∀ i : Fin l.length, ∃ c : List Value, (∀ j u, c[j]? = some u → w.cell? ⟨b, o + i.1 * 2 + j, none⟩ = some u) ∧ NmQ w c l[i.1] := fun i => hc i.1 i.2
    obtain ⟨f, hf⟩ := Classical.axiomOfChoice hone
    have hl2 : ∀ c ∈ List.ofFn f, c.length = 2 := fun c hcm => by
      obtain ⟨i, rfl⟩ := (List.mem_ofFn.1 hcm)
      exact (hf i).2.two.1
    refine ⟨List.ofFn f, by simp, hl2, fun j u hj => ?_, fun u hu => ?_, fun i hi hi' => by rw [List.getElem_ofFn]; exact (hf ⟨i, hi⟩).2⟩
    · have hjl := (List.getElem?_eq_some_iff.1 hj).1
      have hfl : (List.ofFn f).flatten.length = l.length * 2 := by
        have : ∀ css : List (List Value), (∀ c ∈ css, c.length = 2) → css.flatten.length = css.length * 2 := by
          intro css hcs
          induction css with
          | nil => rfl
          | cons c css ih =>
            rw [List.flatten_cons, List.length_append, ih (fun d hd => hcs d (List.mem_cons_of_mem _ hd)), hcs c (by simp), List.length_cons]
            omega
        rw [this _ hl2]; simp
      have hi : j / 2 < l.length := by rw [hfl] at hjl; omega
      have hm : j % 2 < (f ⟨j / 2, hi⟩).length := by rw [(hf ⟨j / 2, hi⟩).2.two.1]; omega
      have h5 := flatten_at hl2 (j / 2) (by simpa using hi) (j % 2) ((f ⟨j / 2, hi⟩)[j % 2]) (by rw [List.getElem_ofFn]; exact List.getElem?_eq_getElem hm)
      have e : j / 2 * 2 + j % 2 = j := by omega
      rw [e, hj] at h5
      injection h5 with h5
      have h6 := (hf ⟨j / 2, hi⟩).1 (j % 2) _ (List.getElem?_eq_getElem hm)
      rw [Go.WideShapes.add_plain, h5, ← h6]
      congr 2
      show o + j = o + j / 2 * 2 + j % 2
      omega
    · obtain ⟨c, hcm, hu⟩ := List.mem_flatten.1 hu
      obtain ⟨i, rfl⟩ := List.mem_ofFn.1 hcm
      exact (hf i).2.two.2 u hu
  · have : l = [] := List.eq_nil_of_length_eq_zero (by omega)
    subst this
    exact ⟨[], rfl, by simp, by simp, by simp, fun i hi => absurd hi (by simp)⟩
theorem wpList_append_nums {w : World} {ops : Array Oper} {rest : List Oper} {o : Oper} {a : Act} {Q : Exit → Act → World → Prop} (hgd : o.guard = none) (s x : Operand)
    (ho : o.op = .call { callee := .builtin .append, args := #[s, x], argTypes := #[28, 28] })
    (W0 : World) (B g : Nat) (hs : a.eval s = .slice (some ⟨g, 0, none⟩) 0 0) (hg : w.heap[g]? = some (.cells #[] 32 (0, 0))) (hBg : B ≤ g) (vx : Value) (m : List Int) (hx : a.eval x = vx) (hin : NmsIn W0 vx m) (hb : Below W0.heap.size W0 w) (hlen : m.length ≤ 8)
    (h : ∀ v' w', NumsW B w' v' m → Below g w w' → w.heap.size ≤ w'.heap.size → wpList Tryd.prog ops Q rest (a.put o.dst v') w') : wpList Tryd.prog ops Q (o :: rest) a w := by
  obtain ⟨ii, hii, hz0, hz1, hz2⟩ := info_parts infoInt16
  have hr : RowW w B 32 2 (.slice (some ⟨g, 0, none⟩) 0 0) 0 [] := ⟨⟨rfl, .inr ⟨g, 0, #[], rfl, hBg, hg, Nat.le_refl _, by simp [maxLen], rfl, rfl⟩⟩, fun g' e => by
    obtain rfl : g = g' := by simpa [Value.ownBlock] using e
    exact NoWd.cells hg (by simp)⟩
  have hgz : g < w.heap.size := (Array.getElem?_eq_some_iff.1 hg).1
  obtain ⟨p, cap, rfl, h1, h2, h3, h4⟩ := id hin
  cases p with
  | none =>
    obtain rfl := h3 rfl
    obtain rfl : m = [] := List.eq_nil_of_length_eq_zero (by omega)
    refine wpList_plain hgd fun K' hK' => ?_
    exact step_append_none s x 28 ho B 32 ii 2 Tryd.underlying28 hii _ 0 [] hs hr.1 hx (hK' _ _ (h _ _ ⟨[], rfl, hr, nofun, fun i h => absurd h (by simp)⟩ (Below.refl _ _) (Nat.le_refl _)))
  | some ad =>
    obtain ⟨css, c1, c2, c3, c4, c5⟩ := hin.css
    have hfl : css.flatten.length = m.length * 2 := by
      rw [← c1]
      clear c1 c3 c4 c5
      induction css with
      | nil => rfl
      | cons c css ih =>
        rw [List.flatten_cons, List.length_append, ih (fun d hd => c2 d (List.mem_cons_of_mem _ hd)), c2 c (by simp), List.length_cons]
        omega
    refine wpList_append_w hgd s x 28 ho B 32 ii _ 2 32 Tryd.underlying28 hii hz0 hz1 hz2 rfl (by decide) (by intro n h; simp [Value.cells] at h) _ 0 [] hs hr ad m.length cap css.flatten hx hfl (fun j u hju => ?_) (fun u hu => (c4 u hu).1) (fun n hn => (c4 _ hn).2 n rfl) (by simp [maxLen]; omega) (by omega) (by omega) ?_
    · have h5 := c3 j u hju
      rw [← h5]
      exact hb.cell (p := ad.add j) (World.block_lt_of_cell? W0 _ h5)
    · intro v' w' h5 h6
      have hap : Apart (fun k => (Value.slice (some ⟨g, 0, none⟩) 0 0).ownBlock = some k) w w' := (Apart.refl _ _).grown h6 (fun k e => e)
      refine h v' w' ⟨css, c1, by simpa using h5, c2, fun i hi hi' => ((c5 i hi hi').below hb).quiet hap hr.2⟩ ((Below.refl _ _).grown h6 (by omega) (fun g' hg' => ?_)) h6.size
      obtain rfl : g = g' := by simpa [Value.ownBlock] using hg'
      exact Nat.le_refl _
/-- one of what is said, its numbers in a row of one's own -/
def ApO (W0 : World) (B : Nat) (w : World) (c : List Value) (a : Ap) : Prop := ∃ va n q m d, c = [.int .i64 a.sym, va, .bool n, .slice q m d] ∧ NumsW B w va a.args ∧ RawAt W0 (.agg #[.bool n, .slice q m d]) a.val ∧ wfI a.sym
def OwnSt (W0 : World) (B : Nat) (w : World) (v : Value) (l : List Ap) : Prop :=
  ∃ css : List (List Value), css.length = l.length ∧ RowW w B 34 4 v l.length css.flatten ∧ (∀ c ∈ css, c.length = 4) ∧ ∀ i (h : i < l.length) (h' : i < css.length), ApO W0 B w css[i] l[i]
theorem OwnSt.nil (W0 : World) (B : Nat) (w : World) : OwnSt W0 B w (.slice none 0 0) [] := ⟨[], rfl, RowW.nil w B _ _, nofun, fun i h => absurd h (by simp)⟩
theorem OwnSt.shape {W0 : World} {B : Nat} {w : World} {v : Value} {l : List Ap} (h : OwnSt W0 B w v l) : ∃ p c, v = .slice p l.length c := by
  obtain ⟨css, h1, h2, r⟩ := h
  exact ownsRow_shape h2.1
theorem OwnSt.in {W0 : World} {B : Nat} {w : World} {v : Value} {l : List Ap} (h : OwnSt W0 B w v l) (hb : Below W0.heap.size W0 w) : ApsIn w v l := by
  obtain ⟨css, h1, h2, h3, h4⟩ := h
  refine OwnLs.in (e := 34) (B := B) ⟨css, h1, h2.1, h3, fun i hi hi' => ?_⟩
  obtain ⟨va, n, q, m, d, e, k1, k2, k3⟩ := h4 i hi hi'
  obtain ⟨p, c, rfl⟩ := k1.shape
  exact ⟨p, c, n, _, e, (k1.in (P := fun _ => True) (fun _ _ => trivial)).in, k2.below hb, k3⟩
theorem OwnSt.below {W0 : World} {B : Nat} {w w' : World} {v : Value} {l : List Ap} (h : OwnSt W0 B w v l) (hb : Below w.heap.size w w') : OwnSt W0 B w' v l := by
  obtain ⟨css, h1, h2, h3, h4⟩ := h
  refine ⟨css, h1, h2.below hb, h3, fun i hi hi' => ?_⟩
  obtain ⟨va, n, q, m, d, e, k1, k2, k3⟩ := h4 i hi hi'
  exact ⟨va, n, q, m, d, e, k1.below hb, k2, k3⟩
theorem NumsW.tag {B : Nat} {w : World} {v : Value} {l : List Int} (h : NumsW B w v l) : ∀ g, v.ownBlock = some g → ∃ c, w.heap[g]? = some (.cells c 32 (0, 0)) := by
  obtain ⟨css, h1, h2, h3, h4⟩ := h
  exact row_tag h2.1
theorem tags_off {w : World} {g : Nat} {c d : Array Value} (h : w.heap[g]? = some (.cells c 32 (0, 0))) (k : w.heap[g]? = some (.cells d 34 (0, 0))) : False := by
  rw [h] at k
  injection k with k
  injection k with _ k
  revert k; decide
theorem OwnSt.push {W0 : World} {B : Nat} {w : World} {v : Value} {l : List Ap} (h : OwnSt W0 B w v l) : ∃ xs, RowW w B 34 4 v l.length xs ∧
    ∀ w' v' c a, RowW w' B 34 4 v' (l.length + 1) (xs ++ c) → Apart (fun k => v.ownBlock = some k) w w' → c.length = 4 → ApO W0 B w' c a → OwnSt W0 B w' v' (l ++ [a]) := by
  obtain ⟨css, h1, h2, h3, h4⟩ := h
  refine ⟨css.flatten, h2, fun w' v' c a hr ha hc hx => ?_⟩
  refine ⟨css ++ [c], by simp [h1], by simpa using hr, fun d hd => ?_, fun i hi hi' => ?_⟩
  · rcases List.mem_append.1 hd with hd | hd
    · exact h3 d hd
    · rw [List.mem_singleton.1 hd]; exact hc
  · by_cases hlt : i < l.length
    · rw [List.getElem_append_left hlt, List.getElem_append_left (by omega)]
      obtain ⟨va, n, q, m, d, e, k1, k2, k3⟩ := h4 i hlt (by omega)
      refine ⟨va, n, q, m, d, e, k1.apart ha (fun b hb => h2.2 b hb) (fun g hg e2 => ?_), k2, k3⟩
      obtain ⟨c1, t1⟩ := k1.tag g hg
      obtain ⟨c2, t2⟩ := row_tag h2.1 g e2
      exact tags_off t1 t2
    · have e1 : i = l.length := by simp at hi; omega
      subst e1
      rw [List.getElem_append_right (Nat.le_refl _), List.getElem_append_right (by omega)]
      simpa [h1] using hx
/-- a row of numbers, whatever they are, in a block below N -/
def RowZ (w : World) (B N : Nat) (v : Value) (n : Nat) : Prop := (∃ xs, RowW w B 32 2 v n xs) ∧ ∀ g, v.ownBlock = some g → g < N
theorem RowZ.below {w w' : World} {B N : Nat} {v : Value} {n : Nat} (h : RowZ w B N v n) (hb : Below w.heap.size w w') : RowZ w' B N v n := by
  obtain ⟨⟨xs, h1⟩, h2⟩ := h
  exact ⟨⟨xs, h1.below hb⟩, h2⟩
theorem RowZ.set {w : World} {B N : Nat} {v : Value} {n : Nat} (h : RowZ w B N v n) (g j : Nat) (u : Value) (hu : ∀ q, u ≠ .int .u64 q) : RowZ (w.setCell ⟨g, j, none⟩ u) B N v n := by
  obtain ⟨⟨xs, h1⟩, h2⟩ := h
  refine ⟨?_, h2⟩
  rcases id h1.1.2 with ⟨rfl, rfl⟩ | ⟨g', cap, cur, rfl, hb, hh, k1, k2, k3, k4⟩
  · exact ⟨[], RowW.nil _ _ _ _⟩
  · by_cases e : g' = g
    · subst e
      have hc := heap_setCell_same w g' j cur _ u hh
      refine ⟨(cur.setIfInBounds j u).toList.take (n * 2), ⟨?_, .inr ⟨g', cap, _, rfl, hb, hc, k1, k2, by simpa using k3, rfl⟩⟩, fun q hq => ?_⟩
      · rw [List.length_take]
        simp [k3]
        omega
      · obtain rfl : g' = q := by simpa [Value.ownBlock] using hq
        refine NoWd.cells hc (fun q hq => ?_)
        rcases Array.mem_or_eq_of_mem_setIfInBounds hq with hq | hq
        · obtain ⟨i, hi, e⟩ := Array.mem_iff_getElem.1 hq
          refine h1.2 g' rfl i q ?_
          rw [cell_of_row w g' i cur _ (0, 0) hh, Array.getElem?_eq_getElem hi, e]
        · exact hu q hq.symm
    · exact ⟨xs, h1.stays (fun q hq => by
        obtain rfl : g' = q := by simpa [Value.ownBlock] using hq
        exact heap_setCell_other w ⟨g, j, none⟩ g' u e)⟩
theorem RowZ.shape {w : World} {B N : Nat} {v : Value} {n : Nat} (h : RowZ w B N v n) : ∃ p c, v = .slice p n c := by
  obtain ⟨⟨xs, h1⟩, h2⟩ := h
  exact ownsRow_shape h1.1
theorem RowZ.at {w : World} {B N : Nat} {p : Option Addr} {n m c : Nat} (h : RowZ w B N (.slice p m c) n) (k : Nat) (hk : k < n) : ∃ g cs, p = some ⟨g, 0, none⟩ ∧ n ≤ c ∧ c ≤ maxLen ∧ B ≤ g ∧ g < N ∧ w.heap[g]? = some (.cells cs 32 (0, 0)) ∧ NoWd w g ∧ (∃ x, cs[k * 2]? = some x) ∧ ∃ y, cs[k * 2 + 1]? = some y := by
  obtain ⟨⟨xs, h1⟩, h2⟩ := h
  rcases id h1.1.2 with ⟨e, rfl⟩ | ⟨g, cap, cur, e, hb, hh, k1, k2, k3, k4⟩
  · omega
  · injection e with e1 e2 e3
    subst e1 e2 e3
    exact ⟨g, cur, rfl, k1, k2, hb, h2 g rfl, hh, h1.2 g rfl, ⟨_, Array.getElem?_eq_getElem (by omega)⟩, ⟨_, Array.getElem?_eq_getElem (by omega)⟩⟩
theorem OwnSt.cells {W0 : World} {B : Nat} {w : World} {v : Value} {l : List Ap} (h : OwnSt W0 B w v l) : ∃ (go : Nat) (cs : Array Value) (V : Nat → Value), (0 < l.length → (∃ c, v = .slice (some ⟨go, 0, none⟩) l.length c ∧ l.length ≤ c ∧ c ≤ maxLen) ∧ w.heap[go]? = some (.cells cs 34 (0, 0)) ∧ B ≤ go ∧ ∀ i, i < l.length → cs[i * 4 + 1]? = some (V i)) ∧ ∀ i (hi : i < l.length), RowZ w B w.heap.size (V i) l[i].args.length := by
  obtain ⟨css, h1, h2, h3, h4⟩ := h
  rcases id h2.1.2 with ⟨rfl, h0⟩ | ⟨g, cap, cur, rfl, hb, hh, k1, k2, k3, k4⟩
  · exact ⟨0, #[], fun _ => .slice none 0 0, fun h => by omega, fun i hi => by omega⟩
  · refine ⟨g, cur, fun i => (css[i]?.bind (·[1]?)).getD (.slice none 0 0), fun h0 => ⟨⟨cap, rfl, k1, k2⟩, hh, hb, fun i hi => ?_⟩, fun i hi => ?_⟩
    · obtain ⟨va, n, q, m, d, e, -⟩ := h4 i hi (by omega)
      have h5 := flatten_at h3 i (by omega) 1 va (by rw [e]; rfl)
      have h6 : cur.toList[i * 4 + 1]? = some va := by rw [← k4] at h5; rw [List.getElem?_take] at h5; split at h5; exact h5; cases h5
      rw [Array.getElem?_toList] at h6
      have e2 : (css[i]?.bind (·[1]?)).getD (.slice none 0 0) = va := by rw [List.getElem?_eq_getElem (by omega : i < css.length)]; simp [e]
      exact h6.trans (congrArg some e2.symm)
    · obtain ⟨va, n, q, m, d, e, k1, -⟩ := h4 i hi (by omega)
      have e2 : (css[i]?.bind (·[1]?)).getD (.slice none 0 0) = va := by rw [List.getElem?_eq_getElem (by omega : i < css.length)]; simp [e]
      show RowZ w B w.heap.size ((css[i]?.bind (·[1]?)).getD (.slice none 0 0)) _
      rw [e2]
      obtain ⟨ds, d1, d2, d3⟩ := k1
      exact ⟨⟨_, d2⟩, fun g hg => (World.ownsRow.lt d2.1 g hg).2⟩
/-- the law's memory, while it writes into its copy -/
structure WrSt (w0 : World) (B N b1 b2 go : Nat) (cs : Array Value) (L : Nat) (V : Nat → Value) (nn : Nat → Nat) (p1 : Option Addr) (n1 c1 : Nat) (p2 : Option Addr) (n2 c2 : Nat) (P1 P2 : Nat → Prop) (ta : List Tb5) (w : World) : Prop where
  own : 0 < L → w.heap[go]? = some (.cells cs 34 (0, 0))
  rows : ∀ i, i < L → RowZ w B N (V i) (nn i)
  mods : TbsP P1 w (.slice p1 n1 c1) ta
  refs : TbsP P2 w (.slice p2 n2 c2) ta
  box1 : w.heap[b1]? = some (.cells #[.slice p1 n1 c1] 37 (0, 0))
  box2 : w.heap[b2]? = some (.cells #[.slice p2 n2 c2] 37 (0, 0))
  ge1 : N ≤ b1
  ge2 : N ≤ b2
  low : Below w0.heap.size w0 w
  geB : w0.heap.size ≤ B
  off1 : ∀ b, B ≤ b → b < N → ¬ P1 b
  off2 : ∀ b, B ≤ b → b < N → ¬ P2 b
theorem WrSt.below {w0 : World} {B N b1 b2 go : Nat} {cs : Array Value} {L : Nat} {V : Nat → Value} {nn : Nat → Nat} {p1 : Option Addr} {n1 c1 : Nat} {p2 : Option Addr} {n2 c2 : Nat} {P1 P2 : Nat → Prop} {ta : List Tb5} {w w' : World} (h : WrSt w0 B N b1 b2 go cs L V nn p1 n1 c1 p2 n2 c2 P1 P2 ta w) (hb : Below w.heap.size w w') : WrSt w0 B N b1 b2 go cs L V nn p1 n1 c1 p2 n2 c2 P1 P2 ta w' :=
  ⟨fun h0 => (hb.block go (Array.getElem?_eq_some_iff.1 (h.own h0)).1).trans (h.own h0), fun i hi => (h.rows i hi).below hb, h.mods.below hb, h.refs.below hb, (hb.block b1 (Array.getElem?_eq_some_iff.1 h.box1).1).trans h.box1, (hb.block b2 (Array.getElem?_eq_some_iff.1 h.box2).1).trans h.box2, h.ge1, h.ge2, tbGo hb h.low, h.geB, h.off1, h.off2⟩
theorem WrSt.set {w0 : World} {B N b1 b2 go : Nat} {cs : Array Value} {L : Nat} {V : Nat → Value} {nn : Nat → Nat} {p1 : Option Addr} {n1 c1 : Nat} {p2 : Option Addr} {n2 c2 : Nat} {P1 P2 : Nat → Prop} {ta : List Tb5} {w : World} (h : WrSt w0 B N b1 b2 go cs L V nn p1 n1 c1 p2 n2 c2 P1 P2 ta w)
    (g j : Nat) (u : Value) (hu : ∀ q, u ≠ .int .u64 q) (hB : B ≤ g) (hN : g < N) (hw : NoWd w g) {ds : Array Value} (ht : w.heap[g]? = some (.cells ds 32 (0, 0))) : WrSt w0 B N b1 b2 go cs L V nn p1 n1 c1 p2 n2 c2 P1 P2 ta (w.setCell ⟨g, j, none⟩ u) :=
  ⟨fun h0 => (heap_setCell_other w ⟨g, j, none⟩ go u (fun e => tags_off (by rw [show go = g from e]; exact ht) (h.own h0))).trans (h.own h0), fun i hi => (h.rows i hi).set g j u hu,
   h.mods.apart (apart_set w g j u) (fun b hb e => h.off1 b (by omega) (by omega) hb) (fun b e => by rw [e]; exact hw), h.refs.apart (apart_set w g j u) (fun b hb e => h.off2 b (by omega) (by omega) hb) (fun b e => by rw [e]; exact hw),
   (heap_setCell_other w ⟨g, j, none⟩ b1 u (fun e => by have := h.ge1; have e : b1 = g := e; omega)).trans h.box1, (heap_setCell_other w ⟨g, j, none⟩ b2 u (fun e => by have := h.ge2; have e : b2 = g := e; omega)).trans h.box2, h.ge1, h.ge2, h.low.setCell (p := ⟨g, j, none⟩) (Nat.le_trans h.geB hB) u, h.geB, h.off1, h.off2⟩
end Go.Proofs.YtlffiomlpkopbaaDoor
/- elenchuslaw16.TablesBuild. -/
namespace Go.Proofs.YtlffiomlpkopbaaDoor
open Go.RowKit Big Go.WideMaps

/-- what the reference's Build answers, with an error's empty tables told likewise -/
theorem RBuild_ans (W0 : World) (vs v : Value) (syms : List Sy) (l : List Ap) (w : World) (hs0 : SysIn W0 vs syms) (h0 : ApsIn W0 v l) (hb0 : Below W0.heap.size W0 w) (hz : ∀ a ∈ l, ApSz a) (hl : l.length ≤ 1000) (hS : syms.length ≤ 100000) :
    Calls Tryd.prog 13 #[vs, v] w fun e w' => ∃ p n c, e = .returned (.tuple #[.agg #[.slice p n c], .int .i64 (tbFault syms l)]) ∧ TbsP (fun b => b < W0.heap.size ∨ w.heap.size < b) w' (.slice p n c) (tbAns syms l) ∧ n = (tbAns syms l).length ∧ Below w.heap.size w w' := by
  refine (RBuild_any W0 vs v syms l w hs0 h0 hb0 hz hl hS).mono ?_
  rintro e w' ⟨p, n, c, rfl, h1, h2, h3⟩
  refine ⟨p, n, c, rfl, ?_⟩
  unfold tbAns
  by_cases h0 : tbFault syms l = 0
  · rw [if_pos h0]
    have h4 := h1 h0
    obtain ⟨_, _, e, -⟩ := id h4
    injection e with _ e _
    exact ⟨h4, e, h3⟩
  · rw [if_neg h0]
    obtain ⟨rfl, rfl, rfl⟩ := h2 h0
    exact ⟨⟨none, 0, rfl, by simp, by simp [maxLen], fun _ => rfl, fun h => absurd h (by simp)⟩, rfl, h3⟩
def tbN : SFact := ⟨fun v _ => ∃ b p n c, v = .agg #[.bool b, .slice p n c], fun _ _ _ h _ => h⟩
theorem IntAt.shp {w : World} {v : Value} {z : Int} (h : IntAt w v z) : ∃ b p n c, v = .agg #[.bool b, .slice p n c] := by
  obtain ⟨p, n, c, rfl, -⟩ := h.shape
  exact ⟨_, _, _, _, rfl⟩

set_option maxRecDepth 100000 in
set_option maxHeartbeats 12800000 in
theorem lawBuild_any (vs v : Value) (syms : List Sy) (l : List Apx) (w : World) (hs : SysIn w vs syms) (h : ApxsIn w v l) (htab : Tb w.heap.size w) : Calls Tryd.prog 4 #[vs, v] w (RBool true w) := by
  have HX := hid (fixed16_any w htab)
  have HF := hid (fun w' (hb : Below w.heap.size w w') => Few16_any v l w' (h.below hb))
  have Hin := hid (fun (hf : l.length ≤ 60 ∧ ∀ x ∈ l, x.fit) => h.aps hf.2)
  have Hsz := hid (fun (hf : l.length ≤ 60 ∧ ∀ x ∈ l, x.fit) => h.sz hf.2)
  have Hlm : Hid ((l.map Apx.a).length = l.length) := hid (List.length_map ..)
  have Hs := hid hs; have Htab := hid htab
  have hsh := hs
  obtain ⟨ps, cs, rfl, is1, is2, -, -⟩ := hsh
  have hsh := h
  obtain ⟨p, cap, rfl, i1, i2, -, -⟩ := hsh
  unfold maxLen at is2 i2
  obtain ⟨S, hS⟩ : ∃ S, S = syms.length := ⟨_, rfl⟩
  obtain ⟨L, hL⟩ : ∃ L, L = l.length := ⟨_, rfl⟩
  have HS := hid hS; have HL := hid hL
  rw [← hS] at is1 Hs ⊢
  rw [← hL] at i1 HF Hin Hsz Hlm ⊢
  clear h hs htab hS hL
  go_enter Tryd.func4, Tryd.ntmps4
  go_wp2_with fail
  refine HX.out.mono ?_
  rintro e w1 ⟨rfl, b1⟩
  have B1 := hid b1
  have HFb := hid (HF.out w1 b1)
  clear b1 HX HF
  by_cases h40 : S ≤ 40
  case neg =>
    have hd : decide ((40 : Int) < (S : Int)) = true := by simp; omega
    clear HFb
    go_wp2
    go_ret
    exact ⟨rfl, B1.out⟩
  have hd : decide ((40 : Int) < (S : Int)) = false := by simp; omega
  go_wp2_with fail
  refine HFb.out.mono ?_
  rintro e w2 ⟨bf, rfl, hfit, b2⟩
  have B2 := hid (tbGo b2 B1.out)
  clear b2 HFb
  cases bf with
  | false =>
    clear hfit
    go_wp2
    go_ret
    exact ⟨rfl, B2.out⟩
  | true =>
  have hfit := hfit rfl
  have hA := Hin.out hfit
  have hZ := Hsz.out hfit
  have hll : (l.map Apx.a).length = L := Hlm.out
  have hL60 : L ≤ 60 := hfit.1
  generalize l.map Apx.a = al at *
  have HA := hid hA; have HZ := hid hZ; have Hll := hid hll
  have HA2 := hid (hA.below B2.out)
  have HAt := hid (fun (hp : 0 < al.length) => (show ApsIn w2 (.slice p L cap) al from HA2.out).at hp)
  have HNx := hid (fun (j : Nat) (hj : j < al.length) => List.take_succ_eq_append_getElem hj)
  have H0 : Hid (al.take 0 = []) := hid (by simp)
  have HAll : Hid (al.take al.length = al) := hid (by rw [List.take_length])
  have HTl := hid (fun (j : Nat) (hj : j < al.length) => (show (al.take j).length = j by rw [List.length_take]; omega))
  obtain ⟨ii, hii, hz0, hz1, hz2⟩ := info_parts infoApp16
  clear hfit Hin Hsz hA hZ hll Hlm
  go_upto_region 5 with fail
  go_wp2_with fail
  go_loopw [26, 5] (fun i vo wr => ∃ j : Nat, j ≤ L ∧ i = .int .i64 (j : Nat) ∧ Hid (OwnSt w2 w2.heap.size wr vo (al.take j)) ∧ Hid (Below w2.heap.size w2 wr)) (fun i _ _ => L - (intOf i).toNat)
  case atStart => exact ⟨0, Nat.zero_le _, rfl, hid (by rw [H0.out]; exact OwnSt.nil _ _ _), hid (Below.refl _ _)⟩
  case round =>
    obtain ⟨j, hj, rfl, HO, HB⟩ := hrel
    by_cases hlt : j < L
    · have hja : j < al.length := by rw [Hll.out]; exact hlt
      have hlt' : (j : Int) < (L : Int) := by omega
      obtain ⟨b, o, rfl, hb, hc⟩ := HAt.out (by omega)
      obtain ⟨pa, ca, n1, q1, m1, d1, x0, x1, x2, x3, hq, hnm, hrw, hwf⟩ := hc j hja
      have x0 := (HB.out.cell (p := ⟨b, o + j * 4, none⟩) hb).trans x0
      have x1 := (HB.out.cell (p := ⟨b, o + j * 4 + 1, none⟩) hb).trans x1
      have x2 := (HB.out.cell (p := ⟨b, o + j * 4 + 2, none⟩) hb).trans x2
      have x3 := (HB.out.cell (p := ⟨b, o + j * 4 + 3, none⟩) hb).trans x3
      have Hnx := hid (HNx.out j hja)
      have Hjl := hid (HTl.out j hja)
      have hsz8 := (HZ.out _ (List.getElem_mem hja)).1
      obtain ⟨W3, hW3⟩ : ∃ W3, W3 = wr.alloc (.cells #[.int .i64 al[j].sym, .slice pa al[j].args.length ca, .bool n1, .slice q1 m1 d1] 34) := ⟨_, rfl⟩
      have b3 : Below wr.heap.size wr W3 := by rw [hW3]; exact below1 wr _
      have e3 : W3.heap[wr.heap.size]? = some (.cells #[.int .i64 al[j].sym, .slice pa al[j].args.length ca, .bool n1, .slice q1 m1 d1] 34 (0, 0)) := by rw [hW3]; exact heap_alloc_new wr _
      have hz3w : wr.heap.size < W3.heap.size := (Array.getElem?_eq_some_iff.1 e3).1
      have HO3 := hid (HO.out.below b3)
      have HB3 := hid (tbGo b3 HB.out)
      have Hrw := hid hrw; have Hwf := hid hwf
      have hsw := HB.out.size
      have b4 : Below W3.heap.size W3 (W3.alloc (.cells #[] 32)) := below1 W3 _
      have e4 : (W3.alloc (.cells #[] 32)).heap[W3.heap.size]? = some (.cells #[] 32 (0, 0)) := heap_alloc_new W3 _
      have hb24 : Below w2.heap.size w2 (W3.alloc (.cells #[] 32)) := tbGo b4 HB3.out
      have hBg : w2.heap.size ≤ W3.heap.size := by omega
      have HB3w := hid b3
      have e34 := (b4.block wr.heap.size hz3w).trans e3
      obtain ⟨y0, y1, y2, y3⟩ := cells4 e34
      have E34 := hid e34
      have HB4 := hid b4
      have hlow := size_alloc W3 (.cells #[] 32)
      clear hc hq e3 b3 hrw hwf b4
      go_upto_region 9 with fail
      rw [← hW3]
      clear hW3 x0 x1 x2 x3
      go_upto_region 10 with (at_builtin; refine wpList_append_nums rfl _ _ rfl w2 w2.heap.size W3.heap.size rfl e4 hBg _ al[j].args rfl hnm hb24 hsz8 ?_; intro v5 w5 ho5 hb5 hz5; obtain ⟨p5, c5, rfl⟩ := ho5.shape; have e5 := (hb5.block wr.heap.size hz3w).trans e34; obtain ⟨y0, y1, y2, y3⟩ := cells4 e5; have fz := frozen_of_row w5 wr.heap.size 1 _ _ e5)
      have hnoW : NoWd w5 wr.heap.size := NoWd.cells e5 (by simp)
      obtain ⟨W6, hW6⟩ : ∃ W6, W6 = w5.setCell ⟨wr.heap.size, 1, none⟩ (.slice p5 al[j].args.length c5) := ⟨_, rfl⟩
      have e6 : W6.heap[wr.heap.size]? = some (.cells #[.int .i64 al[j].sym, .slice p5 al[j].args.length c5, .bool n1, .slice q1 m1 d1] 34 (0, 0)) := by rw [hW6]; have := heap_setCell_same w5 wr.heap.size 1 _ _ (.slice p5 al[j].args.length c5) e5; simpa using this
      have b6 : Below wr.heap.size wr W6 := by rw [hW6]; exact ((HB3w.out.trans ((HB4.out.mono (by omega)).trans (hb5.mono (by omega))))).setCell (p := ⟨wr.heap.size, 1, none⟩) (Nat.le_refl _) _
      have hnu6 : NumsW w2.heap.size W6 (.slice p5 al[j].args.length c5) al[j].args := by
        rw [hW6]
        refine ho5.apart (apart_set w5 wr.heap.size 1 _) (fun b e => by rw [e]; exact hnoW) (fun g hg e => ?_)
        obtain ⟨c1, t1⟩ := ho5.tag g hg
        exact tags_off t1 (by rw [show g = wr.heap.size from e]; exact e5)
      obtain ⟨xs, hr, hpu⟩ := (HO.out.below b6).push
      rw [Hjl.out] at hr hpu
      have hr4 := hr.below (below1 W6 (.cells #[.int .i64 al[j].sym, .slice p5 al[j].args.length c5, .bool n1, .slice q1 m1 d1] 34))
      have hn4 : ∀ q u, ([.int .i64 al[j].sym, .slice p5 al[j].args.length c5, .bool n1, .slice q1 m1 d1] : List Value)[q]? = some u → (W6.alloc (.cells #[.int .i64 al[j].sym, .slice p5 al[j].args.length c5, .bool n1, .slice q1 m1 d1] 34)).cell? ((⟨W6.heap.size, 0, none⟩ : Addr).add q) = some u := cellsAt (heap_alloc_new W6 _)
      have hz4 := size_alloc W6 (.cells #[.int .i64 al[j].sym, .slice p5 al[j].args.length c5, .bool n1, .slice q1 m1 d1] 34)
      have hz6 := b6.size
      obtain ⟨y0, y1, y2, y3⟩ := cells4 e6
      have HB6 := hid (tbGo b6 HB.out); have Hr := hid hr; have Hpu := hid hpu; have Hnu6 := hid hnu6
      clear e4 e5 e6 e34 b6 hnu6 hr hpu hnoW ho5 hb5 hz5 fz
      rw [← hW6]
      clear hW6
      go_wp2_with (at_builtin; refine wpList_append_w rfl _ _ 22 rfl w2.heap.size 34 ii _ 4 64 Tryd.underlying22 hii hz0 hz1 hz2 rfl (by decide) (by intro n h; simp [Value.cells] at h) _ j xs rfl hr4 ⟨W6.heap.size, 0, none⟩ 1 1 [.int .i64 al[j].sym, .slice p5 al[j].args.length c5, .bool n1, .slice q1 m1 d1] rfl rfl hn4 (by intro u hu; simp at hu; rcases hu with rfl | rfl | rfl | rfl <;> rfl) (by intro n h; simp at h) (by simp [maxLen]; omega) (by omega) (by omega) ?_; intro v7 w7 ho7 hg7)
      have hap7 := ((Apart.of_below (below1 W6 (.cells #[.int .i64 al[j].sym, .slice p5 al[j].args.length c5, .bool n1, .slice q1 m1 d1] 34)))).grown hg7 (fun k e => e)
      have hnu7 := Hnu6.out.apart hap7 (fun b e => Hr.out.2 b e) (fun g hg e => by
        obtain ⟨c1, t1⟩ := Hnu6.out.tag g hg
        obtain ⟨c2, t2⟩ := row_tag Hr.out.1 g e
        exact tags_off t1 t2)
      have HO8 : Hid (OwnSt w2 w2.heap.size w7 v7 (al.take (j + 1))) := hid (by rw [Hnx.out]; exact Hpu.out w7 v7 _ al[j] ho7 hap7 rfl ⟨_, _, _, _, _, rfl, hnu7, Hrw.out, Hwf.out⟩)
      have HB8 : Hid (Below w2.heap.size w2 w7) := hid ((tbGo (below1 W6 _) HB6.out).grown hg7 (by omega) (fun g hg => (World.ownsRow.lt hr4.1 g hg).1))
      clear hap7 hnu7 ho7 hg7 hr4 hn4 hz4
      go_roundw
      case rel => exact ⟨j + 1, by omega, by go_num, HO8, HB8⟩
      case measure => simp [intOf]; omega
    · obtain rfl : L = j := by omega
      have hO := HO.out
      rw [← Hll.out, HAll.out] at hO
      have hown := hO.in HB.out
      obtain ⟨go, cs9, V, hcell, hrows⟩ := hO.cells
      have hbw := tbGo HB.out B2.out
      obtain ⟨pq, cq, hsh⟩ := hO.shape
      rw [Hll.out] at hsh hcell
      subst hsh
      have hl1 : al.length ≤ 1000 := by have := Hll.out; omega
      have HD1 := hid (Build_ans _ _ syms al wr (Hs.out.below hbw) hown HZ.out hl1 (by have := HS.out; omega) (tab_later Htab.out hbw))
      have HD2 := hid (fun w' (hb : Below wr.heap.size wr w') => RBuild_ans w2 _ _ syms al w' (Hs.out.below B2.out) HA2.out (tbGo hb HB.out) HZ.out hl1 (by have := HS.out; omega))
      have HAs := hid (tbAns_sz (syms := syms) HZ.out)
      obtain ⟨nn, hnn⟩ : ∃ nn : Nat → Nat, nn = fun i => if h : i < al.length then al[i].args.length else 0 := ⟨_, rfl⟩
      have hrows2 : ∀ i, i < L → RowZ wr w2.heap.size wr.heap.size (V i) (nn i) := fun i hi => by
        have hi2 : i < al.length := by rw [Hll.out]; exact hi
        have h1 := hrows i hi2
        rw [hnn]
        simp only [hi2, dif_pos]
        exact h1
      have hn8 : ∀ i, i < L → nn i ≤ 8 := fun i hi => by
        have hi2 : i < al.length := by rw [Hll.out]; exact hi
        rw [hnn]
        simp only [hi2, dif_pos]
        exact (HZ.out _ (List.getElem_mem hi2)).1
      have Hrows := hid hrows2; have Hcell := hid hcell; have Hn8 := hid hn8
      have HBw := hid hbw
      have hw2r := HB.out.size
      generalize tbFault syms al = tf at *
      generalize tbAns syms al = ta at *
      clear hO hown hbw hl1 HO hrows hrows2 hcell hn8 hnn HNx HTl HAll H0 HAt
      go_wp2_with fail
      refine HD1.out.mono ?_
      rintro e w8 ⟨p8, n8, c8, rfl, ht8, -, b8⟩
      obtain ⟨W9, hW9⟩ : ∃ W9, W9 = w8.alloc (.cells #[.slice p8 n8 c8] 37) := ⟨_, rfl⟩
      have b9 : Below w8.heap.size w8 W9 := by rw [hW9]; exact below1 w8 _
      have e9 : W9.heap[w8.heap.size]? = some (.cells #[.slice p8 n8 c8] 37 (0, 0)) := by rw [hW9]; exact heap_alloc_new w8 _
      have E9 := hid e9
      have B9 := hid (tbGo b9 b8)
      have HT9 := hid (ht8.below b9)
      have HD2b := hid (HD2.out W9 B9.out)
      have hz9 : w8.heap.size < W9.heap.size := (Array.getElem?_eq_some_iff.1 e9).1
      have hz8 := b8.size
      clear b8 b9 e9 ht8 HD1 HD2
      go_upto_region 13 with fail
      rw [← hW9]
      clear hW9
      go_wp2_with fail
      refine HD2b.out.mono ?_
      rintro e w10 ⟨p10, n10, c10, rfl, ht10, -, b10⟩
      obtain ⟨W11, hW11⟩ : ∃ W11, W11 = w10.alloc (.cells #[.slice p10 n10 c10] 37) := ⟨_, rfl⟩
      have b11 : Below w10.heap.size w10 W11 := by rw [hW11]; exact below1 w10 _
      have e11 : W11.heap[w10.heap.size]? = some (.cells #[.slice p10 n10 c10] 37 (0, 0)) := by rw [hW11]; exact heap_alloc_new w10 _
      have x1 := model_box e11
      have e911 := ((tbGo b11 b10).block w8.heap.size hz9).trans E9.out
      have x0 := model_box e911
      have hz10 := b10.size
      have B11 := hid (tbGo (tbGo b11 b10) B9.out)
      have HT11 := hid (HT9.out.below (tbGo b11 b10))
      have HU11 := hid (ht10.below b11)
      have HSm := hid (SameModel_true _ _ _ _ ta W11 HT11.out HU11.out HAs.out)
      have HWs : Hid (WrSt w w2.heap.size wr.heap.size w8.heap.size w10.heap.size go cs9 L V nn p8 n8 c8 p10 n10 c10 (fun b => wr.heap.size < b) (fun b => b < w2.heap.size ∨ W9.heap.size < b) ta W11) := hid
        { own := fun h0 => (B11.out.block go (Array.getElem?_eq_some_iff.1 (Hcell.out h0).2.1).1).trans (Hcell.out h0).2.1
          rows := fun i hi => (Hrows.out i hi).below B11.out
          mods := HT11.out
          refs := HU11.out
          box1 := e911
          box2 := e11
          ge1 := hz8
          ge2 := by omega
          low := tbGo B11.out HBw.out
          geB := B2.out.size
          off1 := fun b h1 h2 h3 => by omega
          off2 := fun b h1 h2 h3 => by omega }
      clear b10 b11 e11 ht10 HD2b e911 HT11 HU11 HT9 E9 B9
      go_upto_region 14 with fail
      rw [← hW11]
      clear hW11
      go_wp2_with fail
      refine HSm.out.mono ?_
      rintro e w12 ⟨rfl, b12⟩
      have HW12 := hid (HWs.out.below b12)
      clear b12 HSm HWs x0 x1
      obtain ⟨wo, rfl⟩ : ∃ wo, wo = wr := ⟨_, rfl⟩
      have HOf := hid (fun w' => ROf_any 77 w' (by omega) (by omega))
      go_wp2_with fail
      go_loopw [63] (fun ii wr => ∃ ix : Nat, ix ≤ L ∧ ii = .int .i64 (ix : Nat) ∧ Hid (WrSt w w2.heap.size wo.heap.size w8.heap.size w10.heap.size go cs9 L V nn p8 n8 c8 p10 n10 c10 (fun b => wo.heap.size < b) (fun b => b < w2.heap.size ∨ W9.heap.size < b) ta wr)) (fun ii _ => L - (intOf ii).toNat)
      case atStart => exact ⟨0, Nat.zero_le _, rfl, HW12⟩
      case round =>
        obtain ⟨ix, hi, rfl, HWi⟩ := hrel
        by_cases hilt : ix < L
        · have hlt' : (ix : Int) < (L : Int) := by omega
          obtain ⟨⟨c0, epq, hq1, hq2⟩, -, -, hvc⟩ := Hcell.out (by omega)
          injection epq with epq _ epc
          subst epq epc
          unfold maxLen at hq2
          have hvi := hvc ix hilt
          obtain ⟨pv, cv, hsv⟩ := (HWi.out.rows ix hilt).shape
          have hM8 := Hn8.out ix hilt
          generalize hM : nn ix = M at *
          have Hvi := hid hsv
          rw [hsv] at hvi
          have Hvc := hid hvi
          have xv : wr.cell? ⟨go, ix * 4 + 1, none⟩ = some (.slice pv M cv) := by rw [cell_of_row wr go _ cs9 _ (0, 0) (HWi.out.own (by omega))]; exact hvi
          have HM := hid hM
          clear hsv hvi hvc hM
          go_wp2_with fail
          clear xv
          go_loopw [72] (fun kk wr => ∃ k : Nat, k ≤ M ∧ kk = .int .i64 (k : Nat) ∧ Hid (WrSt w w2.heap.size wo.heap.size w8.heap.size w10.heap.size go cs9 L V nn p8 n8 c8 p10 n10 c10 (fun b => wo.heap.size < b) (fun b => b < w2.heap.size ∨ W9.heap.size < b) ta wr)) (fun kk _ => M - (intOf kk).toNat)
          case atStart => exact ⟨0, Nat.zero_le _, rfl, HWi⟩
          case round =>
            obtain ⟨k, hk, rfl, HWk⟩ := hrel
            by_cases hkM : k < M
            · have hkM' : (k : Int) < (M : Int) := by omega
              have hz := HWk.out.rows ix hilt
              rw [Hvi.out, HM.out] at hz
              obtain ⟨g, ds0, epv, hcv1, hcv2, -, -, -, -, -, -⟩ := hz.at k hkM
              subst epv
              unfold maxLen at hcv2
              clear hz
              go_upto_region 22 with fail
              refine wp_region_facts (w0 := wr) 8 1 [75, 76, 77, 78, 79, 80, 81, 82] [u75, u76, u77, u78, u79, u80, u81, u82]
                (fun i => match i with | 0 => tbE (.slice (some ⟨go, 0, none⟩) L cq) | 1 => tbE (.int .i64 (ix : Nat)) | 2 => tbE (.pointer (some ⟨go, ix * 4, none⟩)) | 3 => tbE (.pointer (some ⟨go, ix * 4 + 1, none⟩)) | 4 => tbE (.slice (some ⟨g, 0, none⟩) M cv) | 5 => tbE (.int .i64 (k : Nat)) | 6 => tbN | _ => tbE (.pointer (some ⟨g, k * 2, none⟩))) [] (by kernel_rfl) (by kernel_rfl) (by kernel_rfl) (by kernel_rfl) (by decide) rfl (by kernel_rfl) rfl (by simp) ?he1 ?_ ?_ ?_
              case he1 => simp only [putAll, Act.put, List.setIfInBounds_toArray, List.set_cons_zero, List.set_cons_succ]
              · intro i hi; simp at hi
              · intro i o hi ho vs wx hvl hb hdep K hK
                have hvs := vlen8 hvl
                obtain ⟨s75, s76, s77, s78, s79, s80, s81, s82, rfl⟩ := hvs
                clear hvl
                have xv : wx.cell? ⟨go, ix * 4 + 1, none⟩ = some (.slice (some ⟨g, 0, none⟩) M cv) := by rw [cell_of_row wx go _ cs9 _ (0, 0) ((HWk.out.below hb).own (by omega))]; exact Hvc.out
                rcases i with _ | _ | _ | _ | _ | _ | _ | _ | i
                all_goals (simp only [List.getElem?_toArray, List.getElem?_cons_zero, List.getElem?_cons_succ, Option.some.injEq] at ho)
                all_goals try (subst ho)
                all_goals try simp only [putAll, Act.put, List.setIfInBounds_toArray, List.set_cons_zero, List.set_cons_succ]
                · go_simp
                  have hK' := hK.out
                  simp only [putAll, Act.put, List.setIfInBounds_toArray, List.set_cons_zero, List.set_cons_succ] at hK'
                  exact hK' _ _ rfl (Below.refl _ _) (by simp)
                · go_simp
                  have hK' := hK.out
                  simp only [putAll, Act.put, List.setIfInBounds_toArray, List.set_cons_zero, List.set_cons_succ] at hK'
                  exact hK' _ _ rfl (Below.refl _ _) (by simp)
                · have e0 : s75 = _ := hdep ⟨0, .data⟩ (by simp) rfl
                  have e0 := e0.symm
                  subst e0
                  have e1 : s76 = _ := hdep ⟨1, .data⟩ (by simp) rfl
                  have e1 := e1.symm
                  subst e1
                  go_simp
                  have hK' := hK.out
                  simp only [putAll, Act.put, List.setIfInBounds_toArray, List.set_cons_zero, List.set_cons_succ] at hK'
                  exact hK' _ _ rfl (Below.refl _ _) (by simp)
                · have e2 : s77 = _ := hdep ⟨2, .data⟩ (by simp) rfl
                  have e2 := e2.symm
                  subst e2
                  go_simp
                  have hK' := hK.out
                  simp only [putAll, Act.put, List.setIfInBounds_toArray, List.set_cons_zero, List.set_cons_succ] at hK'
                  exact hK' _ _ rfl (Below.refl _ _) (by simp)
                · have e3 : s78 = _ := hdep ⟨3, .data⟩ (by simp) rfl
                  have e3 := e3.symm
                  subst e3
                  go_simp
                  have hK' := hK.out
                  simp only [putAll, Act.put, List.setIfInBounds_toArray, List.set_cons_zero, List.set_cons_succ] at hK'
                  exact hK' _ _ rfl (Below.refl _ _) (by simp)
                · go_simp
                  have hK' := hK.out
                  simp only [putAll, Act.put, List.setIfInBounds_toArray, List.set_cons_zero, List.set_cons_succ] at hK'
                  exact hK' _ _ rfl (Below.refl _ _) (by simp)
                · go_simp
                  go_simp
                  refine (HOf.out wx).mono ?_
                  rintro e wy ⟨vy, rfl, iy, hby⟩
                  go_wp2_with fail
                  have hK' := hK.out
                  simp only [putAll, Act.put, List.setIfInBounds_toArray, List.set_cons_zero, List.set_cons_succ] at hK'
                  exact hK' _ _ iy.shp hby (by simp)
                · have e4 : s79 = _ := hdep ⟨4, .data⟩ (by simp) rfl
                  have e4 := e4.symm
                  subst e4
                  have e5 : s80 = _ := hdep ⟨5, .data⟩ (by simp) rfl
                  have e5 := e5.symm
                  subst e5
                  go_simp
                  have hK' := hK.out
                  simp only [putAll, Act.put, List.setIfInBounds_toArray, List.set_cons_zero, List.set_cons_succ] at hK'
                  exact hK' _ _ rfl (Below.refl _ _) (by simp)
                · omega
              · intro vs wx hvl hb hf hdist
                have hvs := vlen8 hvl
                obtain ⟨s75, s76, s77, s78, s79, s80, s81, s82, rfl⟩ := hvs
                have f7 : s82 = .pointer (some ⟨g, k * 2, none⟩) := hf 7 (by decide)
                have f6 : ∃ b p n c, s81 = .agg #[.bool b, .slice p n c] := hf 6 (by decide)
                obtain ⟨bz, pz, nz, cz, rfl⟩ := f6
                subst f7
                have hwx := HWk.out.below hb
                obtain ⟨g', ds, eg, -, -, hg1, hg2, hgh, hgn, ⟨y0, hy0⟩, ⟨y1, hy1⟩⟩ := (show RowZ wx w2.heap.size wo.heap.size (.slice (some ⟨g, 0, none⟩) M cv) M by have := hwx.rows ix hilt; rw [Hvi.out, HM.out] at this; exact this).at k hkM
                obtain rfl : g = g' := by injection eg with eg; injection eg
                clear eg
                have hx0 : wx.cell? ⟨g, k * 2, none⟩ = some y0 := by rw [cell_of_row wx g _ ds _ (0, 0) hgh]; exact hy0
                have hx1 : wx.cell? ⟨g, k * 2 + 1, none⟩ = some y1 := by rw [cell_of_row wx g _ ds _ (0, 0) hgh]; exact hy1
                have fz1 := frozen_of_row wx g (k * 2) ds _ hgh
                have fz2 := frozen_of_row wx g (k * 2 + 1) ds _ hgh
                have hs1 := hwx.set g (k * 2) (.bool bz) (by intro q h; cases h) hg1 hg2 hgn hgh
                obtain ⟨g', ds2, eg, -, -, -, -, hgh2, hgn2, -, -⟩ := (show RowZ (wx.setCell ⟨g, k * 2, none⟩ (.bool bz)) w2.heap.size wo.heap.size (.slice (some ⟨g, 0, none⟩) M cv) M by have := hs1.rows ix hilt; rw [Hvi.out, HM.out] at this; exact this).at k hkM
                obtain rfl : g = g' := by injection eg with eg; injection eg
                clear eg
                have HW2 := hid (hs1.set g (k * 2 + 1) (.slice pz nz cz) (by intro q h; cases h) hg1 hg2 hgn2 hgh2)
                clear hf hvl hdist hb hwx hs1 hgh hgh2 hgn hgn2 hy0 hy1
                refine wpAny_one (i := 8) (by kernel_rfl) rfl ?_
                intro K hK
                simp only [putAll, Act.put, List.setIfInBounds_toArray, List.set_cons_zero, List.set_cons_succ]
                have hK' := hK.out
                go_simp
                apply hK'
                clear hK hK' hx0 hx1 fz1 fz2
                refine wpAny_done (by kernel_rfl) ?_ _
                try simp only [Act.put, List.setIfInBounds_toArray, List.set_cons_zero, List.set_cons_succ]
                go_wp2_with fail
                go_roundw
                case rel => exact ⟨k + 1, by omega, by go_num, HW2⟩
                case measure => simp [intOf]; omega
            · obtain rfl : M = k := by omega
              go_wp2_with fail
              go_roundw
              case rel => exact ⟨ix + 1, by omega, by go_num, HWk⟩
              case measure => simp [intOf]; omega
        · obtain rfl : L = ix := by omega
          have x0 := model_box HWi.out.box1
          have x1 := model_box HWi.out.box2
          have HS2 := hid (SameModel_true _ _ _ _ ta wr HWi.out.mods HWi.out.refs HAs.out)
          have HLow := hid HWi.out.low
          go_wp2_with fail
          refine HS2.out.mono ?_
          rintro e w13 ⟨rfl, b13⟩
          have HF := hid (tbGo b13 HLow.out)
          clear b13 HS2
          go_wp2
          go_ret
          exact ⟨rfl, HF.out⟩
end Go.Proofs.YtlffiomlpkopbaaDoor
