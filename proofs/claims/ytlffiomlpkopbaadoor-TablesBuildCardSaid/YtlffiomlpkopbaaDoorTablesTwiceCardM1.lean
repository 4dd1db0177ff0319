/- Texts put together: TbSame, TbRows, TbLawTwice. -/
import Derived.Test.YtlffiomlpkopbaaDoorTablesClashCardM2
namespace Go.Proofs.YtlffiomlpkopbaaDoor
open Big

theorem tbBad_of {l : List Ap} (h : tbOk l) (j : Nat) (hj : j < l.length) : tbBad l j = false := by
  obtain ⟨h', hk⟩ := tbFirst_key hj
  rw [tbBad_at hj, tbV_at h']
  simpa using h _ _ h' hj hk
end Go.Proofs.YtlffiomlpkopbaaDoor

namespace Go.Proofs.YtlffiomlpkopbaaDoor
open Big

theorem tbFirst_twice (l : List Ap) (a : Ap) (ha : a ∈ l) : tbFirst (l ++ l) a = tbFirst l a := by
  unfold tbFirst
  rw [List.findIdx_append, if_pos (List.findIdx_lt_length_of_exists ⟨a, ha, by simp⟩)]
theorem tbBad_twice (l : List Ap) (n : Nat) (hn : n < l.length) : tbBad (l ++ l) n = tbBad l n := by
  obtain ⟨h', -⟩ := tbFirst_key hn
  rw [tbBad_at (l := l ++ l) (by simp; omega), tbBad_at hn]
  have e : (l ++ l)[n]'(by simp; omega) = l[n] := List.getElem_append_left hn
  rw [e, tbFirst_twice l _ (List.getElem_mem hn), tbV_at h', tbV_at (by simp; omega), List.getElem_append_left h']
theorem tbOk_twice {l : List Ap} (h : tbOk l) : tbOk (l ++ l) := by
  have key : ∀ i, ∀ (hi : i < (l ++ l).length), ∃ j, ∃ (hj : j < l.length), (l ++ l)[i] = l[j] := fun i hi => by
    have hm := List.getElem_mem hi
    rw [List.mem_append, or_self] at hm
    obtain ⟨j, hj, e⟩ := List.mem_iff_getElem.1 hm
    exact ⟨j, hj, e.symm⟩
  intro i j hi hj hk
  obtain ⟨x, hx, e⟩ := key i hi
  obtain ⟨y, hy, e2⟩ := key j hj
  rw [e, e2] at hk ⊢
  exact h x y hx hy hk
theorem tbClash_twice (l : List Ap) : tbClash (l ++ l) = tbClash l := by
  by_cases h : (tbClash l).2.2 = false
  · have h1 := tbOk_of (tbBad_no h)
    rw [tbClash_none (tbBad_no h), tbClash_none (fun j hj => tbBad_of (tbOk_twice h1) j hj)]
  · have hex : ∃ n, n < l.length ∧ tbBad l n = true ∧ ∀ k, k < n → tbBad l k = false := by
      refine Classical.byContradiction fun hno => ?_
      refine h ?_
      rw [tbClash_none fun j hj => ?_]
      refine Nat.strongRecOn (motive := fun j => j < l.length → tbBad l j = false) j (fun j ih hj => ?_) hj
      cases hb : tbBad l j with
      | false => rfl
      | true => exact absurd ⟨j, hj, hb, fun k hk => ih k hk (by omega)⟩ hno
    obtain ⟨n, hn, hb, hk⟩ := hex
    rw [tbClash_some hn hb hk, tbClash_some (l := l ++ l) (n := n) (by simp; omega) (by rw [tbBad_twice l n hn]; exact hb) (fun j hj => by rw [tbBad_twice l j (by omega)]; exact hk j hj)]
    rw [List.getElem_append_left hn, tbFirst_twice l _ (List.getElem_mem hn)]
theorem tbFault_twice (syms : List Sy) (l : List Ap) : tbFault syms (l ++ l) = tbFault syms l := by
  unfold tbFault
  rw [List.any_append, List.any_append, Bool.or_self, Bool.or_self, tbClash_twice]
theorem tbTab_again (l m : List Ap) (h : tbOk (l ++ m)) (hm : ∀ a ∈ m, a ∈ l) (s : Int) : tbTab (l ++ m) s = tbTab l s := by
  induction m using snoc_ind with
  | h0 => simp
  | h1 m a ih =>
    have hn : (l ++ m).length < ((l ++ m) ++ [a]).length := by simp
    have e : ((l ++ m) ++ [a])[(l ++ m).length]'hn = a := by simp
    rw [← List.append_assoc] at h ⊢
    have hok : tbOk (l ++ m) := fun x y hx hy hk => by
      have := h x y (by simp at hx ⊢; omega) (by simp at hy ⊢; omega)
      rw [List.getElem_append_left hx, List.getElem_append_left hy] at this
      exact this hk
    have ih := ih hok (fun b hb => hm b (List.mem_append_left _ hb))
    rw [tbTab_snoc]
    by_cases hs : a.sym = s
    · rw [if_pos hs, ← ih]
      have hf : tbFirst ((l ++ m) ++ [a]) a < (l ++ m).length := by
        have : a ∈ l ++ m := List.mem_append_left _ (hm a (by simp))
        obtain ⟨i, hi, hia⟩ := List.mem_iff_getElem.1 this
        refine Nat.lt_of_le_of_lt (tbFirst_min (i := i) (by simp at hi ⊢; omega) ?_) hi
        rw [List.getElem_append_left hi, hia]
      have := tbAdd_old ((l ++ m) ++ [a]) h (l ++ m).length hn (by rw [e]; exact hf)
      rw [e, List.take_left, hs] at this
      exact this
    · rw [if_neg hs, ih]
theorem tbTabs_twice (syms : List Sy) (l : List Ap) (h : tbOk l) : tbTabs syms (l ++ l) = tbTabs syms l := by
  unfold tbTabs
  refine List.map_congr_left fun s _ => ?_
  exact tbTab_again l l (tbOk_twice h) (fun a ha => ha) _
end Go.Proofs.YtlffiomlpkopbaaDoor

namespace Go.Proofs.YtlffiomlpkopbaaDoor
open Go.RowKit Big

theorem step_append_none {P : Program} {w : World} {o : Oper} {a : Act} {K : Act → World → Prop} {Q : Exit → Act → World → Prop} (s x : Operand) (t : TypeId)
    (ho : o.op = .call { callee := .builtin .append, args := #[s, x], argTypes := #[t, t] })
    (base : Nat) (e : TypeId) (i : TypeInfo) (size : Nat) (ht : P.underlying t = some (.slice e)) (hi : P.info? e = some i)
    (v : Value) (n : Nat) (xs : List Value) (hs : a.eval s = v) (hown : w.ownsRow base e size v n xs) (hx : a.eval x = .slice none 0 0)
    (h : K (a.put o.dst v) w) : Oper.wp P o a w K Q := by
  have hrun := run_append_owned_none (P := P) (w := w) base t o.type e i size ht hi v n xs hown
  unfold Oper.wp
  simp [execOp, ho, resolve, invoke, builtin, hs, hx, hrun, Result.andThen]
  exact h
end Go.Proofs.YtlffiomlpkopbaaDoor

namespace Go.Proofs.YtlffiomlpkopbaaDoor
open Go.ChangeShapes Go.WideShapes Go.ChangeAt Go.RowKit Go.Deep Go.Joins Big

theorem fieldsSym : ∃ f0 f1 f2 : Field, Tryd.prog.underlying 46 = some (.struct #[f0, f1, f2]) ∧ f0.type = 9 ∧ f1.type = 3 ∧ f2.type = 3 ∧ f0.offset = 0 ∧ f1.offset = 1 ∧ f2.offset = 2 :=
  ⟨_, _, _, Tryd.underlying46, rfl, rfl, rfl, rfl, rfl, rfl⟩
theorem cellsSymP : Tryd.prog.cellsOf 46 = 3 := by kernel_rfl
theorem cellsSP : Tryd.prog.cellsOf 9 = 1 := by kernel_rfl
section
variable {H : Type} {enc : TypeId × Value → H} {w : World} {base : Nat} {spare : Nat → Bool} {held : Bool}
set_option maxRecDepth 100000 in
theorem open_sy {fuel : Nat} {cs : List Value} {y : DataW H × List MemPlace} (h : DataW.trod enc Tryd.prog w base spare held fuel 46 cs = some y) :
    ∃ s : Sy, cs = s.cells ∧ ∃ r, y.1 = .agg (.lit (.string s.name) :: r) := by
  obtain ⟨f0, f1, f2, hs, e0, e1, e2, o0, o1, o2⟩ := fieldsSym
  obtain ⟨xs, n, rfl, rfl, hl, hlen, hf⟩ := DataW.trod_struct hs h
  rw [cellsSymP] at hl
  match cs, hl, xs, hlen with
  | [c0, c1, c2], _, [y0, y1, y2], _ =>
    have h0 := hf 0 f0 rfl
    have h1 := hf 1 f1 rfl
    have h2 := hf 2 f2 rfl
    rw [e0, o0, cellsSP] at h0
    rw [e1, o1, cellsIP] at h1
    rw [e2, o2, cellsIP] at h2
    obtain ⟨t, g0, gy, -⟩ := DataW.trod_string Tryd.underlying9 (show DataW.trod enc Tryd.prog w base spare held n 9 [c0] = some y0 from h0)
    obtain ⟨a, g1, -, -⟩ := DataW.trod_int Tryd.underlying3 (show DataW.trod enc Tryd.prog w base spare held n 3 [c1] = some y1 from h1)
    obtain ⟨s, g2, -, -⟩ := DataW.trod_int Tryd.underlying3 (show DataW.trod enc Tryd.prog w base spare held n 3 [c2] = some y2 from h2)
    injection g0 with g0 _; injection g1 with g1 _; injection g2 with g2 _
    subst g0 g1 g2
    exact ⟨⟨t.data.toList, a, s⟩, rfl, _, by rw [gy]; rfl⟩
theorem open_sys {fuel : Nat} {cs : List Value} {y : DataW H × List MemPlace} (h : DataW.trod enc Tryd.prog w base spare held fuel 27 cs = some y) : ∃ v l, cs = [v] ∧ SysIn w v l :=
  open_ls 3 Tryd.underlying27 cellsSymP (by decide) (fun _ _ _ h => by
    obtain ⟨s, hs, -⟩ := open_sy h
    exact ⟨s, hs⟩) h
set_option maxRecDepth 100000 in
theorem open_syms16 {r : Reach} {b0 : Nat} {v : Value} {d : DataW H} {p : List MemPlace} (hv : Value.okWide Tryd.prog w r b0 27 v) (h : DataW.Trod enc Tryd.prog w base spare held 27 v d p) : ∃ l, SysIn w v l := by
  obtain ⟨a, len, cap, rfl⟩ := okWide_slice Tryd.underlying27 hv
  obtain ⟨fuel, hf⟩ := h
  obtain ⟨v', l, he, h1⟩ := open_sys hf
  have hv' : v' = .slice a len cap := by simpa [Value.cells] using he.symm
  rw [hv'] at h1
  exact ⟨l, h1⟩
end
end Go.Proofs.YtlffiomlpkopbaaDoor

/- elenchusref16.SameTable, SameModel: of tables that read alike they are true. -/
namespace Go.Proofs.YtlffiomlpkopbaaDoor
open Go.RowKit Big Go.WideMaps

/-- sizes of a table's numbers -/
def TbSz (t : Tb5) : Prop := sz W t.els.natAbs ≤ 6 ∧ ∀ r ∈ t.rows, sz W r.2.natAbs ≤ 6 ∧ ∀ z ∈ r.1, sz W z.natAbs ≤ 6
theorem tbTab_sz {l : List Ap} (hz : ∀ a ∈ l, ApSz a) (s : Int) : TbSz (tbTab l s) := by
  induction l using snoc_ind with
  | h0 => exact ⟨by simp [tbTab, sz_zero], fun r hr => by simp [tbTab] at hr⟩
  | h1 l a ih =>
    have ih := ih (fun b hb => hz b (List.mem_append_left _ hb))
    have ha := hz a (by simp)
    rw [tbTab_snoc]
    split
    · unfold tbAdd
      split
      · exact ⟨ha.2.1, ih.2⟩
      · split
        · exact ih
        · refine ⟨ih.1, fun r hr => ?_⟩
          rcases List.mem_append.1 hr with hr | hr
          · exact ih.2 r hr
          · rw [List.mem_singleton.1 hr]; exact ⟨ha.2.1, ha.2.2⟩
    · exact ih
/-- a table by its parts -/
theorem TbP.parts {P : Nat → Prop} {w : World} {c : List Value} {t : Tb5} (h : TbP P w c t) : ∃ pr cr bn q m d, c = [.slice pr t.rows.length cr, .bool bn, .slice q m d] ∧ t.rows.length ≤ cr ∧ cr ≤ maxLen ∧ RawAt w (.agg #[.bool bn, .slice q m d]) t.els ∧
    (0 < t.rows.length → ∃ b o, pr = some ⟨b, o, none⟩ ∧ b < w.heap.size ∧ ∀ i (hi : i < t.rows.length), ∃ pa ca xb q' m' d', w.cell? ⟨b, o + i * 3, none⟩ = some (.slice pa t.rows[i].1.length ca) ∧ w.cell? ⟨b, o + i * 3 + 1, none⟩ = some (.bool xb) ∧ w.cell? ⟨b, o + i * 3 + 2, none⟩ = some (.slice q' m' d') ∧
      NmsIn w (.slice pa t.rows[i].1.length ca) t.rows[i].1 ∧ RawAt w (.agg #[.bool xb, .slice q' m' d']) t.rows[i].2) := by
  obtain ⟨a, n, s, rfl, hr, hv⟩ := h
  obtain ⟨_, q, m, d, e⟩ := hv.shp
  obtain rfl : s = .slice q m d := by injection e with e; simp at e; exact e.2
  clear e
  obtain ⟨pr, cr, rfl, h1, h2, -, h4⟩ := hr
  refine ⟨pr, cr, _, q, m, d, rfl, h1, h2, hv, fun hp => ?_⟩
  obtain ⟨b, o, e, hb, -, hc⟩ := h4 hp
  refine ⟨b, o, e, hb, fun i hi => ?_⟩
  obtain ⟨c, k0, a, n', s', rfl, ha, hv'⟩ := hc i hi
  obtain ⟨_, q', m', d', e⟩ := hv'.shp
  obtain rfl : s' = .slice q' m' d' := by injection e with e; simp at e; exact e.2
  have hin := ha.in
  obtain ⟨pa, ca, rfl, -⟩ := id ha
  exact ⟨pa, ca, _, q', m', d', k0 0 _ rfl, k0 1 _ rfl, k0 2 _ rfl, hin, hv'⟩

set_option maxRecDepth 100000 in
set_option maxHeartbeats 6400000 in
theorem SameTable_true (P P' : Nat → Prop) (ca cb : List Value) (t : Tb5) (w : World) (ha : TbP P w ca t) (hb : TbP P' w cb t) (hz : TbSz t) :
    Calls Tryd.prog 19 #[.agg ca.toArray, .agg cb.toArray] w (RBool true w) := by
  obtain ⟨pa, la, xa, qa, ma, da, rfl, ia1, ia2, ra, ha4⟩ := ha.parts
  obtain ⟨pb, lb, xb, qb, mb, db, rfl, ib1, ib2, rb, hb4⟩ := hb.parts
  unfold maxLen at ia2 ib2
  have HA := hid ha4; have HB := hid hb4; have Hz := hid hz
  obtain ⟨W1, hW⟩ : ∃ W1, W1 = (w.alloc (.cells #[.slice pa t.rows.length la, .bool xa, .slice qa ma da] 49)).alloc (.cells #[.slice pb t.rows.length lb, .bool xb, .slice qb mb db] 49) := ⟨_, rfl⟩
  have b0 : Below w.heap.size w W1 := by rw [hW]; exact (below1 _ _).alloc (by simp) _
  have e0 : W1.heap[w.heap.size]? = some (.cells #[.slice pa t.rows.length la, .bool xa, .slice qa ma da] 49 (0, 0)) := by rw [hW, heap_alloc_old _ _ (by simp)]; exact heap_alloc_new w _
  have e1 : W1.heap[w.heap.size + 1]? = some (.cells #[.slice pb t.rows.length lb, .bool xb, .slice qb mb db] 49 (0, 0)) := by rw [hW]; have := heap_alloc_new (w.alloc (.cells #[.slice pa t.rows.length la, .bool xa, .slice qa ma da] 49)) (.cells #[.slice pb t.rows.length lb, .bool xb, .slice qb mb db] 49); rwa [size_alloc] at this
  have hz1 : w.heap.size + 1 < W1.heap.size := (Array.getElem?_eq_some_iff.1 e1).1
  obtain ⟨y0, y1, y2⟩ := cells3 e0
  obtain ⟨z0, z1, z2⟩ := cells3 e1
  have HC := hid (RCmp_any _ _ t.els t.els W1 (ra.below b0) (rb.below b0) (Nat.le_trans hz.1 (by decide)) (Nat.le_trans hz.1 (by decide)))
  have hord : ord t.els t.els = 0 := by unfold ord; simp
  rw [hord] at HC
  have HB0 := hid b0; have Y0 := hid y0; have Z0 := hid z0
  show Calls Tryd.prog 19 #[.agg #[.slice pa t.rows.length la, .bool xa, .slice qa ma da], .agg #[.slice pb t.rows.length lb, .bool xb, .slice qb mb db]] w (RBool true w)
  obtain ⟨L, hL⟩ : ∃ L, L = t.rows.length := ⟨_, rfl⟩
  have HL := hid hL
  rw [← hL] at ia1 ib1 hW y0 z0 Y0 Z0 ⊢
  have hne : ((L : Int) != (L : Int)) = false := by simp
  have h00 : ((0 : Int) != 0) = false := rfl
  clear ha hb ha4 hb4 ra rb b0 e0 e1 hord hL hz
  go_enter Tryd.func19, Tryd.ntmps19
  go_upto_region 1 with fail
  rw [← hW]
  clear hW
  go_wp2_with fail
  refine HC.out.mono ?_
  rintro e w2 ⟨rfl, b2⟩
  have B2 := hid b2
  have Y2 := hid ((b2.cell (p := ⟨w.heap.size, 0, none⟩) (by show w.heap.size < _; omega)).trans Y0.out)
  have Z2 := hid ((b2.cell (p := ⟨w.heap.size + 1, 0, none⟩) hz1).trans Z0.out)
  have hz2 := b2.size
  clear b2 HC y0 y1 y2 z0 z1 z2
  have y0 := Y2.out
  go_wp2_with fail
  clear y0
  go_loopw [24] (fun i wr => ∃ k : Nat, k ≤ L ∧ i = .int .i64 (k : Nat) ∧ Hid (Below w2.heap.size w2 wr)) (fun i _ => L - (intOf i).toNat)
  case atStart => exact ⟨0, Nat.zero_le _, rfl, hid (Below.refl _ _)⟩
  case round =>
    obtain ⟨k, hk, rfl, HBw⟩ := hrel
    by_cases hlt : k < L
    · have hka : k < t.rows.length := by rw [← HL.out]; exact hlt
      have hlt' : (k : Int) < (L : Int) := by omega
      obtain ⟨b1, o1, rfl, hb1', hc1⟩ := HA.out (by omega)
      obtain ⟨b2', o2, rfl, hb2', hc2⟩ := HB.out (by omega)
      obtain ⟨p1, l1, n1, q1, m1, d1, x0, x1, x2, i1, r1⟩ := hc1 k hka
      obtain ⟨p2, l2, n2, q2, m2, d2, u0, u1, u2, i2, r2⟩ := hc2 k hka
      have hbw := tbGo HBw.out (tbGo B2.out HB0.out)
      have hsz := Hz.out.2 _ (List.getElem_mem hka)
      have HCmp := hid (fun W' (hw : Below wr.heap.size wr W') => RCmp_any _ _ t.rows[k].2 t.rows[k].2 W' (r1.below (tbGo hw hbw)) (r2.below (tbGo hw hbw)) (Nat.le_trans hsz.1 (by decide)) (Nat.le_trans hsz.1 (by decide)))
      have hord : ord t.rows[k].2 t.rows[k].2 = 0 := by unfold ord; simp
      rw [hord] at HCmp
      have HSm := hid (fun W' (hw : Below wr.heap.size wr W') => RSame_any (.agg #[.int .i64 0, .slice p1 t.rows[k].1.length l1, .bool false, .slice none 0 0]) (.agg #[.int .i64 0, .slice p2 t.rows[k].1.length l2, .bool false, .slice none 0 0]) ⟨0, t.rows[k].1, 0⟩ ⟨0, t.rows[k].1, 0⟩ W'
        ⟨_, rfl, p1, l1, _, _, rfl, i1.below (tbGo hw hbw), (IntAt.zero _).rawB (by simp [sz_zero]), by show (Lit.int .i64 0).wf = true; decide⟩ ⟨_, rfl, p2, l2, _, _, rfl, i2.below (tbGo hw hbw), (IntAt.zero _).rawB (by simp [sz_zero]), by show (Lit.int .i64 0).wf = true; decide⟩
        (fun z hz => Nat.le_trans (hsz.2 z hz) (by decide)) (fun z hz => Nat.le_trans (hsz.2 z hz) (by decide)))
      rw [show decide ((⟨0, t.rows[k].1, 0⟩ : Ap).key = (⟨0, t.rows[k].1, 0⟩ : Ap).key) = true by simp] at HSm
      have HSS : Hid (∀ w', Below wr.heap.size wr w' → w'.cell? ⟨w.heap.size, 0, none⟩ = some (.slice (some ⟨b1, o1, none⟩) L la) ∧ w'.cell? ⟨w.heap.size + 1, 0, none⟩ = some (.slice (some ⟨b2', o2, none⟩) L lb) ∧ w'.cell? ⟨b1, o1 + k * 3, none⟩ = some (.slice p1 t.rows[k].1.length l1) ∧ w'.cell? ⟨b1, o1 + k * 3 + 1, none⟩ = some (.bool n1) ∧ w'.cell? ⟨b1, o1 + k * 3 + 2, none⟩ = some (.slice q1 m1 d1) ∧ w'.cell? ⟨b2', o2 + k * 3, none⟩ = some (.slice p2 t.rows[k].1.length l2) ∧ w'.cell? ⟨b2', o2 + k * 3 + 1, none⟩ = some (.bool n2) ∧ w'.cell? ⟨b2', o2 + k * 3 + 2, none⟩ = some (.slice q2 m2 d2) ∧ Below wr.heap.size wr w') := hid fun w' hw => by
        have h0 := tbGo hw HBw.out
        have h1 := tbGo hw hbw
        exact ⟨(h0.cell (p := ⟨w.heap.size, 0, none⟩) (by show w.heap.size < _; omega)).trans Y2.out, (h0.cell (p := ⟨w.heap.size + 1, 0, none⟩) (by show w.heap.size + 1 < _; omega)).trans Z2.out, (h1.cell (p := ⟨b1, o1 + k * 3, none⟩) hb1').trans x0, (h1.cell (p := ⟨b1, o1 + k * 3 + 1, none⟩) hb1').trans x1, (h1.cell (p := ⟨b1, o1 + k * 3 + 2, none⟩) hb1').trans x2, (h1.cell (p := ⟨b2', o2 + k * 3, none⟩) hb2').trans u0, (h1.cell (p := ⟨b2', o2 + k * 3 + 1, none⟩) hb2').trans u1, (h1.cell (p := ⟨b2', o2 + k * 3 + 2, none⟩) hb2').trans u2, hw⟩
      generalize t.rows[k].1.length = na at *
      clear hc1 hc2 i1 i2 r1 r2 x0 x1 x2 u0 u1 u2 hbw hsz hord
      go_upto_region 6 with fail
      go_region_held3 (fun w' => w'.cell? ⟨w.heap.size, 0, none⟩ = some (.slice (some ⟨b1, o1, none⟩) L la) ∧ w'.cell? ⟨w.heap.size + 1, 0, none⟩ = some (.slice (some ⟨b2', o2, none⟩) L lb) ∧ w'.cell? ⟨b1, o1 + k * 3, none⟩ = some (.slice p1 na l1) ∧ w'.cell? ⟨b1, o1 + k * 3 + 1, none⟩ = some (.bool n1) ∧ w'.cell? ⟨b1, o1 + k * 3 + 2, none⟩ = some (.slice q1 m1 d1) ∧ w'.cell? ⟨b2', o2 + k * 3, none⟩ = some (.slice p2 na l2) ∧ w'.cell? ⟨b2', o2 + k * 3 + 1, none⟩ = some (.bool n2) ∧ w'.cell? ⟨b2', o2 + k * 3 + 2, none⟩ = some (.slice q2 m2 d2) ∧ Below wr.heap.size wr w')
        (first | exact HSS.out _ (Below.drew (Below.refl _ _)) | (refine HSS.out _ (tbGo hb1 ?_); go_split_ands; assumption))
        (first | (go_at_call 18; (with_reducible refine (HCmp.out _ (by go_split_ands; assumption)).mono ?_); rintro e w1 ⟨rfl, hb1⟩) | (go_at_call 24; (with_reducible refine (HSm.out _ (by go_split_ands; assumption)).mono ?_); rintro e w1 ⟨rfl, hb1⟩))
      go_split_ands
      have HBb := hid (show Below wr.heap.size wr w1 by assumption)
      go_wp2_with fail
      go_roundw
      case rel => exact ⟨k + 1, by omega, by go_num, hid (tbGo HBb.out HBw.out)⟩
      case measure => simp [intOf]; omega
    · obtain rfl : k = L := by omega
      have HBf := hid (tbGo HBw.out (tbGo B2.out HB0.out))
      go_wp2
      go_ret
      exact ⟨rfl, HBf.out⟩
set_option maxRecDepth 100000 in
set_option maxHeartbeats 6400000 in
theorem SameModel_true (P P' : Nat → Prop) (va vb : Value) (ts : List Tb5) (w : World) (ha : TbsP P w va ts) (hb : TbsP P' w vb ts) (hz : ∀ t ∈ ts, TbSz t) :
    Calls Tryd.prog 14 #[.agg #[va], .agg #[vb]] w (RBool true w) := by
  obtain ⟨pa, la, rfl, ia1, ia2, -, ha4⟩ := ha
  obtain ⟨pb, lb, rfl, ib1, ib2, -, hb4⟩ := hb
  unfold maxLen at ia2 ib2
  have HA := hid ha4; have HB := hid hb4; have Hz := hid hz
  obtain ⟨W1, hW⟩ : ∃ W1, W1 = (w.alloc (.cells #[.slice pa ts.length la] 37)).alloc (.cells #[.slice pb ts.length lb] 37) := ⟨_, rfl⟩
  have b0 : Below w.heap.size w W1 := by rw [hW]; exact (below1 _ _).alloc (by simp) _
  have e0 : W1.heap[w.heap.size]? = some (.cells #[.slice pa ts.length la] 37 (0, 0)) := by rw [hW, heap_alloc_old _ _ (by simp)]; exact heap_alloc_new w _
  have e1 : W1.heap[w.heap.size + 1]? = some (.cells #[.slice pb ts.length lb] 37 (0, 0)) := by rw [hW]; have := heap_alloc_new (w.alloc (.cells #[.slice pa ts.length la] 37)) (.cells #[.slice pb ts.length lb] 37); rwa [size_alloc] at this
  have hz1 : w.heap.size + 1 < W1.heap.size := (Array.getElem?_eq_some_iff.1 e1).1
  have y0 : W1.cell? ⟨w.heap.size, 0, none⟩ = some (.slice pa ts.length la) := by rw [cell_of_row W1 _ 0 _ _ (0, 0) e0]; rfl
  have z0 : W1.cell? ⟨w.heap.size + 1, 0, none⟩ = some (.slice pb ts.length lb) := by rw [cell_of_row W1 _ 0 _ _ (0, 0) e1]; rfl
  have HB0 := hid b0; have Y0 := hid y0; have Z0 := hid z0
  obtain ⟨L, hL⟩ : ∃ L, L = ts.length := ⟨_, rfl⟩
  have HL := hid hL
  rw [← hL] at ia1 ib1 hW y0 z0 Y0 Z0 ⊢
  have hne : ((L : Int) != (L : Int)) = false := by simp
  clear ha4 hb4 b0 e0 e1 hL hz
  go_enter Tryd.func14, Tryd.ntmps14
  go_upto_region 1 with fail
  rw [← hW]
  clear hW
  go_wp2_with fail
  clear y0 z0
  go_loopw [16] (fun i wr => ∃ k : Nat, k ≤ L ∧ i = .int .i64 (k : Nat) ∧ Hid (Below W1.heap.size W1 wr)) (fun i _ => L - (intOf i).toNat)
  case atStart => exact ⟨0, Nat.zero_le _, rfl, hid (Below.refl _ _)⟩
  case round =>
    obtain ⟨k, hk, rfl, HBw⟩ := hrel
    by_cases hlt : k < L
    · have hka : k < ts.length := by rw [← HL.out]; exact hlt
      have hlt' : (k : Int) < (L : Int) := by omega
      obtain ⟨b1, o1, rfl, hb1', -, hc1⟩ := HA.out (by omega)
      obtain ⟨b2', o2, rfl, hb2', -, hc2⟩ := HB.out (by omega)
      obtain ⟨ca, ka, ta⟩ := hc1 k hka
      obtain ⟨cb, kb, tb⟩ := hc2 k hka
      have hta := ta.parts
      obtain ⟨p1, l1, n1, q1, m1, d1, rfl, -⟩ := hta
      have htb := tb.parts
      obtain ⟨p2, l2, n2, q2, m2, d2, rfl, -⟩ := htb
      have hbw := tbGo HBw.out HB0.out
      have hsz := Hz.out _ (List.getElem_mem hka)
      have HSm := hid (fun W' (hw : Below wr.heap.size wr W') => SameTable_true P P' _ _ ts[k] W' (ta.apart (S := fun _ => False) (Apart.of_below (tbGo hw hbw)) (fun _ _ h => h) (fun _ h => h.elim)) (tb.apart (S := fun _ => False) (Apart.of_below (tbGo hw hbw)) (fun _ _ h => h) (fun _ h => h.elim)) hsz)
      have HSS : Hid (∀ w', Below wr.heap.size wr w' → w'.cell? ⟨w.heap.size, 0, none⟩ = some (.slice (some ⟨b1, o1, none⟩) L la) ∧ w'.cell? ⟨w.heap.size + 1, 0, none⟩ = some (.slice (some ⟨b2', o2, none⟩) L lb) ∧ w'.cell? ⟨b1, o1 + k * 3, none⟩ = some (.slice p1 ts[k].rows.length l1) ∧ w'.cell? ⟨b1, o1 + k * 3 + 1, none⟩ = some (.bool n1) ∧ w'.cell? ⟨b1, o1 + k * 3 + 2, none⟩ = some (.slice q1 m1 d1) ∧ w'.cell? ⟨b2', o2 + k * 3, none⟩ = some (.slice p2 ts[k].rows.length l2) ∧ w'.cell? ⟨b2', o2 + k * 3 + 1, none⟩ = some (.bool n2) ∧ w'.cell? ⟨b2', o2 + k * 3 + 2, none⟩ = some (.slice q2 m2 d2) ∧ Below wr.heap.size wr w') := hid fun w' hw => by
        have h0 := tbGo hw HBw.out
        have h1 := tbGo hw hbw
        exact ⟨(h0.cell (p := ⟨w.heap.size, 0, none⟩) (by show w.heap.size < _; omega)).trans Y0.out, (h0.cell (p := ⟨w.heap.size + 1, 0, none⟩) hz1).trans Z0.out, (h1.cell (p := ⟨b1, o1 + k * 3, none⟩) hb1').trans (ka 0 _ rfl), (h1.cell (p := ⟨b1, o1 + k * 3 + 1, none⟩) hb1').trans (ka 1 _ rfl), (h1.cell (p := ⟨b1, o1 + k * 3 + 2, none⟩) hb1').trans (ka 2 _ rfl), (h1.cell (p := ⟨b2', o2 + k * 3, none⟩) hb2').trans (kb 0 _ rfl), (h1.cell (p := ⟨b2', o2 + k * 3 + 1, none⟩) hb2').trans (kb 1 _ rfl), (h1.cell (p := ⟨b2', o2 + k * 3 + 2, none⟩) hb2').trans (kb 2 _ rfl), hw⟩
      generalize ts[k].rows.length = na at *
      clear hc1 hc2 ta tb ka kb hbw hsz
      go_upto_region 6 with fail
      go_region_held3 (fun w' => w'.cell? ⟨w.heap.size, 0, none⟩ = some (.slice (some ⟨b1, o1, none⟩) L la) ∧ w'.cell? ⟨w.heap.size + 1, 0, none⟩ = some (.slice (some ⟨b2', o2, none⟩) L lb) ∧ w'.cell? ⟨b1, o1 + k * 3, none⟩ = some (.slice p1 na l1) ∧ w'.cell? ⟨b1, o1 + k * 3 + 1, none⟩ = some (.bool n1) ∧ w'.cell? ⟨b1, o1 + k * 3 + 2, none⟩ = some (.slice q1 m1 d1) ∧ w'.cell? ⟨b2', o2 + k * 3, none⟩ = some (.slice p2 na l2) ∧ w'.cell? ⟨b2', o2 + k * 3 + 1, none⟩ = some (.bool n2) ∧ w'.cell? ⟨b2', o2 + k * 3 + 2, none⟩ = some (.slice q2 m2 d2) ∧ Below wr.heap.size wr w')
        (first | exact HSS.out _ (Below.drew (Below.refl _ _)) | (refine HSS.out _ (tbGo hb1 ?_); go_split_ands; assumption))
        (first | (go_at_call 19; (with_reducible refine (HSm.out _ (by go_split_ands; assumption)).mono ?_); rintro e w1 ⟨rfl, hb1⟩))
      go_split_ands
      have HBb := hid (show Below wr.heap.size wr w1 by assumption)
      go_wp2_with fail
      go_roundw
      case rel => exact ⟨k + 1, by omega, by go_num, hid (tbGo HBb.out HBw.out)⟩
      case measure => simp [intOf]; omega
    · obtain rfl : k = L := by omega
      have HBf := hid (tbGo HBw.out HB0.out)
      go_wp2
      go_ret
      exact ⟨rfl, HBf.out⟩
theorem tbTabs_sz {syms : List Sy} {l : List Ap} (hz : ∀ a ∈ l, ApSz a) : ∀ t ∈ tbTabs syms l, TbSz t := by
  intro t ht
  unfold tbTabs at ht
  obtain ⟨s, -, rfl⟩ := List.mem_map.1 ht
  exact tbTab_sz hz _
end Go.Proofs.YtlffiomlpkopbaaDoor
/- What is said, put into rows of one's own. -/
namespace Go.Proofs.YtlffiomlpkopbaaDoor
open Go.RowKit Big Go.WideMaps

theorem infoApp16 : (Tryd.prog.info? 34).map (fun i => (i.zero, i.size, i.bytes)) = some (some (.agg #[.int .i64 0, .slice none 0 0, .bool false, .slice none 0 0]), 4, 64) := by kernel_rfl
theorem ApQ.four {w : World} {c : List Value} {a : Ap} (h : ApQ w c a) : c.length = 4 ∧ ∀ u ∈ c, u.oneCell' = true := by
  obtain ⟨pa, ca, n, s, rfl, h1, h2, h3⟩ := h
  obtain ⟨_, q, m, d, e⟩ := h2.shp
  obtain rfl : s = .slice q m d := by injection e with e; simp at e; exact e.2
  refine ⟨rfl, fun u hu => ?_⟩
  simp at hu
  rcases hu with rfl | rfl | rfl | rfl <;> rfl
theorem ApsIn.css {w : World} {ad : Addr} {n c : Nat} {l : List Ap} (h : ApsIn w (.slice (some ad) n c) l) : ∃ css : List (List Value), css.length = l.length ∧ (∀ c ∈ css, c.length = 4) ∧ (∀ j u, css.flatten[j]? = some u → w.cell? (ad.add j) = some u) ∧ (∀ u ∈ css.flatten, u.oneCell' = true) ∧ ∀ i (hi : i < l.length) (hi' : i < css.length), ApQ w css[i] l[i] := by
  obtain ⟨-, -, -, -, h4⟩ := h.cells
  by_cases h0 : 0 < l.length
  · obtain ⟨b, o, e, hb, hc⟩ := h4 h0
    injection e with e
    subst e
    have hone : ∀ i : Fin l.length, ∃ c : List Value, (∀ j u, c[j]? = some u → w.cell? ⟨b, o + i.1 * 4 + j, none⟩ = some u) ∧ ApQ w c l[i.1] := fun i => hc i.1 i.2
    obtain ⟨f, hf⟩ := Classical.axiomOfChoice hone
    have hl4 : ∀ c ∈ List.ofFn f, c.length = 4 := fun c hcm => by
      obtain ⟨i, rfl⟩ := (List.mem_ofFn.1 hcm)
      exact (hf i).2.four.1
    refine ⟨List.ofFn f, by simp, hl4, fun j u hj => ?_, fun u hu => ?_, fun i hi hi' => by rw [List.getElem_ofFn]; exact (hf ⟨i, hi⟩).2⟩
    · have hjl := (List.getElem?_eq_some_iff.1 hj).1
      have hfl : (List.ofFn f).flatten.length = l.length * 4 := by
        have : ∀ css : List (List Value), (∀ c ∈ css, c.length = 4) → css.flatten.length = css.length * 4 := by
          intro css hcs
          induction css with
          | nil => rfl
          | cons c css ih =>
            rw [List.flatten_cons, List.length_append, ih (fun d hd => hcs d (List.mem_cons_of_mem _ hd)), hcs c (by simp), List.length_cons]
            omega
        rw [this _ hl4]; simp
      have hi : j / 4 < l.length := by rw [hfl] at hjl; omega
      have hm : j % 4 < (f ⟨j / 4, hi⟩).length := by rw [(hf ⟨j / 4, hi⟩).2.four.1]; omega
      have h5 := flatten_at hl4 (j / 4) (by simpa using hi) (j % 4) ((f ⟨j / 4, hi⟩)[j % 4]) (by rw [List.getElem_ofFn]; exact List.getElem?_eq_getElem hm)
      have e : j / 4 * 4 + j % 4 = j := by omega
      rw [e, hj] at h5
      injection h5 with h5
      have h6 := (hf ⟨j / 4, hi⟩).1 (j % 4) _ (List.getElem?_eq_getElem hm)
      rw [Go.WideShapes.add_plain, h5, ← h6]
      congr 2
      show o + j = o + j / 4 * 4 + j % 4
      omega
    · obtain ⟨c, hcm, hu⟩ := List.mem_flatten.1 hu
      obtain ⟨i, rfl⟩ := List.mem_ofFn.1 hcm
      exact (hf i).2.four.2 u hu
  · have : l = [] := List.eq_nil_of_length_eq_zero (by omega)
    subst this
    exact ⟨[], rfl, by simp, by simp, by simp, fun i hi => absurd hi (by simp)⟩
/-- what is said, in a row of one's own; its numbers in memory as it was in W0 -/
def OwnAps (W0 : World) (B : Nat) (w : World) (v : Value) (l : List Ap) : Prop :=
  ∃ css : List (List Value), css.length = l.length ∧ w.ownsRow B 34 4 v l.length css.flatten ∧ (∀ c ∈ css, c.length = 4) ∧ ∀ i (h : i < l.length) (h' : i < css.length), ApQ W0 css[i] l[i]
theorem OwnAps.nil (W0 : World) (B : Nat) (w : World) : OwnAps W0 B w (.slice none 0 0) [] := ⟨[], rfl, World.ownsRow_nil w B _ _, nofun, fun i h => absurd h (by simp)⟩
theorem OwnAps.in {W0 : World} {B : Nat} {w : World} {v : Value} {l : List Ap} (h : OwnAps W0 B w v l) (hb : Below W0.heap.size W0 w) : ApsIn w v l := by
  obtain ⟨css, h1, h2, h3, h4⟩ := h
  exact OwnLs.in (e := 34) (B := B) ⟨css, h1, h2, h3, fun i hi hi' => (h4 i hi hi').below hb⟩
theorem OwnAps.below {W0 : World} {B : Nat} {w w' : World} {v : Value} {l : List Ap} (h : OwnAps W0 B w v l) (hb : Below w.heap.size w w') : OwnAps W0 B w' v l := by
  obtain ⟨css, h1, h2, r⟩ := h
  exact ⟨css, h1, ownsRow_later h2 hb, r⟩
theorem OwnAps.shape {W0 : World} {B : Nat} {w : World} {v : Value} {l : List Ap} (h : OwnAps W0 B w v l) : ∃ p c, v = .slice p l.length c := by
  obtain ⟨css, h1, h2, r⟩ := h
  exact ownsRow_shape h2
theorem OwnAps.join {W0 : World} {B : Nat} {w : World} {v : Value} {l : List Ap} (h : OwnAps W0 B w v l) : ∃ xs, w.ownsRow B 34 4 v l.length xs ∧ ∀ w' v' (css : List (List Value)) (m : List Ap), w'.ownsRow B 34 4 v' (l.length + m.length) (xs ++ css.flatten) → css.length = m.length → (∀ c ∈ css, c.length = 4) → (∀ i (h : i < m.length) (h' : i < css.length), ApQ W0 css[i] m[i]) → OwnAps W0 B w' v' (l ++ m) := by
  obtain ⟨css, h1, h2, h3, h4⟩ := h
  refine ⟨css.flatten, h2, fun w' v' css' m hr hl hc hq => ⟨css ++ css', by simp [h1, hl], by simpa using hr, fun c hcm => ?_, fun i hi hi' => ?_⟩⟩
  · rcases List.mem_append.1 hcm with hcm | hcm
    · exact h3 c hcm
    · exact hc c hcm
  · by_cases hlt : i < l.length
    · rw [List.getElem_append_left hlt, List.getElem_append_left (by omega)]
      exact h4 i hlt (by omega)
    · rw [List.getElem_append_right (by omega), List.getElem_append_right (by omega)]
      simp only [h1]
      exact hq (i - l.length) (by simp at hi; omega) (by simp at hi; omega)
theorem wpList_append_aps {w : World} {ops : Array Oper} {rest : List Oper} {o : Oper} {a : Act} {Q : Exit → Act → World → Prop} (hgd : o.guard = none) (s x : Operand)
    (ho : o.op = .call { callee := .builtin .append, args := #[s, x], argTypes := #[22, 22] })
    (W0 : World) (B : Nat) (v : Value) (l : List Ap) (hs : a.eval s = v) (hown : OwnAps W0 B w v l) (vx : Value) (m : List Ap) (hx : a.eval x = vx) (hin : ApsIn W0 vx m) (hb : Below W0.heap.size W0 w) (hlen : l.length + m.length ≤ 1000) (hB : B ≤ w.heap.size) (hW : W0.heap.size ≤ B)
    (h : ∀ v' w', OwnAps W0 B w' v' (l ++ m) → Below B w w' → w.heap.size ≤ w'.heap.size → wpList Tryd.prog ops Q rest (a.put o.dst v') w') : wpList Tryd.prog ops Q (o :: rest) a w := by
  obtain ⟨ii, hii, hz0, hz1, hz2⟩ := info_parts infoApp16
  obtain ⟨xs, hr, hj⟩ := hown.join
  obtain ⟨p, cap, rfl, h1, h2, h3, h4⟩ := id hin
  cases p with
  | none =>
    obtain rfl := h3 rfl
    obtain rfl : m = [] := List.eq_nil_of_length_eq_zero (by omega)
    refine wpList_plain hgd fun K' hK' => ?_
    exact step_append_none s x 22 ho B 34 ii 4 Tryd.underlying22 hii v l.length xs hs hr hx (hK' _ _ (h _ _ (by rw [List.append_nil]; exact hown) (Below.refl _ _) (Nat.le_refl _)))
  | some ad =>
    obtain ⟨css, c1, c2, c3, c4, c5⟩ := hin.css
    have hfl : css.flatten.length = m.length * 4 := by
      rw [← c1]
      clear c1 c3 c4 c5
      induction css with
      | nil => rfl
      | cons c css ih =>
        rw [List.flatten_cons, List.length_append, ih (fun d hd => c2 d (List.mem_cons_of_mem _ hd)), c2 c (by simp), List.length_cons]
        omega
    refine wpList_append_own w hgd s x 22 ho B 34 ii _ 4 64 Tryd.underlying22 hii hz0 hz1 hz2 rfl (by decide) v l.length xs hs hr ad m.length cap css.flatten hx hfl (fun j u hju => ?_) c4 (by simp [maxLen]; omega) (by omega) hB ?_
    · have h5 := c3 j u hju
      rw [← h5]
      exact hb.cell (p := ad.add j) (World.block_lt_of_cell? W0 _ h5)
    · intro v' w' h5 h6 _
      exact h v' w' (hj w' v' css m h5 c1 c2 c5) ((Below.refl _ _).grown h6 hB (fun g hg => (World.ownsRow.lt hr g hg).1)) h6.size
end Go.Proofs.YtlffiomlpkopbaaDoor
/- elenchuslaw16.TablesTwice. -/
namespace Go.Proofs.YtlffiomlpkopbaaDoor
open Go.RowKit Big Go.WideMaps

def tbAns (syms : List Sy) (l : List Ap) : List Tb5 := if tbFault syms l = 0 then tbTabs syms l else []
theorem tbAns_twice (syms : List Sy) (l : List Ap) : tbAns syms (l ++ l) = tbAns syms l := by
  unfold tbAns
  rw [tbFault_twice]
  by_cases h : tbFault syms l = 0
  · rw [if_pos h, if_pos h, tbTabs_twice syms l (tbFault_zero h).2.2]
  · rw [if_neg h, if_neg h]
theorem tbAns_sz {syms : List Sy} {l : List Ap} (hz : ∀ a ∈ l, ApSz a) : ∀ t ∈ tbAns syms l, TbSz t := by
  unfold tbAns
  split
  · exact tbTabs_sz hz
  · simp
/-- what Build answers, with an error's empty tables told likewise -/
theorem Build_ans (vs v : Value) (syms : List Sy) (l : List Ap) (w : World) (hs : SysIn w vs syms) (h : ApsIn w v l) (hz : ∀ a ∈ l, ApSz a) (hl : l.length ≤ 1000) (hS : syms.length ≤ 100000) (htab : Tb w.heap.size w) :
    Calls Tryd.prog 12 #[vs, v] w fun e w' => ∃ p n c, e = .returned (.tuple #[.agg #[.slice p n c], .int .i64 (tbFault syms l)]) ∧ TbsP (fun b => w.heap.size < b) w' (.slice p n c) (tbAns syms l) ∧ n = (tbAns syms l).length ∧ Below w.heap.size w w' := by
  refine (Build_any vs v syms l w hs h hz hl hS htab).mono ?_
  rintro e w' ⟨p, n, c, rfl, h1, h2, h3⟩
  refine ⟨p, n, c, rfl, ?_⟩
  unfold tbAns
  by_cases h0 : tbFault syms l = 0
  · rw [if_pos h0]
    have h4 := h1 h0
    obtain ⟨_, _, e, -⟩ := id h4
    injection e with _ e _
    exact ⟨h4, e, h3⟩
  · rw [if_neg h0]
    obtain ⟨rfl, rfl, rfl⟩ := h2 h0
    exact ⟨⟨none, 0, rfl, by simp, by simp [maxLen], fun _ => rfl, fun h => absurd h (by simp)⟩, rfl, h3⟩
theorem OwnAps.empty (W0 : World) (w : World) : OwnAps W0 w.heap.size (w.alloc (.cells #[] 34)) (.slice (some ⟨w.heap.size, 0, none⟩) 0 0) [] :=
  ⟨[], rfl, ⟨rfl, .inr ⟨w.heap.size, 0, #[], rfl, Nat.le_refl _, heap_alloc_new w _, Nat.le_refl _, by simp [maxLen], rfl, rfl⟩⟩, nofun, fun i h => absurd h (by simp)⟩
theorem model_box {w : World} {g : Nat} {v : Value} (h : w.heap[g]? = some (.cells #[v] 37 (0, 0))) : w.cell? ⟨g, 0, none⟩ = some v := by rw [cell_of_row w g 0 _ _ (0, 0) h]; rfl

set_option maxRecDepth 100000 in
set_option maxHeartbeats 6400000 in
theorem lawTwice_any (vs v : Value) (syms : List Sy) (l : List Apx) (w : World) (hs : SysIn w vs syms) (h : ApxsIn w v l) (htab : Tb w.heap.size w) : Calls Tryd.prog 6 #[vs, v] w (RBool true w) := by
  have HX := hid (fixed16_any w htab)
  have HF := hid (fun w' (hb : Below w.heap.size w w') => Few16_any v l w' (h.below hb))
  have Hin := hid (fun (hf : l.length ≤ 60 ∧ ∀ x ∈ l, x.fit) => h.aps hf.2)
  have Hsz := hid (fun (hf : l.length ≤ 60 ∧ ∀ x ∈ l, x.fit) => h.sz hf.2)
  have Hlm : Hid ((l.map Apx.a).length = l.length) := hid (List.length_map ..)
  have Hs := hid hs; have Htab := hid htab
  have hsh := hs
  obtain ⟨ps, cs, rfl, is1, is2, -, -⟩ := hsh
  have hsh := h
  obtain ⟨p, cap, rfl, i1, i2, -, -⟩ := hsh
  unfold maxLen at is2 i2
  obtain ⟨S, hS⟩ : ∃ S, S = syms.length := ⟨_, rfl⟩
  obtain ⟨L, hL⟩ : ∃ L, L = l.length := ⟨_, rfl⟩
  have HS := hid hS; have HL := hid hL
  rw [← hS] at is1 Hs ⊢
  rw [← hL] at i1 HF Hin Hsz Hlm ⊢
  clear h hs htab hS hL
  go_enter Tryd.func6, Tryd.ntmps6
  go_wp2_with fail
  refine HX.out.mono ?_
  rintro e w1 ⟨rfl, b1⟩
  have B1 := hid b1
  have HFb := hid (HF.out w1 b1)
  clear b1 HX HF
  by_cases h40 : S ≤ 40
  · have hd : decide ((40 : Int) < (S : Int)) = false := by simp; omega
    go_wp2_with fail
    refine HFb.out.mono ?_
    rintro e w2 ⟨bf, rfl, hfit, b2⟩
    have B2 := hid (tbGo b2 B1.out)
    clear b2 HFb
    cases bf with
    | false =>
      clear hfit
      go_wp2
      go_ret
      exact ⟨rfl, B2.out⟩
    | true =>
      have hfit := hfit rfl
      by_cases h25 : L ≤ 25
      · have hd25 : decide ((25 : Int) < (L : Int)) = false := by simp; omega
        have hA := Hin.out hfit
        have hZ := Hsz.out hfit
        generalize l.map Apx.a = al at *
        have HA := hid hA; have HZ := hid hZ
        clear hfit Hin Hsz hA hZ
        have b3 : Below w2.heap.size w2 (w2.alloc (.cells #[] 34)) := below1 w2 _
        have ho3 := OwnAps.empty w2 w2
        have hin2 := HA.out.below B2.out
        have hll : al.length = L := Hlm.out
        have hz3 := b3.size
        have Hll := hid hll
        clear hll
        have h10 : (0 : Nat) + al.length ≤ 1000 := by have := Hll.out; omega
        have h20 : al.length + al.length ≤ 1000 := by have := Hll.out; omega
        go_upto_region 6 with (first
          | (at_builtin; (refine wpList_append_aps rfl _ _ rfl w2 w2.heap.size _ [] rfl ho3 _ al rfl hin2 b3 h10 hz3 (Nat.le_refl _) ?_; intro v4 w4 ho4 hb4 hz4; rw [List.nil_append] at ho4; have hb24 : Below w2.heap.size w2 w4 := b3.trans hb4; have hz24 := Nat.le_trans hz3 hz4; clear ho3 b3 hb4))
          | (at_builtin; (refine wpList_append_aps rfl _ _ rfl w2 w2.heap.size _ al rfl ho4 _ al rfl hin2 hb24 h20 hz24 (Nat.le_refl _) ?_; intro v5 w5 ho5 hb5 hz5)))
        have hb25 : Below w2.heap.size w2 w5 := hb24.trans hb5
        have HB5 := hid (tbGo hb25 B2.out)
        have htw : ApsIn w5 v5 (al ++ al) := ho5.in hb25
        have hzz : ∀ a ∈ al ++ al, ApSz a := fun a ha => by rw [List.mem_append, or_self] at ha; exact HZ.out a ha
        have hl2 : (al ++ al).length ≤ 1000 := by rw [List.length_append]; have := Hll.out; omega
        have hl1 : al.length ≤ 1000 := by have := Hll.out; omega
        have HC1 := hid (Clash_any _ al w5 (HA.out.below HB5.out) HZ.out hl1 (tab_later Htab.out HB5.out))
        have HC2 := hid (fun w' (hb : Below w5.heap.size w5 w') => Clash_any _ (al ++ al) w' (htw.below hb) hzz hl2 (tab_later Htab.out (tbGo hb HB5.out)))
        rw [tbClash_twice] at HC2
        have HD1 := hid (fun w' (hb : Below w5.heap.size w5 w') => Build_ans _ _ syms al w' (Hs.out.below (tbGo hb HB5.out)) (HA.out.below (tbGo hb HB5.out)) HZ.out hl1 (by have := HS.out; omega) (tab_later Htab.out (tbGo hb HB5.out)))
        have HD2 := hid (fun w' (hb : Below w5.heap.size w5 w') => Build_ans _ _ syms (al ++ al) w' (Hs.out.below (tbGo hb HB5.out)) (htw.below hb) hzz hl2 (by have := HS.out; omega) (tab_later Htab.out (tbGo hb HB5.out)))
        rw [tbFault_twice, tbAns_twice] at HD2
        have HAs := hid (tbAns_sz (syms := syms) HZ.out)
        obtain ⟨p5, c5, rfl⟩ := ho5.shape
        generalize (al ++ al).length = L2 at *
        generalize tbClash al = tc at *
        obtain ⟨t1, t2, t3⟩ := tc
        generalize tbFault syms al = tf at *
        generalize tbAns syms al = ta at *
        clear hin2 ho4 ho5 hb24 hb25 hb5 htw h10 h20 hzz hl2 hl1 HA HZ
        go_wp2_with fail
        refine HC1.out.mono ?_
        rintro e w6 ⟨rfl, b6⟩
        have B6 := hid b6
        have HC2b := hid (HC2.out w6 b6)
        clear b6 HC1 HC2
        dsimp only
        go_wp2_with fail
        refine HC2b.out.mono ?_
        rintro e w7 ⟨rfl, b7⟩
        have B7 := hid (tbGo b7 B6.out)
        have HD1b := hid (HD1.out w7 B7.out)
        clear b7 HC2b HD1
        dsimp only
        go_wp2_with fail
        refine HD1b.out.mono ?_
        rintro e w8 ⟨p8, n8, c8, rfl, ht8, -, b8⟩
        obtain ⟨W9, hW9⟩ : ∃ W9, W9 = w8.alloc (.cells #[.slice p8 n8 c8] 37) := ⟨_, rfl⟩
        have b9 : Below w8.heap.size w8 W9 := by rw [hW9]; exact below1 w8 _
        have e9 : W9.heap[w8.heap.size]? = some (.cells #[.slice p8 n8 c8] 37 (0, 0)) := by rw [hW9]; exact heap_alloc_new w8 _
        have E9 := hid e9
        have B9 := hid (tbGo b9 (tbGo b8 B7.out))
        have HT9 := hid (ht8.below b9)
        have HD2b := hid (HD2.out W9 B9.out)
        have hz9 : w8.heap.size < W9.heap.size := (Array.getElem?_eq_some_iff.1 e9).1
        clear b8 b9 e9 ht8 HD1b HD2
        go_upto_region 9 with fail
        rw [← hW9]
        clear hW9
        go_wp2_with fail
        refine HD2b.out.mono ?_
        rintro e w10 ⟨p10, n10, c10, rfl, ht10, -, b10⟩
        obtain ⟨W11, hW11⟩ : ∃ W11, W11 = w10.alloc (.cells #[.slice p10 n10 c10] 37) := ⟨_, rfl⟩
        have b11 : Below w10.heap.size w10 W11 := by rw [hW11]; exact below1 w10 _
        have e11 : W11.heap[w10.heap.size]? = some (.cells #[.slice p10 n10 c10] 37 (0, 0)) := by rw [hW11]; exact heap_alloc_new w10 _
        have x1 := model_box e11
        have x0 := model_box ((tbGo b11 b10).block w8.heap.size hz9 |>.trans E9.out)
        have B11 := hid (tbGo (tbGo b11 b10) (tbGo B9.out HB5.out))
        have HSm := hid (SameModel_true _ _ _ _ ta W11 (HT9.out.below (tbGo b11 b10)) (ht10.below b11) HAs.out)
        clear b10 b11 e11 ht10 HD2b
        go_upto_region 10 with fail
        rw [← hW11]
        clear hW11
        go_wp2_with fail
        refine HSm.out.mono ?_
        rintro e w12 ⟨rfl, b12⟩
        have B12 := hid (tbGo b12 B11.out)
        clear b12 HSm
        go_wp2
        go_ret
        exact ⟨rfl, B12.out⟩
      · have hd25 : decide ((25 : Int) < (L : Int)) = true := by simp; omega
        clear hfit
        go_wp2
        go_ret
        exact ⟨rfl, B2.out⟩
  · have hd : decide ((40 : Int) < (S : Int)) = true := by simp; omega
    clear HFb
    go_wp2
    go_ret
    exact ⟨rfl, B1.out⟩
end Go.Proofs.YtlffiomlpkopbaaDoor
