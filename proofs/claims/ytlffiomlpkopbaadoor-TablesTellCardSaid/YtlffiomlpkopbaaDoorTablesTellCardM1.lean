/- Texts put together: TbLawApart, NumsMem, TbTell, TbLawTell. -/
import Derived.Test.YtlffiomlpkopbaaDoorTablesTwiceCardM1
import Derived.Deep.RegionHeld3
import Derived.Deep.DeepCutAuto
namespace Go.Proofs.YtlffiomlpkopbaaDoor
open Big

/-- each row was said -/
theorem tbTab_said (l : List Ap) (s : Int) : ∀ r ∈ (tbTab l s).rows, ∃ a ∈ l, a.sym = s ∧ a.args = r.1 ∧ a.val = r.2 := by
  induction l using snoc_ind with
  | h0 => simp [tbTab]
  | h1 l a ih =>
    rw [tbTab_snoc]
    intro r hr
    have old : r ∈ (tbTab l s).rows → ∃ b ∈ l ++ [a], b.sym = s ∧ b.args = r.1 ∧ b.val = r.2 := fun h => by
      obtain ⟨b, hb, h⟩ := ih r h
      exact ⟨b, List.mem_append_left _ hb, h⟩
    by_cases h : a.sym = s
    · rw [if_pos h] at hr
      unfold tbAdd at hr
      by_cases h2 : a.args = []
      · rw [if_pos h2] at hr; exact old hr
      · rw [if_neg h2] at hr
        split at hr
        · exact old hr
        · rcases List.mem_append.1 hr with hr | hr
          · exact old hr
          · rw [List.mem_singleton.1 hr]; exact ⟨a, by simp, h, rfl, rfl⟩
    · rw [if_neg h] at hr; exact old hr
end Go.Proofs.YtlffiomlpkopbaaDoor

namespace Go.Proofs.YtlffiomlpkopbaaDoor
open Big

theorem tbVal_said (l : List Ap) (h : tbOk l) (a : Ap) (ha : a ∈ l) : vlVal (tbTab l a.sym) a.args = a.val := by
  obtain ⟨n, hn, rfl⟩ := List.mem_iff_getElem.1 ha
  unfold vlVal
  cases hf : vlFind (tbTab l l[n].sym).rows l[n].args with
  | none =>
    show (tbTab l l[n].sym).els = l[n].val
    refine tbTab_els l h _ n hn rfl ?_
    refine Classical.byContradiction fun hne => ?_
    have h1 := (tbTab_has l l[n].sym l[n].args).2 ⟨hne, l[n], List.getElem_mem hn, rfl, rfl⟩
    obtain ⟨r, hr, h2⟩ := List.any_eq_true.1 h1
    unfold vlFind at hf
    rw [List.findIdx?_eq_none_iff] at hf
    have := hf r hr
    have h2 := of_decide_eq_true h2
    rw [h2] at this
    simp at this
  | some i =>
    unfold vlFind at hf
    rw [List.findIdx?_eq_some_iff_getElem] at hf
    obtain ⟨hi, he, -⟩ := hf
    have he := of_decide_eq_true he
    show ((tbTab l l[n].sym).rows[i]?.map (·.2)).getD 0 = l[n].val
    rw [List.getElem?_eq_getElem hi]
    show ((tbTab l l[n].sym).rows[i]).2 = l[n].val
    obtain ⟨b, hb, h1, h2, h3⟩ := tbTab_said l l[n].sym _ (List.getElem_mem hi)
    obtain ⟨m, hm, rfl⟩ := List.mem_iff_getElem.1 hb
    rw [← h3]
    exact h m n hm hn (by unfold Ap.key; rw [h1, h2, he])
end Go.Proofs.YtlffiomlpkopbaaDoor

namespace Go.Proofs.YtlffiomlpkopbaaDoor

theorem vlen15 {vs : List Value} (h : vs.length = 15) : ∃ v0 v1 v2 v3 v4 v5 v6 v7 v8 v9 v10 v11 v12 v13 v14, vs = [v0, v1, v2, v3, v4, v5, v6, v7, v8, v9, v10, v11, v12, v13, v14] := by
  match vs, h with
  | [v0, v1, v2, v3, v4, v5, v6, v7, v8, v9, v10, v11, v12, v13, v14], _ => exact ⟨v0, v1, v2, v3, v4, v5, v6, v7, v8, v9, v10, v11, v12, v13, v14, rfl⟩
end Go.Proofs.YtlffiomlpkopbaaDoor

/- elenchuslaw16.TablesApart. -/
namespace Go.Proofs.YtlffiomlpkopbaaDoor
open Go.RowKit Big Go.WideMaps

theorem tabs_at {syms : List Sy} {l : List Ap} {k : Nat} (h : k < syms.length) : ∃ h' : k < (tbTabs syms l).length, (tbTabs syms l)[k] = tbTab l (k : Nat) := by
  refine ⟨by unfold tbTabs; simpa using h, by unfold tbTabs; simp⟩
theorem tabs_len (syms : List Sy) (l : List Ap) : (tbTabs syms l).length = syms.length := by unfold tbTabs; simp
end Go.Proofs.YtlffiomlpkopbaaDoor
/- Numbers, rows and tables that are handed in, or that a call has made: how they read. -/
namespace Go.Proofs.YtlffiomlpkopbaaDoor
open Go.RowKit Big Go.WideMaps

/-- a slice that reads as a list of numbers -/
def NumsIn (w : World) (v : Value) (l : List Int) : Prop :=
  ∃ p cap, v = .slice p l.length cap ∧ l.length ≤ cap ∧ cap ≤ maxLen ∧ (p = none → cap = 0) ∧
    (0 < l.length → ∃ b off, p = some ⟨b, off, none⟩ ∧ b < w.heap.size ∧ ∀ i (h : i < l.length), ∃ n s, w.cell? ⟨b, off + i * 2, none⟩ = some (.bool n) ∧ w.cell? ⟨b, off + i * 2 + 1, none⟩ = some s ∧ RawAt w (.agg #[.bool n, s]) l[i])
theorem NumsIn.nil (w : World) : NumsIn w (.slice none 0 0) [] := ⟨none, 0, rfl, by simp, by simp [maxLen], fun _ => rfl, fun h => absurd h (by simp)⟩
theorem NumsIn.below {w w' : World} {v : Value} {l : List Int} (h : NumsIn w v l) (hb : Below w.heap.size w w') : NumsIn w' v l := by
  obtain ⟨p, cap, hv, h1, h2, h3, h4⟩ := h
  refine ⟨p, cap, hv, h1, h2, h3, fun hp => ?_⟩
  obtain ⟨b, off, h5, h6, h7⟩ := h4 hp
  refine ⟨b, off, h5, Nat.lt_of_lt_of_le h6 hb.size, fun i hi => ?_⟩
  obtain ⟨n, s, k1, k2, k3⟩ := h7 i hi
  exact ⟨n, s, (hb.cell (p := ⟨b, off + i * 2, none⟩) h6).trans k1, (hb.cell (p := ⟨b, off + i * 2 + 1, none⟩) h6).trans k2, k3.below hb⟩
/-- a row of a table, by its cells -/
def RowIs (w : World) (a : Value) (n : Bool) (s : Value) (x : List Int × Int) : Prop := NumsIn w a x.1 ∧ RawAt w (.agg #[.bool n, s]) x.2
def RowsIn (w : World) (v : Value) (l : List (List Int × Int)) : Prop :=
  ∃ p cap, v = .slice p l.length cap ∧ l.length ≤ cap ∧ cap ≤ maxLen ∧ (p = none → cap = 0) ∧
    (0 < l.length → ∃ b off, p = some ⟨b, off, none⟩ ∧ b < w.heap.size ∧ ∀ i (h : i < l.length), ∃ a n s, w.cell? ⟨b, off + i * 3, none⟩ = some a ∧ w.cell? ⟨b, off + i * 3 + 1, none⟩ = some (.bool n) ∧ w.cell? ⟨b, off + i * 3 + 2, none⟩ = some s ∧ RowIs w a n s l[i])
theorem RowsIn.below {w w' : World} {v : Value} {l : List (List Int × Int)} (h : RowsIn w v l) (hb : Below w.heap.size w w') : RowsIn w' v l := by
  obtain ⟨p, cap, hv, h1, h2, h3, h4⟩ := h
  refine ⟨p, cap, hv, h1, h2, h3, fun hp => ?_⟩
  obtain ⟨b, off, h5, h6, h7⟩ := h4 hp
  refine ⟨b, off, h5, Nat.lt_of_lt_of_le h6 hb.size, fun i hi => ?_⟩
  obtain ⟨a, n, s, k1, k2, k3, k4, k5⟩ := h7 i hi
  exact ⟨a, n, s, (hb.cell (p := ⟨b, off + i * 3, none⟩) h6).trans k1, (hb.cell (p := ⟨b, off + i * 3 + 1, none⟩) h6).trans k2, (hb.cell (p := ⟨b, off + i * 3 + 2, none⟩) h6).trans k3, k4.below hb, k5.below hb⟩
/-- a table by its three values -/
def TabIs (w : World) (a : Value) (n : Bool) (s : Value) (t : Tb5) : Prop := RowsIn w a t.rows ∧ RawAt w (.agg #[.bool n, s]) t.els
theorem TabIs.below {w w' : World} {a s : Value} {n : Bool} {t : Tb5} (h : TabIs w a n s t) (hb : Below w.heap.size w w') : TabIs w' a n s t := ⟨h.1.below hb, h.2.below hb⟩
/-- a row of tables -/
def TabsIn (w : World) (v : Value) (l : List Tb5) : Prop :=
  ∃ p cap, v = .slice p l.length cap ∧ l.length ≤ cap ∧ cap ≤ maxLen ∧ (p = none → cap = 0) ∧
    (0 < l.length → ∃ b off, p = some ⟨b, off, none⟩ ∧ b < w.heap.size ∧ ∀ i (h : i < l.length), ∃ a n s, w.cell? ⟨b, off + i * 3, none⟩ = some a ∧ w.cell? ⟨b, off + i * 3 + 1, none⟩ = some (.bool n) ∧ w.cell? ⟨b, off + i * 3 + 2, none⟩ = some s ∧ TabIs w a n s l[i])
theorem TabsIn.below {w w' : World} {v : Value} {l : List Tb5} (h : TabsIn w v l) (hb : Below w.heap.size w w') : TabsIn w' v l := by
  obtain ⟨p, cap, hv, h1, h2, h3, h4⟩ := h
  refine ⟨p, cap, hv, h1, h2, h3, fun hp => ?_⟩
  obtain ⟨b, off, h5, h6, h7⟩ := h4 hp
  refine ⟨b, off, h5, Nat.lt_of_lt_of_le h6 hb.size, fun i hi => ?_⟩
  obtain ⟨a, n, s, k1, k2, k3, k4⟩ := h7 i hi
  exact ⟨a, n, s, (hb.cell (p := ⟨b, off + i * 3, none⟩) h6).trans k1, (hb.cell (p := ⟨b, off + i * 3 + 1, none⟩) h6).trans k2, (hb.cell (p := ⟨b, off + i * 3 + 2, none⟩) h6).trans k3, k4.below hb⟩
theorem RawAt.shape {w : World} {n : Bool} {s : Value} {z : Int} (h : RawAt w (.agg #[.bool n, s]) z) : ∃ p k c, s = .slice p k c := by
  obtain ⟨neg, s', l, e, ha, -⟩ := h
  injection e with e
  have e2 : s = s' := by
    have := congrArg (fun a => a[1]?) e
    simpa using this
  obtain ⟨p, cap, hv, -⟩ := ha
  exact ⟨p, _, cap, e2.trans hv⟩
end Go.Proofs.YtlffiomlpkopbaaDoor
/- elenchusref05.Tell, at a seat without value. Made by gen_tbtell.py. -/
namespace Go.Proofs.YtlffiomlpkopbaaDoor
open Go.RowKit Big Go.WideMaps

theorem alloc_keep {w : World} {o : Obj} {g : Nat} {x : Obj} (h : w.heap[g]? = some x) : (w.alloc o).heap[g]? = some x :=
  ((below1 w o).block g (Array.getElem?_eq_some_iff.1 h).1).trans h
theorem alloc_at (w : World) (o : Obj) (g : Nat) (h : w.heap.size = g) : (w.alloc o).heap[g]? = some o := by subst h; exact heap_alloc_new w o
theorem bel_go {u w w' : World} (hb : Below w.heap.size w w') (h : Below u.heap.size u w) : Below u.heap.size u w' := h.trans (hb.mono h.size)
theorem rec3_cells {w : World} {g : Nat} {a b c : Value} {t : TypeId} (h : w.heap[g]? = some (.cells #[a, b, c] t (0, 0))) : w.cell? ⟨g, 0, none⟩ = some a ∧ w.cell? ⟨g, 1, none⟩ = some b ∧ w.cell? ⟨g, 2, none⟩ = some c := by
  simp [World.cell?, h]
theorem vlVal_cons (x : List Int × Int) (r : List (List Int × Int)) (e : Int) (args : List Int) : vlVal ⟨x :: r, e⟩ args = if args = x.1 then x.2 else vlVal ⟨r, e⟩ args := by
  unfold vlVal vlFind
  rw [List.findIdx?_cons]
  by_cases h : args = x.1
  · simp [h]
  · simp only [h, decide_false, if_false]
    cases hf : r.findIdx? (fun x => decide (args = x.1)) <;> simp
theorem ord_zero (a b : Int) : (ord a b == 0) = decide (a = b) := by
  unfold ord
  rw [Bool.eq_iff_iff]
  simp
  split
  · simp; omega
  · split
    · simp; omega
    · simp; omega
set_option maxRecDepth 100000 in
set_option maxHeartbeats 1600000 in
theorem rtruth_any (b : Bool) (w : World) : Calls Tryd.prog 29 #[.bool b] w (RInt (vlTruth b) w) := by
  have HP : Hid (Pair (w.alloc (.cells #[.bool false, .slice none 0 0] 32)) w.heap.size 32) := hid (Pair.new w false none 0 0 32)
  have H1 := hid (ROf_any 1 (w.alloc (.cells #[.bool false, .slice none 0 0] 32)) (by decide) (by decide))
  have H0 := hid (ROf_any 0 (w.alloc (.cells #[.bool false, .slice none 0 0] 32)) (by decide) (by decide))
  have b0 := hid (below1 w (.cells #[.bool false, .slice none 0 0] 32))
  cases b
  case false =>
    show Calls _ _ _ _ (RInt 0 w)
    go_enter Tryd.func29, Tryd.ntmps29
    go_wp2
    exact bodyPost_ret (v := .agg #[.bool false, .slice none 0 0]) (by simp [results, Tryd.results29, go_sem]) rfl ⟨_, rfl, IntAt.zero _, b0.out⟩
  case true =>
    show Calls _ _ _ _ (RInt 1 w)
    go_enter Tryd.func29, Tryd.ntmps29
    go_wp2_with fail
    refine H1.out.mono ?_
    rintro e w1 ⟨v, rfl, hi, hb⟩
    obtain ⟨p, n, c, rfl, hi⟩ := hi.shape
    have hpr := hid (HP.out.below hb)
    have hq := hpr.out.cells
    obtain ⟨_, _, q0, q1, q2, q3⟩ := hq
    have Hi := hid hi; have Hb := hid (bel_go hb b0.out)
    clear hi hb
    go_wp2
    exact bodyPost_ret (v := .agg #[.bool (decide ((1 : Int) < 0)), .slice p n c]) (by simp [results, Tryd.results29, go_sem, q0, q1]) rfl ⟨_, rfl, Hi.out.stored hpr.out _ _ _ _, Below.stored Hb.out (Nat.le_refl _) _ _⟩
theorem NumsIn.at {w : World} {v : Value} {l : List Int} (h : NumsIn w v l) (i : Nat) (hi : i < l.length) : ∃ b o c x q d g, v = .slice (some ⟨b, o, none⟩) l.length c ∧ b < w.heap.size ∧ w.cell? ⟨b, o + i * 2, none⟩ = some (.bool x) ∧ w.cell? ⟨b, o + i * 2 + 1, none⟩ = some (.slice q d g) ∧ RawAt w (.agg #[.bool x, .slice q d g]) l[i] := by
  obtain ⟨p, c, rfl, -, -, -, h4⟩ := h
  obtain ⟨b, o, rfl, hb, hc⟩ := h4 (by omega)
  obtain ⟨x, s, k0, k1, hr⟩ := hc i hi
  obtain ⟨q, d, g, rfl⟩ := hr.shape
  exact ⟨b, o, c, x, q, d, g, rfl, hb, k0, k1, hr⟩
theorem pair_cells {w : World} {g : Nat} {a b : Value} {t : TypeId} (h : w.heap[g]? = some (.cells #[a, b] t (0, 0))) : w.cell? ⟨g, 0, none⟩ = some a ∧ w.cell? ⟨g, 1, none⟩ = some b := by
  simp [World.cell?, h]
theorem sign_zero (z : Int) : (z.sign == 0) = (z == 0) := by
  rw [Bool.eq_iff_iff]; simp [Int.sign_eq_zero_iff_zero]
theorem RawAt.set2 {w : World} {v : Value} {z : Int} {g : Nat} {t : TypeId} (h : RawAt w v z) (hp : Pair w g t) (u u' : Value) (x : Bool) (p : Option Addr) (n c : Nat) (e : u = .bool x) (e' : u' = .slice p n c) : RawAt ((w.setCell ⟨g, 0, none⟩ u).setCell ⟨g, 1, none⟩ u') v z := by
  subst e e'
  obtain ⟨neg, s, l, hs, ha, r⟩ := h
  exact ⟨neg, s, l, hs, (ha.set hp 0 _).set (hp.set0 x) 1 _, r⟩
theorem Pair.away {w : World} {g g' : Nat} {t : TypeId} (h : Pair w g t) (hne : g ≠ g') (u u' : Value) : Pair ((w.setCell ⟨g', 0, none⟩ u).setCell ⟨g', 1, none⟩ u') g t := by
  obtain ⟨x, p, n, c, h⟩ := h
  exact ⟨x, p, n, c, ((Below.heap_setCell _ _ _ _ hne).trans (Below.heap_setCell _ _ _ _ hne)).trans h⟩
/-- a variable that holds a number, in any form -/
def VBox (w : World) (g : Nat) (z : Int) : Prop := ∃ d p n c, w.heap[g]? = some (.cells #[.bool d, .slice p n c] 32 (0, 0)) ∧ RawAt w (.agg #[.bool d, .slice p n c]) z
theorem VBox.pair {w : World} {g : Nat} {z : Int} (h : VBox w g z) : Pair w g 32 := by
  obtain ⟨d, p, n, c, h, -⟩ := h
  exact ⟨d, p, n, c, h⟩
theorem VBox.below {w w' : World} {g : Nat} {z : Int} (h : VBox w g z) (hb : Below w.heap.size w w') : VBox w' g z := by
  obtain ⟨d, p, n, c, h, hr⟩ := h
  exact ⟨d, p, n, c, (hb.block g (Array.getElem?_eq_some_iff.1 h).1).trans h, hr.below hb⟩
theorem VBox.put {w : World} {g : Nat} {z : Int} {d : Bool} {p : Option Addr} {n c : Nat} (hp : Pair w g 32) (hi : RawAt w (.agg #[.bool d, .slice p n c]) z) :
    VBox ((w.setCell ⟨g, 0, none⟩ (.bool d)).setCell ⟨g, 1, none⟩ (.slice p n c)) g z := ⟨d, p, n, c, hp.put .., hi.set2 hp _ _ _ _ _ _ rfl rfl⟩
theorem take_eq (a b : List Int) (k : Nat) (ha : k < a.length) (hb : k < b.length) : decide (a.take (k + 1) = b.take (k + 1)) = (decide (a.take k = b.take k) && decide (a[k] = b[k])) := by
  rw [List.take_succ_eq_append_getElem ha, List.take_succ_eq_append_getElem hb]
  rw [Bool.eq_iff_iff]
  simp only [Bool.and_eq_true, decide_eq_true_eq]
  constructor
  · intro h
    have := List.append_inj' h rfl
    exact ⟨this.1, by simpa using this.2⟩
  · rintro ⟨h1, h2⟩
    rw [h1, h2]
theorem RawAt.parts {w : World} {n : Bool} {s : Value} {z : Int} (h : RawAt w (.agg #[.bool n, s]) z) : ∃ p c l, s = .slice p l.length c ∧ At w .u64 (.slice p l.length c) l ∧ Small Big.W l ∧ l.length ≤ 1099511627776 ∧ z = sg n (val Big.W l) := by
  obtain ⟨neg, s', l, e, ha, hs, hl, hz⟩ := h
  injection e with e
  simp only [Array.mk.injEq, List.cons.injEq, and_true] at e
  obtain ⟨e1, e2⟩ := e
  subst e2
  injection e1 with e1
  subst e1
  obtain ⟨p, c, rfl, r⟩ := id ha
  exact ⟨p, c, l, rfl, ha, hs, hl, hz⟩
theorem RowsIn.at {w : World} {v : Value} {l : List (List Int × Int)} (h : RowsIn w v l) (i : Nat) (hi : i < l.length) : ∃ b o c pa ca x q d g, v = .slice (some ⟨b, o, none⟩) l.length c ∧ b < w.heap.size ∧ w.cell? ⟨b, o + i * 3, none⟩ = some (.slice pa l[i].1.length ca) ∧ w.cell? ⟨b, o + i * 3 + 1, none⟩ = some (.bool x) ∧ w.cell? ⟨b, o + i * 3 + 2, none⟩ = some (.slice q d g) ∧ NumsIn w (.slice pa l[i].1.length ca) l[i].1 ∧ RawAt w (.agg #[.bool x, .slice q d g]) l[i].2 := by
  obtain ⟨p, c, rfl, -, -, -, h4⟩ := h
  obtain ⟨b, o, rfl, hb, hc⟩ := h4 (by omega)
  obtain ⟨a, x, s, k0, k1, k2, hn, hr⟩ := hc i hi
  obtain ⟨q, d, g, rfl⟩ := hr.shape
  obtain ⟨pa, ca, rfl, r⟩ := id hn
  exact ⟨b, o, c, pa, ca, x, q, d, g, rfl, hb, k0, k1, k2, hn, hr⟩
set_option maxRecDepth 100000 in
set_option maxHeartbeats 12800000 in
theorem RTell_any (nm : Value) (hnm : ∃ x, nm = .string x) (ar so : Int) (a s v : Value) (n : Bool) (t : Tb5) (args : List Int) (w : World) (h0 : TabIs w a n s t) (h1 : NumsIn w v args) (hs : ∀ z ∈ args, sz Big.W z.natAbs ≤ 549755813888) (ht : ∀ r ∈ t.rows, ∀ z ∈ r.1, sz Big.W z.natAbs ≤ 549755813888) :
    Calls Tryd.prog 16 #[.agg #[nm, .int .i64 ar, .int .i64 so], .agg #[a, .bool n, s], v] w (RInt (vlTell so t args) w) := by
  obtain ⟨nm, rfl⟩ := hnm
  have HT := hid h0.1; have HA := hid h1; have Hs := hid hs; have Ht := hid ht
  have h0' := h0
  obtain ⟨⟨pr, cr, rfl, i0, i1, -, -⟩, hr⟩ := h0'
  obtain ⟨q0, d0, g0, rfl⟩ := hr.shape
  obtain ⟨pa, ca, rfl, j0, j1, -, -⟩ := h1
  unfold maxLen at i1 j1
  obtain ⟨W, hW⟩ : ∃ W, W = ((((w.alloc (.cells #[.string nm, .int .i64 ar, .int .i64 so] 46)).alloc (.cells #[.slice pr t.rows.length cr, .bool n, .slice q0 d0 g0] 49)).alloc (.cells #[.bool false, .slice none 0 0] 32)).alloc (.cells #[.bool n, .slice q0 d0 g0] 32)) := ⟨_, rfl⟩
  have hB : Below w.heap.size w W := by rw [hW]; exact (((below1 w _).alloc (by simp) _).alloc (by simp; omega) _).alloc (by simp; omega) _
  have e0 : W.heap[w.heap.size]? = some (.cells #[.string nm, .int .i64 ar, .int .i64 so] 46 (0, 0)) := by rw [hW]; exact alloc_keep (alloc_keep (alloc_keep (alloc_at _ _ _ rfl)))
  have e1 : W.heap[w.heap.size + 1]? = some (.cells #[.slice pr t.rows.length cr, .bool n, .slice q0 d0 g0] 49 (0, 0)) := by rw [hW]; exact alloc_keep (alloc_keep (alloc_at _ _ _ (by rw [size_alloc])))
  have e2 : W.heap[w.heap.size + 1 + 1]? = some (.cells #[.bool false, .slice none 0 0] 32 (0, 0)) := by rw [hW]; exact alloc_keep (alloc_at _ _ _ (by rw [size_alloc, size_alloc]))
  have e3 : W.heap[w.heap.size + 1 + 1 + 1]? = some (.cells #[.bool n, .slice q0 d0 g0] 32 (0, 0)) := by rw [hW]; exact alloc_at _ _ _ (by rw [size_alloc, size_alloc, size_alloc])
  have z3 : w.heap.size + 1 + 1 + 1 < W.heap.size := by rw [hW, size_alloc, size_alloc, size_alloc, size_alloc]; omega
  have HV0 : Hid (VBox W (w.heap.size + 1 + 1 + 1) t.els) := hid ⟨_, _, _, _, e3, h0.2.below hB⟩
  have HP0 : Hid (Pair W (w.heap.size + 1 + 1) 32) := hid ⟨_, _, _, _, e2⟩
  have HB := hid hB; have E0 := hid e0; have E1 := hid e1
  have Z3 := hid z3
  have hval : ∀ k (hk : k < t.rows.length), vlVal ⟨t.rows.drop k, t.els⟩ args = if args = t.rows[k].1 then t.rows[k].2 else vlVal ⟨t.rows.drop (k + 1), t.els⟩ args := fun k hk => by
    rw [List.drop_eq_getElem_cons hk, vlVal_cons]
  have Hval := hid hval
  have Hend : Hid (vlVal ⟨t.rows.drop t.rows.length, t.els⟩ args = t.els) := hid (by rw [List.drop_length]; rfl)
  obtain ⟨rr, hrr⟩ : ∃ rr, rr = vlTell so t args := ⟨_, rfl⟩
  have Hrr := hid (show rr = if so = 1 then vlTruth (vlVal ⟨t.rows.drop 0, t.els⟩ args != 0) else vlVal ⟨t.rows.drop 0, t.els⟩ args from hrr)
  rw [← hrr]
  obtain ⟨R, hR⟩ : ∃ R, R = t.rows.length := ⟨_, rfl⟩
  have HR := hid hR
  obtain ⟨A, hA⟩ : ∃ A, A = args.length := ⟨_, rfl⟩
  have HAl := hid hA
  rw [← hR] at i0 hW E1 HT Hend ⊢
  rw [← hA] at j0 HA ⊢
  clear hrr h0 hr hs ht hB e0 e1 e2 e3 z3 hval hR hA
  go_enter Tryd.func16, Tryd.ntmps16
  go_upto_region 2 with fail
  rw [← hW]
  clear hW
  have y0 := (rec3_cells E1.out).1
  go_wp2_with fail
  clear y0
  go_loopw [8] (fun i wr => ∃ j : Nat, j ≤ R ∧ i = .int .i64 ((j : Nat) - 1) ∧ Hid (VBox wr (w.heap.size + 1 + 1 + 1) (vlVal ⟨t.rows.drop j, t.els⟩ args)) ∧ Hid (Below w.heap.size w wr) ∧ Hid (wr.heap[w.heap.size]? = W.heap[w.heap.size]? ∧ wr.heap[w.heap.size + 1]? = W.heap[w.heap.size + 1]? ∧ Pair wr (w.heap.size + 1 + 1) 32 ∧ w.heap.size + 1 + 1 + 1 < wr.heap.size)) (fun i _ => (intOf i + 1).toNat)
  case atStart => exact ⟨R, Nat.le_refl _, by go_num, hid (by rw [Hend.out]; exact HV0.out), HB, hid ⟨rfl, rfl, HP0.out, Z3.out⟩⟩
  case round =>
    obtain ⟨j, hj, rfl, HV, HBw, HF⟩ := hrel
    by_cases hpos : 0 < j
    · obtain ⟨k, rfl⟩ : ∃ k, j = k + 1 := ⟨j - 1, by omega⟩
      have hdec : decide (0 ≤ (((k + 1 : Nat) : Int) - 1)) = true := by simp
      have hkk : (((k + 1 : Nat) : Int) - 1) = (k : Nat) := by omega
      rw [hkk] at hdec ⊢
      have hkl : k < t.rows.length := by rw [← HR.out]; omega
      have hklt : (k : Int) < (R : Int) := by omega
      have hrow := HT.out.at k hkl
      obtain ⟨b, o, c, pr', cr', x, q, d, g, e, hb, m0, m1, m2, hN, hRv⟩ := hrow
      rw [← HR.out] at e
      injection e with e1 _ e3
      subst e1 e3
      have hv1 := Hval.out k hkl
      have htk := Ht.out _ (List.getElem_mem hkl)
      generalize t.rows[k].1 = rl at *
      generalize t.rows[k].2 = rv at *
      have y0 : wr.cell? ⟨w.heap.size + 1, 0, none⟩ = some (.slice (some ⟨b, o, none⟩) R cr) := (rec3_cells (HF.out.2.1.trans E1.out)).1
      have m0' := (HBw.out.cell (p := ⟨b, o + k * 3, none⟩) hb).trans m0
      have Hm1 := hid ((HBw.out.cell (p := ⟨b, o + k * 3 + 1, none⟩) hb).trans m1)
      have Hm2 := hid ((HBw.out.cell (p := ⟨b, o + k * 3 + 2, none⟩) hb).trans m2)
      have Hm0 := hid m0'
      have Hy0 := hid y0
      have HN := hid (hN.below HBw.out); have HRv := hid (hRv.below HBw.out)
      have HAw := hid (HA.out.below HBw.out)
      have Hv1 := hid hv1; have Htk := hid htk
      have Hbw : Hid (b < wr.heap.size) := hid (by have := HBw.out.size; omega)
      have hlen1 : rl.length ≤ 9223372036854775807 := by
        obtain ⟨_, _, e, h5, h6, -⟩ := HN.out
        injection e with _ e _
        unfold maxLen at h6; omega
      clear m0 m1 m2 hN hRv hv1 htk hb
      go_wp2_with fail
      clear y0 m0'
      obtain ⟨wo, rfl⟩ : ∃ wo, wo = wr := ⟨_, rfl⟩
      go_loopw [9, 10] (fun s kk wr => ∃ (m : Nat) (b2 : Bool), m ≤ A ∧ s = .bool b2 ∧ kk = .int .i64 (m : Nat) ∧ Hid (b2 = (decide (rl.length = A) && decide (args.take m = rl.take m))) ∧ Hid (Below wo.heap.size wo wr)) (fun _ kk _ => A - (intOf kk).toNat)
      case atStart => exact ⟨0, _, Nat.zero_le _, rfl, rfl, hid (by simp; rw [Bool.eq_iff_iff]; simp; omega), hid (Below.refl _ _)⟩
      case round =>
        obtain ⟨m, b2, hm, rfl, rfl, Hb2, HBq⟩ := hrel
        cases b2
        · have hne : Hid (args ≠ rl) := hid fun e => by
            have h5 := Hb2.out
            rw [← e] at h5
            simp [HAl.out] at h5
          go_wp2_with fail
          go_roundw
          case rel => exact ⟨k, by omega, by go_num, hid (by rw [Hv1.out, if_neg hne.out]; exact HV.out.below HBq.out), hid (bel_go HBq.out HBw.out), hid ⟨(HBq.out.block w.heap.size (by have := HF.out.2.2.2; omega)).trans HF.out.1, (HBq.out.block (w.heap.size + 1) (by have := HF.out.2.2.2; omega)).trans HF.out.2.1, HF.out.2.2.1.below HBq.out, by have := HF.out.2.2.2; have := HBq.out.size; omega⟩⟩
          case measure => simp [intOf] <;> omega
        · by_cases hlt : m < A
          · have hll : rl.length = A := by
              have h5 := Hb2.out
              simp at h5
              exact h5.1
            have htt : args.take m = rl.take m := by
              have h5 := Hb2.out
              simp at h5
              exact h5.2
            have hlt' : (m : Int) < (A : Int) := by omega
            have hltr : (m : Int) < (rl.length : Int) := by omega
            have hla : m < args.length := by rw [← HAl.out]; exact hlt
            have hlr : m < rl.length := by omega
            have hAt := HAw.out.at m hla
            obtain ⟨b5, o5, c5, x5, q5, d5, g5, e5, hb5, n0, n1, n2⟩ := hAt
            have hRt := HN.out.at m hlr
            obtain ⟨b6, o6, c6, x6, q6, d6, g6, e6, hb6, l0, l1, l2⟩ := hRt
            rw [← HAl.out] at e5
            injection e5 with f1 _ f3
            injection e6 with f4 _ f6
            subst f1 f3 f4 f6
            have Hcmp := hid (fun W' (hw : Below wr.heap.size wr W') => RCmp_any _ _ args[m] rl[m] W' (n2.below (bel_go hw HBq.out)) (l2.below (bel_go hw HBq.out)) (Hs.out _ (List.getElem_mem hla)) (Htk.out _ (List.getElem_mem hlr)))
            have HS : Hid (∀ w', Below wr.heap.size wr w' → w'.cell? ⟨w.heap.size + 1, 0, none⟩ = some (.slice (some ⟨b, o, none⟩) R cr) ∧ w'.cell? ⟨b, o + k * 3, none⟩ = some (.slice (some ⟨b6, o6, none⟩) rl.length cr') ∧ w'.cell? ⟨b5, o5 + m * 2, none⟩ = some (.bool x5) ∧ w'.cell? ⟨b5, o5 + m * 2 + 1, none⟩ = some (.slice q5 d5 g5) ∧ w'.cell? ⟨b6, o6 + m * 2, none⟩ = some (.bool x6) ∧ w'.cell? ⟨b6, o6 + m * 2 + 1, none⟩ = some (.slice q6 d6 g6) ∧ Below wr.heap.size wr w') := hid fun w' hb => by
              have h1 := bel_go hb HBq.out
              exact ⟨(h1.cell (p := ⟨w.heap.size + 1, 0, none⟩) (by have := HF.out.2.2.2; show w.heap.size + 1 < _; omega)).trans Hy0.out, (h1.cell (p := ⟨b, o + k * 3, none⟩) Hbw.out).trans Hm0.out, (h1.cell (p := ⟨b5, o5 + m * 2, none⟩) hb5).trans n0, (h1.cell (p := ⟨b5, o5 + m * 2 + 1, none⟩) hb5).trans n1, (h1.cell (p := ⟨b6, o6 + m * 2, none⟩) hb6).trans l0, (h1.cell (p := ⟨b6, o6 + m * 2 + 1, none⟩) hb6).trans l1, hb⟩
            have Hnx := hid (show (ord args[m] rl[m] == 0) = (decide (rl.length = A) && decide (args.take (m + 1) = rl.take (m + 1))) by
              rw [take_eq args rl m hla hlr, ord_zero, hll, htt]; simp)
            generalize ord args[m] rl[m] = od at *
            clear n0 n1 n2 l0 l1 l2 hb5 hb6 htt hla hlr Hb2 hll
            go_upto_region 9 with fail
            go_region_held3 (fun w' => w'.cell? ⟨w.heap.size + 1, 0, none⟩ = some (.slice (some ⟨b, o, none⟩) R cr) ∧ w'.cell? ⟨b, o + k * 3, none⟩ = some (.slice (some ⟨b6, o6, none⟩) rl.length cr') ∧ w'.cell? ⟨b5, o5 + m * 2, none⟩ = some (.bool x5) ∧ w'.cell? ⟨b5, o5 + m * 2 + 1, none⟩ = some (.slice q5 d5 g5) ∧ w'.cell? ⟨b6, o6 + m * 2, none⟩ = some (.bool x6) ∧ w'.cell? ⟨b6, o6 + m * 2 + 1, none⟩ = some (.slice q6 d6 g6) ∧ Below wr.heap.size wr w')
              (first | exact HS.out _ (Below.drew (Below.refl _ _)) | (refine HS.out _ (bel_go hb1 ?_); go_split_ands; assumption))
              (first | (go_at_call 18; (with_reducible refine (Hcmp.out _ (by go_split_ands; assumption)).mono ?_); rintro e w1 ⟨rfl, hb1⟩))
            go_split_ands
            have HBb := hid (show Below wr.heap.size wr w1 by assumption)
            clear hb1
            go_wp2_with fail
            go_roundw
            case rel => exact ⟨m + 1, _, by omega, rfl, by go_num, Hnx, hid (bel_go HBb.out HBq.out)⟩
            case measure => simp [intOf] <;> omega
          · obtain rfl : m = A := by omega
            have heq : Hid (args = rl) := hid (by
              have h5 := Hb2.out
              simp at h5
              have h6 := h5.2
              rw [HAl.out, List.take_length, ← HAl.out, ← h5.1, List.take_length] at h6
              exact h6)
            have hy := (HBq.out.cell (p := ⟨w.heap.size + 1, 0, none⟩) (by have := HF.out.2.2.2; show w.heap.size + 1 < _; omega)).trans Hy0.out
            have h1 := (HBq.out.cell (p := ⟨b, o + k * 3 + 1, none⟩) Hbw.out).trans Hm1.out
            have h2 := (HBq.out.cell (p := ⟨b, o + k * 3 + 2, none⟩) Hbw.out).trans Hm2.out
            have hpt := hid (HV.out.pair.below HBq.out)
            have hq := hpt.out.cells
            obtain ⟨_, _, v0, v1, v2, v3⟩ := hq
            go_wp2_with fail
            go_roundw
            case rel =>
              have bs := Below.stored (Below.refl (w.heap.size + 1 + 1 + 1) wr) (g := w.heap.size + 1 + 1 + 1) (Nat.le_refl _) (.bool x) (.slice q d g)
              exact ⟨k, by omega, by go_num, hid (by rw [Hv1.out, if_pos heq.out]; exact VBox.put hpt.out (HRv.out.below HBq.out)), hid (Below.stored (bel_go HBq.out HBw.out) (by omega) _ _),
                hid ⟨(bs.block w.heap.size (by omega)).trans ((HBq.out.block w.heap.size (by have := HF.out.2.2.2; omega)).trans HF.out.1), (bs.block (w.heap.size + 1) (by omega)).trans ((HBq.out.block (w.heap.size + 1) (by have := HF.out.2.2.2; omega)).trans HF.out.2.1), (HF.out.2.2.1.below HBq.out).away (by omega) _ _, by have := HF.out.2.2.2; have := HBq.out.size; have := bs.size; omega⟩⟩
            case measure => simp [intOf] <;> omega
    · obtain rfl : j = 0 := by omega
      have hdec : decide (0 ≤ (((0 : Nat) : Int) - 1)) = false := by decide
      have s2 := (rec3_cells (HF.out.1.trans E0.out)).2.2
      obtain ⟨vd, vp, vn, vc, vh, vr⟩ := HV.out
      obtain ⟨u0, u1⟩ := pair_cells vh
      have hpr0 := hid HF.out.2.2.1
      generalize vlVal ⟨t.rows.drop 0, t.els⟩ args = z at *
      by_cases hso : so = 1
      · subst hso
        obtain rfl : rr = vlTruth (z != 0) := by rw [Hrr.out, if_pos rfl]
        have hsg : (z.sign != 0) = (z != 0) := by unfold bne; rw [sign_zero]
        have Hsg := hid (RSign_any _ z wr vr)
        have HQ := hid hsg
        have t1 : ((1 : Int) == 1) = true := rfl
        clear Hrr vr vh hsg Hend Hval
        generalize z.sign = sg at *
        go_wp2_with fail
        refine Hsg.out.mono ?_
        rintro e w2 ⟨rfl, b2⟩
        have B2 := hid b2
        have Hc := hid (rtruth_any (sg != 0) w2)
        clear b2
        go_wp2_with fail
        refine Hc.out.mono ?_
        rintro e w3 ⟨v3, rfl, hi, b3⟩
        obtain ⟨p, l, c, rfl, hi⟩ := hi.shape
        have b4 := bel_go b3 B2.out
        have hpr := hid (hpr0.out.below b4)
        have hq := hpr.out.cells
        obtain ⟨_, _, q0, q1, q2, q3⟩ := hq
        have Hi := hid hi; have Hb := hid (bel_go b4 HBw.out)
        clear hi b3 b4 Hc
        go_wp2
        exact bodyPost_ret (v := .agg #[.bool (decide (vlTruth (sg != 0) < 0)), .slice p l c]) (by simp [results, Tryd.results16, go_sem, q0, q1]) rfl ⟨_, rfl, by rw [← HQ.out]; exact Hi.out.stored hpr.out _ _ _ _, Below.stored Hb.out (by omega) _ _⟩
      · obtain rfl : z = rr := by rw [Hrr.out, if_neg hso]
        obtain ⟨p4, c4, l4, e4, hat, hsm, hln, hz⟩ := vr.parts
        injection e4 with f1 f2 f3
        subst f1 f2 f3
        have Hc := hid (Whole_any vd _ l4 wr hat hsm (by omega))
        rw [← hz] at Hc
        have t1 : (so == 1) = false := by simpa using hso
        clear Hrr vr vh hat hsm hln hz Hend Hval
        go_wp2_with fail
        refine Hc.out.mono ?_
        rintro e w3 ⟨v3, rfl, hi, b3⟩
        obtain ⟨p, l, c, rfl, hi⟩ := hi.shape
        have hpr := hid (hpr0.out.below b3)
        have hq := hpr.out.cells
        obtain ⟨_, _, q0, q1, q2, q3⟩ := hq
        have Hi := hid hi; have Hb := hid (bel_go b3 HBw.out)
        clear hi b3 Hc
        go_wp2
        exact bodyPost_ret (v := .agg #[.bool (decide (z < 0)), .slice p l c]) (by simp [results, Tryd.results16, go_sem, q0, q1]) rfl ⟨_, rfl, Hi.out.stored hpr.out _ _ _ _, Below.stored Hb.out (by omega) _ _⟩
end Go.Proofs.YtlffiomlpkopbaaDoor
/- elenchuslaw16.TablesTell. -/
namespace Go.Proofs.YtlffiomlpkopbaaDoor
open Go.RowKit Big Go.WideMaps

theorem NmsIn.nums {w : World} {v : Value} {l : List Int} (h : NmsIn w v l) : NumsIn w v l := by
  obtain ⟨p, cap, rfl, h1, h2, h3, h4⟩ := h
  refine ⟨p, cap, rfl, h1, h2, h3, fun hp => ?_⟩
  obtain ⟨b, off, e, hb, hc⟩ := h4 hp
  refine ⟨b, off, e, hb, fun i hi => ?_⟩
  obtain ⟨c, k0, n, s, rfl, hr⟩ := hc i hi
  exact ⟨n, s, k0 0 _ rfl, k0 1 _ rfl, hr⟩
theorem TbP.tab {P : Nat → Prop} {w : World} {a s : Value} {n : Bool} {t : Tb5} (h : TbP P w [a, .bool n, s] t) : TabIs w a n s t := by
  obtain ⟨a', n', s', e, hr, hv⟩ := h
  injection e with e1 e
  injection e with e2 e
  injection e2 with e2
  injection e with e3 _
  subst e1 e2 e3
  refine ⟨?_, hv⟩
  obtain ⟨p, cap, rfl, h1, h2, h3, h4⟩ := hr
  refine ⟨p, cap, rfl, h1, h2, h3, fun hp => ?_⟩
  obtain ⟨b, off, e, hb, -, hc⟩ := h4 hp
  refine ⟨b, off, e, hb, fun i hi => ?_⟩
  obtain ⟨c, k0, a, n, s, rfl, ha, hr⟩ := hc i hi
  exact ⟨a, n, s, k0 0 _ rfl, k0 1 _ rfl, k0 2 _ rfl, NmsIn.nums ha.in, hr⟩
def tbI (z : Int) : SFact := ⟨fun v w => ∃ p n c, v = .agg #[.bool (decide (z < 0)), .slice p n c] ∧ IntAt w (.agg #[.bool (decide (z < 0)), .slice p n c]) z, fun _ _ _ ⟨p, n, c, h1, h2⟩ hb => ⟨p, n, c, h1, h2.below hb⟩⟩
def tbVb (B : Nat) : SFact := ⟨fun v w => ∃ g, v = .pointer (some ⟨g, 0, none⟩) ∧ B ≤ g ∧ w.heap[g]? = some (.cells #[.bool false, .slice none 0 0] 32 (0, 0)), fun _ _ _ ⟨g, h1, h2, h3⟩ hb => ⟨g, h1, h2, (hb.block g (Array.getElem?_eq_some_iff.1 h3).1).trans h3⟩⟩
theorem tell_sort1 (x : Int) : (((vlTruth (x != 0)).sign != 0) != (x.sign != 0)) = false := by
  by_cases h : x = 0
  · subst h; rfl
  · have h1 : (x != 0) = true := by simpa using h
    have h2 : (x.sign != 0) = true := by
      have := sign_zero x
      have h3 : (x == 0) = false := by simpa using h
      rw [h3] at this
      simpa [bne] using this
    rw [h1, h2]
    rfl
theorem vlTell_sz (so : Int) (t : Tb5) (args : List Int) (h : sz W (vlVal t args).natAbs ≤ 6) : sz W (vlTell so t args).natAbs ≤ 6 := by
  unfold vlTell
  split
  · unfold vlTruth
    split
    · decide +kernel
    · simp [sz_zero]
  · exact h

set_option maxRecDepth 100000 in
set_option maxHeartbeats 12800000 in
theorem lawTell_any (vs v : Value) (syms : List Sy) (l : List Apx) (w : World) (hs : SysIn w vs syms) (h : ApxsIn w v l) (htab : Tb w.heap.size w) : Calls Tryd.prog 5 #[vs, v] w (RBool true w) := by
  have HX := hid (fixed16_any w htab)
  have HF := hid (fun w' (hb : Below w.heap.size w w') => Few16_any v l w' (h.below hb))
  have Hin := hid (fun (hf : l.length ≤ 60 ∧ ∀ x ∈ l, x.fit) => h.aps hf.2)
  have Hsz := hid (fun (hf : l.length ≤ 60 ∧ ∀ x ∈ l, x.fit) => h.sz hf.2)
  have Hlm : Hid ((l.map Apx.a).length = l.length) := hid (List.length_map ..)
  have Hs := hid hs; have Htab := hid htab
  have hsh := hs
  obtain ⟨ps, cs, rfl, is1, is2, -, -⟩ := hsh
  have hsh := h
  obtain ⟨p, cap, rfl, i1, i2, -, -⟩ := hsh
  unfold maxLen at is2 i2
  have HSat := hid (fun (hp : 0 < syms.length) => hs.at hp)
  obtain ⟨S, hS⟩ : ∃ S, S = syms.length := ⟨_, rfl⟩
  obtain ⟨L, hL⟩ : ∃ L, L = l.length := ⟨_, rfl⟩
  have HS := hid hS; have HL := hid hL
  rw [← hS] at is1 Hs ⊢
  rw [← hL] at i1 HF Hin Hsz Hlm ⊢
  clear h hs htab hS hL
  go_enter Tryd.func5, Tryd.ntmps5
  go_wp2_with fail
  refine HX.out.mono ?_
  rintro e w1 ⟨rfl, b1⟩
  have B1 := hid b1
  have HFb := hid (HF.out w1 b1)
  clear b1 HX HF
  by_cases h40 : S ≤ 40
  case neg =>
    have hd : decide ((40 : Int) < (S : Int)) = true := by simp; omega
    clear HFb
    go_wp2
    go_ret
    exact ⟨rfl, B1.out⟩
  have hd : decide ((40 : Int) < (S : Int)) = false := by simp; omega
  go_wp2_with fail
  refine HFb.out.mono ?_
  rintro e w2 ⟨bf, rfl, hfit, b2⟩
  have B2 := hid (tbGo b2 B1.out)
  clear b2 HFb
  cases bf with
  | false =>
    clear hfit
    go_wp2
    go_ret
    exact ⟨rfl, B2.out⟩
  | true =>
  have hfit := hfit rfl
  have hA := Hin.out hfit
  have hZ := Hsz.out hfit
  have hll : (l.map Apx.a).length = L := Hlm.out
  have hL60 : L ≤ 60 := hfit.1
  generalize l.map Apx.a = al at *
  have HA := hid hA; have HZ := hid hZ; have Hll := hid hll
  have HAt := hid (fun (hp : 0 < al.length) => (show ApsIn w (.slice p L cap) al from hA).at hp)
  have HD1 := hid (Build_ans _ _ syms al w2 (Hs.out.below B2.out) (hA.below B2.out) hZ (by omega) (by have := HS.out; omega) (tab_later Htab.out B2.out))
  clear hfit Hin Hsz hA hZ hll Hlm
  go_wp2_with fail
  refine HD1.out.mono ?_
  rintro e w8 ⟨p8, n8, c8, rfl, ht8, hn8, b8⟩
  obtain ⟨W9, hW9⟩ : ∃ W9, W9 = w8.alloc (.cells #[.slice p8 n8 c8] 37) := ⟨_, rfl⟩
  have b9 : Below w8.heap.size w8 W9 := by rw [hW9]; exact below1 w8 _
  have e9 : W9.heap[w8.heap.size]? = some (.cells #[.slice p8 n8 c8] 37 (0, 0)) := by rw [hW9]; exact heap_alloc_new w8 _
  have m0 := model_box e9
  have E9 := hid e9
  have B9 := hid (tbGo b9 (tbGo b8 B2.out))
  have HT9 := hid (ht8.below b9)
  have Hn8 := hid hn8
  clear b8 b9 e9 ht8 HD1 hn8
  go_upto_region 6 with fail
  rw [← hW9]
  clear hW9
  by_cases h0 : tbFault syms al = 0
  case neg =>
    have h00 : (tbFault syms al != 0) = true := by simpa using h0
    have hn8 := Hn8.out
    unfold tbAns at hn8
    rw [if_neg h0] at hn8
    have hn0 : n8 = 0 := hn8
    subst hn0
    generalize tbFault syms al = tf at *
    clear h0 hn8
    go_wp2
    go_ret
    exact ⟨rfl, B9.out⟩
  have hfz := tbFault_zero h0
  have HOk := hid hfz.2.2; have HSy := hid hfz.1
  have ht1 := HT9.out
  have hn8 := Hn8.out
  unfold tbAns at ht1 hn8
  rw [if_pos h0] at ht1 hn8
  rw [tabs_len, ← HS.out] at hn8
  have hn8 := hn8.symm
  subst hn8
  rw [h0]
  obtain ⟨_, _, eq1, -, -, -, f4⟩ := ht1
  injection eq1 with g1 g2 g3
  subst g1 g3
  clear g2
  have HF4 := hid f4
  have h00 : ((0 : Int) != 0) = false := rfl
  have hSS : ((S : Int) != (S : Int)) = false := by simp
  have HTs := hid (fun (s : Nat) (hs : s < syms.length) => tabs_at (l := al) hs)
  clear f4 hfz h0 HT9 Hn8
  go_wp2_with fail
  go_loopw [40] (fun i wr => ∃ j : Nat, j ≤ L ∧ i = .int .i64 (j : Nat) ∧ Hid (Below W9.heap.size W9 wr)) (fun i _ => L - (intOf i).toNat)
  case atStart => exact ⟨0, Nat.zero_le _, rfl, hid (Below.refl _ _)⟩
  case round =>
    obtain ⟨j, hj, rfl, HB⟩ := hrel
    by_cases hlt : j < L
    · have hja : j < al.length := by rw [Hll.out]; exact hlt
      have hlt' : (j : Int) < (L : Int) := by omega
      have hbw := tbGo HB.out B9.out
      obtain ⟨b, o, rfl, hb, hc⟩ := HAt.out (by omega)
      obtain ⟨pa, ca, xn, qx, mx, dx, x0, x1, x2, x3, -, hnm, hvl, -⟩ := hc j hja
      have x0 := (hbw.cell (p := ⟨b, o + j * 4, none⟩) hb).trans x0
      have x1 := (hbw.cell (p := ⟨b, o + j * 4 + 1, none⟩) hb).trans x1
      have x2 := (hbw.cell (p := ⟨b, o + j * 4 + 2, none⟩) hb).trans x2
      have x3 := (hbw.cell (p := ⟨b, o + j * 4 + 3, none⟩) hb).trans x3
      have hsy := HSy.out _ (List.getElem_mem hja)
      obtain ⟨s, hs0⟩ : ∃ s : Nat, al[j].sym = (s : Int) := ⟨al[j].sym.toNat, by omega⟩
      have hsS : s < S := by have := HS.out; omega
      have hsSi : (s : Int) < (S : Int) := by omega
      have hsl : s < syms.length := by rw [← HS.out]; exact hsS
      obtain ⟨bs, os, rfl, hbs, hcs⟩ := HSat.out (by omega)
      obtain ⟨k1, k2, k3⟩ := hcs s hsl
      obtain ⟨bt, ot, rfl, hbt, -, hct⟩ := HF4.out (by rw [tabs_len]; omega)
      obtain ⟨hk1, hk2⟩ := HTs.out s hsl
      obtain ⟨ct', ka, ta⟩ := hct s hk1
      rw [hk2] at ta
      have hta := ta.parts
      obtain ⟨p1, l1, n1, q1, m1, d1, rfl, -⟩ := hta
      have htab := ta.tab
      have htsz := tbTab_sz HZ.out ((s : Nat) : Int)
      have hzj := HZ.out _ (List.getElem_mem hja)
      have hval := tbVal_said al HOk.out al[j] (List.getElem_mem hja)
      rw [hs0] at hval
      obtain ⟨z, hz⟩ : ∃ z, z = vlTell syms[s].sort (tbTab al ((s : Nat) : Int)) al[j].args := ⟨_, rfl⟩
      have Hzs : Hid (sz W z.natAbs ≤ 6) := hid (by rw [hz]; exact vlTell_sz _ _ _ (by rw [hval]; exact hzj.2.1))
      have Hvs := hid hzj.2.1
      have HSort1 : Hid (syms[s].sort = 1 → ((z.sign != 0) != (al[j].val.sign != 0)) = false) := hid (fun h => by rw [hz]; unfold vlTell; rw [if_pos h, hval]; exact tell_sort1 _)
      have HSort0 : Hid (syms[s].sort ≠ 1 → ord z al[j].val = 0) := hid (fun h => by rw [hz]; unfold vlTell; rw [if_neg h, hval]; unfold ord; simp)
      obtain ⟨W3, hW3⟩ : ∃ W3, W3 = wr.alloc (.cells #[.int .i64 al[j].sym, .slice pa al[j].args.length ca, .bool xn, .slice qx mx dx] 34) := ⟨_, rfl⟩
      have b3 : Below wr.heap.size wr W3 := by rw [hW3]; exact below1 wr _
      have e3 : W3.heap[wr.heap.size]? = some (.cells #[.int .i64 al[j].sym, .slice pa al[j].args.length ca, .bool xn, .slice qx mx dx] 34 (0, 0)) := by rw [hW3]; exact heap_alloc_new wr _
      have hz3 : wr.heap.size < W3.heap.size := (Array.getElem?_eq_some_iff.1 e3).1
      have E3 := hid e3
      have HB3 := hid (tbGo b3 HB.out)
      have BW3 := hid (tbGo HB3.out B9.out)
      have hBT := HB3.out
      have HTell := hid (fun (W' : World) (hw : Below W3.heap.size W3 W') => RTell_any (.string ⟨syms[s].name.toArray⟩) ⟨_, rfl⟩ syms[s].arity syms[s].sort _ _ (.slice pa al[j].args.length ca) _ (tbTab al ((s : Nat) : Int)) al[j].args W' (htab.below (tbGo hw hBT)) (hnm.nums.below (tbGo hw BW3.out)) (fun z hz => Nat.le_trans (hzj.2.2 z hz) (by decide)) (fun r hr z hz => Nat.le_trans ((htsz.2 r hr).2 z hz) (by decide)))
      rw [← hz] at HTell
      have Hval := hid hvl
      have HSc : Hid (∀ w', Below W3.heap.size W3 w' → w'.cell? ⟨wr.heap.size, 0, none⟩ = some (.int .i64 (s : Nat)) ∧ w'.cell? ⟨wr.heap.size, 1, none⟩ = some (.slice pa al[j].args.length ca) ∧ w'.cell? ⟨bs, os + s * 3, none⟩ = some (.string ⟨syms[s].name.toArray⟩) ∧ w'.cell? ⟨bs, os + s * 3 + 1, none⟩ = some (.int .i64 syms[s].arity) ∧ w'.cell? ⟨bs, os + s * 3 + 2, none⟩ = some (.int .i64 syms[s].sort) ∧ w'.cell? ⟨w8.heap.size, 0, none⟩ = some (.slice (some ⟨bt, ot, none⟩) S c8) ∧ w'.cell? ⟨bt, ot + s * 3, none⟩ = some (.slice p1 (tbTab al ((s : Nat) : Int)).rows.length l1) ∧ w'.cell? ⟨bt, ot + s * 3 + 1, none⟩ = some (.bool n1) ∧ w'.cell? ⟨bt, ot + s * 3 + 2, none⟩ = some (.slice q1 m1 d1)) := hid (fun w' hw => by
        have h1 := tbGo hw BW3.out
        have h2 := tbGo hw hBT
        obtain ⟨a0, a1, -, -⟩ := cells4 ((hw.block wr.heap.size hz3).trans E3.out)
        exact ⟨by rw [← hs0]; exact a0, a1, (h1.cell (p := ⟨bs, os + s * 3, none⟩) hbs).trans k1, (h1.cell (p := ⟨bs, os + s * 3 + 1, none⟩) hbs).trans k2, (h1.cell (p := ⟨bs, os + s * 3 + 2, none⟩) hbs).trans k3, model_box ((h2.block w8.heap.size (Array.getElem?_eq_some_iff.1 E9.out).1).trans E9.out), (h2.cell (p := ⟨bt, ot + s * 3, none⟩) hbt).trans (ka 0 _ rfl), (h2.cell (p := ⟨bt, ot + s * 3 + 1, none⟩) hbt).trans (ka 1 _ rfl), (h2.cell (p := ⟨bt, ot + s * 3 + 2, none⟩) hbt).trans (ka 2 _ rfl)⟩)
      rw [hs0] at E3 hW3 x0
      have k3 := hid k3
      generalize (⟨syms[s].name.toArray⟩ : ByteArray) = nm at *
      generalize syms[s].arity = arr at *
      generalize syms[s].sort = srt at *
      generalize (tbTab al ((s : Nat) : Int)).rows.length = nr at *
      generalize al[j].args.length = na at *
      clear hc hcs hct hnm hvl hsy hs0 k1 k2 ka ta htab htsz hzj hval hz b3 e3 hk1 hk2 hsl hBT
      go_upto_region 13 with fail
      rw [← hW3]
      clear hW3 x0 x1 x2 x3
      refine wp_region_facts (w0 := W3) 15 1 [44, 45, 46, 47, 48, 49, 50, 51, 52, 53, 54, 55, 56, 57, 9] [u44, u45, u46, u47, u48, u49, u50, u51, u52, u53, u54, u55, u56, u57, u9]
        (fun i => match i with | 0 => tbE (.slice (some ⟨bs, os, none⟩) S cs) | 1 => tbE (.pointer (some ⟨wr.heap.size, 0, none⟩)) | 2 => tbE (.int .i64 (s : Nat)) | 3 => tbE (.pointer (some ⟨bs, os + s * 3, none⟩)) | 4 => tbE (.agg #[.string nm, .int .i64 arr, .int .i64 srt]) | 5 => tbE (.pointer (some ⟨w8.heap.size, 0, none⟩)) | 6 => tbE (.slice (some ⟨bt, ot, none⟩) S c8) | 7 => tbE (.pointer (some ⟨wr.heap.size, 0, none⟩)) | 8 => tbE (.int .i64 (s : Nat)) | 9 => tbE (.pointer (some ⟨bt, ot + s * 3, none⟩)) | 10 => tbE (.agg #[.slice p1 nr l1, .bool n1, .slice q1 m1 d1]) | 11 => tbE (.pointer (some ⟨wr.heap.size, 1, none⟩)) | 12 => tbE (.slice pa na ca) | 13 => tbI z | _ => tbVb W3.heap.size) [] (by kernel_rfl) (by kernel_rfl) (by kernel_rfl) (by kernel_rfl) (by decide) rfl (by kernel_rfl) rfl (by simp) ?he1 ?_ ?_ ?_
      case he1 => simp only [putAll, Act.put, List.setIfInBounds_toArray, List.set_cons_zero, List.set_cons_succ]
      · intro i hi; simp at hi
      · intro i o hi ho vs wx hvl hb hdep K hK
        have hvs := vlen15 hvl
        obtain ⟨s44, s45, s46, s47, s48, s49, s50, s51, s52, s53, s54, s55, s56, s57, s9, rfl⟩ := hvs
        clear hvl
        have hk5 := HSc.out wx hb
        obtain ⟨y0, y1, k0, k1, k2, t0, u0, u1, u2⟩ := hk5
        rcases i with _ | _ | _ | _ | _ | _ | _ | _ | _ | _ | _ | _ | _ | _ | _ | i
        all_goals (simp only [List.getElem?_toArray, List.getElem?_cons_zero, List.getElem?_cons_succ, Option.some.injEq] at ho)
        all_goals try (subst ho)
        all_goals try simp only [putAll, Act.put, List.setIfInBounds_toArray, List.set_cons_zero, List.set_cons_succ]
        · go_simp
          have hK' := hK.out
          simp only [putAll, Act.put, List.setIfInBounds_toArray, List.set_cons_zero, List.set_cons_succ] at hK'
          exact hK' _ _ rfl (Below.refl _ _) (by simp)
        · go_simp
          have hK' := hK.out
          simp only [putAll, Act.put, List.setIfInBounds_toArray, List.set_cons_zero, List.set_cons_succ] at hK'
          exact hK' _ _ rfl (Below.refl _ _) (by simp)
        · have e1 : s45 = _ := hdep ⟨1, .data⟩ (by simp) rfl
          have e1 := e1.symm
          subst e1
          go_simp
          have hK' := hK.out
          simp only [putAll, Act.put, List.setIfInBounds_toArray, List.set_cons_zero, List.set_cons_succ] at hK'
          exact hK' _ _ rfl (Below.refl _ _) (by simp)
        · have e0 : s44 = _ := hdep ⟨0, .data⟩ (by simp) rfl
          have e0 := e0.symm
          subst e0
          have e2 : s46 = _ := hdep ⟨2, .data⟩ (by simp) rfl
          have e2 := e2.symm
          subst e2
          go_simp
          have hK' := hK.out
          simp only [putAll, Act.put, List.setIfInBounds_toArray, List.set_cons_zero, List.set_cons_succ] at hK'
          exact hK' _ _ rfl (Below.refl _ _) (by simp)
        · have e3 : s47 = _ := hdep ⟨3, .data⟩ (by simp) rfl
          have e3 := e3.symm
          subst e3
          go_simp
          have hK' := hK.out
          simp only [putAll, Act.put, List.setIfInBounds_toArray, List.set_cons_zero, List.set_cons_succ] at hK'
          exact hK' _ _ rfl (Below.refl _ _) (by simp)
        · go_simp
          have hK' := hK.out
          simp only [putAll, Act.put, List.setIfInBounds_toArray, List.set_cons_zero, List.set_cons_succ] at hK'
          exact hK' _ _ rfl (Below.refl _ _) (by simp)
        · have e5 : s49 = _ := hdep ⟨5, .data⟩ (by simp) rfl
          have e5 := e5.symm
          subst e5
          go_simp
          have hK' := hK.out
          simp only [putAll, Act.put, List.setIfInBounds_toArray, List.set_cons_zero, List.set_cons_succ] at hK'
          exact hK' _ _ rfl (Below.refl _ _) (by simp)
        · go_simp
          have hK' := hK.out
          simp only [putAll, Act.put, List.setIfInBounds_toArray, List.set_cons_zero, List.set_cons_succ] at hK'
          exact hK' _ _ rfl (Below.refl _ _) (by simp)
        · have e7 : s51 = _ := hdep ⟨7, .data⟩ (by simp) rfl
          have e7 := e7.symm
          subst e7
          go_simp
          have hK' := hK.out
          simp only [putAll, Act.put, List.setIfInBounds_toArray, List.set_cons_zero, List.set_cons_succ] at hK'
          exact hK' _ _ rfl (Below.refl _ _) (by simp)
        · have e6 : s50 = _ := hdep ⟨6, .data⟩ (by simp) rfl
          have e6 := e6.symm
          subst e6
          have e8 : s52 = _ := hdep ⟨8, .data⟩ (by simp) rfl
          have e8 := e8.symm
          subst e8
          go_simp
          have hK' := hK.out
          simp only [putAll, Act.put, List.setIfInBounds_toArray, List.set_cons_zero, List.set_cons_succ] at hK'
          exact hK' _ _ rfl (Below.refl _ _) (by simp)
        · have e9 : s53 = _ := hdep ⟨9, .data⟩ (by simp) rfl
          have e9 := e9.symm
          subst e9
          go_simp
          have hK' := hK.out
          simp only [putAll, Act.put, List.setIfInBounds_toArray, List.set_cons_zero, List.set_cons_succ] at hK'
          exact hK' _ _ rfl (Below.refl _ _) (by simp)
        · go_simp
          have hK' := hK.out
          simp only [putAll, Act.put, List.setIfInBounds_toArray, List.set_cons_zero, List.set_cons_succ] at hK'
          exact hK' _ _ rfl (Below.refl _ _) (by simp)
        · have e11 : s55 = _ := hdep ⟨11, .data⟩ (by simp) rfl
          have e11 := e11.symm
          subst e11
          go_simp
          have hK' := hK.out
          simp only [putAll, Act.put, List.setIfInBounds_toArray, List.set_cons_zero, List.set_cons_succ] at hK'
          exact hK' _ _ rfl (Below.refl _ _) (by simp)
        · have e4 : s48 = _ := hdep ⟨4, .data⟩ (by simp) rfl
          have e4 := e4.symm
          subst e4
          have e10 : s54 = _ := hdep ⟨10, .data⟩ (by simp) rfl
          have e10 := e10.symm
          subst e10
          have e12 : s56 = _ := hdep ⟨12, .data⟩ (by simp) rfl
          have e12 := e12.symm
          subst e12
          go_simp
          go_simp
          refine (HTell.out wx hb).mono ?_
          rintro e wy ⟨vy, rfl, iy, hby⟩
          have hsh := iy.shape
          obtain ⟨p5, n5, c5, rfl, iy⟩ := hsh
          go_wp2_with fail
          have hK' := hK.out
          simp only [putAll, Act.put, List.setIfInBounds_toArray, List.set_cons_zero, List.set_cons_succ] at hK'
          exact hK' _ _ ⟨_, _, _, rfl, iy⟩ hby (by simp)
        · go_simp
          go_simp
          have hK' := hK.out
          simp only [putAll, Act.put, List.setIfInBounds_toArray, List.set_cons_zero, List.set_cons_succ] at hK'
          exact hK' _ _ ⟨_, rfl, Nat.le_trans (Nat.le_refl _) hb.size, heap_alloc_new _ _⟩ (below1 _ _) (by simp)
        · omega
      · intro vs wx hvl hb hf hdist
        have hvs := vlen15 hvl
        obtain ⟨s44, s45, s46, s47, s48, s49, s50, s51, s52, s53, s54, s55, s56, s57, s9, rfl⟩ := hvs
        have f13 : (tbI z).P s57 wx := hf 13 (by decide)
        have f14 : (tbVb W3.heap.size).P s9 wx := hf 14 (by decide)
        obtain ⟨p5, n5, c5, e1, i5⟩ := f13
        obtain ⟨g9, e2, hg9, hb9⟩ := f14
        subst e1 e2
        have hp9 : Pair wx g9 32 := ⟨_, _, _, _, hb9⟩
        obtain ⟨x0, x1, fz0, fz1⟩ := two_cells hb9
        have i9 := i5.stored hp9 (decide (z < 0)) p5 n5 c5
        have e9 := hp9.put (decide (z < 0)) p5 n5 c5
        have b9 := Below.stored (Below.trans (Below.refl W3.heap.size W3) hb) hg9 (.bool (decide (z < 0))) (.slice p5 n5 c5)
        have I9 := hid i9; have E9 := hid e9; have B9 := hid b9
        clear hf hvl hdist i5 hp9 i9 e9 b9 hb9
        refine wpAny_one (i := 15) (by kernel_rfl) rfl ?_
        intro K hK
        simp only [putAll, Act.put, List.setIfInBounds_toArray, List.set_cons_zero, List.set_cons_succ]
        have hK' := hK.out
        go_simp
        apply hK'
        clear hK hK' x0 x1 fz0 fz1
        refine wpAny_done (by kernel_rfl) ?_ _
        try simp only [Act.put, List.setIfInBounds_toArray, List.set_cons_zero, List.set_cons_succ]
        obtain ⟨WB, hWB⟩ : ∃ WB, WB = (wx.setCell ⟨g9, 0, none⟩ (.bool (decide (z < 0)))).setCell ⟨g9, 1, none⟩ (.slice p5 n5 c5) := ⟨_, rfl⟩
        rw [← hWB] at I9 E9 B9
        have hE3 := (B9.out.block wr.heap.size hz3).trans E3.out
        obtain ⟨y0, y1, y2, y3⟩ := cells4 hE3
        obtain ⟨z0, z1, -, -⟩ := two_cells E9.out
        have BW9 := hid (tbGo B9.out BW3.out)
        have x3 := (BW9.out.cell (p := ⟨bs, os + s * 3 + 2, none⟩) hbs).trans k3.out
        have HS1 := hid (fun W' (hw : Below WB.heap.size WB W') => RSign_any _ z W' (((I9.out).below hw).rawL (Nat.le_trans Hzs.out (by decide))))
        have HS2 := hid (fun W' (hw : Below WB.heap.size WB W') => RSign_any _ _ W' (Hval.out.below (tbGo hw BW9.out)))
        have HCm := hid (RCmp_any _ _ z _ WB (I9.out.rawL (Nat.le_trans Hzs.out (by decide))) (Hval.out.below BW9.out) (Nat.le_trans Hzs.out (by decide)) (Nat.le_trans Hvs.out (by decide)))
        have HSS : Hid (∀ w', Below WB.heap.size WB w' → w'.cell? ⟨g9, 0, none⟩ = some (.bool (decide (z < 0))) ∧ w'.cell? ⟨g9, 1, none⟩ = some (.slice p5 n5 c5) ∧ w'.cell? ⟨wr.heap.size, 2, none⟩ = some (.bool xn) ∧ w'.cell? ⟨wr.heap.size, 3, none⟩ = some (.slice qx mx dx) ∧ Below WB.heap.size WB w') := hid (fun w' hw => by
          obtain ⟨a0, a1, -, -⟩ := two_cells ((hw.block g9 (Array.getElem?_eq_some_iff.1 E9.out).1).trans E9.out)
          obtain ⟨-, -, a2, a3⟩ := cells4 ((hw.block wr.heap.size (Array.getElem?_eq_some_iff.1 hE3).1).trans hE3)
          exact ⟨a0, a1, a2, a3, hw⟩)
        clear hE3
        go_upto_region 14 with fail
        try rw [← hWB]
        clear hWB
        by_cases hs1 : srt = 1
        · have hd1 : (srt == (1 : Int)) = true := by simpa using hs1
          have hsg := HSort1.out hs1
          have Hsg := hid hsg
          clear hs1 hsg
          generalize z.sign = sg1 at *
          generalize (al[j]'hja).val.sign = sg2 at *
          have hsg := Hsg.out
          obtain ⟨q, hq1⟩ : ∃ q, (sg1 != 0) = q := ⟨_, rfl⟩
          rw [hq1] at hsg
          have hq2 : (sg2 != 0) = q := by
            generalize (sg2 != 0) = r at hsg
            cases q <;> cases r <;> simp_all
          clear hsg Hsg
          cases q with
          | true =>
            go_upto_region 15 with fail
            go_region_held3 (fun w' => w'.cell? ⟨g9, 0, none⟩ = some (.bool (decide (z < 0))) ∧ w'.cell? ⟨g9, 1, none⟩ = some (.slice p5 n5 c5) ∧ w'.cell? ⟨wr.heap.size, 2, none⟩ = some (.bool xn) ∧ w'.cell? ⟨wr.heap.size, 3, none⟩ = some (.slice qx mx dx) ∧ Below WB.heap.size WB w')
              (first | exact HSS.out _ (Below.drew (Below.refl _ _)) | (refine HSS.out _ (tbGo hb1 ?_); go_split_ands; assumption))
              (first | (go_at_call 17; (with_reducible refine (HS1.out _ (by go_split_ands; assumption)).mono ?_); rintro e w1 ⟨rfl, hb1⟩) | (go_at_call 17; (with_reducible refine (HS2.out _ (by go_split_ands; assumption)).mono ?_); rintro e w1 ⟨rfl, hb1⟩))
            go_split_ands
            have HBb := hid (show Below WB.heap.size WB _ by assumption)
            have HBf := hid (tbGo HBb.out (tbGo B9.out HB3.out))
            go_wp2_with fail
            go_roundw
            case rel => exact ⟨j + 1, by omega, by go_num, HBf⟩
            case measure => simp [intOf]; omega
          | false =>
            go_upto_region 15 with fail
            go_region_held3 (fun w' => w'.cell? ⟨g9, 0, none⟩ = some (.bool (decide (z < 0))) ∧ w'.cell? ⟨g9, 1, none⟩ = some (.slice p5 n5 c5) ∧ w'.cell? ⟨wr.heap.size, 2, none⟩ = some (.bool xn) ∧ w'.cell? ⟨wr.heap.size, 3, none⟩ = some (.slice qx mx dx) ∧ Below WB.heap.size WB w')
              (first | exact HSS.out _ (Below.drew (Below.refl _ _)) | (refine HSS.out _ (tbGo hb1 ?_); go_split_ands; assumption))
              (first | (go_at_call 17; (with_reducible refine (HS1.out _ (by go_split_ands; assumption)).mono ?_); rintro e w1 ⟨rfl, hb1⟩) | (go_at_call 17; (with_reducible refine (HS2.out _ (by go_split_ands; assumption)).mono ?_); rintro e w1 ⟨rfl, hb1⟩))
            go_split_ands
            have HBb := hid (show Below WB.heap.size WB _ by assumption)
            have HBf := hid (tbGo HBb.out (tbGo B9.out HB3.out))
            go_wp2_with fail
            go_roundw
            case rel => exact ⟨j + 1, by omega, by go_num, HBf⟩
            case measure => simp [intOf]; omega
        · have hd1 : (srt == (1 : Int)) = false := by simpa using hs1
          have hor := HSort0.out hs1
          rw [hor] at HCm
          have h00 : ((0 : Int) != 0) = false := rfl
          clear hs1 hor
          go_wp2_with fail
          refine HCm.out.mono ?_
          rintro e w10 ⟨rfl, b10⟩
          have HB10 := hid (tbGo b10 (tbGo B9.out HB3.out))
          clear b10 HCm
          go_wp2_with fail
          go_roundw
          case rel => exact ⟨j + 1, by omega, by go_num, HB10⟩
          case measure => simp [intOf]; omega
    · obtain rfl : j = L := by omega
      have HBw := hid (tbGo HB.out B9.out)
      go_wp2
      go_ret
      exact ⟨rfl, HBw.out⟩
end Go.Proofs.YtlffiomlpkopbaaDoor
