/- Texts put together: LnMem, LnSmall, LnTake, ShelfK, LnSorted, LnSum, LnAdd, LnPush, LnPut, LnCommon, LnValue, LnRValue, LnClean, LnSizes, LnRAdd. -/
import Derived.Test.YtjfehknilofdjaaGreatLinearSumsCardM2
import Derived.Maps.OwnSet
import Derived.Lib.SlKeysI
import Derived.Deep.DeepCutAuto
import Derived.Deep.RegionHeld3
import Derived.Ground.GgzProg
import Derived.Shelf.SlIterI.Nil
import Derived.Maps.AppendAt
/- Parts and sums in memory (layer 6): how they read; the map of numbers by term, and what stays where no words lie. -/
namespace Go.Proofs.YtjfehknilofdjaaGreat
open Go.RowKit Big

/-! ### where no words lie -/
def NoWd (w : World) (b : Nat) : Prop := ∀ j n, w.cell? ⟨b, j, none⟩ ≠ some (.int .u64 n)
theorem At.quiet {w w' : World} {v : Value} {l : List Nat} {S : Nat → Prop} (h : At w .u64 v l) (ha : Apart S w w') (hS : ∀ b, S b → NoWd w b) : At w' .u64 v l := by
  obtain ⟨p, cap, rfl, h1, h2, h3, h4⟩ := h
  refine ⟨p, cap, rfl, h1, h2, h3, fun hp => ?_⟩
  obtain ⟨b, off, h5, h6, h7⟩ := h4 hp
  have hn : ¬ S b := fun hs => hS b hs _ _ (h7 0 hp)
  refine ⟨b, off, h5, Nat.lt_of_lt_of_le h6 ha.size, fun i hi => ?_⟩
  rw [← h7 i hi]
  exact World.cell?_of_block (w := w) (ha.block b h6 hn)
theorem IntAt.quiet {w w' : World} {v : Value} {z : Int} {S : Nat → Prop} (h : IntAt w v z) (ha : Apart S w w') (hS : ∀ b, S b → NoWd w b) : IntAt w' v z := by
  obtain ⟨s, e, h⟩ := h
  exact ⟨s, e, h.quiet ha hS⟩
theorem RawAt.quiet {w w' : World} {v : Value} {z : Int} {S : Nat → Prop} (h : RawAt w v z) (ha : Apart S w w') (hS : ∀ b, S b → NoWd w b) : RawAt w' v z := by
  obtain ⟨neg, s, l, e, h, r⟩ := h
  exact ⟨neg, s, l, e, h.quiet ha hS, r⟩
theorem NoWd.map {w : World} {b : Nat} {es : Array MapEntry} {c : Nat} (h : w.heap[b]? = some (.map es c)) : NoWd w b := by
  intro j n hc
  simp [World.cell?, h] at hc
theorem NoWd.cells {w : World} {b : Nat} {cs : Array Value} {T : TypeId} (h : w.heap[b]? = some (.cells cs T (0, 0))) (hc : ∀ n, .int .u64 n ∉ cs) : NoWd w b := by
  intro j n e
  rw [cell_of_row w b j cs T (0, 0) h] at e
  exact hc n (Array.mem_of_getElem? e)
theorem IntAt.rawL {w : World} {v : Value} {z : Int} (h : IntAt w v z) (hs : sz W z.natAbs ≤ 1099511627776) : RawAt w v z := by
  obtain ⟨s, rfl, h⟩ := h
  refine ⟨_, s, _, rfl, h, small_dig W2 _, hs, ?_⟩
  rw [val_dig W2]
  unfold sg
  by_cases e : z < 0
  · simp only [e, decide_true, if_true]; omega
  · simp only [e, decide_false, Bool.false_eq_true, if_false]; omega

/-! ### parts and sums -/
def wfI (t : Int) : Prop := (Lit.int .i64 t).wf = true
/-- a part as it is handed in -/
def PtR (w : World) (c : List Value) (p : Int × Int) : Prop := ∃ n s, c = [.bool n, s, .int .i64 p.2] ∧ RawAt w (.agg #[.bool n, s]) p.1 ∧ wfI p.2
theorem PtR.below {w w' : World} {c : List Value} {p : Int × Int} (h : PtR w c p) (hb : Below w.heap.size w w') : PtR w' c p := by
  obtain ⟨n, s, e, h, k⟩ := h
  exact ⟨n, s, e, h.below hb, k⟩
abbrev PtsR := LsIn 3 PtR
theorem PtsR.below {w w' : World} {v : Value} {l : List (Int × Int)} (h : PtsR w v l) (hb : Below w.heap.size w w') : PtsR w' v l := LsIn.below (Q := PtR) (fun h hb => PtR.below h hb) h hb
/-- a sum as it is handed in: three values, flat -/
def LnR (w : World) (v : Value) (a : List (Int × Int) × Int) : Prop := ∃ pv n s, v = .agg #[pv, .bool n, s] ∧ PtsR w pv a.1 ∧ RawAt w (.agg #[.bool n, s]) a.2
theorem LnR.below {w w' : World} {v : Value} {a : List (Int × Int) × Int} (h : LnR w v a) (hb : Below w.heap.size w w') : LnR w' v a := by
  obtain ⟨pv, n, s, e, h1, h2⟩ := h
  exact ⟨pv, n, s, e, h1.below hb, h2.below hb⟩
/-- a part as it is told -/
def PtT (w : World) (c : List Value) (p : Int × Int) : Prop := ∃ s, c = [.bool (decide (p.1 < 0)), s, .int .i64 p.2] ∧ IntAt w (.agg #[.bool (decide (p.1 < 0)), s]) p.1 ∧ wfI p.2
theorem PtT.below {w w' : World} {c : List Value} {p : Int × Int} (h : PtT w c p) (hb : Below w.heap.size w w') : PtT w' c p := by
  obtain ⟨s, e, h, k⟩ := h
  exact ⟨s, e, h.below hb, k⟩
abbrev PtsT := LsIn 3 PtT
theorem PtsT.below {w w' : World} {v : Value} {l : List (Int × Int)} (h : PtsT w v l) (hb : Below w.heap.size w w') : PtsT w' v l := LsIn.below (Q := PtT) (fun h hb => PtT.below h hb) h hb
def LnT (w : World) (v : Value) (a : List (Int × Int) × Int) : Prop := ∃ pv s, v = .agg #[pv, .bool (decide (a.2 < 0)), s] ∧ PtsT w pv a.1 ∧ IntAt w (.agg #[.bool (decide (a.2 < 0)), s]) a.2
theorem LnT.below {w w' : World} {v : Value} {a : List (Int × Int) × Int} (h : LnT w v a) (hb : Below w.heap.size w w') : LnT w' v a := by
  obtain ⟨pv, s, e, h1, h2⟩ := h
  exact ⟨pv, s, e, h1.below hb, h2.below hb⟩
/-- sizes: at most N words a number -/
def LnSz (N : Nat) (a : List (Int × Int) × Int) : Prop := (∀ p ∈ a.1, sz W p.1.natAbs ≤ N) ∧ sz W a.2.natAbs ≤ N
theorem PtsT.raw {w : World} {v : Value} {l : List (Int × Int)} (h : PtsT w v l) (hs : ∀ p ∈ l, sz W p.1.natAbs ≤ 1099511627776) : PtsR w v l := by
  obtain ⟨p, cap, rfl, h1, h2, h3, h4⟩ := h
  refine ⟨p, cap, rfl, h1, h2, h3, fun hp => ?_⟩
  obtain ⟨b, off, h5, h6, h7⟩ := h4 hp
  refine ⟨b, off, h5, h6, fun i hi => ?_⟩
  obtain ⟨c, k1, s, e, k2, k3⟩ := h7 i hi
  exact ⟨c, k1, _, s, e, k2.rawL (hs _ (List.getElem_mem hi)), k3⟩
theorem LnT.raw {w : World} {v : Value} {a : List (Int × Int) × Int} (h : LnT w v a) {N : Nat} (hs : LnSz N a) (hN : N ≤ 1099511627776) : LnR w v a := by
  obtain ⟨pv, s, e, h1, h2⟩ := h
  exact ⟨pv, _, s, e, h1.raw (fun p hp => Nat.le_trans (hs.1 p hp) hN), h2.rawL (Nat.le_trans hs.2 hN)⟩
/-- what a call answers: a sum -/
def RLin (a : List (Int × Int) × Int) (w : World) (e : Ending) (w' : World) : Prop := ∃ v, e = .returned v ∧ LnT w' v a ∧ Below w.heap.size w w'
theorem wfI_iff (t : Int) : wfI t ↔ -9223372036854775808 ≤ t ∧ t ≤ 9223372036854775807 := by
  have e : IntKind.min .i64 = -9223372036854775808 := by decide
  have e' : IntKind.max .i64 = 9223372036854775807 := by decide
  simp only [wfI, Lit.wf, e, e', Bool.and_eq_true, decide_eq_true_eq]
theorem lnCf_sz {N : Nat} (hN : 1 ≤ N) (t : Int) : ∀ (ps : List (Int × Int)), (∀ p ∈ ps, sz W p.1.natAbs ≤ N) → sz W (lnCf ps t).natAbs ≤ N + ps.length
  | [], _ => by simp [lnCf, sz_zero]
  | p :: ps, h => by
    have ih := lnCf_sz hN t ps (fun q hq => h q (by simp [hq]))
    have h0 : sz W (if p.2 = t then p.1 else 0).natAbs ≤ N + ps.length := by
      split
      · exact Nat.le_trans (h p (by simp)) (Nat.le_add_right _ _)
      · simp [sz_zero]
    simp only [lnCf, List.length_cons]
    exact Nat.le_trans (sz_mono W2 (Int.natAbs_add_le _ _)) (sz_add W2 h0 ih)
/-! ### the keys in order -/
def lnDed : List Int → List Int
  | [] => []
  | x :: l => if x ∈ lnDed l then lnDed l else x :: lnDed l
theorem lnDed_mem (t : Int) : ∀ l, t ∈ lnDed l ↔ t ∈ l
  | [] => by simp [lnDed]
  | x :: l => by
    unfold lnDed
    by_cases h : x ∈ lnDed l
    · rw [if_pos h, lnDed_mem t l, List.mem_cons]
      constructor
      · exact .inr
      · rintro (rfl | h2)
        · exact (lnDed_mem _ l).1 h
        · exact h2
    · rw [if_neg h, List.mem_cons, List.mem_cons, lnDed_mem t l]
theorem lnDed_nodup : ∀ l, (lnDed l).Nodup
  | [] => List.nodup_nil
  | x :: l => by
    unfold lnDed
    by_cases h : x ∈ lnDed l
    · rw [if_pos h]; exact lnDed_nodup l
    · rw [if_neg h]; exact List.nodup_cons.2 ⟨h, lnDed_nodup l⟩
theorem lnDed_len : ∀ l, (lnDed l).length ≤ l.length
  | [] => by simp [lnDed]
  | x :: l => by
    have := lnDed_len l
    unfold lnDed
    split
    · simp; omega
    · simp; omega
def lnKeys (ks : List Int) : List Int := (lnDed ks).mergeSort leI
theorem lnKeys_mem (ks : List Int) (t : Int) : t ∈ lnKeys ks ↔ t ∈ ks := by
  unfold lnKeys
  rw [(List.mergeSort_perm _ _).mem_iff, lnDed_mem]
theorem lnKeys_len (ks : List Int) : (lnKeys ks).length ≤ ks.length := by
  unfold lnKeys
  rw [List.length_mergeSort]
  exact lnDed_len ks
theorem lnKeys_up (ks : List Int) : (lnKeys ks).Pairwise (· < ·) := by
  have tr : ∀ a b c : Int, leI a b = true → leI b c = true → leI a c = true := fun a b c h1 h2 => by simp only [leI, decide_eq_true_eq] at *; exact Int.le_trans h1 h2
  have hto : ∀ a b : Int, (leI a b || leI b a) = true := fun a b => by simp only [leI, Bool.or_eq_true, decide_eq_true_eq]; exact Int.le_total a b
  have h1 := List.pairwise_mergeSort tr hto (lnDed ks)
  have h2 : (lnKeys ks).Nodup := ((List.mergeSort_perm _ _).nodup_iff).2 (lnDed_nodup ks)
  refine (h1.and h2).imp ?_
  rintro a b ⟨h3, h4⟩
  simp only [leI, decide_eq_true_eq] at h3
  omega

/-! ### a gathering -/
def zeroI : Value := .agg #[.bool false, .slice none 0 0]
def RV (v : Value) : Option (DataW Value × List MemPlace) := some (.held v, [])
/-- block m is a map that tells each term's number; ks: the terms that were put in -/
def MpN (w : World) (m : Nat) (ks : List Int) (cf : Int → Int) : Prop :=
  ∃ (D : DataW Value) (n : Nat), n ≤ ks.length ∧ w.ownsMap Tryz.prog 3 RV m n D ∧ (∀ t, Maps.has D (.int .i64 t) = decide (t ∈ ks)) ∧ (∀ t ∈ ks, wfI t) ∧
    ∀ t, ∃ v, D.atKey (.int .i64 t) (.held zeroI) = .held v ∧ IntAt w v (cf t)
theorem MpN.made (w : World) : MpN (w.alloc (.map #[] 0)) w.heap.size [] (fun _ => 0) :=
  ⟨.map [], 0, Nat.le_refl _, World.ownsMap_made w _ _ _, fun t => by simp [Maps.has], nofun, fun t => ⟨zeroI, by simp [DataW.atKey], IntAt.zero _⟩⟩
theorem MpN.congr {w : World} {m : Nat} {ks : List Int} {cf cf' : Int → Int} (h : MpN w m ks cf) (he : ∀ t, cf t = cf' t) : MpN w m ks cf' := by
  obtain rfl : cf = cf' := funext he
  exact h
theorem MpN.noWd {w : World} {m : Nat} {ks : List Int} {cf : Int → Int} (h : MpN w m ks cf) : NoWd w m := by
  obtain ⟨D, n, _, ⟨es, c, hb, _⟩, _⟩ := h
  exact NoWd.map hb
theorem MpN.lt {w : World} {m : Nat} {ks : List Int} {cf : Int → Int} (h : MpN w m ks cf) : m < w.heap.size := by
  obtain ⟨D, n, _, h, _⟩ := h
  exact h.lt
theorem MpN.apart {w w' : World} {m : Nat} {ks : List Int} {cf : Int → Int} (h : MpN w m ks cf) {S : Nat → Prop} (ha : Apart S w w') (hm : ¬ S m) (hS : ∀ b, S b → NoWd w b) : MpN w' m ks cf := by
  have hlt := h.lt
  obtain ⟨D, n, h1, ⟨es, c, hb, r⟩, h3, h4, h5⟩ := h
  refine ⟨D, n, h1, ⟨es, c, (ha.block m hlt hm).trans hb, r⟩, h3, h4, fun t => ?_⟩
  obtain ⟨v, e, hi⟩ := h5 t
  exact ⟨v, e, hi.quiet ha hS⟩
theorem MpN.below {w w' : World} {m : Nat} {ks : List Int} {cf : Int → Int} (h : MpN w m ks cf) (hb : Below w.heap.size w w') : MpN w' m ks cf :=
  h.apart (S := fun _ => False) (Apart.of_below hb) id nofun
theorem undI : Tryz.prog.underlying 3 = some (.int .i64) := Tryz.underlying3
theorem key_i (t : Int) (h : wfI t) : keyOf Tryz.prog 3 (.int .i64 t) = some (.int .i64 t) := Maps.keyOf_int_mk undI h
theorem zeroInt_run (w : World) : (zeroValue 26).run Tryz.prog w = .ok zeroI w := by kernel_rfl
theorem MpN.look {w : World} {m : Nat} {ks : List Int} {cf : Int → Int} (h : MpN w m ks cf) (t : Int) (ht : wfI t) :
    ∃ p n c, (Instr.lookup 57 (.map (some m)) (.int .i64 t) false).run Tryz.prog w = .ok (.agg #[.bool (decide (cf t < 0)), .slice p n c]) w ∧ IntAt w (.agg #[.bool (decide (cf t < 0)), .slice p n c]) (cf t) := by
  obtain ⟨D, n, h1, h2, h3, h4, h5⟩ := h
  obtain ⟨v, ps, hrun, hv⟩ := h2.lookup (Maps.int_keyed undI) Tryz.underlying57 (zeroInt_run w) (zd := .held zeroI) (zp := []) rfl (key_i t ht)
  obtain ⟨u, e, hi⟩ := h5 t
  rw [e] at hv
  unfold RV at hv
  simp only [Option.some.injEq, Prod.mk.injEq, DataW.held.injEq] at hv
  obtain ⟨rfl, -⟩ := hv
  obtain ⟨p, k, c, rfl, hi⟩ := hi.shape
  exact ⟨p, k, c, hrun, hi⟩
theorem MpN.put {w : World} {m : Nat} {ks : List Int} {cf : Int → Int} (h : MpN w m ks cf) (t : Int) (ht : wfI t) (hk : ks.length < maxLen) {v : Value} {z : Int} (hv : IntAt w v z) :
    ∃ w', (Instr.mapUpdate 57 (.map (some m)) (.int .i64 t) v).run Tryz.prog w = .ok () w' ∧ MpN w' m (ks ++ [t]) (fun u => if u = t then z else cf u) ∧ Apart (fun k => k = m) w w' := by
  have hnw := h.noWd
  obtain ⟨D, n, h1, h2, h3, h4, h5⟩ := h
  have hD := h2.isMap
  have hkl : WideAt.IsKeyLit (Lit.int .i64 t) := by simp [WideAt.IsKeyLit]
  obtain ⟨w', hrun, h6, hg⟩ := h2.update (Maps.int_keyed undI) Tryz.underlying57 (Nat.lt_of_le_of_lt h1 hk) (key_i t ht) (val := v) (d := .held v) (ps := []) rfl
  have ha : Apart (fun k => k = m) w w' := ⟨hg.os, hg.tape, hg.output, hg.size, fun i hi hn => hg.block i hi (by intro e; injection e with e; exact hn e)⟩
  refine ⟨w', hrun, ⟨_, n + 1, by simp; omega, h6, fun u => ?_, fun u hu => ?_, fun u => ?_⟩, ha⟩
  · by_cases e : u = t
    · subst e; rw [Maps.has_put_same hD hkl]; simp
    · rw [Maps.has_put_other (by intro h; injection h with _ h; exact e h), h3 u]; simp [e]
  · rcases List.mem_append.1 hu with hu | hu
    · exact h4 u hu
    · rw [List.mem_singleton.1 hu]; exact ht
  · by_cases e : u = t
    · subst e
      refine ⟨v, Maps.atKey_put_same hD hkl _ _, ?_⟩
      show IntAt w' v (if u = u then z else cf u)
      rw [if_pos rfl]
      exact hv.quiet ha (fun b hb => by rw [hb]; exact hnw)
    · obtain ⟨x, ex, hx⟩ := h5 u
      refine ⟨x, by rw [Maps.atKey_put_other (by intro h; injection h with _ h; exact e h)]; exact ex, ?_⟩
      show IntAt w' x (if u = t then z else cf u)
      rw [if_neg e]
      exact hx.quiet ha (fun b hb => by rw [hb]; exact hnw)
/-- block g holds a map and a number -/
structure GaAt (w : World) (g m : Nat) (ks : List Int) (cf : Int → Int) (r : Int) : Prop where
  ne : m ≠ g
  cells : ∃ p n c, w.heap[g]? = some (.cells #[.map (some m), .bool (decide (r < 0)), .slice p n c] 59 (0, 0)) ∧ IntAt w (.agg #[.bool (decide (r < 0)), .slice p n c]) r
  map : MpN w m ks cf
theorem GaAt.congr {w : World} {g m : Nat} {ks : List Int} {cf cf' : Int → Int} {r : Int} (h : GaAt w g m ks cf r) (he : ∀ t, cf t = cf' t) : GaAt w g m ks cf' r := ⟨h.ne, h.cells, h.map.congr he⟩
theorem GaAt.noWd {w : World} {g m : Nat} {ks : List Int} {cf : Int → Int} {r : Int} (h : GaAt w g m ks cf r) : NoWd w g := by
  obtain ⟨p, n, c, hb, _⟩ := h.cells
  exact NoWd.cells hb (by simp)
theorem GaAt.lt {w : World} {g m : Nat} {ks : List Int} {cf : Int → Int} {r : Int} (h : GaAt w g m ks cf r) : g < w.heap.size := by
  obtain ⟨p, n, c, hb, _⟩ := h.cells
  exact (Array.getElem?_eq_some_iff.1 hb).1
theorem GaAt.below {w w' : World} {g m : Nat} {ks : List Int} {cf : Int → Int} {r : Int} (h : GaAt w g m ks cf r) (hb : Below w.heap.size w w') : GaAt w' g m ks cf r := by
  have hlt := h.lt
  obtain ⟨h1, ⟨p, n, c, h2, h3⟩, h4⟩ := h
  exact ⟨h1, ⟨p, n, c, (hb.block g hlt).trans h2, h3.below hb⟩, h4.below hb⟩
theorem GaAt.put {w : World} {g m : Nat} {ks : List Int} {cf : Int → Int} {r : Int} (h : GaAt w g m ks cf r) (t : Int) (ht : wfI t) (hk : ks.length < maxLen) {v : Value} {z : Int} (hv : IntAt w v z) :
    ∃ w', (Instr.mapUpdate 57 (.map (some m)) (.int .i64 t) v).run Tryz.prog w = .ok () w' ∧ GaAt w' g m (ks ++ [t]) (fun u => if u = t then z else cf u) r ∧ Apart (fun k => k = m) w w' := by
  have hnw := h.map.noWd
  have hlt := h.lt
  obtain ⟨h1, ⟨p, n, c, h2, h3⟩, h4⟩ := h
  obtain ⟨w', hrun, h5, ha⟩ := h4.put t ht hk hv
  exact ⟨w', hrun, ⟨h1, ⟨p, n, c, (ha.block g hlt (fun e => h1 e.symm)).trans h2, h3.quiet ha (fun b hb => by rw [hb]; exact hnw)⟩, h5⟩, ha⟩
theorem apart_set (w : World) (g j : Nat) (u : Value) : Apart (fun k => k = g) w (w.setCell ⟨g, j, none⟩ u) :=
  ⟨rfl, rfl, rfl, by simp [World.setCell], fun k _ hn => Below.heap_setCell _ _ _ _ hn⟩
theorem GaAt.rest {w : World} {g m : Nat} {ks : List Int} {cf : Int → Int} {r : Int} (h : GaAt w g m ks cf r) {z : Int} {p : Option Addr} {n c : Nat} (hv : IntAt w (.agg #[.bool (decide (z < 0)), .slice p n c]) z) :
    GaAt ((w.setCell ⟨g, 1, none⟩ (.bool (decide (z < 0)))).setCell ⟨g, 2, none⟩ (.slice p n c)) g m ks cf z ∧ Apart (fun k => k = g) w ((w.setCell ⟨g, 1, none⟩ (.bool (decide (z < 0)))).setCell ⟨g, 2, none⟩ (.slice p n c)) := by
  have hnw := h.noWd
  have hlt := h.lt
  obtain ⟨h1, ⟨p', n', c', h2, h3⟩, h4⟩ := h
  have ha : Apart (fun k => k = g) w ((w.setCell ⟨g, 1, none⟩ (.bool (decide (z < 0)))).setCell ⟨g, 2, none⟩ (.slice p n c)) := (apart_set _ _ _ _).go (apart_set _ _ _ _)
  refine ⟨⟨h1, ⟨p, n, c, ?_, hv.quiet ha (fun b hb => by rw [hb]; exact hnw)⟩, h4.apart ha h1 (fun b hb => by rw [hb]; exact hnw)⟩, ha⟩
  have e1 := heap_setCell_same w g 1 _ _ (.bool (decide (z < 0))) h2
  exact heap_setCell_same _ g 2 _ _ (.slice p n c) e1
/-- the keys of the map -/
theorem MpN.keys {w : World} {m : Nat} {ks : List Int} {cf : Int → Int} (h : MpN w m ks cf) : ∃ (D : DataW Value) (n : Nat), w.ownsMap Tryz.prog 3 RV m n D ∧ Maps.size D ≤ ks.length ∧ (lnDed ks).Perm (intKeys D) := by
  obtain ⟨D, n, h1, h2, h3, h4, h5⟩ := h
  refine ⟨D, n, h2, Nat.le_trans h2.size_le h1, ?_⟩
  obtain ⟨es, rfl, hk⟩ := h2.keysOf
  obtain ⟨es', e, ht⟩ := h2.tidy (Maps.int_keyed undI)
  injection e with e
  subst e
  refine perm_intKeys ht (fun p hp => ?_) (lnDed_nodup ks) (fun x => ?_)
  · obtain ⟨v, hv⟩ := hk p hp
    obtain ⟨x, -, e, -⟩ := Maps.keyOf_i64 undI hv
    exact ⟨x, e⟩
  · rw [h3, lnDed_mem]
    simp
end Go.Proofs.YtjfehknilofdjaaGreat
/- linear's small functions: gather, itself, number.product, number.quotient. -/
namespace Go.Proofs.YtjfehknilofdjaaGreat
open Go.RowKit Big

/-- what a call answers: a number that reads as z -/
def RRaw (z : Int) (w : World) (e : Ending) (w' : World) : Prop := ∃ p n c d, e = .returned (.agg #[.bool d, .slice p n c]) ∧ RawAt w' (.agg #[.bool d, .slice p n c]) z ∧ Below w.heap.size w w'
theorem RawAt.agg2 {w : World} {v : Value} {z : Int} (h : RawAt w v z) : ∃ d p n c, v = .agg #[.bool d, .slice p n c] := by
  obtain ⟨d, s, l, rfl, ⟨p, c, rfl, -⟩, -⟩ := h
  exact ⟨_, _, _, _, rfl⟩
theorem itself_any (v : Value) (z : Int) (w : World) (h : RawAt w v z) : Calls Tryz.prog 19 #[v] w (RRaw z w) := by
  obtain ⟨d, p, n, c, rfl⟩ := h.agg2
  have H := hid h
  clear h
  go_enter Tryz.func19, Tryz.ntmps19
  go_wp2
  have b1 : Below w.heap.size w ((w.alloc (.cells #[.bool d, .slice p n c] 26)).alloc (.cells #[.bool d, .slice p n c] 26)) := (below1 _ _).alloc (by simp) _
  exact bodyPost_ret (v := .agg #[.bool d, .slice p n c]) (by simp [results, Tryz.results19, go_sem]) rfl ⟨_, _, _, _, rfl, H.out.below b1, b1⟩
set_option maxRecDepth 100000 in
theorem product_any (v u : Value) (z k : Int) (w : World) (h : RawAt w v z) (hk : RawAt w u k) (hz : sz W z.natAbs ≤ 549755813888) (hks : sz W k.natAbs ≤ 549755813888) (hp : sz W (z * k).natAbs ≤ 1099511627776) :
    Calls Tryz.prog 24 #[u, v] w (RRaw (z * k) w) := by
  obtain ⟨d, p, n, c, rfl⟩ := h.agg2
  obtain ⟨d1, p1, n1, c1, rfl⟩ := hk.agg2
  obtain ⟨W3, hW⟩ : ∃ W3, W3 = ((w.alloc (.cells #[.bool d1, .slice p1 n1 c1] 51)).alloc (.cells #[.bool d, .slice p n c] 26)).alloc (.cells #[.bool false, .slice none 0 0] 26) := ⟨_, rfl⟩
  have b1 : Below w.heap.size w W3 := by rw [hW]; exact ((below1 _ _).alloc (by simp) _).alloc (by simp; omega) _
  have hM := hid (fun w' (hb : Below w.heap.size w w') => Mul_any _ _ z k w' (h.below hb) (hk.below hb) hz hks)
  have hpr : Pair W3 (w.heap.size + 1 + 1) 26 := by rw [hW]; exact Pair.new2 ..
  have HP := hid hp
  have z3 : W3.heap.size = w.heap.size + 3 := by rw [hW]; simp
  clear h hk hz hks hp
  go_enter Tryz.func24, Tryz.ntmps24
  go_wp2_with fail
  rw [← hW]
  clear hW
  refine (hM.out W3 b1).mono ?_
  rintro e w2 ⟨v2, rfl, i2, b2⟩
  obtain ⟨p2, n2, c2, rfl, i2⟩ := i2.shape
  have hp2 := hpr.below b2
  obtain ⟨_, _, q0, q1, q2, q3⟩ := hp2.cells
  go_wp2
  have b3 := Below.stored (b1.trans (b2.mono (B' := w.heap.size) (by omega))) (g := w.heap.size + 1 + 1) (by omega) (.bool (decide (z * k < 0))) (.slice p2 n2 c2)
  exact bodyPost_ret (v := .agg #[.bool (decide (z * k < 0)), .slice p2 n2 c2]) (by simp [results, Tryz.results24, go_sem, q0, q1]) rfl
    ⟨_, _, _, _, rfl, (i2.stored hp2 _ _ _ _).rawL HP.out, b3⟩
set_option maxRecDepth 100000 in
theorem quotient_any (v u : Value) (z k : Int) (w : World) (h : RawAt w v z) (hk : RawAt w u k) (h0 : k ≠ 0) :
    Calls Tryz.prog 31 #[u, v] w (RInt (z / k) w) := by
  obtain ⟨d, p, n, c, rfl⟩ := h.agg2
  obtain ⟨d1, p1, n1, c1, rfl⟩ := hk.agg2
  obtain ⟨W3, hW⟩ : ∃ W3, W3 = ((w.alloc (.cells #[.bool d1, .slice p1 n1 c1] 51)).alloc (.cells #[.bool d, .slice p n c] 26)).alloc (.cells #[.bool false, .slice none 0 0] 26) := ⟨_, rfl⟩
  have b1 : Below w.heap.size w W3 := by rw [hW]; exact ((below1 _ _).alloc (by simp) _).alloc (by simp; omega) _
  have hM := hid (fun w' (hb : Below w.heap.size w w') => Div_any _ _ z k w' (h.below hb) (hk.below hb) h0)
  have hpr : Pair W3 (w.heap.size + 1 + 1) 26 := by rw [hW]; exact Pair.new2 ..
  have z3 : W3.heap.size = w.heap.size + 3 := by rw [hW]; simp
  clear h hk h0
  go_enter Tryz.func31, Tryz.ntmps31
  go_wp2_with fail
  rw [← hW]
  clear hW
  refine (hM.out W3 b1).mono ?_
  rintro e w2 ⟨v2, v3, rfl, i2, i3, b2⟩
  obtain ⟨p2, n2, c2, rfl, i2⟩ := i2.shape
  obtain ⟨p3, n3, c3, rfl, i3⟩ := i3.shape
  have z2 := b2.size
  obtain ⟨W5, hW5⟩ : ∃ W5, W5 = (w2.alloc (.cells #[.bool (decide (z / k < 0)), .slice p2 n2 c2] 26)).alloc (.cells #[.bool (decide (z % k < 0)), .slice p3 n3 c3] 26) := ⟨_, rfl⟩
  have b5 : Below w2.heap.size w2 W5 := by rw [hW5]; exact (below1 _ _).alloc (by simp) _
  have hp5 := (hpr.below b2).below b5
  have e5 : W5.heap[w2.heap.size]? = some (.cells #[.bool (decide (z / k < 0)), .slice p2 n2 c2] 26 (0, 0)) := by
    rw [hW5, heap_alloc_old _ _ (by simp)]; exact heap_alloc_new _ _
  have i5 := i2.below b5
  obtain ⟨_, _, q0, q1, q2, q3⟩ := hp5.cells
  obtain ⟨t0, t1, t2, t3⟩ := two_cells e5
  go_upto_region 2 with fail
  rw [← hW5]
  clear hW5
  go_wp2
  have b3 := Below.stored (b1.trans ((b2.trans (b5.mono (B' := W3.heap.size) (by omega))).mono (B' := w.heap.size) (by omega))) (g := w.heap.size + 1 + 1) (by omega) (.bool (decide (z / k < 0))) (.slice p2 n2 c2)
  exact bodyPost_ret (v := .agg #[.bool (decide (z / k < 0)), .slice p2 n2 c2]) (by simp [results, Tryz.results31, go_sem, q0, q1]) rfl
    ⟨_, rfl, i5.stored hp5 _ _ _ _, b3⟩
theorem quotient_raw (v u : Value) (z k : Int) (w : World) (h : RawAt w v z) (hk : RawAt w u k) (h0 : k ≠ 0) (hp : sz W (z / k).natAbs ≤ 1099511627776) :
    Calls Tryz.prog 31 #[u, v] w (RRaw (z / k) w) := by
  refine (quotient_any v u z k w h hk h0).mono ?_
  rintro e w1 ⟨v1, rfl, i1, b1⟩
  obtain ⟨p1, n1, c1, rfl, i1⟩ := i1.shape
  exact ⟨_, _, _, _, rfl, i1.rawL hp, b1⟩
theorem gather_any (w : World) : Calls Tryz.prog 17 #[] w (fun e w' => ∃ g m, e = .returned (.pointer (some ⟨g, 0, none⟩)) ∧ GaAt w' g m [] (fun _ => 0) 0 ∧ Below w.heap.size w w' ∧ w.heap.size ≤ g ∧ w.heap.size ≤ m) := by
  have hmm := @run_makeMap Tryz.prog
  go_enter Tryz.func17, Tryz.ntmps17
  go_wp2
  go_ret
  have hM := MpN.made w
  have b1 := below1 (w.alloc (.map #[] 0)) (.cells #[.map (some w.heap.size), .bool false, .slice none 0 0] 59)
  refine ⟨_, w.heap.size, rfl, ⟨by simp, ⟨none, 0, 0, ?_, IntAt.zero _⟩, hM.below b1⟩, (below1 w _).alloc (by simp) _, by simp, Nat.le_refl _⟩
  have := heap_alloc_new (w.alloc (.map #[] 0)) (.cells #[.map (some w.heap.size), .bool false, .slice none 0 0] 59)
  rw [size_alloc] at this
  exact this
end Go.Proofs.YtjfehknilofdjaaGreat
/- (*linear.gathering).take: parts put into a gathering, one theorem a function value. -/
namespace Go.Proofs.YtjfehknilofdjaaGreat
open Go.RowKit Big

theorem oper_map {P : Program} {w w' : World} {o : Oper} {a : Act} {K : Act → World → Prop} {Q : Exit → Act → World → Prop} (m x v : Operand) (t : TypeId) (hop : o.op = Op.mapUpdate t m x v)
    (vm key val : Value) (hm : a.eval m = vm) (hx : a.eval x = key) (hv : a.eval v = val) (hd : o.dst = none) (hrun : (Instr.mapUpdate t vm key val).run P w = .ok () w') (h : K a w') : Oper.wp P o a w K Q := by
  have h' : K (a.put o.dst undef) w' := by rw [hd]; exact h
  unfold Oper.wp
  simp [execOp, hop, hm, hx, hv, hrun, Result.andThen]
  exact h'
def lnE (v0 : Value) : SFact := ⟨fun v _ => v = v0, fun _ _ _ h _ => h⟩
def lnI (z : Int) : SFact := ⟨fun v w => ∃ d p n c, v = .agg #[.bool d, .slice p n c] ∧ IntAt w v z, fun _ _ _ ⟨d, p, n, c, h1, h2⟩ hb => ⟨d, p, n, c, h1, h2.below hb⟩⟩
def lnR (z : Int) : SFact := ⟨fun v w => ∃ d p n c, v = .agg #[.bool d, .slice p n c] ∧ RawAt w v z, fun _ _ _ ⟨d, p, n, c, h1, h2⟩ hb => ⟨d, p, n, c, h1, h2.below hb⟩⟩
theorem lnGo {u w w' : World} (hb : Below w.heap.size w w') (h : Below u.heap.size u w) : Below u.heap.size u w' := h.trans (hb.mono h.size)
theorem lnCells3 {w : World} {g : Nat} {a b c : Value} {t : TypeId} (h : w.heap[g]? = some (.cells #[a, b, c] t (0, 0))) : w.cell? ⟨g, 0, none⟩ = some a ∧ w.cell? ⟨g, 1, none⟩ = some b ∧ w.cell? ⟨g, 2, none⟩ = some c := by
  simp [World.cell?, h]
/-- a gathering of so many parts -/
def Gn (w : World) (g m : Nat) (qs : List (Int × Int)) (r : Int) : Prop := GaAt w g m (qs.map (·.2)) (lnCf qs) r
theorem Gn.put {w : World} {g m : Nat} {qs : List (Int × Int)} {r : Int} (h : Gn w g m qs r) (t c : Int) (ht : wfI t) (hk : qs.length < maxLen) {v : Value} (hv : IntAt w v (lnCf qs t + c)) :
    ∃ w', (Instr.mapUpdate 57 (.map (some m)) (.int .i64 t) v).run Tryz.prog w = .ok () w' ∧ Gn w' g m (qs ++ [(c, t)]) r ∧ Apart (fun k => k = m) w w' := by
  obtain ⟨w', h1, h2, h3⟩ := GaAt.put h t ht (by simpa using hk) hv
  refine ⟨w', h1, ?_, h3⟩
  unfold Gn
  rw [List.map_append]
  refine GaAt.congr h2 (fun u => ?_)
  show (if u = t then lnCf qs t + c else lnCf qs u) = _
  rw [lnCf_append]
  by_cases e : u = t
  · subst e; simp [lnCf]
  · have e' : ¬ t = u := fun h => e h.symm
    simp [lnCf, e, e']
theorem apart_below {w0 w w' : World} {g m : Nat} (hb : Below w0.heap.size w0 w) (ha : Apart (fun k => k = g ∨ k = m) w w') (hg : w0.heap.size ≤ g) (hm : w0.heap.size ≤ m) : Below w0.heap.size w0 w' :=
  ⟨ha.os.trans hb.os, ha.tape.trans hb.tape, ha.output.trans hb.output, Nat.le_trans hb.size ha.size, fun k hk => (ha.block k (Nat.lt_of_lt_of_le hk hb.size) (by omega)).trans (hb.block k hk)⟩
set_option maxRecDepth 100000 in
set_option maxHeartbeats 6400000 in
theorem take_itself (W0 : World) (va : Value) (a : List (Int × Int) × Int) (g m : Nat) (qs : List (Int × Int)) (r : Int) (w : World) {N : Nat} (hN0 : 1 ≤ N)
    (ha : LnR W0 va a) (hN : ∀ p ∈ a.1, sz W p.1.natAbs ≤ N) (hN2 : sz W a.2.natAbs ≤ N) (hqs : ∀ p ∈ qs, sz W p.1.natAbs ≤ N + N) (hr : sz W r.natAbs ≤ 549755813888) (hlen : N + N + (qs.length + a.1.length) ≤ 549755813888)
    (hb : Below W0.heap.size W0 w) (hg : W0.heap.size ≤ g) (hm : W0.heap.size ≤ m) (hG : Gn w g m qs r) :
    Calls Tryz.prog 18 #[.pointer (some ⟨g, 0, none⟩), va, .func (.func 19) #[] #[]] w (fun e w' => e = .returned (.tuple #[]) ∧ Gn w' g m (qs ++ a.1) (r + a.2) ∧ Apart (fun k => k = g ∨ k = m) w w') := by
  obtain ⟨f, hf⟩ : ∃ f : Int → Int, f = fun z => z := ⟨_, rfl⟩
  have hfz : ∀ z, f z = z := fun z => by rw [hf]
  have HPhi : Hid (∀ (v : Value) (z : Int) (w' : World), Below W0.heap.size W0 w' → RawAt w' v z → sz W z.natAbs ≤ N → Calls Tryz.prog 19 #[v] w' (RRaw (f z) w')) := hid (fun v z w' _ h _ => by rw [hfz]; exact itself_any v z w' h)
  have HF : Hid (∀ z, sz W z.natAbs ≤ N → sz W (f z).natAbs ≤ N + N) := hid (fun z hz => by rw [hfz]; omega)
  have hmap : a.1 = a.1.map (fun p => (f p.1, p.2)) := by rw [hf]; simp
  rw [hmap, ← hfz a.2]
  clear hmap hfz hf
  obtain ⟨a1, a2⟩ := a
  have ha : LnR W0 va (a1, a2) := ha
  obtain ⟨pv, n0, s0, rfl, hp, h2⟩ := ha
  obtain ⟨p, cp, rfl, j1, j2, -, j4⟩ := hp
  have hp2 := h2.agg2
  obtain ⟨d2, p2, n2, c2, e2⟩ := hp2
  obtain ⟨rfl, rfl⟩ : s0 = .slice p2 n2 c2 ∧ n0 = d2 := by
    injection e2 with e2
    simpa [and_comm] using e2
  clear e2
  have J4 := hid j4
  have HR2 := hid h2
  unfold maxLen at j2
  obtain ⟨W, hW⟩ : ∃ W, W = w.alloc (.cells #[.slice p a1.length cp, .bool n0, .slice p2 n2 c2] 28) := ⟨_, rfl⟩
  have b0 : Below w.heap.size w W := by rw [hW]; exact below1 w _
  have e0 : W.heap[w.heap.size]? = some (.cells #[.slice p a1.length cp, .bool n0, .slice p2 n2 c2] 28 (0, 0)) := by rw [hW]; exact heap_alloc_new w _
  have hGW : Gn W g m qs r := hG.below b0
  have glt : g < w.heap.size := hG.lt
  have mlt : m < w.heap.size := hG.map.lt
  have Hb0 := hid b0; have HE0 := hid e0; have HGW := hid hGW; have HBW := hid (lnGo b0 hb)
  have Hg := hid hg; have Hm := hid hm; have Hr := hid (Nat.le_trans hr (by decide : 549755813888 ≤ 1099511627776)); have HN := hid hN; have HS2 := hid hN2; have Hqs := hid hqs; have Hlen := hid hlen
  have hzW : W.heap.size = w.heap.size + 1 := by rw [hW, size_alloc]
  have HzW := hid hzW
  obtain ⟨L, hLL⟩ : ∃ L, L = a1.length := ⟨_, rfl⟩
  have HLL := hid hLL
  have hLb : L ≤ 549755813888 := by rw [hLL]; have : (a1, a2).1.length = a1.length := rfl; omega
  rw [← hLL] at HE0 hW j1 ⊢
  clear hG hb hN hN2 hqs hr hlen hg hm j4 h2 b0 e0 hGW hzW hLL
  go_enter Tryz.func18, Tryz.ntmps18
  go_upto_region 1 with fail
  rw [← hW]
  clear hW
  have y1 := (lnCells3 HE0.out).1
  go_wp2_with fail
  clear y1
  go_loopw [11] (fun i wr => ∃ (k : Nat), k ≤ L ∧ i = .int .i64 (k : Nat) ∧ Hid (Gn wr g m (qs ++ (a1.take k).map (fun p => (f p.1, p.2))) r) ∧ Hid (Apart (fun k => k = g ∨ k = m) W wr)) (fun i _ => L - (intOf i).toNat)
  case atStart => exact ⟨0, Nat.zero_le _, rfl, hid (by simpa using HGW.out), hid (Apart.refl _ _)⟩
  case round =>
    obtain ⟨k, hk, rfl, hGk, hAk⟩ := hrel
    have HBr : Hid (Below W0.heap.size W0 wr) := hid (apart_below HBW.out hAk.out Hg.out Hm.out)
    by_cases hlt : k < L
    · have hkt : k < a1.length := by rw [← HLL.out]; exact hlt
      have hlt' : (k : Int) < (L : Int) := by omega
      obtain ⟨b, o, rfl, hb, hc⟩ := J4.out (by omega)
      obtain ⟨cs, k0, d, s, ecs, hraw, hwf⟩ := hc k hkt
      have hsh := hraw.agg2
      obtain ⟨d', q, n, cq, e2⟩ := hsh
      obtain ⟨rfl, rfl⟩ : s = .slice q n cq ∧ d = d' := by
        injection e2 with e2
        simpa [and_comm] using e2
      clear e2
      subst ecs
      have y0 := (HBr.out.cell (p := ⟨b, o + k * 3, none⟩) hb).trans (k0 0 _ rfl)
      have y1 := (HBr.out.cell (p := ⟨b, o + k * 3 + 1, none⟩) hb).trans (k0 1 _ rfl)
      have y2 := (HBr.out.cell (p := ⟨b, o + k * 3 + 2, none⟩) hb).trans (k0 2 _ rfl)
      have Hc := hid (HN.out a1[k] (List.getElem_mem hkt))
      have HT := hid hwf
      have Hnext : Hid (qs ++ (a1.take (k + 1)).map (fun p => (f p.1, p.2)) = (qs ++ (a1.take k).map (fun p => (f p.1, p.2))) ++ [(f a1[k].1, a1[k].2)]) := hid (by rw [List.take_succ_eq_append_getElem hkt, List.map_append, List.append_assoc]; rfl)
      have hqk : ∀ p ∈ qs ++ (a1.take k).map (fun p => (f p.1, p.2)), sz Big.W p.1.natAbs ≤ N + N := by
        intro p hp
        rcases List.mem_append.1 hp with hp | hp
        · exact Hqs.out p hp
        · obtain ⟨y, hy, rfl⟩ := List.mem_map.1 hp
          exact HF.out _ (HN.out y (List.mem_of_mem_take hy))
      have hll := Hlen.out
      have hlq : (qs ++ (a1.take k).map (fun p => (f p.1, p.2))).length = qs.length + k := by simp; omega
      generalize qs ++ (a1.take k).map (fun p => (f p.1, p.2)) = qk at *
      generalize a1[k].1 = c at *
      generalize a1[k].2 = t at *
      have Hs1 := hid (Nat.le_trans (lnCf_sz (by omega) t qk hqk) (by have : (a1, a2).1.length = a1.length := rfl; omega : N + N + qk.length ≤ 1099511627776))
      have Hk : Hid (qk.length < maxLen) := hid (by unfold maxLen; have : (a1, a2).1.length = a1.length := rfl; omega)
      have HR5' := hid (hraw.below HBr.out)
      clear hc hqk hlq hll hraw hwf k0 J4
      obtain ⟨W5, hW5⟩ : ∃ W5, W5 = wr.alloc (.cells #[.bool d, .slice q n cq, .int .i64 t] 38) := ⟨_, rfl⟩
      have b5 : Below wr.heap.size wr W5 := by rw [hW5]; exact below1 wr _
      have HE5 : Hid (W5.heap[wr.heap.size]? = some (.cells #[.bool d, .slice q n cq, .int .i64 t] 38 (0, 0))) := hid (by rw [hW5]; exact heap_alloc_new wr _)
      have HG5 : Hid (Gn W5 g m qk r) := hid (hGk.out.below b5)
      have HR5 := hid (HR5'.out.below b5)
      have HB5 := hid (lnGo b5 HBr.out)
      have HA5 : Hid (Apart (fun k => k = g ∨ k = m) W W5) := hid (hAk.out.go (Apart.of_below b5))
      have z5 : wr.heap.size < W5.heap.size := by rw [hW5, size_alloc]; omega
      clear b5 hGk hAk HR5' hb
      go_upto_region 4 with fail
      rw [← hW5]
      clear hW5 y0 y1 y2
      refine wp_region_facts (w0 := W5) 18 1 [15, 16, 17, 18, 19, 20, 21, 22, 23, 24, 25, 26, 27, 28, 29, 30, 31, 32] [u15, u16, u17, u18, u19, u20, u21, u22, u23, u24, u25, u26, u27, u28, u29, u30, u31, u32]
        (fun i => match i with | 0 => lnE (.pointer (some ⟨g, 0, none⟩)) | 1 => lnE (.pointer (some ⟨g, 0, none⟩)) | 2 => lnE (.pointer (some ⟨g, 0, none⟩)) | 3 => lnE (.map (some m)) | 4 => lnE (.pointer (some ⟨wr.heap.size, 2, none⟩)) | 5 => lnE (.int .i64 t) | 6 => lnE (.pointer (some ⟨g, 0, none⟩)) | 7 => lnE (.pointer (some ⟨g, 0, none⟩)) | 8 => lnE (.pointer (some ⟨g, 0, none⟩)) | 9 => lnE (.map (some m)) | 10 => lnE (.pointer (some ⟨wr.heap.size, 2, none⟩)) | 11 => lnE (.int .i64 t) | 12 => lnI (lnCf qk t) | 13 => lnE (.func (.func 19) #[] #[]) | 14 => lnE (.pointer (some ⟨wr.heap.size, 0, none⟩)) | 15 => lnE (.agg #[.bool d, .slice q n cq]) | 16 => lnR (f c) | _ => lnI (lnCf qk t + f c)) [] (by kernel_rfl) (by kernel_rfl) (by kernel_rfl) (by kernel_rfl) (by decide) rfl (by kernel_rfl) rfl (by simp) ?he1 ?_ ?_ ?_
      case he1 => simp only [putAll, Act.put, List.setIfInBounds_toArray, List.set_cons_zero, List.set_cons_succ]
      · intro i hi; simp at hi
      · intro i o hi ho vs wx hvl hb hdep K hK
        have hvs := vlen18 hvl
        obtain ⟨s15, s16, s17, s18, s19, s20, s21, s22, s23, s24, s25, s26, s27, s28, s29, s30, s31, s32, rfl⟩ := hvs
        clear hvl
        have HGx : GaAt wx g m _ _ r := HG5.out.below hb
        obtain ⟨pg, ng, cg, hgb, -⟩ := HGx.cells
        obtain ⟨x0, x1, x2⟩ := lnCells3 hgb
        obtain ⟨z0, z1, z2⟩ := lnCells3 ((hb.block wr.heap.size (by omega)).trans HE5.out)
        rcases i with _ | _ | _ | _ | _ | _ | _ | _ | _ | _ | _ | _ | _ | _ | _ | _ | _ | _ | i
        all_goals (simp only [List.getElem?_toArray, List.getElem?_cons_zero, List.getElem?_cons_succ, Option.some.injEq] at ho)
        all_goals try (subst ho)
        all_goals try simp only [putAll, Act.put, List.setIfInBounds_toArray, List.set_cons_zero, List.set_cons_succ]
        · go_simp
          have hK' := hK.out
          simp only [putAll, Act.put, List.setIfInBounds_toArray, List.set_cons_zero, List.set_cons_succ] at hK'
          exact hK' _ _ rfl (Below.refl _ _) (by simp)
        · have e0 : s15 = _ := hdep ⟨0, .data⟩ (by simp) rfl
          have e0 := e0.symm
          subst e0
          go_simp
          have hK' := hK.out
          simp only [putAll, Act.put, List.setIfInBounds_toArray, List.set_cons_zero, List.set_cons_succ] at hK'
          exact hK' _ _ rfl (Below.refl _ _) (by simp)
        · have e1 : s16 = _ := hdep ⟨1, .data⟩ (by simp) rfl
          have e1 := e1.symm
          subst e1
          go_simp
          have hK' := hK.out
          simp only [putAll, Act.put, List.setIfInBounds_toArray, List.set_cons_zero, List.set_cons_succ] at hK'
          exact hK' _ _ rfl (Below.refl _ _) (by simp)
        · have e2 : s17 = _ := hdep ⟨2, .data⟩ (by simp) rfl
          have e2 := e2.symm
          subst e2
          go_simp
          have hK' := hK.out
          simp only [putAll, Act.put, List.setIfInBounds_toArray, List.set_cons_zero, List.set_cons_succ] at hK'
          exact hK' _ _ rfl (Below.refl _ _) (by simp)
        · go_simp
          have hK' := hK.out
          simp only [putAll, Act.put, List.setIfInBounds_toArray, List.set_cons_zero, List.set_cons_succ] at hK'
          exact hK' _ _ rfl (Below.refl _ _) (by simp)
        · have e4 : s19 = _ := hdep ⟨4, .data⟩ (by simp) rfl
          have e4 := e4.symm
          subst e4
          go_simp
          have hK' := hK.out
          simp only [putAll, Act.put, List.setIfInBounds_toArray, List.set_cons_zero, List.set_cons_succ] at hK'
          exact hK' _ _ rfl (Below.refl _ _) (by simp)
        · go_simp
          have hK' := hK.out
          simp only [putAll, Act.put, List.setIfInBounds_toArray, List.set_cons_zero, List.set_cons_succ] at hK'
          exact hK' _ _ rfl (Below.refl _ _) (by simp)
        · have e6 : s21 = _ := hdep ⟨6, .data⟩ (by simp) rfl
          have e6 := e6.symm
          subst e6
          go_simp
          have hK' := hK.out
          simp only [putAll, Act.put, List.setIfInBounds_toArray, List.set_cons_zero, List.set_cons_succ] at hK'
          exact hK' _ _ rfl (Below.refl _ _) (by simp)
        · have e7 : s22 = _ := hdep ⟨7, .data⟩ (by simp) rfl
          have e7 := e7.symm
          subst e7
          go_simp
          have hK' := hK.out
          simp only [putAll, Act.put, List.setIfInBounds_toArray, List.set_cons_zero, List.set_cons_succ] at hK'
          exact hK' _ _ rfl (Below.refl _ _) (by simp)
        · have e8 : s23 = _ := hdep ⟨8, .data⟩ (by simp) rfl
          have e8 := e8.symm
          subst e8
          go_simp
          have hK' := hK.out
          simp only [putAll, Act.put, List.setIfInBounds_toArray, List.set_cons_zero, List.set_cons_succ] at hK'
          exact hK' _ _ rfl (Below.refl _ _) (by simp)
        · go_simp
          have hK' := hK.out
          simp only [putAll, Act.put, List.setIfInBounds_toArray, List.set_cons_zero, List.set_cons_succ] at hK'
          exact hK' _ _ rfl (Below.refl _ _) (by simp)
        · have e10 : s25 = _ := hdep ⟨10, .data⟩ (by simp) rfl
          have e10 := e10.symm
          subst e10
          go_simp
          have hK' := hK.out
          simp only [putAll, Act.put, List.setIfInBounds_toArray, List.set_cons_zero, List.set_cons_succ] at hK'
          exact hK' _ _ rfl (Below.refl _ _) (by simp)
        · have e9 : s24 = _ := hdep ⟨9, .data⟩ (by simp) rfl
          have e9 := e9.symm
          subst e9
          have e11 : s26 = _ := hdep ⟨11, .data⟩ (by simp) rfl
          have e11 := e11.symm
          subst e11
          obtain ⟨p5, n5, c5, hrun, hi⟩ := (HGx.map).look t HT.out
          go_simp
          go_simp
          have hK' := hK.out
          simp only [putAll, Act.put, List.setIfInBounds_toArray, List.set_cons_zero, List.set_cons_succ] at hK'
          exact hK' _ _ ⟨_, _, _, _, rfl, hi⟩ (Below.refl _ _) (by simp)
        · go_simp
          have hK' := hK.out
          simp only [putAll, Act.put, List.setIfInBounds_toArray, List.set_cons_zero, List.set_cons_succ] at hK'
          exact hK' _ _ rfl (Below.refl _ _) (by simp)
        · go_simp
          have hK' := hK.out
          simp only [putAll, Act.put, List.setIfInBounds_toArray, List.set_cons_zero, List.set_cons_succ] at hK'
          exact hK' _ _ rfl (Below.refl _ _) (by simp)
        · have e14 : s29 = _ := hdep ⟨14, .data⟩ (by simp) rfl
          have e14 := e14.symm
          subst e14
          go_simp
          have hK' := hK.out
          simp only [putAll, Act.put, List.setIfInBounds_toArray, List.set_cons_zero, List.set_cons_succ] at hK'
          exact hK' _ _ rfl (Below.refl _ _) (by simp)
        · have e13 : s28 = _ := hdep ⟨13, .data⟩ (by simp) rfl
          have e13 := e13.symm
          subst e13
          have e15 : s30 = _ := hdep ⟨15, .data⟩ (by simp) rfl
          have e15 := e15.symm
          subst e15
          go_simp
          refine (HPhi.out _ c wx (lnGo hb HB5.out) (HR5.out.below hb) Hc.out).mono ?_
          rintro e wy ⟨p5, n5, c5, d5, rfl, iy, hby⟩
          go_wp2_with fail
          have hK' := hK.out
          simp only [putAll, Act.put, List.setIfInBounds_toArray, List.set_cons_zero, List.set_cons_succ] at hK'
          exact hK' _ _ ⟨_, _, _, _, rfl, iy⟩ hby (by simp)
        · have e12 : (lnI (lnCf qk t)).P s27 wx := hdep ⟨12, .data⟩ (by simp) rfl
          obtain ⟨da12, pa12, na12, ca12, rfl, ia12⟩ := e12
          have e16 : (lnR (f c)).P s31 wx := hdep ⟨16, .data⟩ (by simp) rfl
          obtain ⟨da16, pa16, na16, ca16, rfl, ia16⟩ := e16
          go_simp
          refine (Add_any _ _ _ _ wx (ia12.rawL Hs1.out) ia16).mono ?_
          rintro e wy ⟨vy, rfl, iy, hby⟩
          have hsh := iy.shape
          obtain ⟨p5, n5, c5, rfl, iy⟩ := hsh
          go_wp2_with fail
          have hK' := hK.out
          simp only [putAll, Act.put, List.setIfInBounds_toArray, List.set_cons_zero, List.set_cons_succ] at hK'
          exact hK' _ _ ⟨_, _, _, _, rfl, iy⟩ hby (by simp)
        · omega
      · intro vs wx hvl hb hf hdist
        have hvs := vlen18 hvl
        obtain ⟨s15, s16, s17, s18, s19, s20, s21, s22, s23, s24, s25, s26, s27, s28, s29, s30, s31, s32, rfl⟩ := hvs
        have f3 : s18 = .map (some m) := hf 3 (by decide)
        have f5 : s20 = .int .i64 t := hf 5 (by decide)
        have f17 : (lnI (lnCf qk t + f c)).P s32 wx := hf 17 (by decide)
        obtain ⟨d7, p7, n7, c7, e7, i7⟩ := f17
        subst f3 f5 e7
        obtain ⟨w8, hrun, hG8, hA8⟩ := (show Gn wx g m qk r from HG5.out.below hb).put t (f c) HT.out Hk.out i7
        have HG8 := hid hG8
        have HA8 : Hid (Apart (fun k => k = g ∨ k = m) W w8) := hid (HA5.out.go ((Apart.of_below hb).go (hA8.mono (fun k hk => .inr hk))))
        clear hf hvl hdist hG8 hA8 i7
        refine wpAny_one (i := 18) (by kernel_rfl) rfl ?_
        intro K hK
        simp only [putAll, Act.put, List.setIfInBounds_toArray, List.set_cons_zero, List.set_cons_succ]
        have hK' := hK.out
        refine oper_map (.tmp 18) (.tmp 20) (.tmp 32) 57 rfl _ _ _ rfl rfl rfl rfl hrun ?_
        apply hK'
        clear hK hK' hrun
        refine wpAny_done (by kernel_rfl) ?_ _
        go_wp2_with fail
        go_roundw
        case rel => exact ⟨k + 1, by omega, by go_num, hid (by rw [Hnext.out]; exact HG8.out), HA8⟩
        case measure => simp [intOf] <;> omega
    · obtain rfl : k = L := by omega
      have hfin : a1.take k = a1 := by rw [HLL.out, List.take_length]
      have HGr : Hid (Gn wr g m (qs ++ a1.map (fun p => (f p.1, p.2))) r) := hid (by have := hGk.out; rw [hfin] at this; exact this)
      have HAr := hAk
      have HEr := hid ((hAk.out.block w.heap.size (by have := HzW.out; omega) (by omega)).trans HE0.out)
      have zr : w.heap.size < wr.heap.size := by have := hAk.out.size; have := HzW.out; omega
      have HR2 := hid (HR2.out.below HBr.out)
      clear hfin hGk hAk
      go_upto_region 6 with fail
      refine wp_region_facts (w0 := wr) 12 1 [34, 35, 36, 37, 38, 39, 40, 41, 42, 43, 44, 45] [undef, undef, undef, undef, undef, undef, undef, undef, undef, undef, undef, undef]
        (fun i => match i with | 0 => lnE (.pointer (some ⟨g, 0, none⟩)) | 1 => lnE (.pointer (some ⟨g, 0, none⟩)) | 2 => lnE (.pointer (some ⟨g, 0, none⟩)) | 3 => lnE (.pointer (some ⟨g, 1, none⟩)) | 4 => lnI r | 5 => lnE (.func (.func 19) #[] #[]) | 6 => lnE (.pointer (some ⟨w.heap.size, 1, none⟩)) | 7 => lnE (.agg #[.bool n0, .slice p2 n2 c2]) | 8 => lnR (f a2) | 9 => lnI (r + f a2) | 10 => lnE (.pointer (some ⟨g, 0, none⟩)) | _ => lnE (.pointer (some ⟨g, 1, none⟩))) [] (by kernel_rfl) (by kernel_rfl) (by kernel_rfl) (by kernel_rfl) (by decide) rfl (by kernel_rfl) rfl (by simp) ?he2 ?_ ?_ ?_
      case he2 => simp only [putAll, Act.put, List.setIfInBounds_toArray, List.set_cons_zero, List.set_cons_succ]
      · intro i hi; simp at hi
      · intro i o hi ho vs wx hvl hb hdep K hK
        have hvs := vlen12 hvl
        obtain ⟨s34, s35, s36, s37, s38, s39, s40, s41, s42, s43, s44, s45, rfl⟩ := hvs
        clear hvl
        have HGx : GaAt wx g m _ _ r := HGr.out.below hb
        obtain ⟨pg, ng, cg, hgb, hgi⟩ := HGx.cells
        obtain ⟨x0, x1, x2⟩ := lnCells3 hgb
        obtain ⟨z0, z1, z2⟩ := lnCells3 ((hb.block w.heap.size (by omega)).trans HEr.out)
        rcases i with _ | _ | _ | _ | _ | _ | _ | _ | _ | _ | _ | _ | i
        all_goals (simp only [List.getElem?_toArray, List.getElem?_cons_zero, List.getElem?_cons_succ, Option.some.injEq] at ho)
        all_goals try (subst ho)
        all_goals try simp only [putAll, Act.put, List.setIfInBounds_toArray, List.set_cons_zero, List.set_cons_succ]
        · go_simp
          have hK' := hK.out
          simp only [putAll, Act.put, List.setIfInBounds_toArray, List.set_cons_zero, List.set_cons_succ] at hK'
          exact hK' _ _ rfl (Below.refl _ _) (by simp)
        · go_simp
          have hK' := hK.out
          simp only [putAll, Act.put, List.setIfInBounds_toArray, List.set_cons_zero, List.set_cons_succ] at hK'
          exact hK' _ _ rfl (Below.refl _ _) (by simp)
        · have e1 : s35 = _ := hdep ⟨1, .data⟩ (by simp) rfl
          have e1 := e1.symm
          subst e1
          go_simp
          have hK' := hK.out
          simp only [putAll, Act.put, List.setIfInBounds_toArray, List.set_cons_zero, List.set_cons_succ] at hK'
          exact hK' _ _ rfl (Below.refl _ _) (by simp)
        · have e2 : s36 = _ := hdep ⟨2, .data⟩ (by simp) rfl
          have e2 := e2.symm
          subst e2
          go_simp
          have hK' := hK.out
          simp only [putAll, Act.put, List.setIfInBounds_toArray, List.set_cons_zero, List.set_cons_succ] at hK'
          exact hK' _ _ rfl (Below.refl _ _) (by simp)
        · have e3 : s37 = _ := hdep ⟨3, .data⟩ (by simp) rfl
          have e3 := e3.symm
          subst e3
          go_simp
          go_simp
          have hK' := hK.out
          simp only [putAll, Act.put, List.setIfInBounds_toArray, List.set_cons_zero, List.set_cons_succ] at hK'
          exact hK' _ _ ⟨_, _, _, _, rfl, hgi⟩ (Below.refl _ _) (by simp)
        · go_simp
          have hK' := hK.out
          simp only [putAll, Act.put, List.setIfInBounds_toArray, List.set_cons_zero, List.set_cons_succ] at hK'
          exact hK' _ _ rfl (Below.refl _ _) (by simp)
        · go_simp
          have hK' := hK.out
          simp only [putAll, Act.put, List.setIfInBounds_toArray, List.set_cons_zero, List.set_cons_succ] at hK'
          exact hK' _ _ rfl (Below.refl _ _) (by simp)
        · have e6 : s40 = _ := hdep ⟨6, .data⟩ (by simp) rfl
          have e6 := e6.symm
          subst e6
          go_simp
          have hK' := hK.out
          simp only [putAll, Act.put, List.setIfInBounds_toArray, List.set_cons_zero, List.set_cons_succ] at hK'
          exact hK' _ _ rfl (Below.refl _ _) (by simp)
        · have e5 : s39 = _ := hdep ⟨5, .data⟩ (by simp) rfl
          have e5 := e5.symm
          subst e5
          have e7 : s41 = _ := hdep ⟨7, .data⟩ (by simp) rfl
          have e7 := e7.symm
          subst e7
          go_simp
          refine (HPhi.out _ a2 wx (lnGo hb HBr.out) (HR2.out.below hb) HS2.out).mono ?_
          rintro e wy ⟨p5, n5, c5, d5, rfl, iy, hby⟩
          go_wp2_with fail
          have hK' := hK.out
          simp only [putAll, Act.put, List.setIfInBounds_toArray, List.set_cons_zero, List.set_cons_succ] at hK'
          exact hK' _ _ ⟨_, _, _, _, rfl, iy⟩ hby (by simp)
        · have e4 : (lnI r).P s38 wx := hdep ⟨4, .data⟩ (by simp) rfl
          obtain ⟨da4, pa4, na4, ca4, rfl, ia4⟩ := e4
          have e8 : (lnR (f a2)).P s42 wx := hdep ⟨8, .data⟩ (by simp) rfl
          obtain ⟨da16, pa16, na16, ca16, rfl, ia16⟩ := e8
          go_simp
          refine (Add_any _ _ _ _ wx (ia4.rawL Hr.out) ia16).mono ?_
          rintro e wy ⟨vy, rfl, iy, hby⟩
          have hsh := iy.shape
          obtain ⟨p5, n5, c5, rfl, iy⟩ := hsh
          go_wp2_with fail
          have hK' := hK.out
          simp only [putAll, Act.put, List.setIfInBounds_toArray, List.set_cons_zero, List.set_cons_succ] at hK'
          exact hK' _ _ ⟨_, _, _, _, rfl, iy⟩ hby (by simp)
        · have e0 : s34 = _ := hdep ⟨0, .data⟩ (by simp) rfl
          have e0 := e0.symm
          subst e0
          go_simp
          have hK' := hK.out
          simp only [putAll, Act.put, List.setIfInBounds_toArray, List.set_cons_zero, List.set_cons_succ] at hK'
          exact hK' _ _ rfl (Below.refl _ _) (by simp)
        · have e10 : s44 = _ := hdep ⟨10, .data⟩ (by simp) rfl
          have e10 := e10.symm
          subst e10
          go_simp
          have hK' := hK.out
          simp only [putAll, Act.put, List.setIfInBounds_toArray, List.set_cons_zero, List.set_cons_succ] at hK'
          exact hK' _ _ rfl (Below.refl _ _) (by simp)
        · omega
      · intro vs wx hvl hb hf hdist
        have hvs := vlen12 hvl
        obtain ⟨s34, s35, s36, s37, s38, s39, s40, s41, s42, s43, s44, s45, rfl⟩ := hvs
        have f11 : s45 = .pointer (some ⟨g, 1, none⟩) := hf 11 (by decide)
        have f9 : (lnI (r + f a2)).P s43 wx := hf 9 (by decide)
        obtain ⟨d7, p7, n7, c7, e7, i7⟩ := f9
        subst f11 e7
        have hsh := i7.shape
        obtain ⟨p8, n8, c8, e8, i8⟩ := hsh
        injection e8 with e8
        have HGx : GaAt wx g m _ _ r := HGr.out.below hb
        obtain ⟨hG8, hA8⟩ := HGx.rest i8
        have e9 : d7 = decide (r + f a2 < 0) ∧ (.slice p7 n7 c7 : Value) = .slice p8 n8 c8 := by simpa using e8
        obtain ⟨rfl, e9⟩ := e9
        injection e9 with e91 e92 e93
        subst e91 e92 e93
        have HG8 := hid hG8
        have HA8 := hid (HAr.out.go ((Apart.of_below hb).go (hA8.mono (fun k hk => .inl hk))))
        obtain ⟨pg, ng, cg, hgb, -⟩ := HGx.cells
        obtain ⟨x0, x1, x2⟩ := lnCells3 hgb
        have fz1 := frozen_of_row wx g 1 _ _ hgb
        have fz2 := frozen_of_row wx g 2 _ _ hgb
        clear hf hvl hdist hG8 hA8 i7 i8
        refine wpAny_one (i := 12) (by kernel_rfl) rfl ?_
        intro K hK
        simp only [putAll, Act.put, List.setIfInBounds_toArray, List.set_cons_zero, List.set_cons_succ]
        have hK' := hK.out
        go_simp
        apply hK'
        clear hK hK'
        refine wpAny_done (by kernel_rfl) ?_ _
        try simp only [putAll, Act.put, List.setIfInBounds_toArray, List.set_cons_zero, List.set_cons_succ]
        go_wp2
        go_end0
        exact ⟨rfl, HG8.out, ⟨HA8.out.os.trans (Hb0.out.os), HA8.out.tape.trans Hb0.out.tape, HA8.out.output.trans Hb0.out.output, Nat.le_trans Hb0.out.size HA8.out.size, fun k hk hn => (HA8.out.block k (Nat.lt_of_lt_of_le hk Hb0.out.size) hn).trans (Hb0.out.block k hk)⟩⟩
set_option maxRecDepth 100000 in
set_option maxHeartbeats 6400000 in
theorem take_product (W0 : World) (va : Value) (a : List (Int × Int) × Int) (g m : Nat) (qs : List (Int × Int)) (r : Int) (w : World) {N : Nat} {dk : Bool} {pk : Option Addr} {nk ck : Nat} {x : Int} (hK : RawAt W0 (.agg #[.bool dk, .slice pk nk ck]) x) (hxs : sz W x.natAbs ≤ N) (hN0 : 1 ≤ N)
    (ha : LnR W0 va a) (hN : ∀ p ∈ a.1, sz W p.1.natAbs ≤ N) (hN2 : sz W a.2.natAbs ≤ N) (hqs : ∀ p ∈ qs, sz W p.1.natAbs ≤ N + N) (hr : sz W r.natAbs ≤ 549755813888) (hlen : N + N + (qs.length + a.1.length) ≤ 549755813888)
    (hb : Below W0.heap.size W0 w) (hg : W0.heap.size ≤ g) (hm : W0.heap.size ≤ m) (hG : Gn w g m qs r) :
    Calls Tryz.prog 18 #[.pointer (some ⟨g, 0, none⟩), va, .func (.func 24) #[.agg #[.bool dk, .slice pk nk ck]] #[]] w (fun e w' => e = .returned (.tuple #[]) ∧ Gn w' g m (qs ++ (a.1.map fun p => (p.1 * x, p.2))) (r + (a.2 * x)) ∧ Apart (fun k => k = g ∨ k = m) w w') := by
  obtain ⟨f, hf⟩ : ∃ f : Int → Int, f = fun z => z * x := ⟨_, rfl⟩
  have hfz : ∀ z, f z = z * x := fun z => by rw [hf]
  have HPhi : Hid (∀ (v : Value) (z : Int) (w' : World), Below W0.heap.size W0 w' → RawAt w' v z → sz W z.natAbs ≤ N → Calls Tryz.prog 24 #[.agg #[.bool dk, .slice pk nk ck], v] w' (RRaw (f z) w')) := hid (fun v z w' hb h hz => by rw [hfz]; exact product_any v _ z x w' h (hK.below hb) (by omega) (by omega) (Nat.le_trans (by rw [Int.natAbs_mul]; exact sz_mul W2 _ _) (by omega : sz W z.natAbs + sz W x.natAbs ≤ 1099511627776)))
  have HF : Hid (∀ z, sz W z.natAbs ≤ N → sz W (f z).natAbs ≤ N + N) := hid (fun z hz => by rw [hfz, Int.natAbs_mul]; exact Nat.le_trans (sz_mul W2 _ _) (by omega : sz W z.natAbs + sz W x.natAbs ≤ N + N))
  have hmap : (a.1.map fun p => (p.1 * x, p.2)) = a.1.map (fun p => (f p.1, p.2)) := by rw [hf]
  rw [hmap, ← hfz a.2]
  clear hmap hfz hf hK hxs
  obtain ⟨a1, a2⟩ := a
  have ha : LnR W0 va (a1, a2) := ha
  obtain ⟨pv, n0, s0, rfl, hp, h2⟩ := ha
  obtain ⟨p, cp, rfl, j1, j2, -, j4⟩ := hp
  have hp2 := h2.agg2
  obtain ⟨d2, p2, n2, c2, e2⟩ := hp2
  obtain ⟨rfl, rfl⟩ : s0 = .slice p2 n2 c2 ∧ n0 = d2 := by
    injection e2 with e2
    simpa [and_comm] using e2
  clear e2
  have J4 := hid j4
  have HR2 := hid h2
  unfold maxLen at j2
  obtain ⟨W, hW⟩ : ∃ W, W = w.alloc (.cells #[.slice p a1.length cp, .bool n0, .slice p2 n2 c2] 28) := ⟨_, rfl⟩
  have b0 : Below w.heap.size w W := by rw [hW]; exact below1 w _
  have e0 : W.heap[w.heap.size]? = some (.cells #[.slice p a1.length cp, .bool n0, .slice p2 n2 c2] 28 (0, 0)) := by rw [hW]; exact heap_alloc_new w _
  have hGW : Gn W g m qs r := hG.below b0
  have glt : g < w.heap.size := hG.lt
  have mlt : m < w.heap.size := hG.map.lt
  have Hb0 := hid b0; have HE0 := hid e0; have HGW := hid hGW; have HBW := hid (lnGo b0 hb)
  have Hg := hid hg; have Hm := hid hm; have Hr := hid (Nat.le_trans hr (by decide : 549755813888 ≤ 1099511627776)); have HN := hid hN; have HS2 := hid hN2; have Hqs := hid hqs; have Hlen := hid hlen
  have hzW : W.heap.size = w.heap.size + 1 := by rw [hW, size_alloc]
  have HzW := hid hzW
  obtain ⟨L, hLL⟩ : ∃ L, L = a1.length := ⟨_, rfl⟩
  have HLL := hid hLL
  have hLb : L ≤ 549755813888 := by rw [hLL]; have : (a1, a2).1.length = a1.length := rfl; omega
  rw [← hLL] at HE0 hW j1 ⊢
  clear hG hb hN hN2 hqs hr hlen hg hm j4 h2 b0 e0 hGW hzW hLL
  go_enter Tryz.func18, Tryz.ntmps18
  go_upto_region 1 with fail
  rw [← hW]
  clear hW
  have y1 := (lnCells3 HE0.out).1
  go_wp2_with fail
  clear y1
  go_loopw [11] (fun i wr => ∃ (k : Nat), k ≤ L ∧ i = .int .i64 (k : Nat) ∧ Hid (Gn wr g m (qs ++ (a1.take k).map (fun p => (f p.1, p.2))) r) ∧ Hid (Apart (fun k => k = g ∨ k = m) W wr)) (fun i _ => L - (intOf i).toNat)
  case atStart => exact ⟨0, Nat.zero_le _, rfl, hid (by simpa using HGW.out), hid (Apart.refl _ _)⟩
  case round =>
    obtain ⟨k, hk, rfl, hGk, hAk⟩ := hrel
    have HBr : Hid (Below W0.heap.size W0 wr) := hid (apart_below HBW.out hAk.out Hg.out Hm.out)
    by_cases hlt : k < L
    · have hkt : k < a1.length := by rw [← HLL.out]; exact hlt
      have hlt' : (k : Int) < (L : Int) := by omega
      obtain ⟨b, o, rfl, hb, hc⟩ := J4.out (by omega)
      obtain ⟨cs, k0, d, s, ecs, hraw, hwf⟩ := hc k hkt
      have hsh := hraw.agg2
      obtain ⟨d', q, n, cq, e2⟩ := hsh
      obtain ⟨rfl, rfl⟩ : s = .slice q n cq ∧ d = d' := by
        injection e2 with e2
        simpa [and_comm] using e2
      clear e2
      subst ecs
      have y0 := (HBr.out.cell (p := ⟨b, o + k * 3, none⟩) hb).trans (k0 0 _ rfl)
      have y1 := (HBr.out.cell (p := ⟨b, o + k * 3 + 1, none⟩) hb).trans (k0 1 _ rfl)
      have y2 := (HBr.out.cell (p := ⟨b, o + k * 3 + 2, none⟩) hb).trans (k0 2 _ rfl)
      have Hc := hid (HN.out a1[k] (List.getElem_mem hkt))
      have HT := hid hwf
      have Hnext : Hid (qs ++ (a1.take (k + 1)).map (fun p => (f p.1, p.2)) = (qs ++ (a1.take k).map (fun p => (f p.1, p.2))) ++ [(f a1[k].1, a1[k].2)]) := hid (by rw [List.take_succ_eq_append_getElem hkt, List.map_append, List.append_assoc]; rfl)
      have hqk : ∀ p ∈ qs ++ (a1.take k).map (fun p => (f p.1, p.2)), sz Big.W p.1.natAbs ≤ N + N := by
        intro p hp
        rcases List.mem_append.1 hp with hp | hp
        · exact Hqs.out p hp
        · obtain ⟨y, hy, rfl⟩ := List.mem_map.1 hp
          exact HF.out _ (HN.out y (List.mem_of_mem_take hy))
      have hll := Hlen.out
      have hlq : (qs ++ (a1.take k).map (fun p => (f p.1, p.2))).length = qs.length + k := by simp; omega
      generalize qs ++ (a1.take k).map (fun p => (f p.1, p.2)) = qk at *
      generalize a1[k].1 = c at *
      generalize a1[k].2 = t at *
      have Hs1 := hid (Nat.le_trans (lnCf_sz (by omega) t qk hqk) (by have : (a1, a2).1.length = a1.length := rfl; omega : N + N + qk.length ≤ 1099511627776))
      have Hk : Hid (qk.length < maxLen) := hid (by unfold maxLen; have : (a1, a2).1.length = a1.length := rfl; omega)
      have HR5' := hid (hraw.below HBr.out)
      clear hc hqk hlq hll hraw hwf k0 J4
      obtain ⟨W5, hW5⟩ : ∃ W5, W5 = wr.alloc (.cells #[.bool d, .slice q n cq, .int .i64 t] 38) := ⟨_, rfl⟩
      have b5 : Below wr.heap.size wr W5 := by rw [hW5]; exact below1 wr _
      have HE5 : Hid (W5.heap[wr.heap.size]? = some (.cells #[.bool d, .slice q n cq, .int .i64 t] 38 (0, 0))) := hid (by rw [hW5]; exact heap_alloc_new wr _)
      have HG5 : Hid (Gn W5 g m qk r) := hid (hGk.out.below b5)
      have HR5 := hid (HR5'.out.below b5)
      have HB5 := hid (lnGo b5 HBr.out)
      have HA5 : Hid (Apart (fun k => k = g ∨ k = m) W W5) := hid (hAk.out.go (Apart.of_below b5))
      have z5 : wr.heap.size < W5.heap.size := by rw [hW5, size_alloc]; omega
      clear b5 hGk hAk HR5' hb
      go_upto_region 4 with fail
      rw [← hW5]
      clear hW5 y0 y1 y2
      refine wp_region_facts (w0 := W5) 18 1 [15, 16, 17, 18, 19, 20, 21, 22, 23, 24, 25, 26, 27, 28, 29, 30, 31, 32] [u15, u16, u17, u18, u19, u20, u21, u22, u23, u24, u25, u26, u27, u28, u29, u30, u31, u32]
        (fun i => match i with | 0 => lnE (.pointer (some ⟨g, 0, none⟩)) | 1 => lnE (.pointer (some ⟨g, 0, none⟩)) | 2 => lnE (.pointer (some ⟨g, 0, none⟩)) | 3 => lnE (.map (some m)) | 4 => lnE (.pointer (some ⟨wr.heap.size, 2, none⟩)) | 5 => lnE (.int .i64 t) | 6 => lnE (.pointer (some ⟨g, 0, none⟩)) | 7 => lnE (.pointer (some ⟨g, 0, none⟩)) | 8 => lnE (.pointer (some ⟨g, 0, none⟩)) | 9 => lnE (.map (some m)) | 10 => lnE (.pointer (some ⟨wr.heap.size, 2, none⟩)) | 11 => lnE (.int .i64 t) | 12 => lnI (lnCf qk t) | 13 => lnE (.func (.func 24) #[.agg #[.bool dk, .slice pk nk ck]] #[]) | 14 => lnE (.pointer (some ⟨wr.heap.size, 0, none⟩)) | 15 => lnE (.agg #[.bool d, .slice q n cq]) | 16 => lnR (f c) | _ => lnI (lnCf qk t + f c)) [] (by kernel_rfl) (by kernel_rfl) (by kernel_rfl) (by kernel_rfl) (by decide) rfl (by kernel_rfl) rfl (by simp) ?he3 ?_ ?_ ?_
      case he3 => simp only [putAll, Act.put, List.setIfInBounds_toArray, List.set_cons_zero, List.set_cons_succ]
      · intro i hi; simp at hi
      · intro i o hi ho vs wx hvl hb hdep K hK
        have hvs := vlen18 hvl
        obtain ⟨s15, s16, s17, s18, s19, s20, s21, s22, s23, s24, s25, s26, s27, s28, s29, s30, s31, s32, rfl⟩ := hvs
        clear hvl
        have HGx : GaAt wx g m _ _ r := HG5.out.below hb
        obtain ⟨pg, ng, cg, hgb, -⟩ := HGx.cells
        obtain ⟨x0, x1, x2⟩ := lnCells3 hgb
        obtain ⟨z0, z1, z2⟩ := lnCells3 ((hb.block wr.heap.size (by omega)).trans HE5.out)
        rcases i with _ | _ | _ | _ | _ | _ | _ | _ | _ | _ | _ | _ | _ | _ | _ | _ | _ | _ | i
        all_goals (simp only [List.getElem?_toArray, List.getElem?_cons_zero, List.getElem?_cons_succ, Option.some.injEq] at ho)
        all_goals try (subst ho)
        all_goals try simp only [putAll, Act.put, List.setIfInBounds_toArray, List.set_cons_zero, List.set_cons_succ]
        · go_simp
          have hK' := hK.out
          simp only [putAll, Act.put, List.setIfInBounds_toArray, List.set_cons_zero, List.set_cons_succ] at hK'
          exact hK' _ _ rfl (Below.refl _ _) (by simp)
        · have e0 : s15 = _ := hdep ⟨0, .data⟩ (by simp) rfl
          have e0 := e0.symm
          subst e0
          go_simp
          have hK' := hK.out
          simp only [putAll, Act.put, List.setIfInBounds_toArray, List.set_cons_zero, List.set_cons_succ] at hK'
          exact hK' _ _ rfl (Below.refl _ _) (by simp)
        · have e1 : s16 = _ := hdep ⟨1, .data⟩ (by simp) rfl
          have e1 := e1.symm
          subst e1
          go_simp
          have hK' := hK.out
          simp only [putAll, Act.put, List.setIfInBounds_toArray, List.set_cons_zero, List.set_cons_succ] at hK'
          exact hK' _ _ rfl (Below.refl _ _) (by simp)
        · have e2 : s17 = _ := hdep ⟨2, .data⟩ (by simp) rfl
          have e2 := e2.symm
          subst e2
          go_simp
          have hK' := hK.out
          simp only [putAll, Act.put, List.setIfInBounds_toArray, List.set_cons_zero, List.set_cons_succ] at hK'
          exact hK' _ _ rfl (Below.refl _ _) (by simp)
        · go_simp
          have hK' := hK.out
          simp only [putAll, Act.put, List.setIfInBounds_toArray, List.set_cons_zero, List.set_cons_succ] at hK'
          exact hK' _ _ rfl (Below.refl _ _) (by simp)
        · have e4 : s19 = _ := hdep ⟨4, .data⟩ (by simp) rfl
          have e4 := e4.symm
          subst e4
          go_simp
          have hK' := hK.out
          simp only [putAll, Act.put, List.setIfInBounds_toArray, List.set_cons_zero, List.set_cons_succ] at hK'
          exact hK' _ _ rfl (Below.refl _ _) (by simp)
        · go_simp
          have hK' := hK.out
          simp only [putAll, Act.put, List.setIfInBounds_toArray, List.set_cons_zero, List.set_cons_succ] at hK'
          exact hK' _ _ rfl (Below.refl _ _) (by simp)
        · have e6 : s21 = _ := hdep ⟨6, .data⟩ (by simp) rfl
          have e6 := e6.symm
          subst e6
          go_simp
          have hK' := hK.out
          simp only [putAll, Act.put, List.setIfInBounds_toArray, List.set_cons_zero, List.set_cons_succ] at hK'
          exact hK' _ _ rfl (Below.refl _ _) (by simp)
        · have e7 : s22 = _ := hdep ⟨7, .data⟩ (by simp) rfl
          have e7 := e7.symm
          subst e7
          go_simp
          have hK' := hK.out
          simp only [putAll, Act.put, List.setIfInBounds_toArray, List.set_cons_zero, List.set_cons_succ] at hK'
          exact hK' _ _ rfl (Below.refl _ _) (by simp)
        · have e8 : s23 = _ := hdep ⟨8, .data⟩ (by simp) rfl
          have e8 := e8.symm
          subst e8
          go_simp
          have hK' := hK.out
          simp only [putAll, Act.put, List.setIfInBounds_toArray, List.set_cons_zero, List.set_cons_succ] at hK'
          exact hK' _ _ rfl (Below.refl _ _) (by simp)
        · go_simp
          have hK' := hK.out
          simp only [putAll, Act.put, List.setIfInBounds_toArray, List.set_cons_zero, List.set_cons_succ] at hK'
          exact hK' _ _ rfl (Below.refl _ _) (by simp)
        · have e10 : s25 = _ := hdep ⟨10, .data⟩ (by simp) rfl
          have e10 := e10.symm
          subst e10
          go_simp
          have hK' := hK.out
          simp only [putAll, Act.put, List.setIfInBounds_toArray, List.set_cons_zero, List.set_cons_succ] at hK'
          exact hK' _ _ rfl (Below.refl _ _) (by simp)
        · have e9 : s24 = _ := hdep ⟨9, .data⟩ (by simp) rfl
          have e9 := e9.symm
          subst e9
          have e11 : s26 = _ := hdep ⟨11, .data⟩ (by simp) rfl
          have e11 := e11.symm
          subst e11
          obtain ⟨p5, n5, c5, hrun, hi⟩ := (HGx.map).look t HT.out
          go_simp
          go_simp
          have hK' := hK.out
          simp only [putAll, Act.put, List.setIfInBounds_toArray, List.set_cons_zero, List.set_cons_succ] at hK'
          exact hK' _ _ ⟨_, _, _, _, rfl, hi⟩ (Below.refl _ _) (by simp)
        · go_simp
          have hK' := hK.out
          simp only [putAll, Act.put, List.setIfInBounds_toArray, List.set_cons_zero, List.set_cons_succ] at hK'
          exact hK' _ _ rfl (Below.refl _ _) (by simp)
        · go_simp
          have hK' := hK.out
          simp only [putAll, Act.put, List.setIfInBounds_toArray, List.set_cons_zero, List.set_cons_succ] at hK'
          exact hK' _ _ rfl (Below.refl _ _) (by simp)
        · have e14 : s29 = _ := hdep ⟨14, .data⟩ (by simp) rfl
          have e14 := e14.symm
          subst e14
          go_simp
          have hK' := hK.out
          simp only [putAll, Act.put, List.setIfInBounds_toArray, List.set_cons_zero, List.set_cons_succ] at hK'
          exact hK' _ _ rfl (Below.refl _ _) (by simp)
        · have e13 : s28 = _ := hdep ⟨13, .data⟩ (by simp) rfl
          have e13 := e13.symm
          subst e13
          have e15 : s30 = _ := hdep ⟨15, .data⟩ (by simp) rfl
          have e15 := e15.symm
          subst e15
          go_simp
          refine (HPhi.out _ c wx (lnGo hb HB5.out) (HR5.out.below hb) Hc.out).mono ?_
          rintro e wy ⟨p5, n5, c5, d5, rfl, iy, hby⟩
          go_wp2_with fail
          have hK' := hK.out
          simp only [putAll, Act.put, List.setIfInBounds_toArray, List.set_cons_zero, List.set_cons_succ] at hK'
          exact hK' _ _ ⟨_, _, _, _, rfl, iy⟩ hby (by simp)
        · have e12 : (lnI (lnCf qk t)).P s27 wx := hdep ⟨12, .data⟩ (by simp) rfl
          obtain ⟨da12, pa12, na12, ca12, rfl, ia12⟩ := e12
          have e16 : (lnR (f c)).P s31 wx := hdep ⟨16, .data⟩ (by simp) rfl
          obtain ⟨da16, pa16, na16, ca16, rfl, ia16⟩ := e16
          go_simp
          refine (Add_any _ _ _ _ wx (ia12.rawL Hs1.out) ia16).mono ?_
          rintro e wy ⟨vy, rfl, iy, hby⟩
          have hsh := iy.shape
          obtain ⟨p5, n5, c5, rfl, iy⟩ := hsh
          go_wp2_with fail
          have hK' := hK.out
          simp only [putAll, Act.put, List.setIfInBounds_toArray, List.set_cons_zero, List.set_cons_succ] at hK'
          exact hK' _ _ ⟨_, _, _, _, rfl, iy⟩ hby (by simp)
        · omega
      · intro vs wx hvl hb hf hdist
        have hvs := vlen18 hvl
        obtain ⟨s15, s16, s17, s18, s19, s20, s21, s22, s23, s24, s25, s26, s27, s28, s29, s30, s31, s32, rfl⟩ := hvs
        have f3 : s18 = .map (some m) := hf 3 (by decide)
        have f5 : s20 = .int .i64 t := hf 5 (by decide)
        have f17 : (lnI (lnCf qk t + f c)).P s32 wx := hf 17 (by decide)
        obtain ⟨d7, p7, n7, c7, e7, i7⟩ := f17
        subst f3 f5 e7
        obtain ⟨w8, hrun, hG8, hA8⟩ := (show Gn wx g m qk r from HG5.out.below hb).put t (f c) HT.out Hk.out i7
        have HG8 := hid hG8
        have HA8 : Hid (Apart (fun k => k = g ∨ k = m) W w8) := hid (HA5.out.go ((Apart.of_below hb).go (hA8.mono (fun k hk => .inr hk))))
        clear hf hvl hdist hG8 hA8 i7
        refine wpAny_one (i := 18) (by kernel_rfl) rfl ?_
        intro K hK
        simp only [putAll, Act.put, List.setIfInBounds_toArray, List.set_cons_zero, List.set_cons_succ]
        have hK' := hK.out
        refine oper_map (.tmp 18) (.tmp 20) (.tmp 32) 57 rfl _ _ _ rfl rfl rfl rfl hrun ?_
        apply hK'
        clear hK hK' hrun
        refine wpAny_done (by kernel_rfl) ?_ _
        go_wp2_with fail
        go_roundw
        case rel => exact ⟨k + 1, by omega, by go_num, hid (by rw [Hnext.out]; exact HG8.out), HA8⟩
        case measure => simp [intOf] <;> omega
    · obtain rfl : k = L := by omega
      have hfin : a1.take k = a1 := by rw [HLL.out, List.take_length]
      have HGr : Hid (Gn wr g m (qs ++ a1.map (fun p => (f p.1, p.2))) r) := hid (by have := hGk.out; rw [hfin] at this; exact this)
      have HAr := hAk
      have HEr := hid ((hAk.out.block w.heap.size (by have := HzW.out; omega) (by omega)).trans HE0.out)
      have zr : w.heap.size < wr.heap.size := by have := hAk.out.size; have := HzW.out; omega
      have HR2 := hid (HR2.out.below HBr.out)
      clear hfin hGk hAk
      go_upto_region 6 with fail
      refine wp_region_facts (w0 := wr) 12 1 [34, 35, 36, 37, 38, 39, 40, 41, 42, 43, 44, 45] [undef, undef, undef, undef, undef, undef, undef, undef, undef, undef, undef, undef]
        (fun i => match i with | 0 => lnE (.pointer (some ⟨g, 0, none⟩)) | 1 => lnE (.pointer (some ⟨g, 0, none⟩)) | 2 => lnE (.pointer (some ⟨g, 0, none⟩)) | 3 => lnE (.pointer (some ⟨g, 1, none⟩)) | 4 => lnI r | 5 => lnE (.func (.func 24) #[.agg #[.bool dk, .slice pk nk ck]] #[]) | 6 => lnE (.pointer (some ⟨w.heap.size, 1, none⟩)) | 7 => lnE (.agg #[.bool n0, .slice p2 n2 c2]) | 8 => lnR (f a2) | 9 => lnI (r + f a2) | 10 => lnE (.pointer (some ⟨g, 0, none⟩)) | _ => lnE (.pointer (some ⟨g, 1, none⟩))) [] (by kernel_rfl) (by kernel_rfl) (by kernel_rfl) (by kernel_rfl) (by decide) rfl (by kernel_rfl) rfl (by simp) ?he4 ?_ ?_ ?_
      case he4 => simp only [putAll, Act.put, List.setIfInBounds_toArray, List.set_cons_zero, List.set_cons_succ]
      · intro i hi; simp at hi
      · intro i o hi ho vs wx hvl hb hdep K hK
        have hvs := vlen12 hvl
        obtain ⟨s34, s35, s36, s37, s38, s39, s40, s41, s42, s43, s44, s45, rfl⟩ := hvs
        clear hvl
        have HGx : GaAt wx g m _ _ r := HGr.out.below hb
        obtain ⟨pg, ng, cg, hgb, hgi⟩ := HGx.cells
        obtain ⟨x0, x1, x2⟩ := lnCells3 hgb
        obtain ⟨z0, z1, z2⟩ := lnCells3 ((hb.block w.heap.size (by omega)).trans HEr.out)
        rcases i with _ | _ | _ | _ | _ | _ | _ | _ | _ | _ | _ | _ | i
        all_goals (simp only [List.getElem?_toArray, List.getElem?_cons_zero, List.getElem?_cons_succ, Option.some.injEq] at ho)
        all_goals try (subst ho)
        all_goals try simp only [putAll, Act.put, List.setIfInBounds_toArray, List.set_cons_zero, List.set_cons_succ]
        · go_simp
          have hK' := hK.out
          simp only [putAll, Act.put, List.setIfInBounds_toArray, List.set_cons_zero, List.set_cons_succ] at hK'
          exact hK' _ _ rfl (Below.refl _ _) (by simp)
        · go_simp
          have hK' := hK.out
          simp only [putAll, Act.put, List.setIfInBounds_toArray, List.set_cons_zero, List.set_cons_succ] at hK'
          exact hK' _ _ rfl (Below.refl _ _) (by simp)
        · have e1 : s35 = _ := hdep ⟨1, .data⟩ (by simp) rfl
          have e1 := e1.symm
          subst e1
          go_simp
          have hK' := hK.out
          simp only [putAll, Act.put, List.setIfInBounds_toArray, List.set_cons_zero, List.set_cons_succ] at hK'
          exact hK' _ _ rfl (Below.refl _ _) (by simp)
        · have e2 : s36 = _ := hdep ⟨2, .data⟩ (by simp) rfl
          have e2 := e2.symm
          subst e2
          go_simp
          have hK' := hK.out
          simp only [putAll, Act.put, List.setIfInBounds_toArray, List.set_cons_zero, List.set_cons_succ] at hK'
          exact hK' _ _ rfl (Below.refl _ _) (by simp)
        · have e3 : s37 = _ := hdep ⟨3, .data⟩ (by simp) rfl
          have e3 := e3.symm
          subst e3
          go_simp
          go_simp
          have hK' := hK.out
          simp only [putAll, Act.put, List.setIfInBounds_toArray, List.set_cons_zero, List.set_cons_succ] at hK'
          exact hK' _ _ ⟨_, _, _, _, rfl, hgi⟩ (Below.refl _ _) (by simp)
        · go_simp
          have hK' := hK.out
          simp only [putAll, Act.put, List.setIfInBounds_toArray, List.set_cons_zero, List.set_cons_succ] at hK'
          exact hK' _ _ rfl (Below.refl _ _) (by simp)
        · go_simp
          have hK' := hK.out
          simp only [putAll, Act.put, List.setIfInBounds_toArray, List.set_cons_zero, List.set_cons_succ] at hK'
          exact hK' _ _ rfl (Below.refl _ _) (by simp)
        · have e6 : s40 = _ := hdep ⟨6, .data⟩ (by simp) rfl
          have e6 := e6.symm
          subst e6
          go_simp
          have hK' := hK.out
          simp only [putAll, Act.put, List.setIfInBounds_toArray, List.set_cons_zero, List.set_cons_succ] at hK'
          exact hK' _ _ rfl (Below.refl _ _) (by simp)
        · have e5 : s39 = _ := hdep ⟨5, .data⟩ (by simp) rfl
          have e5 := e5.symm
          subst e5
          have e7 : s41 = _ := hdep ⟨7, .data⟩ (by simp) rfl
          have e7 := e7.symm
          subst e7
          go_simp
          refine (HPhi.out _ a2 wx (lnGo hb HBr.out) (HR2.out.below hb) HS2.out).mono ?_
          rintro e wy ⟨p5, n5, c5, d5, rfl, iy, hby⟩
          go_wp2_with fail
          have hK' := hK.out
          simp only [putAll, Act.put, List.setIfInBounds_toArray, List.set_cons_zero, List.set_cons_succ] at hK'
          exact hK' _ _ ⟨_, _, _, _, rfl, iy⟩ hby (by simp)
        · have e4 : (lnI r).P s38 wx := hdep ⟨4, .data⟩ (by simp) rfl
          obtain ⟨da4, pa4, na4, ca4, rfl, ia4⟩ := e4
          have e8 : (lnR (f a2)).P s42 wx := hdep ⟨8, .data⟩ (by simp) rfl
          obtain ⟨da16, pa16, na16, ca16, rfl, ia16⟩ := e8
          go_simp
          refine (Add_any _ _ _ _ wx (ia4.rawL Hr.out) ia16).mono ?_
          rintro e wy ⟨vy, rfl, iy, hby⟩
          have hsh := iy.shape
          obtain ⟨p5, n5, c5, rfl, iy⟩ := hsh
          go_wp2_with fail
          have hK' := hK.out
          simp only [putAll, Act.put, List.setIfInBounds_toArray, List.set_cons_zero, List.set_cons_succ] at hK'
          exact hK' _ _ ⟨_, _, _, _, rfl, iy⟩ hby (by simp)
        · have e0 : s34 = _ := hdep ⟨0, .data⟩ (by simp) rfl
          have e0 := e0.symm
          subst e0
          go_simp
          have hK' := hK.out
          simp only [putAll, Act.put, List.setIfInBounds_toArray, List.set_cons_zero, List.set_cons_succ] at hK'
          exact hK' _ _ rfl (Below.refl _ _) (by simp)
        · have e10 : s44 = _ := hdep ⟨10, .data⟩ (by simp) rfl
          have e10 := e10.symm
          subst e10
          go_simp
          have hK' := hK.out
          simp only [putAll, Act.put, List.setIfInBounds_toArray, List.set_cons_zero, List.set_cons_succ] at hK'
          exact hK' _ _ rfl (Below.refl _ _) (by simp)
        · omega
      · intro vs wx hvl hb hf hdist
        have hvs := vlen12 hvl
        obtain ⟨s34, s35, s36, s37, s38, s39, s40, s41, s42, s43, s44, s45, rfl⟩ := hvs
        have f11 : s45 = .pointer (some ⟨g, 1, none⟩) := hf 11 (by decide)
        have f9 : (lnI (r + f a2)).P s43 wx := hf 9 (by decide)
        obtain ⟨d7, p7, n7, c7, e7, i7⟩ := f9
        subst f11 e7
        have hsh := i7.shape
        obtain ⟨p8, n8, c8, e8, i8⟩ := hsh
        injection e8 with e8
        have HGx : GaAt wx g m _ _ r := HGr.out.below hb
        obtain ⟨hG8, hA8⟩ := HGx.rest i8
        have e9 : d7 = decide (r + f a2 < 0) ∧ (.slice p7 n7 c7 : Value) = .slice p8 n8 c8 := by simpa using e8
        obtain ⟨rfl, e9⟩ := e9
        injection e9 with e91 e92 e93
        subst e91 e92 e93
        have HG8 := hid hG8
        have HA8 := hid (HAr.out.go ((Apart.of_below hb).go (hA8.mono (fun k hk => .inl hk))))
        obtain ⟨pg, ng, cg, hgb, -⟩ := HGx.cells
        obtain ⟨x0, x1, x2⟩ := lnCells3 hgb
        have fz1 := frozen_of_row wx g 1 _ _ hgb
        have fz2 := frozen_of_row wx g 2 _ _ hgb
        clear hf hvl hdist hG8 hA8 i7 i8
        refine wpAny_one (i := 12) (by kernel_rfl) rfl ?_
        intro K hK
        simp only [putAll, Act.put, List.setIfInBounds_toArray, List.set_cons_zero, List.set_cons_succ]
        have hK' := hK.out
        go_simp
        apply hK'
        clear hK hK'
        refine wpAny_done (by kernel_rfl) ?_ _
        try simp only [putAll, Act.put, List.setIfInBounds_toArray, List.set_cons_zero, List.set_cons_succ]
        go_wp2
        go_end0
        exact ⟨rfl, HG8.out, ⟨HA8.out.os.trans (Hb0.out.os), HA8.out.tape.trans Hb0.out.tape, HA8.out.output.trans Hb0.out.output, Nat.le_trans Hb0.out.size HA8.out.size, fun k hk hn => (HA8.out.block k (Nat.lt_of_lt_of_le hk Hb0.out.size) hn).trans (Hb0.out.block k hk)⟩⟩
set_option maxRecDepth 100000 in
set_option maxHeartbeats 6400000 in
theorem take_quotient (W0 : World) (va : Value) (a : List (Int × Int) × Int) (g m : Nat) (qs : List (Int × Int)) (r : Int) (w : World) {N : Nat} {dk : Bool} {pk : Option Addr} {nk ck : Nat} {x : Int} (hK : RawAt W0 (.agg #[.bool dk, .slice pk nk ck]) x) (hx0 : x ≠ 0) (hN0 : 1 ≤ N)
    (ha : LnR W0 va a) (hN : ∀ p ∈ a.1, sz W p.1.natAbs ≤ N) (hN2 : sz W a.2.natAbs ≤ N) (hqs : ∀ p ∈ qs, sz W p.1.natAbs ≤ N + N) (hr : sz W r.natAbs ≤ 549755813888) (hlen : N + N + (qs.length + a.1.length) ≤ 549755813888)
    (hb : Below W0.heap.size W0 w) (hg : W0.heap.size ≤ g) (hm : W0.heap.size ≤ m) (hG : Gn w g m qs r) :
    Calls Tryz.prog 18 #[.pointer (some ⟨g, 0, none⟩), va, .func (.func 31) #[.agg #[.bool dk, .slice pk nk ck]] #[]] w (fun e w' => e = .returned (.tuple #[]) ∧ Gn w' g m (qs ++ (a.1.map fun p => (p.1 / x, p.2))) (r + (a.2 / x)) ∧ Apart (fun k => k = g ∨ k = m) w w') := by
  obtain ⟨f, hf⟩ : ∃ f : Int → Int, f = fun z => z / x := ⟨_, rfl⟩
  have hfz : ∀ z, f z = z / x := fun z => by rw [hf]
  have HPhi : Hid (∀ (v : Value) (z : Int) (w' : World), Below W0.heap.size W0 w' → RawAt w' v z → sz W z.natAbs ≤ N → Calls Tryz.prog 31 #[.agg #[.bool dk, .slice pk nk ck], v] w' (RRaw (f z) w')) := hid (fun v z w' hb h hz => by rw [hfz]; exact quotient_raw v _ z x w' h (hK.below hb) hx0 (Nat.le_trans (sz_mono W2 (Int.natAbs_ediv_le_natAbs z x)) (by omega)))
  have HF : Hid (∀ z, sz W z.natAbs ≤ N → sz W (f z).natAbs ≤ N + N) := hid (fun z hz => by rw [hfz]; exact Nat.le_trans (sz_mono W2 (Int.natAbs_ediv_le_natAbs z x)) (by omega))
  have hmap : (a.1.map fun p => (p.1 / x, p.2)) = a.1.map (fun p => (f p.1, p.2)) := by rw [hf]
  rw [hmap, ← hfz a.2]
  clear hmap hfz hf hK hx0
  obtain ⟨a1, a2⟩ := a
  have ha : LnR W0 va (a1, a2) := ha
  obtain ⟨pv, n0, s0, rfl, hp, h2⟩ := ha
  obtain ⟨p, cp, rfl, j1, j2, -, j4⟩ := hp
  have hp2 := h2.agg2
  obtain ⟨d2, p2, n2, c2, e2⟩ := hp2
  obtain ⟨rfl, rfl⟩ : s0 = .slice p2 n2 c2 ∧ n0 = d2 := by
    injection e2 with e2
    simpa [and_comm] using e2
  clear e2
  have J4 := hid j4
  have HR2 := hid h2
  unfold maxLen at j2
  obtain ⟨W, hW⟩ : ∃ W, W = w.alloc (.cells #[.slice p a1.length cp, .bool n0, .slice p2 n2 c2] 28) := ⟨_, rfl⟩
  have b0 : Below w.heap.size w W := by rw [hW]; exact below1 w _
  have e0 : W.heap[w.heap.size]? = some (.cells #[.slice p a1.length cp, .bool n0, .slice p2 n2 c2] 28 (0, 0)) := by rw [hW]; exact heap_alloc_new w _
  have hGW : Gn W g m qs r := hG.below b0
  have glt : g < w.heap.size := hG.lt
  have mlt : m < w.heap.size := hG.map.lt
  have Hb0 := hid b0; have HE0 := hid e0; have HGW := hid hGW; have HBW := hid (lnGo b0 hb)
  have Hg := hid hg; have Hm := hid hm; have Hr := hid (Nat.le_trans hr (by decide : 549755813888 ≤ 1099511627776)); have HN := hid hN; have HS2 := hid hN2; have Hqs := hid hqs; have Hlen := hid hlen
  have hzW : W.heap.size = w.heap.size + 1 := by rw [hW, size_alloc]
  have HzW := hid hzW
  obtain ⟨L, hLL⟩ : ∃ L, L = a1.length := ⟨_, rfl⟩
  have HLL := hid hLL
  have hLb : L ≤ 549755813888 := by rw [hLL]; have : (a1, a2).1.length = a1.length := rfl; omega
  rw [← hLL] at HE0 hW j1 ⊢
  clear hG hb hN hN2 hqs hr hlen hg hm j4 h2 b0 e0 hGW hzW hLL
  go_enter Tryz.func18, Tryz.ntmps18
  go_upto_region 1 with fail
  rw [← hW]
  clear hW
  have y1 := (lnCells3 HE0.out).1
  go_wp2_with fail
  clear y1
  go_loopw [11] (fun i wr => ∃ (k : Nat), k ≤ L ∧ i = .int .i64 (k : Nat) ∧ Hid (Gn wr g m (qs ++ (a1.take k).map (fun p => (f p.1, p.2))) r) ∧ Hid (Apart (fun k => k = g ∨ k = m) W wr)) (fun i _ => L - (intOf i).toNat)
  case atStart => exact ⟨0, Nat.zero_le _, rfl, hid (by simpa using HGW.out), hid (Apart.refl _ _)⟩
  case round =>
    obtain ⟨k, hk, rfl, hGk, hAk⟩ := hrel
    have HBr : Hid (Below W0.heap.size W0 wr) := hid (apart_below HBW.out hAk.out Hg.out Hm.out)
    by_cases hlt : k < L
    · have hkt : k < a1.length := by rw [← HLL.out]; exact hlt
      have hlt' : (k : Int) < (L : Int) := by omega
      obtain ⟨b, o, rfl, hb, hc⟩ := J4.out (by omega)
      obtain ⟨cs, k0, d, s, ecs, hraw, hwf⟩ := hc k hkt
      have hsh := hraw.agg2
      obtain ⟨d', q, n, cq, e2⟩ := hsh
      obtain ⟨rfl, rfl⟩ : s = .slice q n cq ∧ d = d' := by
        injection e2 with e2
        simpa [and_comm] using e2
      clear e2
      subst ecs
      have y0 := (HBr.out.cell (p := ⟨b, o + k * 3, none⟩) hb).trans (k0 0 _ rfl)
      have y1 := (HBr.out.cell (p := ⟨b, o + k * 3 + 1, none⟩) hb).trans (k0 1 _ rfl)
      have y2 := (HBr.out.cell (p := ⟨b, o + k * 3 + 2, none⟩) hb).trans (k0 2 _ rfl)
      have Hc := hid (HN.out a1[k] (List.getElem_mem hkt))
      have HT := hid hwf
      have Hnext : Hid (qs ++ (a1.take (k + 1)).map (fun p => (f p.1, p.2)) = (qs ++ (a1.take k).map (fun p => (f p.1, p.2))) ++ [(f a1[k].1, a1[k].2)]) := hid (by rw [List.take_succ_eq_append_getElem hkt, List.map_append, List.append_assoc]; rfl)
      have hqk : ∀ p ∈ qs ++ (a1.take k).map (fun p => (f p.1, p.2)), sz Big.W p.1.natAbs ≤ N + N := by
        intro p hp
        rcases List.mem_append.1 hp with hp | hp
        · exact Hqs.out p hp
        · obtain ⟨y, hy, rfl⟩ := List.mem_map.1 hp
          exact HF.out _ (HN.out y (List.mem_of_mem_take hy))
      have hll := Hlen.out
      have hlq : (qs ++ (a1.take k).map (fun p => (f p.1, p.2))).length = qs.length + k := by simp; omega
      generalize qs ++ (a1.take k).map (fun p => (f p.1, p.2)) = qk at *
      generalize a1[k].1 = c at *
      generalize a1[k].2 = t at *
      have Hs1 := hid (Nat.le_trans (lnCf_sz (by omega) t qk hqk) (by have : (a1, a2).1.length = a1.length := rfl; omega : N + N + qk.length ≤ 1099511627776))
      have Hk : Hid (qk.length < maxLen) := hid (by unfold maxLen; have : (a1, a2).1.length = a1.length := rfl; omega)
      have HR5' := hid (hraw.below HBr.out)
      clear hc hqk hlq hll hraw hwf k0 J4
      obtain ⟨W5, hW5⟩ : ∃ W5, W5 = wr.alloc (.cells #[.bool d, .slice q n cq, .int .i64 t] 38) := ⟨_, rfl⟩
      have b5 : Below wr.heap.size wr W5 := by rw [hW5]; exact below1 wr _
      have HE5 : Hid (W5.heap[wr.heap.size]? = some (.cells #[.bool d, .slice q n cq, .int .i64 t] 38 (0, 0))) := hid (by rw [hW5]; exact heap_alloc_new wr _)
      have HG5 : Hid (Gn W5 g m qk r) := hid (hGk.out.below b5)
      have HR5 := hid (HR5'.out.below b5)
      have HB5 := hid (lnGo b5 HBr.out)
      have HA5 : Hid (Apart (fun k => k = g ∨ k = m) W W5) := hid (hAk.out.go (Apart.of_below b5))
      have z5 : wr.heap.size < W5.heap.size := by rw [hW5, size_alloc]; omega
      clear b5 hGk hAk HR5' hb
      go_upto_region 4 with fail
      rw [← hW5]
      clear hW5 y0 y1 y2
      refine wp_region_facts (w0 := W5) 18 1 [15, 16, 17, 18, 19, 20, 21, 22, 23, 24, 25, 26, 27, 28, 29, 30, 31, 32] [u15, u16, u17, u18, u19, u20, u21, u22, u23, u24, u25, u26, u27, u28, u29, u30, u31, u32]
        (fun i => match i with | 0 => lnE (.pointer (some ⟨g, 0, none⟩)) | 1 => lnE (.pointer (some ⟨g, 0, none⟩)) | 2 => lnE (.pointer (some ⟨g, 0, none⟩)) | 3 => lnE (.map (some m)) | 4 => lnE (.pointer (some ⟨wr.heap.size, 2, none⟩)) | 5 => lnE (.int .i64 t) | 6 => lnE (.pointer (some ⟨g, 0, none⟩)) | 7 => lnE (.pointer (some ⟨g, 0, none⟩)) | 8 => lnE (.pointer (some ⟨g, 0, none⟩)) | 9 => lnE (.map (some m)) | 10 => lnE (.pointer (some ⟨wr.heap.size, 2, none⟩)) | 11 => lnE (.int .i64 t) | 12 => lnI (lnCf qk t) | 13 => lnE (.func (.func 31) #[.agg #[.bool dk, .slice pk nk ck]] #[]) | 14 => lnE (.pointer (some ⟨wr.heap.size, 0, none⟩)) | 15 => lnE (.agg #[.bool d, .slice q n cq]) | 16 => lnR (f c) | _ => lnI (lnCf qk t + f c)) [] (by kernel_rfl) (by kernel_rfl) (by kernel_rfl) (by kernel_rfl) (by decide) rfl (by kernel_rfl) rfl (by simp) ?he5 ?_ ?_ ?_
      case he5 => simp only [putAll, Act.put, List.setIfInBounds_toArray, List.set_cons_zero, List.set_cons_succ]
      · intro i hi; simp at hi
      · intro i o hi ho vs wx hvl hb hdep K hK
        have hvs := vlen18 hvl
        obtain ⟨s15, s16, s17, s18, s19, s20, s21, s22, s23, s24, s25, s26, s27, s28, s29, s30, s31, s32, rfl⟩ := hvs
        clear hvl
        have HGx : GaAt wx g m _ _ r := HG5.out.below hb
        obtain ⟨pg, ng, cg, hgb, -⟩ := HGx.cells
        obtain ⟨x0, x1, x2⟩ := lnCells3 hgb
        obtain ⟨z0, z1, z2⟩ := lnCells3 ((hb.block wr.heap.size (by omega)).trans HE5.out)
        rcases i with _ | _ | _ | _ | _ | _ | _ | _ | _ | _ | _ | _ | _ | _ | _ | _ | _ | _ | i
        all_goals (simp only [List.getElem?_toArray, List.getElem?_cons_zero, List.getElem?_cons_succ, Option.some.injEq] at ho)
        all_goals try (subst ho)
        all_goals try simp only [putAll, Act.put, List.setIfInBounds_toArray, List.set_cons_zero, List.set_cons_succ]
        · go_simp
          have hK' := hK.out
          simp only [putAll, Act.put, List.setIfInBounds_toArray, List.set_cons_zero, List.set_cons_succ] at hK'
          exact hK' _ _ rfl (Below.refl _ _) (by simp)
        · have e0 : s15 = _ := hdep ⟨0, .data⟩ (by simp) rfl
          have e0 := e0.symm
          subst e0
          go_simp
          have hK' := hK.out
          simp only [putAll, Act.put, List.setIfInBounds_toArray, List.set_cons_zero, List.set_cons_succ] at hK'
          exact hK' _ _ rfl (Below.refl _ _) (by simp)
        · have e1 : s16 = _ := hdep ⟨1, .data⟩ (by simp) rfl
          have e1 := e1.symm
          subst e1
          go_simp
          have hK' := hK.out
          simp only [putAll, Act.put, List.setIfInBounds_toArray, List.set_cons_zero, List.set_cons_succ] at hK'
          exact hK' _ _ rfl (Below.refl _ _) (by simp)
        · have e2 : s17 = _ := hdep ⟨2, .data⟩ (by simp) rfl
          have e2 := e2.symm
          subst e2
          go_simp
          have hK' := hK.out
          simp only [putAll, Act.put, List.setIfInBounds_toArray, List.set_cons_zero, List.set_cons_succ] at hK'
          exact hK' _ _ rfl (Below.refl _ _) (by simp)
        · go_simp
          have hK' := hK.out
          simp only [putAll, Act.put, List.setIfInBounds_toArray, List.set_cons_zero, List.set_cons_succ] at hK'
          exact hK' _ _ rfl (Below.refl _ _) (by simp)
        · have e4 : s19 = _ := hdep ⟨4, .data⟩ (by simp) rfl
          have e4 := e4.symm
          subst e4
          go_simp
          have hK' := hK.out
          simp only [putAll, Act.put, List.setIfInBounds_toArray, List.set_cons_zero, List.set_cons_succ] at hK'
          exact hK' _ _ rfl (Below.refl _ _) (by simp)
        · go_simp
          have hK' := hK.out
          simp only [putAll, Act.put, List.setIfInBounds_toArray, List.set_cons_zero, List.set_cons_succ] at hK'
          exact hK' _ _ rfl (Below.refl _ _) (by simp)
        · have e6 : s21 = _ := hdep ⟨6, .data⟩ (by simp) rfl
          have e6 := e6.symm
          subst e6
          go_simp
          have hK' := hK.out
          simp only [putAll, Act.put, List.setIfInBounds_toArray, List.set_cons_zero, List.set_cons_succ] at hK'
          exact hK' _ _ rfl (Below.refl _ _) (by simp)
        · have e7 : s22 = _ := hdep ⟨7, .data⟩ (by simp) rfl
          have e7 := e7.symm
          subst e7
          go_simp
          have hK' := hK.out
          simp only [putAll, Act.put, List.setIfInBounds_toArray, List.set_cons_zero, List.set_cons_succ] at hK'
          exact hK' _ _ rfl (Below.refl _ _) (by simp)
        · have e8 : s23 = _ := hdep ⟨8, .data⟩ (by simp) rfl
          have e8 := e8.symm
          subst e8
          go_simp
          have hK' := hK.out
          simp only [putAll, Act.put, List.setIfInBounds_toArray, List.set_cons_zero, List.set_cons_succ] at hK'
          exact hK' _ _ rfl (Below.refl _ _) (by simp)
        · go_simp
          have hK' := hK.out
          simp only [putAll, Act.put, List.setIfInBounds_toArray, List.set_cons_zero, List.set_cons_succ] at hK'
          exact hK' _ _ rfl (Below.refl _ _) (by simp)
        · have e10 : s25 = _ := hdep ⟨10, .data⟩ (by simp) rfl
          have e10 := e10.symm
          subst e10
          go_simp
          have hK' := hK.out
          simp only [putAll, Act.put, List.setIfInBounds_toArray, List.set_cons_zero, List.set_cons_succ] at hK'
          exact hK' _ _ rfl (Below.refl _ _) (by simp)
        · have e9 : s24 = _ := hdep ⟨9, .data⟩ (by simp) rfl
          have e9 := e9.symm
          subst e9
          have e11 : s26 = _ := hdep ⟨11, .data⟩ (by simp) rfl
          have e11 := e11.symm
          subst e11
          obtain ⟨p5, n5, c5, hrun, hi⟩ := (HGx.map).look t HT.out
          go_simp
          go_simp
          have hK' := hK.out
          simp only [putAll, Act.put, List.setIfInBounds_toArray, List.set_cons_zero, List.set_cons_succ] at hK'
          exact hK' _ _ ⟨_, _, _, _, rfl, hi⟩ (Below.refl _ _) (by simp)
        · go_simp
          have hK' := hK.out
          simp only [putAll, Act.put, List.setIfInBounds_toArray, List.set_cons_zero, List.set_cons_succ] at hK'
          exact hK' _ _ rfl (Below.refl _ _) (by simp)
        · go_simp
          have hK' := hK.out
          simp only [putAll, Act.put, List.setIfInBounds_toArray, List.set_cons_zero, List.set_cons_succ] at hK'
          exact hK' _ _ rfl (Below.refl _ _) (by simp)
        · have e14 : s29 = _ := hdep ⟨14, .data⟩ (by simp) rfl
          have e14 := e14.symm
          subst e14
          go_simp
          have hK' := hK.out
          simp only [putAll, Act.put, List.setIfInBounds_toArray, List.set_cons_zero, List.set_cons_succ] at hK'
          exact hK' _ _ rfl (Below.refl _ _) (by simp)
        · have e13 : s28 = _ := hdep ⟨13, .data⟩ (by simp) rfl
          have e13 := e13.symm
          subst e13
          have e15 : s30 = _ := hdep ⟨15, .data⟩ (by simp) rfl
          have e15 := e15.symm
          subst e15
          go_simp
          refine (HPhi.out _ c wx (lnGo hb HB5.out) (HR5.out.below hb) Hc.out).mono ?_
          rintro e wy ⟨p5, n5, c5, d5, rfl, iy, hby⟩
          go_wp2_with fail
          have hK' := hK.out
          simp only [putAll, Act.put, List.setIfInBounds_toArray, List.set_cons_zero, List.set_cons_succ] at hK'
          exact hK' _ _ ⟨_, _, _, _, rfl, iy⟩ hby (by simp)
        · have e12 : (lnI (lnCf qk t)).P s27 wx := hdep ⟨12, .data⟩ (by simp) rfl
          obtain ⟨da12, pa12, na12, ca12, rfl, ia12⟩ := e12
          have e16 : (lnR (f c)).P s31 wx := hdep ⟨16, .data⟩ (by simp) rfl
          obtain ⟨da16, pa16, na16, ca16, rfl, ia16⟩ := e16
          go_simp
          refine (Add_any _ _ _ _ wx (ia12.rawL Hs1.out) ia16).mono ?_
          rintro e wy ⟨vy, rfl, iy, hby⟩
          have hsh := iy.shape
          obtain ⟨p5, n5, c5, rfl, iy⟩ := hsh
          go_wp2_with fail
          have hK' := hK.out
          simp only [putAll, Act.put, List.setIfInBounds_toArray, List.set_cons_zero, List.set_cons_succ] at hK'
          exact hK' _ _ ⟨_, _, _, _, rfl, iy⟩ hby (by simp)
        · omega
      · intro vs wx hvl hb hf hdist
        have hvs := vlen18 hvl
        obtain ⟨s15, s16, s17, s18, s19, s20, s21, s22, s23, s24, s25, s26, s27, s28, s29, s30, s31, s32, rfl⟩ := hvs
        have f3 : s18 = .map (some m) := hf 3 (by decide)
        have f5 : s20 = .int .i64 t := hf 5 (by decide)
        have f17 : (lnI (lnCf qk t + f c)).P s32 wx := hf 17 (by decide)
        obtain ⟨d7, p7, n7, c7, e7, i7⟩ := f17
        subst f3 f5 e7
        obtain ⟨w8, hrun, hG8, hA8⟩ := (show Gn wx g m qk r from HG5.out.below hb).put t (f c) HT.out Hk.out i7
        have HG8 := hid hG8
        have HA8 : Hid (Apart (fun k => k = g ∨ k = m) W w8) := hid (HA5.out.go ((Apart.of_below hb).go (hA8.mono (fun k hk => .inr hk))))
        clear hf hvl hdist hG8 hA8 i7
        refine wpAny_one (i := 18) (by kernel_rfl) rfl ?_
        intro K hK
        simp only [putAll, Act.put, List.setIfInBounds_toArray, List.set_cons_zero, List.set_cons_succ]
        have hK' := hK.out
        refine oper_map (.tmp 18) (.tmp 20) (.tmp 32) 57 rfl _ _ _ rfl rfl rfl rfl hrun ?_
        apply hK'
        clear hK hK' hrun
        refine wpAny_done (by kernel_rfl) ?_ _
        go_wp2_with fail
        go_roundw
        case rel => exact ⟨k + 1, by omega, by go_num, hid (by rw [Hnext.out]; exact HG8.out), HA8⟩
        case measure => simp [intOf] <;> omega
    · obtain rfl : k = L := by omega
      have hfin : a1.take k = a1 := by rw [HLL.out, List.take_length]
      have HGr : Hid (Gn wr g m (qs ++ a1.map (fun p => (f p.1, p.2))) r) := hid (by have := hGk.out; rw [hfin] at this; exact this)
      have HAr := hAk
      have HEr := hid ((hAk.out.block w.heap.size (by have := HzW.out; omega) (by omega)).trans HE0.out)
      have zr : w.heap.size < wr.heap.size := by have := hAk.out.size; have := HzW.out; omega
      have HR2 := hid (HR2.out.below HBr.out)
      clear hfin hGk hAk
      go_upto_region 6 with fail
      refine wp_region_facts (w0 := wr) 12 1 [34, 35, 36, 37, 38, 39, 40, 41, 42, 43, 44, 45] [undef, undef, undef, undef, undef, undef, undef, undef, undef, undef, undef, undef]
        (fun i => match i with | 0 => lnE (.pointer (some ⟨g, 0, none⟩)) | 1 => lnE (.pointer (some ⟨g, 0, none⟩)) | 2 => lnE (.pointer (some ⟨g, 0, none⟩)) | 3 => lnE (.pointer (some ⟨g, 1, none⟩)) | 4 => lnI r | 5 => lnE (.func (.func 31) #[.agg #[.bool dk, .slice pk nk ck]] #[]) | 6 => lnE (.pointer (some ⟨w.heap.size, 1, none⟩)) | 7 => lnE (.agg #[.bool n0, .slice p2 n2 c2]) | 8 => lnR (f a2) | 9 => lnI (r + f a2) | 10 => lnE (.pointer (some ⟨g, 0, none⟩)) | _ => lnE (.pointer (some ⟨g, 1, none⟩))) [] (by kernel_rfl) (by kernel_rfl) (by kernel_rfl) (by kernel_rfl) (by decide) rfl (by kernel_rfl) rfl (by simp) ?he6 ?_ ?_ ?_
      case he6 => simp only [putAll, Act.put, List.setIfInBounds_toArray, List.set_cons_zero, List.set_cons_succ]
      · intro i hi; simp at hi
      · intro i o hi ho vs wx hvl hb hdep K hK
        have hvs := vlen12 hvl
        obtain ⟨s34, s35, s36, s37, s38, s39, s40, s41, s42, s43, s44, s45, rfl⟩ := hvs
        clear hvl
        have HGx : GaAt wx g m _ _ r := HGr.out.below hb
        obtain ⟨pg, ng, cg, hgb, hgi⟩ := HGx.cells
        obtain ⟨x0, x1, x2⟩ := lnCells3 hgb
        obtain ⟨z0, z1, z2⟩ := lnCells3 ((hb.block w.heap.size (by omega)).trans HEr.out)
        rcases i with _ | _ | _ | _ | _ | _ | _ | _ | _ | _ | _ | _ | i
        all_goals (simp only [List.getElem?_toArray, List.getElem?_cons_zero, List.getElem?_cons_succ, Option.some.injEq] at ho)
        all_goals try (subst ho)
        all_goals try simp only [putAll, Act.put, List.setIfInBounds_toArray, List.set_cons_zero, List.set_cons_succ]
        · go_simp
          have hK' := hK.out
          simp only [putAll, Act.put, List.setIfInBounds_toArray, List.set_cons_zero, List.set_cons_succ] at hK'
          exact hK' _ _ rfl (Below.refl _ _) (by simp)
        · go_simp
          have hK' := hK.out
          simp only [putAll, Act.put, List.setIfInBounds_toArray, List.set_cons_zero, List.set_cons_succ] at hK'
          exact hK' _ _ rfl (Below.refl _ _) (by simp)
        · have e1 : s35 = _ := hdep ⟨1, .data⟩ (by simp) rfl
          have e1 := e1.symm
          subst e1
          go_simp
          have hK' := hK.out
          simp only [putAll, Act.put, List.setIfInBounds_toArray, List.set_cons_zero, List.set_cons_succ] at hK'
          exact hK' _ _ rfl (Below.refl _ _) (by simp)
        · have e2 : s36 = _ := hdep ⟨2, .data⟩ (by simp) rfl
          have e2 := e2.symm
          subst e2
          go_simp
          have hK' := hK.out
          simp only [putAll, Act.put, List.setIfInBounds_toArray, List.set_cons_zero, List.set_cons_succ] at hK'
          exact hK' _ _ rfl (Below.refl _ _) (by simp)
        · have e3 : s37 = _ := hdep ⟨3, .data⟩ (by simp) rfl
          have e3 := e3.symm
          subst e3
          go_simp
          go_simp
          have hK' := hK.out
          simp only [putAll, Act.put, List.setIfInBounds_toArray, List.set_cons_zero, List.set_cons_succ] at hK'
          exact hK' _ _ ⟨_, _, _, _, rfl, hgi⟩ (Below.refl _ _) (by simp)
        · go_simp
          have hK' := hK.out
          simp only [putAll, Act.put, List.setIfInBounds_toArray, List.set_cons_zero, List.set_cons_succ] at hK'
          exact hK' _ _ rfl (Below.refl _ _) (by simp)
        · go_simp
          have hK' := hK.out
          simp only [putAll, Act.put, List.setIfInBounds_toArray, List.set_cons_zero, List.set_cons_succ] at hK'
          exact hK' _ _ rfl (Below.refl _ _) (by simp)
        · have e6 : s40 = _ := hdep ⟨6, .data⟩ (by simp) rfl
          have e6 := e6.symm
          subst e6
          go_simp
          have hK' := hK.out
          simp only [putAll, Act.put, List.setIfInBounds_toArray, List.set_cons_zero, List.set_cons_succ] at hK'
          exact hK' _ _ rfl (Below.refl _ _) (by simp)
        · have e5 : s39 = _ := hdep ⟨5, .data⟩ (by simp) rfl
          have e5 := e5.symm
          subst e5
          have e7 : s41 = _ := hdep ⟨7, .data⟩ (by simp) rfl
          have e7 := e7.symm
          subst e7
          go_simp
          refine (HPhi.out _ a2 wx (lnGo hb HBr.out) (HR2.out.below hb) HS2.out).mono ?_
          rintro e wy ⟨p5, n5, c5, d5, rfl, iy, hby⟩
          go_wp2_with fail
          have hK' := hK.out
          simp only [putAll, Act.put, List.setIfInBounds_toArray, List.set_cons_zero, List.set_cons_succ] at hK'
          exact hK' _ _ ⟨_, _, _, _, rfl, iy⟩ hby (by simp)
        · have e4 : (lnI r).P s38 wx := hdep ⟨4, .data⟩ (by simp) rfl
          obtain ⟨da4, pa4, na4, ca4, rfl, ia4⟩ := e4
          have e8 : (lnR (f a2)).P s42 wx := hdep ⟨8, .data⟩ (by simp) rfl
          obtain ⟨da16, pa16, na16, ca16, rfl, ia16⟩ := e8
          go_simp
          refine (Add_any _ _ _ _ wx (ia4.rawL Hr.out) ia16).mono ?_
          rintro e wy ⟨vy, rfl, iy, hby⟩
          have hsh := iy.shape
          obtain ⟨p5, n5, c5, rfl, iy⟩ := hsh
          go_wp2_with fail
          have hK' := hK.out
          simp only [putAll, Act.put, List.setIfInBounds_toArray, List.set_cons_zero, List.set_cons_succ] at hK'
          exact hK' _ _ ⟨_, _, _, _, rfl, iy⟩ hby (by simp)
        · have e0 : s34 = _ := hdep ⟨0, .data⟩ (by simp) rfl
          have e0 := e0.symm
          subst e0
          go_simp
          have hK' := hK.out
          simp only [putAll, Act.put, List.setIfInBounds_toArray, List.set_cons_zero, List.set_cons_succ] at hK'
          exact hK' _ _ rfl (Below.refl _ _) (by simp)
        · have e10 : s44 = _ := hdep ⟨10, .data⟩ (by simp) rfl
          have e10 := e10.symm
          subst e10
          go_simp
          have hK' := hK.out
          simp only [putAll, Act.put, List.setIfInBounds_toArray, List.set_cons_zero, List.set_cons_succ] at hK'
          exact hK' _ _ rfl (Below.refl _ _) (by simp)
        · omega
      · intro vs wx hvl hb hf hdist
        have hvs := vlen12 hvl
        obtain ⟨s34, s35, s36, s37, s38, s39, s40, s41, s42, s43, s44, s45, rfl⟩ := hvs
        have f11 : s45 = .pointer (some ⟨g, 1, none⟩) := hf 11 (by decide)
        have f9 : (lnI (r + f a2)).P s43 wx := hf 9 (by decide)
        obtain ⟨d7, p7, n7, c7, e7, i7⟩ := f9
        subst f11 e7
        have hsh := i7.shape
        obtain ⟨p8, n8, c8, e8, i8⟩ := hsh
        injection e8 with e8
        have HGx : GaAt wx g m _ _ r := HGr.out.below hb
        obtain ⟨hG8, hA8⟩ := HGx.rest i8
        have e9 : d7 = decide (r + f a2 < 0) ∧ (.slice p7 n7 c7 : Value) = .slice p8 n8 c8 := by simpa using e8
        obtain ⟨rfl, e9⟩ := e9
        injection e9 with e91 e92 e93
        subst e91 e92 e93
        have HG8 := hid hG8
        have HA8 := hid (HAr.out.go ((Apart.of_below hb).go (hA8.mono (fun k hk => .inl hk))))
        obtain ⟨pg, ng, cg, hgb, -⟩ := HGx.cells
        obtain ⟨x0, x1, x2⟩ := lnCells3 hgb
        have fz1 := frozen_of_row wx g 1 _ _ hgb
        have fz2 := frozen_of_row wx g 2 _ _ hgb
        clear hf hvl hdist hG8 hA8 i7 i8
        refine wpAny_one (i := 12) (by kernel_rfl) rfl ?_
        intro K hK
        simp only [putAll, Act.put, List.setIfInBounds_toArray, List.set_cons_zero, List.set_cons_succ]
        have hK' := hK.out
        go_simp
        apply hK'
        clear hK hK'
        refine wpAny_done (by kernel_rfl) ?_ _
        try simp only [putAll, Act.put, List.setIfInBounds_toArray, List.set_cons_zero, List.set_cons_succ]
        go_wp2
        go_end0
        exact ⟨rfl, HG8.out, ⟨HA8.out.os.trans (Hb0.out.os), HA8.out.tape.trans Hb0.out.tape, HA8.out.output.trans Hb0.out.output, Nat.le_trans Hb0.out.size HA8.out.size, fun k hk hn => (HA8.out.block k (Nat.lt_of_lt_of_le hk Hb0.out.size) hn).trans (Hb0.out.block k hk)⟩⟩
end Go.Proofs.YtjfehknilofdjaaGreat
namespace Go.Proofs
open Go.Shelf
def Tryz.keysA_ren : Go.Shelf.Ren := ⟨fun | 7 => 36 | 10 => 56 | n => n, fun | 23 => 57 | 26 => 3 | 3 => 26 | 28 => 63 | 0 => 0 | 27 => 62 | 33 => 74 | 4 => 4 | n => n, fun | n => n⟩
theorem Tryz.keysA : Go.Proofs.SlLaysZI.n7 Tryz.prog Tryz.keysA_ren := {
  mixed := by kernel_rfl
  f7 := ⟨Tryz.f36.name, by decide, Tryz.func36.trans (congrArg some (by kernel_rfl))⟩
  f10 := ⟨Tryz.f56.name, by decide, Tryz.func56.trans (congrArg some (by kernel_rfl))⟩
  t0 := Tryz.underlying0
  a0 := Tryz.isAgg0
  z0 := Tryz.sizeOf0
  v0 := Tryz.zeroValue0
  t4 := Tryz.underlying4
  a4 := Tryz.isAgg4
  z4 := Tryz.sizeOf4
  v4 := Tryz.zeroValue4
  t23 := Tryz.underlying57
  a23 := Tryz.isAgg57
  z23 := Tryz.sizeOf57
  v23 := Tryz.zeroValue57
  t26 := Tryz.underlying3
  a26 := Tryz.isAgg3
  z26 := Tryz.sizeOf3
  v26 := Tryz.zeroValue3
  t27 := Tryz.underlying62
  a27 := Tryz.isAgg62
  z27 := Tryz.sizeOf62
  v27 := Tryz.zeroValue62
  t28 := Tryz.underlying63
  a28 := Tryz.isAgg63
  z28 := Tryz.sizeOf63
  v28 := Tryz.zeroValue63
  t33 := Tryz.underlying74
  a33 := Tryz.isAgg74
  z33 := Tryz.sizeOf74
  v33 := Tryz.zeroValue74 }
def Tryz.sortedA_ren : Go.Shelf.Ren := ⟨fun | 6 => 35 | 8 => 54 | 9 => 55 | 11 => 68 | 13 => 70 | 12 => 69 | 23 => 89 | 24 => 90 | 14 => 80 | 15 => 81 | 16 => 82 | 17 => 83 | 18 => 84 | 19 => 85 | 20 => 86 | 21 => 87 | 22 => 88 | 25 => 94 | 26 => 95 | 27 => 96 | 28 => 97 | 29 => 98 | 30 => 78 | 31 => 103 | n => n, fun | 26 => 3 | 28 => 63 | 24 => 60 | 0 => 0 | 3 => 3 | 37 => 77 | 48 => 109 | 50 => 54 | 4 => 4 | 40 => 101 | 39 => 100 | 45 => 106 | 5 => 5 | 9 => 9 | 51 => 114 | 55 => 118 | 57 => 122 | 58 => 123 | 33 => 74 | n => n, fun | n => n⟩
theorem Tryz.sortedA : Go.Proofs.SlLaysZI.n6 Tryz.prog Tryz.sortedA_ren := {
  mixed := by kernel_rfl
  f6 := ⟨Tryz.f35.name, by decide, Tryz.func35.trans (congrArg some (by kernel_rfl))⟩
  f8 := ⟨Tryz.f54.name, by decide, Tryz.func54.trans (congrArg some (by kernel_rfl))⟩
  f11 := ⟨Tryz.f68.name, by decide, Tryz.func68.trans (congrArg some (by kernel_rfl))⟩
  t0 := Tryz.underlying0
  a0 := Tryz.isAgg0
  z0 := Tryz.sizeOf0
  v0 := Tryz.zeroValue0
  t24 := Tryz.underlying60
  a24 := Tryz.isAgg60
  z24 := Tryz.sizeOf60
  v24 := Tryz.zeroValue60
  t26 := Tryz.underlying3
  a26 := Tryz.isAgg3
  z26 := Tryz.sizeOf3
  v26 := Tryz.zeroValue3
  t28 := Tryz.underlying63
  a28 := Tryz.isAgg63
  z28 := Tryz.sizeOf63
  v28 := Tryz.zeroValue63
  i26 := by kernel_rfl }
end Go.Proofs
/- slices.Sorted(maps.Keys(m)) of a gathering's map: its terms, each once, rising. -/
namespace Go.Proofs.YtjfehknilofdjaaGreat
open Go.RowKit Big Go.Maps Go.Sort Go.Shelf

theorem sortsL (m : Nat) : AnyZI.SortsIn Tryz.prog Tryz.sortedA_ren Fence.wide m :=
  ⟨fun blk off cap ss W hH hblk hsz => callsIn_wide.2 (AnyM.slices_Sort_int Tryz.laysSlM5_f55 blk off cap ss W hH hblk hsz),
   fun p cap W => callsIn_wide.2 (AnyM.slices_Sort_int_none Tryz.laysSlM5_f55 p cap W)⟩
theorem keysOf_any (b : Nat) (W : World) : Calls Tryz.prog 36 #[.map (some b)] W fun e w' => e = .returned (.func (.func 56) #[] #[.pointer (some ⟨W.heap.size, 0, none⟩)]) ∧ w' = W.alloc (.cells #[.map (some b)] 57) :=
  (callsIn_wide (n := 5)).1 (AnyZI.keys_in Tryz.keysA Fence.wide 5 trivial rfl (some b) W)
set_option maxRecDepth 100000 in
theorem sorted_any (b nn : Nat) (D0 : DataW Value) (w : World) (hown : w.ownsMap Tryz.prog 3 RV b nn D0) (hmax : Maps.size D0 ≤ 1000000000000) :
    Calls Tryz.prog 35 #[.func (.func 56) #[] #[.pointer (some ⟨w.heap.size, 0, none⟩)]] (w.alloc (.cells #[.map (some b)] 57)) fun e w' => ∃ (v : Value) (ss : List Int), e = .returned v ∧ ss.Perm (intKeys D0) ∧
      w'.ownsRow w.heap.size 3 1 v ss.length ((ss.mergeSort (fun x y => decide (x ≤ y))).map encZ) ∧ Below w.heap.size w w' := by
  refine (callsIn_wide (n := 5)).1 ?_
  have hbl := hown.lt
  have hseq : SeqGives Fence.wide 2 Tryz.prog 56 #[.pointer (some ⟨w.heap.size, 0, none⟩)] encZ (fun ss => ss.Perm (intKeys D0)) (Maps.size D0) (w.alloc (.cells #[.map (some b)] 57)) :=
    AnyZI.keys_gives (ρ := Tryz.keysA_ren) { Tryz.keysA with } Fence.wide _ trivial rfl (by omega) w.heap.size b nn D0 _ (by simp) (by simp) (by
      obtain ⟨es, clock, hb, Ft, hs, hD⟩ := hown
      exact ⟨es, clock, (Below.heap_alloc _ _ b hbl).trans hb, Ft, hs, hD⟩)
  have cS := AnyZI.sorted_in Tryz.sortedA Fence.wide 5 trivial trivial trivial trivial rfl (by omega) (sortsL _) (enters_of Tryz.func55 (by kernel_rfl) rfl) 56 #[.pointer (some ⟨w.heap.size, 0, none⟩)] trivial (enters_of Tryz.func56 (by kernel_rfl) rfl) _ _ (by unfold maxLen; omega) (by omega) _ hseq
  change CallsIn _ _ Tryz.prog 35 _ _ _ at cS
  refine cS.mono ?_
  rintro e w' ⟨v, ss, rfl, hS, hrow, hnil, hb⟩
  exact ⟨v, ss, rfl, hS, ownsRow_base_a hrow (by simp), ((Below.refl _ w).alloc (Nat.le_refl _) _).trans (hb.mono (by simp))⟩
/-- a row of ints, by its cells -/
def ZRow (B : Nat) (w : World) (v : Value) (l : List Int) : Prop := ∃ p cap, v = .slice p l.length cap ∧ l.length ≤ maxLen ∧ (0 < l.length → ∃ b, p = some ⟨b, 0, none⟩ ∧ B ≤ b ∧ b < w.heap.size ∧ ∀ i (h : i < l.length), w.cell? ⟨b, i, none⟩ = some (.int .i64 l[i]))
theorem ZRow.of {w : World} {B : Nat} {v : Value} {l : List Int} (h : w.ownsRow B 3 1 v l.length (l.map encZ)) : ZRow B w v l := by
  rcases id h.2 with ⟨rfl, h0⟩ | ⟨g, cap, cur, rfl, hb, hh, k1, k2, k3, k4⟩
  · exact ⟨none, 0, by rw [h0], by omega, fun h => absurd h (by omega)⟩
  · refine ⟨_, cap, rfl, by omega, fun h0 => ⟨g, rfl, hb, (Array.getElem?_eq_some_iff.1 hh).1, fun i hi => ?_⟩⟩
    have := World.ownsRow.cellAt h i (by omega)
    rw [this]
    simp [hi, encZ]
/-- the terms of a gathering's map -/
theorem lnSorted_any {w : World} {m : Nat} {ks : List Int} {cf : Int → Int} (h : MpN w m ks cf) (hk : ks.length ≤ 1000000000000) :
    Calls Tryz.prog 35 #[.func (.func 56) #[] #[.pointer (some ⟨w.heap.size, 0, none⟩)]] (w.alloc (.cells #[.map (some m)] 57)) fun e w' => ∃ v : Value, e = .returned v ∧ ZRow w.heap.size w' v (lnKeys ks) ∧ Below w.heap.size w w' := by
  obtain ⟨D, n, h1, h2, h3⟩ := h.keys
  refine (sorted_any m n D w h1 (Nat.le_trans h2 hk)).mono ?_
  rintro e w' ⟨v, ss, rfl, hS, hrow, hb⟩
  have e1 : ss.mergeSort (fun x y => decide (x ≤ y)) = lnKeys ks := mergeSort_of_perm_i (hS.trans h3.symm)
  have e2 : ss.length = (lnKeys ks).length := by rw [← e1, List.length_mergeSort]
  rw [e1, e2] at hrow
  exact ⟨v, rfl, ZRow.of hrow, hb⟩
end Go.Proofs.YtjfehknilofdjaaGreat
/- (*linear.gathering).sum: the parts that were put in, each term once, rising, those of nothing left out. -/
namespace Go.Proofs.YtjfehknilofdjaaGreat
open Go.RowKit Big

def lnRow {S : Nat → Prop} (c : List Value) (t : TypeId) : WFact S := ⟨fun v w => ∃ gg, v = .slice (some ⟨gg, 0, none⟩) 1 1 ∧ w.heap[gg]? = some (.cells c.toArray t (0, 0)) ∧ ¬ S gg,
  fun _ _ _ ⟨gg, h1, h2, h3⟩ hb => ⟨gg, h1, (hb.block gg (Array.getElem?_eq_some_iff.1 h2).1 h3).trans h2, h3⟩⟩
theorem lnCellsAt {w : World} {g : Nat} {t : TypeId} {c : List Value} (h : w.heap[g]? = some (.cells c.toArray t (0, 0))) : ∀ j u, c[j]? = some u → w.cell? ((⟨g, 0, none⟩ : Addr).add j) = some u := by
  intro j u hj
  rw [Go.WideShapes.add_plain, cell_of_row w g _ _ t (0, 0) h, Nat.zero_add]
  simpa using hj
theorem infoPart : (Tryz.prog.info? 38).map (fun i => (i.zero, i.size, i.bytes)) = some (some (.agg #[.bool false, .slice none 0 0, .int .i64 0]), 3, 40) := by kernel_rfl
theorem MpN.look_all {w : World} {m : Nat} {ks : List Int} {cf : Int → Int} (h : MpN w m ks cf) (t : Int) (ht : wfI t) :
    ∃ p n c, (∀ w' : World, w'.heap[m]? = w.heap[m]? → (Instr.lookup 57 (.map (some m)) (.int .i64 t) false).run Tryz.prog w' = .ok (.agg #[.bool (decide (cf t < 0)), .slice p n c]) w') ∧ IntAt w (.agg #[.bool (decide (cf t < 0)), .slice p n c]) (cf t) := by
  obtain ⟨D, n, h1, h2, h3, h4, h5⟩ := h
  obtain ⟨u, e, hi⟩ := h5 t
  obtain ⟨p, k, c, rfl, hi⟩ := hi.shape
  refine ⟨p, k, c, fun w' hw => ?_, hi⟩
  obtain ⟨es, cl, hb, r⟩ := h2
  have h2' : w'.ownsMap Tryz.prog 3 RV m n D := ⟨es, cl, hw.trans hb, r⟩
  obtain ⟨v, ps, hrun, hv⟩ := h2'.lookup (Maps.int_keyed undI) Tryz.underlying57 (zeroInt_run w') (zd := .held zeroI) (zp := []) rfl (key_i t ht)
  rw [e] at hv
  unfold RV at hv
  simp only [Option.some.injEq, Prod.mk.injEq, DataW.held.injEq] at hv
  obtain ⟨rfl, -⟩ := hv
  exact hrun
theorem MpN.wf {w : World} {m : Nat} {ks : List Int} {cf : Int → Int} (h : MpN w m ks cf) : ∀ t ∈ ks, wfI t := by
  obtain ⟨D, n, h1, h2, h3, h4, h5⟩ := h
  exact h4
theorem lnOf_snoc (l : List Int) (t : Int) (f : Int → Int) : lnOf (l ++ [t]) f = lnOf l f ++ (if f t = 0 then [] else [(f t, t)]) := by
  unfold lnOf
  rw [List.filter_append, List.map_append]
  by_cases h : f t = 0
  · simp [h]
  · simp [h]
set_option maxRecDepth 100000 in
set_option maxHeartbeats 6400000 in
theorem sum_any (g m : Nat) (ks : List Int) (cf : Int → Int) (r : Int) (w : World) (h : GaAt w g m ks cf r) (hk : ks.length ≤ 1000000000000) (hz : ∀ t, sz W (cf t).natAbs ≤ 1099511627776) :
    Calls Tryz.prog 20 #[.pointer (some ⟨g, 0, none⟩)] w (RLin (lnOf (lnKeys ks) cf, r) w) := by
  obtain ⟨i0, hij, hz0, hz1, hz2⟩ := info_parts infoPart
  obtain ⟨hne, ⟨pr, nr, cr, hgb, hgi⟩, hM⟩ := h
  have glt : g < w.heap.size := (Array.getElem?_eq_some_iff.1 hgb).1
  have mlt : m < w.heap.size := hM.lt
  have Hgi := hid hgi; have Hgb := hid hgb; have HM := hid hM; have Hz := hid hz
  have hkl := lnKeys_len ks
  have Hmem := hid (fun t => lnKeys_mem ks t)
  have Hwf := hid hM.wf
  obtain ⟨W2, hW⟩ : ∃ W2, W2 = (w.alloc (.cells #[.slice none 0 0, .bool false, .slice none 0 0] 28)).alloc (.cells #[.slice none 0 0, .bool (decide (r < 0)), .slice pr nr cr] 28) := ⟨_, rfl⟩
  have b2 : Below w.heap.size w W2 := by rw [hW]; exact (below1 w _).alloc (by simp) _
  have z2 : W2.heap.size = w.heap.size + 2 := by rw [hW, size_alloc, size_alloc]
  have eR : W2.heap[w.heap.size]? = some (.cells #[.slice none 0 0, .bool false, .slice none 0 0] 28 (0, 0)) := by rw [hW, heap_alloc_old _ _ (by simp)]; exact heap_alloc_new w _
  have eO : W2.heap[w.heap.size + 1]? = some (.cells #[.slice none 0 0, .bool (decide (r < 0)), .slice pr nr cr] 28 (0, 0)) := by
    have := heap_alloc_new (w.alloc (.cells #[.slice none 0 0, .bool false, .slice none 0 0] 28)) (.cells #[.slice none 0 0, .bool (decide (r < 0)), .slice pr nr cr] 28)
    rw [size_alloc] at this
    rw [hW]; exact this
  have B2 := hid b2; have ER := hid eR; have EO := hid eO; have Z2 := hid z2
  have HS2 := hid (lnSorted_any (hM.below b2) hk)
  obtain ⟨x0, x1, x2⟩ := lnCells3 hgb
  have y0 := (lnCells3 ((b2.block g glt).trans hgb)).1
  clear hgi hz hM eR eO z2 hgb
  go_enter Tryz.func20, Tryz.ntmps20
  go_upto_region 2 with fail
  rw [← hW]
  clear hW x0 x1 x2
  go_wp2_with fail
  refine (keysOf_any m W2).mono ?_
  rintro e w' ⟨rfl, rfl⟩
  go_wp2_with fail
  refine HS2.out.mono ?_
  rintro e w3 ⟨vk, rfl, hrow, b3⟩
  obtain ⟨pk, ck, rfl, hkm, hkr⟩ := hrow
  have Hkr := hid hkr
  obtain ⟨L, hLL⟩ : ∃ L, L = (lnKeys ks).length := ⟨_, rfl⟩
  have HLL := hid hLL
  rw [← hLL] at hkl hkm ⊢
  obtain ⟨B, hBB⟩ : ∃ B, B = w3.heap.size := ⟨_, rfl⟩
  have z3 := b3.size
  have HOlt : Hid ((w.heap.size + 1) < B) := hid (by have := Z2.out; omega)
  have Hglt : Hid (g < B) := hid (by have := Z2.out; omega)
  have Hmlt : Hid (m < B) := hid (by have := Z2.out; omega)
  have HwB : Hid (w.heap.size < B) := hid (by have := Z2.out; omega)
  have HOge : Hid (w.heap.size ≤ (w.heap.size + 1)) := hid (by omega)
  have HO3 : Hid (w3.heap[w.heap.size + 1]? = some (.cells #[.slice none 0 0, .bool (decide (r < 0)), .slice pr nr cr] 28 (0, 0))) := hid ((b3.block (w.heap.size + 1) (by have := Z2.out; omega)).trans EO.out)
  have HR3 : Hid (w3.heap[w.heap.size]? = some (.cells #[.slice none 0 0, .bool false, .slice none 0 0] 28 (0, 0))) := hid ((b3.block w.heap.size (by have := Z2.out; omega)).trans ER.out)
  have HB3 := hid (lnGo b3 B2.out)
  clear hkr hLL b3 y0 z3
  go_wp2_with fail
  go_loopw [18] (fun i wr => ∃ (k : Nat) (vp : Value), k ≤ L ∧ i = .int .i64 (k : Nat) ∧ Hid (wr.heap[w.heap.size + 1]? = some (.cells #[vp, .bool (decide (r < 0)), .slice pr nr cr] 28 (0, 0))) ∧
    Hid (OwnLs 38 3 (fun _ c p => PtT w c p) B wr vp (lnOf ((lnKeys ks).take k) cf)) ∧ Hid (Apart (fun k => k = (w.heap.size + 1)) w3 wr)) (fun i _ => L - (intOf i).toNat)
  case atStart => exact ⟨0, _, Nat.zero_le _, rfl, HO3, hid (OwnLs.nil ..), hid (Apart.refl _ _)⟩
  case round =>
    obtain ⟨k, vp, hk2, rfl, HO, HL, HA⟩ := hrel
    have HBs : Hid (B ≤ wr.heap.size) := hid (by rw [hBB]; exact HA.out.size)
    have HBr : Hid (Below w.heap.size w wr) := hid (apart_below (g := (w.heap.size + 1)) (m := (w.heap.size + 1)) HB3.out (HA.out.mono (fun k hk => .inl hk)) HOge.out HOge.out)
    have hsB := HBs.out
    by_cases hlt : k < L
    · have hkt : k < (lnKeys ks).length := by rw [← HLL.out]; exact hlt
      have hlt' : (k : Int) < (L : Int) := by omega
      have htk : (lnKeys ks)[k] ∈ ks := (Hmem.out _).1 (List.getElem_mem hkt)
      obtain ⟨b, rfl, hbo, hbl, hcell⟩ := Hkr.out (by omega)
      have y0 := hcell k hkt
      have y0 := (World.cell?_of_block (w := w3) (a := ⟨b, k, none⟩) (HA.out.block b hbl (by have := Z2.out; omega))).trans y0
      have Hnext : Hid (lnOf ((lnKeys ks).take (k + 1)) cf = lnOf ((lnKeys ks).take k) cf ++ (if cf (lnKeys ks)[k] = 0 then [] else [(cf (lnKeys ks)[k], (lnKeys ks)[k])])) := hid (by rw [List.take_succ_eq_append_getElem hkt, lnOf_snoc])
      have hll : (lnOf ((lnKeys ks).take k) cf).length ≤ k := by
        unfold lnOf
        rw [List.length_map]
        exact Nat.le_trans (List.length_filter_le _ _) (by rw [List.length_take]; omega)
      have hwt := Hwf.out _ htk
      generalize lnOf ((lnKeys ks).take k) cf = qs at *
      generalize (lnKeys ks)[k] = t at *
      obtain ⟨pt, nt, ct, hlook, hit⟩ := HM.out.look_all t hwt
      have hmr := HBr.out.block m (by omega)
      have hgr := (HBr.out.block g (by omega)).trans Hgb.out
      have hrun := hlook wr hmr
      obtain ⟨x0, x1, x2⟩ := lnCells3 hgr
      have Hlook := hid hlook; have Hmr := hid hmr; have Hgr := hid hgr
      have Hpt : Hid (PtT w [.bool (decide (cf t < 0)), .slice pt nt ct, .int .i64 t] (cf t, t)) := hid ⟨_, rfl, hit, hwt⟩
      have HSg := hid (Sign_any _ _ wr ((hit.below HBr.out).rawL (Hz.out t)))
      clear hcell htk hwt hlook hmr hgr hit hbo hbl
      go_wp2_with fail
      refine HSg.out.mono ?_
      rintro e w6 ⟨rfl, b6⟩
      have HO6 : Hid (w6.heap[w.heap.size + 1]? = some (.cells #[vp, .bool (decide (r < 0)), .slice pr nr cr] 28 (0, 0))) := hid ((b6.block (w.heap.size + 1) (by have := HOlt.out; omega)).trans HO.out)
      have HL6 : Hid (OwnLs 38 3 (fun _ c p => PtT w c p) B w6 vp qs) := hid (HL.out.kept (fun gg hg => b6.block gg (by obtain ⟨css, _, h2, _⟩ := HL.out; exact (World.ownsRow.lt h2 gg hg).2)) (fun _ _ h => h))
      have HA6 : Hid (Apart (fun k => k = (w.heap.size + 1)) w3 w6) := hid (HA.out.go (Apart.of_below b6))
      have hs6 := b6.size
      clear x0 x1 x2 y0 hrun HSg
      by_cases hz0 : cf t = 0
      · have hs0 : (cf t).sign = 0 := by rw [hz0]; rfl
        rw [hs0]
        have hq := hid (show lnOf ((lnKeys ks).take (k + 1)) cf = qs by rw [Hnext.out, if_pos hz0, List.append_nil])
        clear hz0 hs0 Hlook Hpt
        go_wp2_with fail
        go_roundw
        case rel => exact ⟨k + 1, _, by omega, by go_num, HO6, hid (by rw [hq.out]; exact HL6.out), HA6⟩
        case measure => simp [intOf] <;> omega
      · have hs0 : ((cf t).sign == 0) = false := by
          rw [beq_eq_false_iff_ne]
          exact fun h => hz0 (Int.sign_eq_zero_iff_zero.1 h)
        have hq : Hid (lnOf ((lnKeys ks).take (k + 1)) cf = qs ++ [(cf t, t)]) := hid (by rw [Hnext.out, if_neg hz0])
        clear Hnext HO HL HBr HA Hmr Hgr HBs
        have HO := HO6; have HL := HL6; have HA := HA6; have Hnext := hq
        have HBs : Hid (B ≤ w6.heap.size) := hid (by omega)
        have HBr : Hid (Below w.heap.size w w6) := hid (apart_below (g := (w.heap.size + 1)) (m := (w.heap.size + 1)) HB3.out (HA.out.mono (fun k hk => .inl hk)) HOge.out HOge.out)
        have Hmr := hid (HBr.out.block m (by omega))
        have Hgr := hid ((HBr.out.block g (by omega)).trans Hgb.out)
        clear HO6 HL6 HA6 hq hz0 b6 hs6
        clear hsB
        have hsB := HBs.out
        generalize w6 = wr at *
        obtain ⟨xs, hrow, hgo⟩ := HL.out.row
        have Hgo := hid hgo; have Hrow := hid hrow
        have Hvlt := hid (fun gg hg => (World.ownsRow.lt hrow gg hg).2)
        have Hns : Hid (∀ x, x < B → ¬ (vp.ownBlock = some x)) := hid (fun x hx he => by have := (World.ownsRow.lt hrow x he).1; omega)
        have hshv := HL.out.shape
        obtain ⟨pvp, cvp, evp⟩ := hshv
        obtain ⟨n, hn⟩ : ∃ n, n = qs.length := ⟨_, rfl⟩
        rw [← hn] at Hrow evp hll
        have Hgo : Hid (∀ (w' : World) (v' : Value) (c : List Value) (x : Int × Int), w'.ownsRow B 38 3 v' (n + 1) (xs ++ c) → c.length = 3 → (∀ (c : List Value) (x : Int × Int), PtT w c x → PtT w c x) → PtT w c x → OwnLs 38 3 (fun _ c p => PtT w c p) B w' v' (qs ++ [x])) := hid (by rw [hn]; exact Hgo.out)
        clear hrow hgo hn HL
        subst evp
        have hOlt := HOlt.out; have hglt := Hglt.out; have hmlt := Hmlt.out
        have hs1 : ((cf t).sign != 0) = true := by simp only [bne, hs0, Bool.not_false]
        go_upto_region 6 with fail
        clear hs0 hs1
        refine wp_region_write (w0 := wr) 13 1 [30, 31, 32, 33, 34, 35, 36, 37, 38, 39, 40, 41, 42] [u30, u31, u32, u33, u34, u35, u36, u37, u38, u39, u40, u41, u42] (S := (fun k => (Value.slice pvp n cvp).ownBlock = some k))
          (fun i => match i with | 0 => wEq (.pointer (some ⟨w.heap.size + 1, 0, none⟩)) | 1 => wEq (.slice pvp n cvp) | 2 => wEq (.pointer (some ⟨g, 0, none⟩)) | 3 => wEq (.pointer (some ⟨g, 0, none⟩)) | 4 => wEq (.pointer (some ⟨g, 0, none⟩)) | 5 => wEq (.map (some m)) | 6 => wEq (.int .i64 t) | 7 => wEq (.agg #[.bool (decide (cf t < 0)), .slice pt nt ct]) | 8 => wEq (.int .i64 t) | 9 => wEq (.agg #[.bool (decide (cf t < 0)), .slice pt nt ct, .int .i64 t]) | 10 => lnRow [.bool (decide (cf t < 0)), .slice pt nt ct, .int .i64 t] 38 | 11 => wAny | _ => wEq (.pointer (some ⟨w.heap.size + 1, 0, none⟩))) 11 (fun v w => w.ownsRow B 38 3 v (n + 1) (xs ++ [.bool (decide (cf t < 0)), .slice pt nt ct, .int .i64 t])) (fun _ _ _ h hb => ownsRow_later h hb) (by kernel_rfl) (by kernel_rfl) (by kernel_rfl) (by kernel_rfl) (by decide) rfl (by kernel_rfl) rfl (by decide) ?he1 ?_ ?_
        case he1 => simp only [putAll, Act.put, List.setIfInBounds_toArray, List.set_cons_zero, List.set_cons_succ]
        · intro i o hi ho vs wx hvl hb hB hdep K hK
          have hvs := vlen13 hvl
          obtain ⟨s30, s31, s32, s33, s34, s35, s36, s37, s38, s39, s40, s41, s42, rfl⟩ := hvs
          clear hvl
          obtain ⟨q0, q1, q2⟩ := lnCells3 ((hb.block (w.heap.size + 1) (by omega) (Hns.out (w.heap.size + 1) HOlt.out)).trans HO.out)
          obtain ⟨x0, x1, x2⟩ := lnCells3 ((hb.block g (by omega) (Hns.out g Hglt.out)).trans Hgr.out)
          rcases i with _ | _ | _ | _ | _ | _ | _ | _ | _ | _ | _ | _ | _ | i
          all_goals (simp only [List.getElem?_toArray, List.getElem?_cons_zero, List.getElem?_cons_succ, Option.some.injEq] at ho)
          all_goals try (subst ho)
          all_goals try simp only [putAll, Act.put, List.setIfInBounds_toArray, List.set_cons_zero, List.set_cons_succ]
          · go_simp
            have hK' := hK.out
            simp only [putAll, Act.put, List.setIfInBounds_toArray, List.set_cons_zero, List.set_cons_succ] at hK'
            exact hK' _ _ rfl (fun _ => Below.refl _ _) (fun h => absurd h (by decide))
          · have e0 : s30 = _ := hdep ⟨0, .data⟩ (by simp) rfl
            have e0 := e0.symm
            subst e0
            go_simp
            have hK' := hK.out
            simp only [putAll, Act.put, List.setIfInBounds_toArray, List.set_cons_zero, List.set_cons_succ] at hK'
            exact hK' _ _ rfl (fun _ => Below.refl _ _) (fun h => absurd h (by decide))
          · go_simp
            have hK' := hK.out
            simp only [putAll, Act.put, List.setIfInBounds_toArray, List.set_cons_zero, List.set_cons_succ] at hK'
            exact hK' _ _ rfl (fun _ => Below.refl _ _) (fun h => absurd h (by decide))
          · have e2 : s32 = _ := hdep ⟨2, .data⟩ (by simp) rfl
            have e2 := e2.symm
            subst e2
            go_simp
            have hK' := hK.out
            simp only [putAll, Act.put, List.setIfInBounds_toArray, List.set_cons_zero, List.set_cons_succ] at hK'
            exact hK' _ _ rfl (fun _ => Below.refl _ _) (fun h => absurd h (by decide))
          · have e3 : s33 = _ := hdep ⟨3, .data⟩ (by simp) rfl
            have e3 := e3.symm
            subst e3
            go_simp
            have hK' := hK.out
            simp only [putAll, Act.put, List.setIfInBounds_toArray, List.set_cons_zero, List.set_cons_succ] at hK'
            exact hK' _ _ rfl (fun _ => Below.refl _ _) (fun h => absurd h (by decide))
          · have e4 : s34 = _ := hdep ⟨4, .data⟩ (by simp) rfl
            have e4 := e4.symm
            subst e4
            go_simp
            have hK' := hK.out
            simp only [putAll, Act.put, List.setIfInBounds_toArray, List.set_cons_zero, List.set_cons_succ] at hK'
            exact hK' _ _ rfl (fun _ => Below.refl _ _) (fun h => absurd h (by decide))
          · go_simp
            have hK' := hK.out
            simp only [putAll, Act.put, List.setIfInBounds_toArray, List.set_cons_zero, List.set_cons_succ] at hK'
            exact hK' _ _ rfl (fun _ => Below.refl _ _) (fun h => absurd h (by decide))
          · have e5 : s35 = _ := hdep ⟨5, .data⟩ (by simp) rfl
            have e5 := e5.symm
            subst e5
            have e6 : s36 = _ := hdep ⟨6, .data⟩ (by simp) rfl
            have e6 := e6.symm
            subst e6
            have hrun := Hlook.out wx ((hb.block m (by omega) (Hns.out m Hmlt.out)).trans Hmr.out)
            go_simp
            have hK' := hK.out
            simp only [putAll, Act.put, List.setIfInBounds_toArray, List.set_cons_zero, List.set_cons_succ] at hK'
            exact hK' _ _ rfl (fun _ => Below.refl _ _) (fun h => absurd h (by decide))
          · go_simp
            have hK' := hK.out
            simp only [putAll, Act.put, List.setIfInBounds_toArray, List.set_cons_zero, List.set_cons_succ] at hK'
            exact hK' _ _ rfl (fun _ => Below.refl _ _) (fun h => absurd h (by decide))
          · have e7 : s37 = _ := hdep ⟨7, .data⟩ (by simp) rfl
            have e7 := e7.symm
            subst e7
            have e8 : s38 = _ := hdep ⟨8, .data⟩ (by simp) rfl
            have e8 := e8.symm
            subst e8
            go_simp
            have hK' := hK.out
            simp only [putAll, Act.put, List.setIfInBounds_toArray, List.set_cons_zero, List.set_cons_succ] at hK'
            exact hK' _ _ rfl (fun _ => Below.refl _ _) (fun h => absurd h (by decide))
          · have e9 : s39 = _ := hdep ⟨9, .data⟩ (by simp) rfl
            have e9 := e9.symm
            subst e9
            go_simp
            have hK' := hK.out
            simp only [putAll, Act.put, List.setIfInBounds_toArray, List.set_cons_zero, List.set_cons_succ] at hK'
            exact hK' _ _ ⟨_, rfl, heap_alloc_new _ _, fun e => by have := Hvlt.out _ e; have := hb.size; omega⟩ (fun _ => below1 _ _) (fun h => absurd h (by decide))
          · have e1 : s31 = _ := hdep ⟨1, .data⟩ (by simp) rfl
            have e1 := e1.symm
            subst e1
            have e10 : (lnRow [.bool (decide (cf t < 0)), .slice pt nt ct, .int .i64 t] 38).P s40 wx := hdep ⟨10, .data⟩ (by simp) rfl
            have hbB := hB (Or.inl rfl)
            obtain ⟨gg, e8, hg8, -⟩ := e10
            subst e8
            have hrow : wx.ownsRow B 38 3 (.slice pvp n cvp) n xs := row_stays Hrow.out fun k hk => hbB.block k (Hvlt.out k hk)
            have hK' := hK.out
            simp only [putAll, Act.put, List.setIfInBounds_toArray, List.set_cons_zero, List.set_cons_succ] at hK'
            rw [if_pos (by rfl)]
            refine step_append (.tmp 31) (.tmp 40) 22 ?ho B 38 i0 _ 3 40 Tryz.underlying22 hij hz0 hz1 hz2 rfl (by decide) (.slice pvp n cvp) n xs ?hs hrow ⟨gg, 0, none⟩ 1 1 [.bool (decide (cf t < 0)), .slice pt nt ct, .int .i64 t] ?hx rfl ?c1 ?c2 ?c3 ?c4 ?c5 ?_
            case ho => rfl
            case hs => rfl
            case hx => rfl
            case c1 => exact lnCellsAt hg8
            case c2 => intro u hu; simp at hu; (rcases hu with rfl | rfl | rfl <;> rfl)
            case c3 => simp [maxLen]; omega
            case c4 => omega
            case c5 => exact Nat.le_trans HBs.out hbB.size
            intro v' w' hown' hgrow hat
            exact hK' _ _ trivial (fun h => absurd rfl h) (fun _ => ⟨(Apart.refl _ _).grown hgrow (fun k e => e), hown'⟩)
          · go_simp
            have hK' := hK.out
            simp only [putAll, Act.put, List.setIfInBounds_toArray, List.set_cons_zero, List.set_cons_succ] at hK'
            exact hK' _ _ rfl (fun _ => Below.refl _ _) (fun h => absurd h (by decide))
          · omega
        · intro vs wx hvl hb hf hJw
          have hvs := vlen13 hvl
          obtain ⟨s30, s31, s32, s33, s34, s35, s36, s37, s38, s39, s40, s41, s42, rfl⟩ := hvs
          have f1 : s30 = .pointer (some ⟨w.heap.size + 1, 0, none⟩) := hf 0 (by decide)
          have f12 : s42 = .pointer (some ⟨w.heap.size + 1, 0, none⟩) := hf 12 (by decide)
          subst f12
          have hJw : wx.ownsRow B 38 3 s41 (n + 1) (xs ++ [.bool (decide (cf t < 0)), .slice pt nt ct, .int .i64 t]) := hJw
          have hsh := ownsRow_shape hJw
          obtain ⟨pv, cv, ev⟩ := hsh
          subst ev
          have hOx := (hb.block (w.heap.size + 1) (by omega) (Hns.out (w.heap.size + 1) HOlt.out)).trans HO.out
          obtain ⟨q0, q1, q2⟩ := lnCells3 hOx
          have fz := frozen_of_row wx (w.heap.size + 1) 0 _ _ hOx
          have hO9 := heap_setCell_same wx (w.heap.size + 1) 0 _ _ (.slice pv (n + 1) cv) hOx
          have hrow9 : (wx.setCell ⟨w.heap.size + 1, 0, none⟩ (.slice pv (n + 1) cv)).ownsRow B 38 3 (.slice pv (n + 1) cv) (n + 1) (xs ++ [.bool (decide (cf t < 0)), .slice pt nt ct, .int .i64 t]) := row_stays hJw fun k hk => Below.heap_setCell _ _ _ _ (by have h1 := (World.ownsRow.lt hJw k hk).1; have := HOlt.out; show k ≠ (w.heap.size + 1); omega)
          have Hnew := hid (Hgo.out _ _ [.bool (decide (cf t < 0)), .slice pt nt ct, .int .i64 t] (cf t, t) hrow9 rfl (fun _ _ h => h) Hpt.out)
          have HA9 : Hid (Apart (fun k => k = (w.heap.size + 1)) w3 (wx.setCell ⟨w.heap.size + 1, 0, none⟩ (.slice pv (n + 1) cv))) := hid ((HA.out.trans hb (fun i hi => .inr (Nat.le_of_not_lt fun hlt2 => absurd hi (Hns.out i (by omega))))).go (apart_set _ _ _ _))
          have HO9 := hid hO9
          clear hf hvl hJw hrow9 hOx hO9
          refine wpAny_one (i := 13) (by kernel_rfl) rfl ?_
          intro K hK
          simp only [putAll, Act.put, List.setIfInBounds_toArray, List.set_cons_zero, List.set_cons_succ]
          have hK' := hK.out
          go_simp
          apply hK'
          clear hK hK' q0 q1 q2 fz
          refine wpAny_done (by kernel_rfl) ?_ _
          go_wp2_with fail
          go_roundw
          case rel => exact ⟨k + 1, _, by omega, by go_num, HO9, hid (by rw [Hnext.out]; exact Hnew.out), HA9⟩
          case measure => simp [intOf] <;> omega
    · obtain rfl : k = L := by omega
      have hfin : (lnKeys ks).take k = lnKeys ks := by rw [HLL.out, List.take_length]
      have HLf := HL.out
      rw [hfin] at HLf
      have hshv := HLf.shape
      obtain ⟨pvp, cvp, evp⟩ := hshv
      subst evp
      generalize (lnOf (lnKeys ks) cf).length = n at *
      have hRr := (HA.out.block w.heap.size (by have := HwB.out; omega) (by omega)).trans HR3.out
      obtain ⟨q0, q1, q2⟩ := lnCells3 HO.out
      obtain ⟨x0, x1, x2⟩ := lnCells3 hRr
      have fz0 := frozen_of_row wr w.heap.size 0 _ _ hRr
      have fz1 := frozen_of_row wr w.heap.size 1 _ _ hRr
      have fz2 := frozen_of_row wr w.heap.size 2 _ _ hRr
      have HLF := hid HLf
      clear hfin HLf hRr HL HO
      go_wp2_with fail
      obtain ⟨wF, hwF⟩ : ∃ wF, wF = ((wr.setCell ⟨w.heap.size, 0, none⟩ (.slice pvp n cvp)).setCell ⟨w.heap.size, 1, none⟩ (.bool (decide (r < 0)))).setCell ⟨w.heap.size, 2, none⟩ (.slice pr nr cr) := ⟨_, rfl⟩
      have bF : Below w.heap.size w wF := by rw [hwF]; exact Below.setCell (p := ⟨w.heap.size, 2, none⟩) (Below.setCell (p := ⟨w.heap.size, 1, none⟩) (Below.setCell (p := ⟨w.heap.size, 0, none⟩) HBr.out (Nat.le_refl _) _) (Nat.le_refl _) _) (Nat.le_refl _) _
      have hT : PtsT wF (.slice pvp n cvp) (lnOf (lnKeys ks) cf) := by
        obtain ⟨css, a1, a2, a3, a4⟩ := HLF.out
        refine OwnLs.in (e := 38) (B := B) (⟨css, a1, row_stays a2 fun gg hg => ?_, a3, fun i h h' => (a4 i h h').below bF⟩)
        have h1 := (World.ownsRow.lt a2 gg hg).1
        have hne : gg ≠ w.heap.size := by have := HwB.out; omega
        rw [hwF]
        exact ((Below.heap_setCell _ _ _ _ hne).trans (Below.heap_setCell _ _ _ _ hne)).trans (Below.heap_setCell _ _ _ _ hne)
      rw [← hwF]
      exact bodyPost_ret (v := .agg #[.slice pvp n cvp, .bool (decide (r < 0)), .slice pr nr cr]) (by rw [hwF]; simp [results, Tryz.results20, go_sem, x0, x1, x2]) rfl ⟨_, rfl, ⟨_, _, rfl, hT, Hgi.out.below bF⟩, bF⟩
end Go.Proofs.YtjfehknilofdjaaGreat
/- linear.Add and linear.Scale. -/
namespace Go.Proofs.YtjfehknilofdjaaGreat
open Go.RowKit Big

theorem lnMade_is (qs : List (Int × Int)) (r : Int) : (lnOf (lnKeys (qs.map (·.2))) (lnCf qs), r) = (lnSum qs, r) := by
  rw [lnOf_sum _ (lnKeys_up _) qs (fun p hp => (lnKeys_mem _ _).2 (List.mem_map.2 ⟨p, hp, rfl⟩))]
/-- a gathering's sum -/
theorem Gn.sum {w : World} {g m : Nat} {qs : List (Int × Int)} {r : Int} (h : Gn w g m qs r) {N : Nat} (hN : 1 ≤ N) (hq : ∀ p ∈ qs, sz W p.1.natAbs ≤ N) (hl : N + qs.length ≤ 549755813888) :
    Calls Tryz.prog 20 #[.pointer (some ⟨g, 0, none⟩)] w (RLin (lnSum qs, r) w) := by
  have := sum_any g m _ _ r w h (by rw [List.length_map]; omega) (fun t => Nat.le_trans (lnCf_sz hN t qs hq) (by omega))
  rw [lnMade_is] at this
  exact this
theorem lnBelow {w0 w w' : World} (hb : Below w0.heap.size w0 w) (hb2 : Below w.heap.size w w') : Below w0.heap.size w0 w' := hb.trans (hb2.mono hb.size)
theorem LnR.agg3 {w : World} {v : Value} {a : List (Int × Int) × Int} (h : LnR w v a) : ∃ p n c b q k d, v = .agg #[.slice p n c, .bool b, .slice q k d] := by
  obtain ⟨pv, n, s, rfl, ⟨p, c, rfl, -⟩, h2⟩ := h
  obtain ⟨d, q, k, e, e2⟩ := h2.agg2
  injection e2 with e2
  simp only [Array.mk.injEq, List.cons.injEq, and_true] at e2
  obtain ⟨-, rfl⟩ := e2
  exact ⟨_, _, _, _, _, _, _, rfl⟩
theorem LnT.agg3 {w : World} {v : Value} {a : List (Int × Int) × Int} (h : LnT w v a) : ∃ p n c q k d, v = .agg #[.slice p n c, .bool (decide (a.2 < 0)), .slice q k d] := by
  obtain ⟨pv, s, rfl, ⟨p, c, rfl, -⟩, s', e, ⟨q, d, rfl, -⟩⟩ := h
  injection e with e
  simp only [Array.mk.injEq, List.cons.injEq, and_true, true_and] at e
  subst e
  exact ⟨_, _, _, _, _, _, rfl⟩
/-- a block without whole numbers -/
def NoInt (w : World) (b : Nat) : Prop := ∀ j k n, w.cell? ⟨b, j, none⟩ ≠ some (.int k n)
theorem NoInt.wd {w : World} {b : Nat} (h : NoInt w b) : NoWd w b := fun j n => h j .u64 n
theorem NoInt.cells {w : World} {b : Nat} {cs : Array Value} {T : TypeId} (h : w.heap[b]? = some (.cells cs T (0, 0))) (hc : ∀ k n, .int k n ∉ cs) : NoInt w b := by
  intro j k n e
  rw [cell_of_row w b j cs T (0, 0) h] at e
  exact hc k n (Array.mem_of_getElem? e)
theorem PtsT.quiet {w w' : World} {v : Value} {l : List (Int × Int)} {S : Nat → Prop} (h : PtsT w v l) (ha : Apart S w w') (hS : ∀ b, S b → NoInt w b) : PtsT w' v l := by
  obtain ⟨p, cap, rfl, h1, h2, h3, h4⟩ := h
  refine ⟨p, cap, rfl, h1, h2, h3, fun hp => ?_⟩
  obtain ⟨b, off, h5, h6, h7⟩ := h4 hp
  have hn : ¬ S b := fun hs => by
    obtain ⟨c, k1, s, rfl, -⟩ := h7 0 hp
    exact hS b hs _ _ _ (k1 2 _ rfl)
  refine ⟨b, off, h5, Nat.lt_of_lt_of_le h6 ha.size, fun i hi => ?_⟩
  obtain ⟨c, k1, s, e, k2, k3⟩ := h7 i hi
  exact ⟨c, fun j u hj => (World.cell?_of_block (w := w) (ha.block b h6 hn)).trans (k1 j u hj), s, e, k2.quiet ha (fun b hb => (hS b hb).wd), k3⟩
theorem LnT.quiet {w w' : World} {v : Value} {a : List (Int × Int) × Int} {S : Nat → Prop} (h : LnT w v a) (ha : Apart S w w') (hS : ∀ b, S b → NoInt w b) : LnT w' v a := by
  obtain ⟨pv, s, e, h1, h2⟩ := h
  exact ⟨pv, s, e, h1.quiet ha hS, h2.quiet ha (fun b hb => (hS b hb).wd)⟩
def st3 (W1 : World) (g : Nat) (v0 v1 v2 : Value) : World := ((W1.setCell ⟨g, 0, none⟩ v0).setCell ⟨g, 1, none⟩ v1).setCell ⟨g, 2, none⟩ v2
theorem st3_apart (W1 : World) (g : Nat) (v0 v1 v2 : Value) : Apart (fun k => k = g) W1 (st3 W1 g v0 v1 v2) := ((apart_set _ _ _ _).go (apart_set _ _ _ _)).go (apart_set _ _ _ _)
theorem st3_below {B : Nat} {w W1 : World} {g : Nat} (hb : Below B w W1) (hB : B ≤ g) (v0 v1 v2 : Value) : Below B w (st3 W1 g v0 v1 v2) :=
  Below.setCell (p := ⟨g, 2, none⟩) (Below.setCell (p := ⟨g, 1, none⟩) (Below.setCell (p := ⟨g, 0, none⟩) hb hB _) hB _) hB _
set_option maxRecDepth 100000 in
set_option maxHeartbeats 3200000 in
theorem Add_lin (va vb : Value) (a b : List (Int × Int) × Int) (w : World) {N : Nat} (hN : 1 ≤ N) (ha : LnR w va a) (hb : LnR w vb b) (sa : LnSz N a) (sb : LnSz N b) (hl : N + N + (a.1.length + b.1.length) ≤ 549755813000) :
    Calls Tryz.prog 7 #[va, vb] w (RLin (lnSum (a.1 ++ b.1), a.2 + b.2) w) := by
  obtain ⟨p0, n0, c0, b0, q0, k0, d0, rfl⟩ := ha.agg3
  obtain ⟨p1, n1, c1, b1, q1, k1, d1, rfl⟩ := hb.agg3
  have HA := hid ha; have HB := hid hb; have SA := hid sa; have SB := hid sb; have HL := hid hl
  clear ha hb sa sb hl
  go_enter Tryz.func7, Tryz.ntmps7
  go_wp2_with fail
  obtain ⟨W3, hW⟩ : ∃ W3, W3 = ((w.alloc (.cells #[.slice p0 n0 c0, .bool b0, .slice q0 k0 d0] 28)).alloc (.cells #[.slice p1 n1 c1, .bool b1, .slice q1 k1 d1] 28)).alloc (.cells #[.slice none 0 0, .bool false, .slice none 0 0] 28) := ⟨_, rfl⟩
  rw [← hW]
  have hb3 : Below w.heap.size w W3 := by rw [hW]; exact ((below1 _ _).alloc (by simp) _).alloc (by simp; omega) _
  have z3 : W3.heap.size = w.heap.size + 3 := by rw [hW]; simp
  have e0 : W3.heap[w.heap.size]? = some (.cells #[.slice p0 n0 c0, .bool b0, .slice q0 k0 d0] 28 (0, 0)) := by rw [hW, heap_alloc_old _ _ (by simp; omega), heap_alloc_old _ _ (by simp)]; exact heap_alloc_new _ _
  have e1 : W3.heap[w.heap.size + 1]? = some (.cells #[.slice p1 n1 c1, .bool b1, .slice q1 k1 d1] 28 (0, 0)) := by
    rw [hW, heap_alloc_old _ _ (by simp)]
    have := heap_alloc_new (w.alloc (.cells #[.slice p0 n0 c0, .bool b0, .slice q0 k0 d0] 28)) (.cells #[.slice p1 n1 c1, .bool b1, .slice q1 k1 d1] 28)
    rwa [size_alloc] at this
  have e2 : W3.heap[w.heap.size + 1 + 1]? = some (.cells #[.slice none 0 0, .bool false, .slice none 0 0] 28 (0, 0)) := by
    have := heap_alloc_new ((w.alloc (.cells #[.slice p0 n0 c0, .bool b0, .slice q0 k0 d0] 28)).alloc (.cells #[.slice p1 n1 c1, .bool b1, .slice q1 k1 d1] 28)) (.cells #[.slice none 0 0, .bool false, .slice none 0 0] 28)
    rw [size_alloc, size_alloc] at this
    rw [hW]; exact this
  clear hW
  have H3 := hid hb3; have E0 := hid e0; have E1 := hid e1; have E2 := hid e2; have Z3 := hid z3
  clear e0 e1 e2
  refine (gather_any W3).mono ?_
  rintro e w4 ⟨g, m, rfl, hG, b4, hg, hm⟩
  have B4 := hid (lnBelow hb3 b4)
  obtain ⟨x0, x1, x2⟩ := lnCells3 ((b4.block w.heap.size (by omega)).trans E0.out)
  have T1 := hid (take_itself w _ a g m [] 0 w4 hN HA.out SA.out.1 SA.out.2 nofun (by simp [sz_zero]) (by have := HL.out; simp; omega) B4.out (by omega) (by omega) hG)
  have hg4 := hG.lt
  have hm4 := hG.map.lt
  have Hb4 := hid b4
  clear hG b4 hb3
  go_wp2_with fail
  refine T1.out.mono ?_
  rintro e w5 ⟨rfl, hG5, hA5⟩
  have z4 := Hb4.out.size
  have z5 := hA5.size
  have B5 := hid (apart_below (g := g) (m := m) B4.out hA5 (by omega) (by omega))
  obtain ⟨x3, x4, x5⟩ := lnCells3 ((hA5.block (w.heap.size + 1) (by omega) (by omega)).trans ((Hb4.out.block (w.heap.size + 1) (by omega)).trans E1.out))
  rw [List.nil_append] at hG5
  have sr1 : sz W (0 + a.2).natAbs ≤ 549755813888 := by rw [Int.zero_add]; exact Nat.le_trans SA.out.2 (by have := HL.out; omega)
  have T2 := hid (take_itself w _ b g m a.1 (0 + a.2) w5 hN HB.out SB.out.1 SB.out.2 (fun p hp => Nat.le_trans (SA.out.1 p hp) (by omega)) sr1 (by have := HL.out; omega) B5.out (by omega) (by omega) hG5)
  have HA5 := hid hA5
  clear hG5 hA5 T1 x0 x1 x2
  go_wp2_with fail
  refine T2.out.mono ?_
  rintro e w6 ⟨rfl, hG6, hA6⟩
  have z6 := hA6.size
  have B6 := hid (apart_below (g := g) (m := m) B5.out hA6 (by omega) (by omega))
  have T3 := hid (Gn.sum hG6 hN (fun p hp => by
    rcases List.mem_append.1 hp with hp | hp
    · exact SA.out.1 p hp
    · exact SB.out.1 p hp) (by rw [List.length_append]; have := HL.out; omega))
  have E6 := hid ((hA6.block (w.heap.size + 1 + 1) (by omega) (by omega)).trans ((HA5.out.block (w.heap.size + 1 + 1) (by omega) (by omega)).trans ((Hb4.out.block (w.heap.size + 1 + 1) (by omega)).trans E2.out)))
  clear hG6 hA6 T2 x3 x4 x5
  go_wp2_with fail
  refine T3.out.mono ?_
  rintro e w7 ⟨v7, rfl, hT7, b7⟩
  obtain ⟨p7, n7, c7, q7, k7, d7, rfl⟩ := hT7.agg3
  have e7 := (b7.block (w.heap.size + 1 + 1) (by omega)).trans E6.out
  obtain ⟨y0, y1, y2⟩ := lnCells3 e7
  have fz0 := frozen_of_row w7 (w.heap.size + 1 + 1) 0 _ _ e7
  have fz1 := frozen_of_row w7 (w.heap.size + 1 + 1) 1 _ _ e7
  have fz2 := frozen_of_row w7 (w.heap.size + 1 + 1) 2 _ _ e7
  have B7 := hid (lnBelow B6.out b7)
  have HT7 := hid (hT7.quiet (st3_apart w7 (w.heap.size + 1 + 1) (.slice p7 n7 c7) (.bool (decide (0 + a.2 + b.2 < 0))) (.slice q7 k7 d7)) (fun b hb => by rw [hb]; exact NoInt.cells e7 (by simp)))
  clear hT7 b7 e7 T3
  go_wp2
  exact bodyPost_ret (v := .agg #[.slice p7 n7 c7, .bool (decide (0 + a.2 + b.2 < 0)), .slice q7 k7 d7]) (by simp [results, Tryz.results7, go_sem, y0, y1, y2]) rfl
    ⟨_, rfl, by have := HT7.out; rw [Int.zero_add] at this ⊢; exact this, st3_below B7.out (by omega) _ _ _⟩
set_option maxRecDepth 100000 in
set_option maxHeartbeats 3200000 in
theorem Scale_lin (va vk : Value) (a : List (Int × Int) × Int) (k : Int) (w : World) {N : Nat} (hN : 1 ≤ N) (ha : LnR w va a) (hk : RawAt w vk k) (sa : LnSz N a) (sk : sz W k.natAbs ≤ N) (hl : N + N + a.1.length ≤ 549755813000) :
    Calls Tryz.prog 9 #[va, vk] w (RLin (lnSum (lnTimes k a.1), a.2 * k) w) := by
  obtain ⟨p0, n0, c0, b0, q0, k0, d0, rfl⟩ := ha.agg3
  obtain ⟨dk, pk, nk, ck, rfl⟩ := hk.agg2
  have HA := hid ha; have HK := hid hk; have SA := hid sa; have SK := hid sk; have HL := hid hl
  clear ha hk sa sk hl
  go_enter Tryz.func9, Tryz.ntmps9
  go_wp2_with fail
  obtain ⟨W3, hW⟩ : ∃ W3, W3 = ((w.alloc (.cells #[.slice p0 n0 c0, .bool b0, .slice q0 k0 d0] 28)).alloc (.cells #[.bool dk, .slice pk nk ck] 26)).alloc (.cells #[.slice none 0 0, .bool false, .slice none 0 0] 28) := ⟨_, rfl⟩
  rw [← hW]
  have hb3 : Below w.heap.size w W3 := by rw [hW]; exact ((below1 _ _).alloc (by simp) _).alloc (by simp; omega) _
  have z3 : W3.heap.size = w.heap.size + 3 := by rw [hW]; simp
  have e0 : W3.heap[w.heap.size]? = some (.cells #[.slice p0 n0 c0, .bool b0, .slice q0 k0 d0] 28 (0, 0)) := by rw [hW, heap_alloc_old _ _ (by simp; omega), heap_alloc_old _ _ (by simp)]; exact heap_alloc_new _ _
  have e1 : W3.heap[w.heap.size + 1]? = some (.cells #[.bool dk, .slice pk nk ck] 26 (0, 0)) := by
    rw [hW, heap_alloc_old _ _ (by simp)]
    have := heap_alloc_new (w.alloc (.cells #[.slice p0 n0 c0, .bool b0, .slice q0 k0 d0] 28)) (.cells #[.bool dk, .slice pk nk ck] 26)
    rwa [size_alloc] at this
  have e2 : W3.heap[w.heap.size + 1 + 1]? = some (.cells #[.slice none 0 0, .bool false, .slice none 0 0] 28 (0, 0)) := by
    have := heap_alloc_new ((w.alloc (.cells #[.slice p0 n0 c0, .bool b0, .slice q0 k0 d0] 28)).alloc (.cells #[.bool dk, .slice pk nk ck] 26)) (.cells #[.slice none 0 0, .bool false, .slice none 0 0] 28)
    rw [size_alloc, size_alloc] at this
    rw [hW]; exact this
  clear hW
  have H3 := hid hb3; have E0 := hid e0; have E1 := hid e1; have E2 := hid e2; have Z3 := hid z3
  clear e0 e1 e2
  refine (gather_any W3).mono ?_
  rintro e w4 ⟨g, m, rfl, hG, b4, hg, hm⟩
  have B4 := hid (lnBelow hb3 b4)
  obtain ⟨x0, x1, x2⟩ := lnCells3 ((b4.block w.heap.size (by omega)).trans E0.out)
  obtain ⟨x3, x4, -, -⟩ := two_cells ((b4.block (w.heap.size + 1) (by omega)).trans E1.out)
  have T1 := hid (take_product w _ a g m [] 0 w4 HK.out SK.out hN HA.out SA.out.1 SA.out.2 nofun (by simp [sz_zero]) (by have := HL.out; simp; omega) B4.out (by omega) (by omega) hG)
  have hg4 := hG.lt
  have hm4 := hG.map.lt
  have Hb4 := hid b4
  clear hG b4 hb3
  go_wp2_with fail
  refine T1.out.mono ?_
  rintro e w5 ⟨rfl, hG6, hA6⟩
  have z4 := Hb4.out.size
  have z6 := hA6.size
  have B6 := hid (apart_below (g := g) (m := m) B4.out hA6 (by omega) (by omega))
  rw [List.nil_append, Int.zero_add] at hG6
  have T3 := hid (Gn.sum hG6 (N := N + N) (by omega) (fun p hp => by
    obtain ⟨y, hy, rfl⟩ := List.mem_map.1 hp
    show sz W (y.1 * k).natAbs ≤ N + N
    rw [Int.natAbs_mul]
    exact Nat.le_trans (sz_mul W2 _ _) (by have := SA.out.1 y hy; have := SK.out; omega)) (by rw [List.length_map]; have := HL.out; omega))
  have E6 := hid ((hA6.block (w.heap.size + 1 + 1) (by omega) (by omega)).trans ((Hb4.out.block (w.heap.size + 1 + 1) (by omega)).trans E2.out))
  clear hG6 hA6 T1 x0 x1 x2 x3 x4
  go_wp2_with fail
  refine T3.out.mono ?_
  rintro e w7 ⟨v7, rfl, hT7, b7⟩
  obtain ⟨p7, n7, c7, q7, k7, d7, rfl⟩ := hT7.agg3
  have e7 := (b7.block (w.heap.size + 1 + 1) (by omega)).trans E6.out
  obtain ⟨y0, y1, y2⟩ := lnCells3 e7
  have fz0 := frozen_of_row w7 (w.heap.size + 1 + 1) 0 _ _ e7
  have fz1 := frozen_of_row w7 (w.heap.size + 1 + 1) 1 _ _ e7
  have fz2 := frozen_of_row w7 (w.heap.size + 1 + 1) 2 _ _ e7
  have B7 := hid (lnBelow B6.out b7)
  have HT7 := hid (hT7.quiet (st3_apart w7 (w.heap.size + 1 + 1) (.slice p7 n7 c7) (.bool (decide (a.2 * k < 0))) (.slice q7 k7 d7)) (fun b hb => by rw [hb]; exact NoInt.cells e7 (by simp)))
  clear hT7 b7 e7 T3
  go_wp2
  exact bodyPost_ret (v := .agg #[.slice p7 n7 c7, .bool (decide (a.2 * k < 0)), .slice q7 k7 d7]) (by simp [results, Tryz.results9, go_sem, y0, y1, y2]) rfl
    ⟨_, rfl, HT7.out, st3_below B7.out (by omega) _ _ _⟩
end Go.Proofs.YtjfehknilofdjaaGreat
/- An append to a row of one's own whose block holds no word: it holds none then, either. -/
namespace Go.Proofs.YtjfehknilofdjaaGreat
open Go.RowKit Big

/-- a row of one's own whose block holds no word -/
def RowW (w : World) (base : Nat) (e : TypeId) (size : Nat) (v : Value) (n : Nat) (xs : List Value) : Prop := w.ownsRow base e size v n xs ∧ ∀ g, v.ownBlock = some g → NoWd w g
theorem RowW.nil (w : World) (base : Nat) (e : TypeId) (size : Nat) : RowW w base e size (.slice none 0 0) 0 [] := ⟨World.ownsRow_nil w base e size, fun g h => by cases h⟩
theorem NoWd.keep {w w' : World} {g : Nat} (h : NoWd w g) (e : w'.heap[g]? = w.heap[g]?) : NoWd w' g := fun j n hc => h j n ((World.cell?_of_block (w := w) (a := ⟨g, j, none⟩) e).symm.trans hc)
theorem RowW.stays {w w' : World} {base : Nat} {e : TypeId} {size : Nat} {v : Value} {n : Nat} {xs : List Value} (h : RowW w base e size v n xs) (hb : ∀ g, v.ownBlock = some g → w'.heap[g]? = w.heap[g]?) : RowW w' base e size v n xs :=
  ⟨row_stays h.1 hb, fun g hg => (h.2 g hg).keep (hb g hg)⟩
theorem zeroCells_mem (z : Array Value) : ∀ (k : Nat) (x : Value), x ∈ Builtin.zeroCells z k → x ∈ z := by
  intro k x hx
  unfold Builtin.zeroCells at hx
  obtain ⟨i, hi, rfl⟩ := Array.mem_map.1 hx
  have h0 : 0 < z.size := by
    rcases Nat.eq_zero_or_pos z.size with h | h
    · rw [h] at hi; simp at hi
    · exact h
  have h1 := Nat.mod_lt i h0
  rw [getElem!_pos z _ h1]
  exact Array.getElem_mem h1
theorem run_append_w {P : Program} {w : World} (base : Nat) (t ty e : TypeId) (i : TypeInfo) (z : Value) (size bytes : Nat) (ht : P.underlying t = some (.slice e)) (hi : P.info? e = some i) (hz : i.zero = some z)
    (hsize : i.size = size) (hby : i.bytes = bytes) (hzs : z.cells.size = size) (hsz : 0 < size) (hz0 : ∀ n, .int .u64 n ∉ z.cells)
    (v : Value) (n : Nat) (xs : List Value) (hown : RowW w base e size v n xs)
    (a : Addr) (m c : Nat) (news : List Value) (hl : news.length = m * size) (hnews : ∀ j u, news[j]? = some u → w.cell? (a.add j) = some u) (h1 : ∀ u ∈ news, u.oneCell' = true) (hn0 : ∀ n, .int .u64 n ∉ news)
    (h63 : n + m ≤ maxLen) (hbytes : (n + m) * bytes ≤ 140737488355328) (hbase : base ≤ w.heap.size) :
    ∃ v' w', (Builtin.append_ #[t, t] ty #[v, .slice (some a) m c]).run P w = .ok v' w' ∧ RowW w' base e size v' (n + m) (xs ++ news) ∧ w.grownBy w' v.ownBlock := by
  subst hsize
  subst hby
  obtain ⟨hown, hw⟩ := hown
  have hsmall : n + m ≤ 9223372036854775807 := by simp only [maxLen] at h63; omega
  have hlen : (xs ++ news).length = (n + m) * i.size := by rw [List.length_append, hown.1, hl, Nat.add_mul]
  have hx0 : ∀ q, .int .u64 q ∉ xs := by
    intro q hq
    rcases hown.2 with ⟨rfl, rfl⟩ | ⟨g, cap, cur, rfl, hbg, hg, hnc, hcm, hcs, htake⟩
    · have hx : xs = [] := List.eq_nil_of_length_eq_zero (by simpa using hown.1)
      rw [hx] at hq; cases hq
    · obtain ⟨j, hj, hjq⟩ := List.mem_iff_getElem.1 hq
      have hc := hown.cells (g := g) rfl j (.int .u64 q) (by rw [List.getElem?_eq_getElem hj, hjq])
      rw [Go.WideShapes.add_plain] at hc
      exact hw g rfl _ _ hc
  have grown : ∀ (old : Nat), old < n + m → ∀ (row : Option Nat),
      RowW (w.drew.alloc (.cells (xs.toArray ++ news.toArray ++ Builtin.zeroCells z.cells (grownCap w (n + m) old e - (n + m))) e)) base e i.size
        (.slice (some ⟨w.heap.size, 0, none⟩) (n + m) (grownCap w (n + m) old e)) (n + m) (xs ++ news) ∧
      w.grownBy (w.drew.alloc (.cells (xs.toArray ++ news.toArray ++ Builtin.zeroCells z.cells (grownCap w (n + m) old e - (n + m))) e)) row := by
    intro old ho row
    have hge := grownCap_ge w (n + m) old e
    have hcm : grownCap w (n + m) old e ≤ maxLen := grownCap_le_maxLen w (n + m) old e h63
    refine ⟨⟨⟨hlen, .inr ⟨w.heap.size, _, _, rfl, hbase, heap_alloc_new w.drew _, hge, hcm, ?_, ?_⟩⟩, ?_⟩, ⟨rfl, rfl, rfl, by simp, fun k hk _ => heap_alloc_old w.drew _ hk⟩⟩
    · simp only [Array.size_append, List.size_toArray, size_zeroCells, hzs, hown.1, hl, ← Nat.add_mul]
      congr 1
      omega
    · simp only [Array.toList_append, List.append_assoc]
      rw [← List.append_assoc, ← hlen]
      exact List.take_left
    · intro g hg
      obtain rfl : w.heap.size = g := by simpa [Value.ownBlock] using hg
      refine NoWd.cells (heap_alloc_new w.drew _) (fun q hq => ?_)
      rcases Array.mem_append.1 hq with hq | hq
      · rcases Array.mem_append.1 hq with hq | hq
        · exact hx0 q (by simpa using hq)
        · exact hn0 q (by simpa using hq)
      · exact hz0 q (zeroCells_mem _ _ _ hq)
  rcases hown.2 with ⟨rfl, rfl⟩ | ⟨g, cap, cur, rfl, hbg, hg, hnc, hcm, hcs, htake⟩
  · have hx : xs = [] := List.eq_nil_of_length_eq_zero (by simpa using hown.1)
    subst hx
    by_cases hm : m = 0
    · subst hm
      have hn : news = [] := List.eq_nil_of_length_eq_zero (by simpa using hl)
      subst hn
      refine ⟨.slice none 0 0, w, ?_, RowW.nil w base e i.size, ⟨rfl, rfl, rfl, Nat.le_refl _, fun _ _ _ => rfl⟩⟩
      simp [Builtin.append_, run_underlying ht, sizeOf, typeInfo, hi, Builtin.lenOf, Builtin.firstCells, loadCells, loadCellsFrom]
    · have hr := run_append_nil (P := P) w t ty e i z ht hi hz a m c news hl hnews (by omega) (by omega) (by have hb := hbytes; simp only [Nat.zero_add] at hb; omega)
      have hgr := grown 0 (by omega) (Value.ownBlock (.slice none 0 0))
      simp only [Nat.zero_add, List.nil_append, Array.empty_append] at hgr ⊢
      exact ⟨_, _, hr, hgr.1, hgr.2⟩
  · by_cases hroom : n + m ≤ cap
    · have hfit : n * i.size + news.length ≤ cur.size := by rw [hl, hcs, ← Nat.add_mul]; exact Nat.mul_le_mul_right _ hroom
      have hr := run_append_room (P := P) w t ty e i ht hi g n cap cur hg a m c news hl hnews h1 hroom hfit
      refine ⟨_, _, hr, ⟨⟨hlen, .inr ⟨g, cap, _, rfl, hbg, setRow_heap w g cur _ e _ hg, hroom, hcm, ?_, ?_⟩⟩, ?_⟩, ⟨rfl, rfl, rfl, by simp, fun k _ hk => setRow_other w g k _ (fun e => hk (by simp [Value.ownBlock, e]))⟩⟩
      · simp only [List.size_toArray, List.length_append, List.length_take, List.length_drop, Array.length_toList]
        omega
      · rw [htake, ← hlen]
        exact List.take_left
      · intro g' hg'
        obtain rfl : g = g' := by simpa [Value.ownBlock] using hg'
        have hcur : ∀ q, .int .u64 q ∉ cur.toList := by
          intro q hq
          obtain ⟨j, hj, hjq⟩ := List.mem_iff_getElem.1 hq
          refine hw g rfl j q ?_
          rw [cell_of_row w g j cur e (0, 0) hg]
          simp at hj hjq
          rw [Array.getElem?_eq_getElem hj, hjq]
        refine NoWd.cells (setRow_heap w g cur _ e _ hg) (fun q hq => ?_)
        simp only [List.mem_toArray, List.mem_append] at hq
        rcases hq with hq | hq
        · rcases hq with hq | hq
          · exact hcur q (List.mem_of_mem_take hq)
          · exact hn0 q hq
        · exact hcur q (List.mem_of_mem_drop hq)
    · have holds : ∀ j u, xs[j]? = some u → w.cell? ((⟨g, 0, none⟩ : Addr).add j) = some u := hown.cells (g := g) rfl
      have hr := run_append_grow (P := P) w t ty e i z ht hi hz ⟨g, 0, none⟩ n cap xs hown.1 holds a m c news hl hnews (by omega) (by omega) (growslice_fits (by omega) hbytes)
      have hgr := grown cap (by omega) (Value.ownBlock (.slice (some ⟨g, 0, none⟩) n cap))
      exact ⟨_, _, hr, hgr.1, hgr.2⟩
theorem wpList_append_w {P : Program} {w : World} {ops : Array Oper} {rest : List Oper} {o : Oper} {a : Act} {Q : Exit → Act → World → Prop} (hgd : o.guard = none) (s x : Operand) (t : TypeId)
    (ho : o.op = .call { callee := .builtin .append, args := #[s, x], argTypes := #[t, t] })
    (base : Nat) (e : TypeId) (i : TypeInfo) (z : Value) (size bytes : Nat) (ht : P.underlying t = some (.slice e)) (hi : P.info? e = some i) (hz : i.zero = some z)
    (hsize : i.size = size) (hby : i.bytes = bytes) (hzs : z.cells.size = size) (hsz : 0 < size) (hz0 : ∀ n, .int .u64 n ∉ z.cells)
    (v : Value) (n : Nat) (xs : List Value) (hs : a.eval s = v) (hown : RowW w base e size v n xs)
    (ad : Addr) (m c : Nat) (news : List Value) (hx : a.eval x = .slice (some ad) m c) (hl : news.length = m * size) (hnews : ∀ j u, news[j]? = some u → w.cell? (ad.add j) = some u) (h1 : ∀ u ∈ news, u.oneCell' = true) (hn0 : ∀ n, .int .u64 n ∉ news)
    (h63 : n + m ≤ maxLen) (hbytes : (n + m) * bytes ≤ 140737488355328) (hbase : base ≤ w.heap.size)
    (h : ∀ v' w', RowW w' base e size v' (n + m) (xs ++ news) → w.grownBy w' v.ownBlock → wpList P ops Q rest (a.put o.dst v') w') : wpList P ops Q (o :: rest) a w := by
  refine wpList_plain hgd fun K' hK' => ?_
  obtain ⟨v', w', hr, h2, h3⟩ := run_append_w (P := P) base t o.type e i z size bytes ht hi hz hsize hby hzs hsz hz0 v n xs hown ad m c news hl hnews h1 hn0 h63 hbytes hbase
  unfold Oper.wp
  simp [execOp, ho, resolve, invoke, builtin, hs, hx, hr, Result.andThen]
  exact hK' _ _ (h v' w' h2 h3)
/-- parts in a row of one's own that holds no word -/
def LsW (B : Nat) (w : World) (v : Value) (l : List (Int × Int)) : Prop :=
  ∃ css : List (List Value), css.length = l.length ∧ RowW w B 38 3 v l.length css.flatten ∧ (∀ c ∈ css, c.length = 3) ∧ ∀ i (h : i < l.length) (h' : i < css.length), PtT w css[i] l[i]
theorem LsW.nil (B : Nat) (w : World) : LsW B w (.slice none 0 0) [] := ⟨[], rfl, RowW.nil w B _ _, nofun, fun i h => absurd h (by simp)⟩
theorem LsW.shape {B : Nat} {w : World} {v : Value} {l : List (Int × Int)} (h : LsW B w v l) : ∃ p c, v = .slice p l.length c := by
  obtain ⟨css, h1, h2, h3, h4⟩ := h
  exact ownsRow_shape h2.1
theorem PtT.quiet {w w' : World} {c : List Value} {p : Int × Int} {S : Nat → Prop} (h : PtT w c p) (ha : Apart S w w') (hS : ∀ b, S b → NoWd w b) : PtT w' c p := by
  obtain ⟨s, e, h, k⟩ := h
  exact ⟨s, e, h.quiet ha hS, k⟩
theorem LsW.apart {B : Nat} {w w' : World} {v : Value} {l : List (Int × Int)} {S : Nat → Prop} (h : LsW B w v l) (ha : Apart S w w') (hS : ∀ b, S b → NoWd w b) (hv : ∀ g, v.ownBlock = some g → ¬ S g) : LsW B w' v l := by
  obtain ⟨css, h1, h2, h3, h4⟩ := h
  exact ⟨css, h1, h2.stays (fun g hg => ha.block g (World.ownsRow.lt h2.1 g hg).2 (hv g hg)), h3, fun i hi hi' => (h4 i hi hi').quiet ha hS⟩
theorem LsW.below {B : Nat} {w w' : World} {v : Value} {l : List (Int × Int)} (h : LsW B w v l) (hb : Below w.heap.size w w') : LsW B w' v l := h.apart (S := fun _ => False) (Apart.of_below hb) (fun _ hf => hf.elim) (fun _ _ hf => hf)
theorem LsW.base {B : Nat} {w : World} {v : Value} {l : List (Int × Int)} (h : LsW B w v l) : ∀ g, v.ownBlock = some g → B ≤ g ∧ g < w.heap.size ∧ NoWd w g := by
  obtain ⟨css, h1, h2, h3, h4⟩ := h
  exact fun g hg => ⟨(World.ownsRow.lt h2.1 g hg).1, (World.ownsRow.lt h2.1 g hg).2, h2.2 g hg⟩
theorem LsW.row {B : Nat} {w : World} {v : Value} {l : List (Int × Int)} (h : LsW B w v l) : ∃ xs, RowW w B 38 3 v l.length xs ∧
    ∀ w' v' c x, RowW w' B 38 3 v' (l.length + 1) (xs ++ c) → w.grownBy w' v.ownBlock → c.length = 3 → PtT w c x → LsW B w' v' (l ++ [x]) := by
  obtain ⟨css, h1, h2, h3, h4⟩ := h
  refine ⟨css.flatten, h2, fun w' v' c x hr hg hc hx => ?_⟩
  have ha : Apart (fun k => v.ownBlock = some k) w w' := (Apart.refl _ w).grown hg (fun k e => e)
  refine ⟨css ++ [c], by simp [h1], by simpa using hr, fun d hd => ?_, fun i hi hi' => ?_⟩
  · rcases List.mem_append.1 hd with hd | hd
    · exact h3 d hd
    · rw [List.mem_singleton.1 hd]; exact hc
  · by_cases hlt : i < l.length
    · rw [List.getElem_append_left hlt, List.getElem_append_left (by omega)]
      exact (h4 i hlt (by omega)).quiet ha (fun b hb => h2.2 b hb)
    · have e1 : i = l.length := by simp at hi; omega
      subst e1
      rw [List.getElem_append_right (Nat.le_refl _), List.getElem_append_right (by omega)]
      simpa [h1] using hx.quiet ha (fun b hb => h2.2 b hb)
theorem LsW.pts {B : Nat} {w : World} {v : Value} {l : List (Int × Int)} (h : LsW B w v l) : PtsT w v l := by
  obtain ⟨css, h1, h2, h3, h4⟩ := h
  exact OwnLs.in (e := 38) (B := B) ⟨css, h1, h2.1, h3, h4⟩
end Go.Proofs.YtjfehknilofdjaaGreat
/- elenchusref06.put: a part put at its place. -/
namespace Go.Proofs.YtjfehknilofdjaaGreat
open Go.RowKit Big

/-- parts in a row of one's own that holds no word -/
def LsV (B : Nat) (w : World) (v : Value) (l : List (Int × Int)) : Prop :=
  ∃ css : List (List Value), css.length = l.length ∧ RowW w B 38 3 v l.length css.flatten ∧ (∀ c ∈ css, c.length = 3) ∧ ∀ i (h : i < l.length) (h' : i < css.length), PtR w css[i] l[i]
theorem LsV.nil (B : Nat) (w : World) : LsV B w (.slice none 0 0) [] := ⟨[], rfl, RowW.nil w B _ _, nofun, fun i h => absurd h (by simp)⟩
theorem LsV.shape {B : Nat} {w : World} {v : Value} {l : List (Int × Int)} (h : LsV B w v l) : ∃ p c, v = .slice p l.length c := by
  obtain ⟨css, h1, h2, h3, h4⟩ := h
  exact ownsRow_shape h2.1
theorem PtR.quiet {w w' : World} {c : List Value} {p : Int × Int} {S : Nat → Prop} (h : PtR w c p) (ha : Apart S w w') (hS : ∀ b, S b → NoWd w b) : PtR w' c p := by
  obtain ⟨n, s, e, h, k⟩ := h
  exact ⟨n, s, e, h.quiet ha hS, k⟩
theorem LsV.apart {B : Nat} {w w' : World} {v : Value} {l : List (Int × Int)} {S : Nat → Prop} (h : LsV B w v l) (ha : Apart S w w') (hS : ∀ b, S b → NoWd w b) (hv : ∀ g, v.ownBlock = some g → ¬ S g) : LsV B w' v l := by
  obtain ⟨css, h1, h2, h3, h4⟩ := h
  exact ⟨css, h1, h2.stays (fun g hg => ha.block g (World.ownsRow.lt h2.1 g hg).2 (hv g hg)), h3, fun i hi hi' => (h4 i hi hi').quiet ha hS⟩
theorem LsV.below {B : Nat} {w w' : World} {v : Value} {l : List (Int × Int)} (h : LsV B w v l) (hb : Below w.heap.size w w') : LsV B w' v l := h.apart (S := fun _ => False) (Apart.of_below hb) (fun _ hf => hf.elim) (fun _ _ hf => hf)
theorem LsV.base {B : Nat} {w : World} {v : Value} {l : List (Int × Int)} (h : LsV B w v l) : ∀ g, v.ownBlock = some g → B ≤ g ∧ g < w.heap.size ∧ NoWd w g := by
  obtain ⟨css, h1, h2, h3, h4⟩ := h
  exact fun g hg => ⟨(World.ownsRow.lt h2.1 g hg).1, (World.ownsRow.lt h2.1 g hg).2, h2.2 g hg⟩
theorem LsV.row {B : Nat} {w : World} {v : Value} {l : List (Int × Int)} (h : LsV B w v l) : ∃ xs, RowW w B 38 3 v l.length xs ∧
    ∀ w' v' c x, RowW w' B 38 3 v' (l.length + 1) (xs ++ c) → w.grownBy w' v.ownBlock → c.length = 3 → PtR w c x → LsV B w' v' (l ++ [x]) := by
  obtain ⟨css, h1, h2, h3, h4⟩ := h
  refine ⟨css.flatten, h2, fun w' v' c x hr hg hc hx => ?_⟩
  have ha : Apart (fun k => v.ownBlock = some k) w w' := (Apart.refl _ w).grown hg (fun k e => e)
  refine ⟨css ++ [c], by simp [h1], by simpa using hr, fun d hd => ?_, fun i hi hi' => ?_⟩
  · rcases List.mem_append.1 hd with hd | hd
    · exact h3 d hd
    · rw [List.mem_singleton.1 hd]; exact hc
  · by_cases hlt : i < l.length
    · rw [List.getElem_append_left hlt, List.getElem_append_left (by omega)]
      exact (h4 i hlt (by omega)).quiet ha (fun b hb => h2.2 b hb)
    · have e1 : i = l.length := by simp at hi; omega
      subst e1
      rw [List.getElem_append_right (Nat.le_refl _), List.getElem_append_right (by omega)]
      simpa [h1] using hx.quiet ha (fun b hb => h2.2 b hb)
theorem LsV.pts {B : Nat} {w : World} {v : Value} {l : List (Int × Int)} (h : LsV B w v l) : PtsR w v l := by
  obtain ⟨css, h1, h2, h3, h4⟩ := h
  exact OwnLs.in (e := 38) (B := B) ⟨css, h1, h2.1, h3, h4⟩
/-- what put has when it has looked at x, too -/
def putStep (p : Int × Int) (st : List (Int × Int) × Bool) (x : Int × Int) : List (Int × Int) × Bool :=
  if st.2 = false ∧ p.2 < x.2 then ((st.1 ++ [p]) ++ [x], true) else if p.2 = x.2 then (st.1 ++ [(x.1 + p.1, x.2)], true) else (st.1 ++ [x], st.2)
def putEnd (p : Int × Int) (st : List (Int × Int) × Bool) : List (Int × Int) := if st.2 = false then st.1 ++ [p] else st.1
theorem put_done (p : Int × Int) : ∀ (l o : List (Int × Int)), (∀ x ∈ l, p.2 < x.2) → l.foldl (putStep p) (o, true) = (o ++ l, true)
  | [], o, _ => by simp
  | x :: l, o, h => by
    have hx := h x (by simp)
    have e : putStep p (o, true) x = (o ++ [x], true) := by
      unfold putStep
      rw [if_neg (by simp), if_neg (by omega)]
    rw [List.foldl_cons, e, put_done p l _ (fun y hy => h y (by simp [hy]))]
    simp
theorem put_all (p : Int × Int) : ∀ (l o : List (Int × Int)), lnUp l → putEnd p (l.foldl (putStep p) (o, false)) = o ++ lnPut l p
  | [], o, _ => by simp [putEnd, lnPut]
  | x :: l, o, h => by
    obtain ⟨h1, h2⟩ := List.pairwise_cons.1 h
    rw [List.foldl_cons]
    unfold lnPut
    by_cases hlt : p.2 < x.2
    · have e : putStep p (o, false) x = ((o ++ [p]) ++ [x], true) := by unfold putStep; rw [if_pos ⟨rfl, hlt⟩]
      rw [e, put_done p l _ (fun y hy => Int.lt_trans hlt (h1 y hy)), if_pos hlt]
      simp [putEnd]
    · by_cases he : p.2 = x.2
      · have e : putStep p (o, false) x = (o ++ [(x.1 + p.1, x.2)], true) := by unfold putStep; rw [if_neg (fun h => hlt h.2), if_pos he]
        rw [e, put_done p l _ (fun y hy => by rw [he]; exact h1 y hy), if_neg hlt, if_pos he]
        simp [putEnd]
      · have e : putStep p (o, false) x = (o ++ [x], false) := by unfold putStep; rw [if_neg (fun h => hlt h.2), if_neg he]
        rw [e, put_all p l _ h2, if_neg hlt, if_neg he]
        simp
theorem putStep_len (p : Int × Int) (st : List (Int × Int) × Bool) (x : Int × Int) : (putStep p st x).1.length ≤ st.1.length + 2 := by
  unfold putStep
  split
  · simp
  · split
    · simp
    · simp
theorem putAll_len (p : Int × Int) : ∀ (l : List (Int × Int)) (st : List (Int × Int) × Bool), (l.foldl (putStep p) st).1.length ≤ st.1.length + 2 * l.length
  | [], st => by simp
  | x :: l, st => by
    have h1 := putAll_len p l (putStep p st x)
    have h2 := putStep_len p st x
    rw [List.foldl_cons, List.length_cons]
    omega
/-- what a call answers: parts -/
def RPts (l : List (Int × Int)) (w : World) (e : Ending) (w' : World) : Prop := ∃ v, e = .returned v ∧ PtsR w' v l ∧ Below w.heap.size w w'
set_option maxRecDepth 100000 in
set_option maxHeartbeats 6400000 in
theorem put_any (vl : Value) (l : List (Int × Int)) (d : Bool) (q : Option Addr) (n cq : Nat) (c t : Int) (w : World) (hl : PtsR w vl l) (hu : lnUp l) (hp : RawAt w (.agg #[.bool d, .slice q n cq]) c) (ht : wfI t)
    (hs : ∀ p ∈ l, sz W p.1.natAbs ≤ 1000000) (hc : sz W c.natAbs ≤ 1000000) (hlen : l.length ≤ 1000000) :
    Calls Tryz.prog 21 #[vl, .agg #[.bool d, .slice q n cq, .int .i64 t]] w (RPts (lnPut l (c, t)) w) := by
  obtain ⟨i0, hij, hz0, hz1, hz2⟩ := info_parts infoPart
  obtain ⟨p0, c0, rfl, j1, j2, -, j4⟩ := hl
  have J4 := hid j4; have HS := hid hs; have HC := hid hc; have HT := hid ht
  have HAll := hid (put_all (c, t) l [] hu)
  have HLen := hid (putAll_len (c, t))
  obtain ⟨W1, hW⟩ : ∃ W1, W1 = w.alloc (.cells #[.bool d, .slice q n cq, .int .i64 t] 38) := ⟨_, rfl⟩
  have b1 : Below w.heap.size w W1 := by rw [hW]; exact below1 w _
  have e1 : W1.heap[w.heap.size]? = some (.cells #[.bool d, .slice q n cq, .int .i64 t] 38 (0, 0)) := by rw [hW]; exact heap_alloc_new w _
  have z1 : W1.heap.size = w.heap.size + 1 := by rw [hW, size_alloc]
  have HRp := hid (hp.below b1)
  have B1 := hid b1; have E1 := hid e1; have Z1 := hid z1
  obtain ⟨B, hB⟩ : ∃ B, B = W1.heap.size := ⟨_, rfl⟩
  obtain ⟨L, hLL⟩ : ∃ L, L = l.length := ⟨_, rfl⟩
  have HLL := hid hLL
  rw [← hLL] at j1 hlen ⊢
  clear hu hp ht hs hc b1 e1 z1 j4 hLL
  go_enter Tryz.func21, Tryz.ntmps21
  go_upto_region 1 with fail
  rw [← hW]
  clear hW
  go_wp2_with fail
  go_loopw [5, 6, 11] (fun vo vd i wr => ∃ (k : Nat) (st : List (Int × Int) × Bool), k ≤ L ∧ i = .int .i64 (k : Nat) ∧ vd = .bool st.2 ∧ Hid (st = (l.take k).foldl (putStep (c, t)) ([], false)) ∧ Hid (LsV B wr vo st.1) ∧ Hid (Below W1.heap.size W1 wr)) (fun _ _ i _ => L - (intOf i).toNat)
  case atStart => exact ⟨0, ([], false), Nat.zero_le _, rfl, rfl, hid rfl, hid (LsV.nil _ _), hid (Below.refl _ _)⟩
  case round =>
    obtain ⟨k, ⟨qs, dn⟩, hk, rfl, rfl, HSt, HL, HB⟩ := hrel
    have HBw := hid (lnGo HB.out B1.out)
    have HL : Hid (LsV B wr _ qs) := HL
    have hshv := HL.out.shape
    obtain ⟨pvo, cvo, evo⟩ := hshv
    subst evo
    have hsr := HB.out.size
    have hqlen : qs.length ≤ 2000000 := by
      have h1 := HLen.out (l.take k) ([], false)
      rw [← HSt.out] at h1
      have h1 : qs.length ≤ 0 + 2 * (l.take k).length := h1
      rw [List.length_take] at h1
      omega
    have Epr := hid ((HB.out.block w.heap.size (by have := Z1.out; omega)).trans E1.out)
    by_cases hlt : k < L
    · have hkt : k < l.length := by rw [← HLL.out]; exact hlt
      have hlt' : (k : Int) < (L : Int) := by omega
      obtain ⟨b, o', rfl, hb, hc⟩ := J4.out (by omega)
      obtain ⟨cs, kk0, dx, s, ecs, hraw, hwf⟩ := hc k hkt
      have hsh := hraw.agg2
      obtain ⟨d', qx, nx, cx', e2⟩ := hsh
      obtain ⟨rfl, rfl⟩ : s = .slice qx nx cx' ∧ dx = d' := by
        injection e2 with e2
        simpa [and_comm] using e2
      clear e2
      subst ecs
      have y0 := (HBw.out.cell (p := ⟨b, o' + k * 3, none⟩) hb).trans (kk0 0 _ rfl)
      have y1 := (HBw.out.cell (p := ⟨b, o' + k * 3 + 1, none⟩) hb).trans (kk0 1 _ rfl)
      have y2 := (HBw.out.cell (p := ⟨b, o' + k * 3 + 2, none⟩) hb).trans (kk0 2 _ rfl)
      have Hnext : Hid ((l.take (k + 1)).foldl (putStep (c, t)) ([], false) = putStep (c, t) (qs, dn) (l[k].1, l[k].2)) := hid (by rw [List.take_succ_eq_append_getElem hkt, List.foldl_append, ← HSt.out]; rfl)
      have Hsx := hid (HS.out l[k] (List.getElem_mem hkt))
      have HX0 := hid hraw
      have hraw := hraw.below HBw.out
      have Hwx := hid hwf
      generalize l[k].1 = x1 at *
      generalize l[k].2 = x2 at *
      clear kk0 hc hwf
      obtain ⟨W5, hW5⟩ : ∃ W5, W5 = wr.alloc (.cells #[.bool dx, .slice qx nx cx', .int .i64 x2] 38) := ⟨_, rfl⟩
      have b5 : Below wr.heap.size wr W5 := by rw [hW5]; exact below1 wr _
      have e5 : W5.heap[wr.heap.size]? = some (.cells #[.bool dx, .slice qx nx cx', .int .i64 x2] 38 (0, 0)) := by rw [hW5]; exact heap_alloc_new wr _
      have z5 : W5.heap.size = wr.heap.size + 1 := by rw [hW5, size_alloc]
      have HR5 := hid (hraw.below b5)
      have HB5 := hid (lnGo b5 HB.out)
      have HL5 := hid (HL.out.below b5)
      have E5 := hid e5
      have Ep5 := hid ((b5.block w.heap.size (by have := Z1.out; omega)).trans Epr.out)
      have HRp5 := hid (HRp.out.below (lnGo b5 HB.out))
      obtain ⟨t0, t1, t2⟩ := lnCells3 e5
      obtain ⟨u0, u1, u2⟩ := lnCells3 Ep5.out
      clear b5 e5 HB
      by_cases h1 : dn = false ∧ t < x2
      · obtain ⟨rfl, hlt2⟩ := h1
        have hd1 : decide (t < x2) = true := by simpa using hlt2
        have hd2 : (t == x2) = false := by rw [beq_eq_false_iff_ne]; omega
        have Hnx : Hid ((l.take (k + 1)).foldl (putStep (c, t)) ([], false) = ((qs ++ [(c, t)]) ++ [(x1, x2)], true)) := hid (by rw [Hnext.out]; unfold putStep; rw [if_pos ⟨rfl, hlt2⟩])
        have HPp : Hid (PtR W5 [.bool d, .slice q n cq, .int .i64 t] (c, t)) := hid ⟨_, _, rfl, HRp5.out, HT.out⟩
        go_upto_region 6 with fail
        rw [← hW5]
        clear hW5 y0 y1 y2
        obtain ⟨a1, ha1⟩ : ∃ W', W' = W5.alloc (.cells #[.bool d, .slice q n cq, .int .i64 t] 38) := ⟨_, rfl⟩
        have ba1 : Below W5.heap.size W5 a1 := by rw [ha1]; exact below1 _ _
        have ea1 : a1.heap[wr.heap.size + 1]? = some (.cells #[.bool d, .slice q n cq, .int .i64 t] 38 (0, 0)) := by rw [ha1, ← show W5.heap.size = wr.heap.size + 1 by omega]; exact heap_alloc_new _ _
        have za1 : a1.heap.size = W5.heap.size + 1 := by rw [ha1, size_alloc]
        have hl1 := HL5.out.below ba1
        obtain ⟨xs1, hrow1, hgo1⟩ := hl1.row
        have Hrow1 := hid hrow1
        have Hgo1 := hid hgo1
        have Hpt1 := hid (HPp.out.below ba1)
        have hnews1 : ∀ j u, ([.bool d, .slice q n cq, .int .i64 t] : List Value)[j]? = some u → a1.cell? ((⟨wr.heap.size + 1, 0, none⟩ : Addr).add j) = some u := by
          intro j u hj
          rw [Go.WideShapes.add_plain, Nat.zero_add, cell_of_row _ _ _ _ _ _ ea1]
          simpa using hj
        have hll1 : (qs).length ≤ 4000000 := by omega
        have Ba1 := hid ba1
        clear hrow1 hgo1 ea1 hl1 ba1
        go_upto_region 12 with (at_builtin; rw [← ha1]; refine wpList_append_w rfl _ _ 22 rfl B 38 i0 _ 3 40 Tryz.underlying22 hij hz0 hz1 hz2 rfl (by decide) (by intro n h; simp [Value.cells] at h) _ (qs).length xs1 rfl Hrow1.out ⟨wr.heap.size + 1, 0, none⟩ 1 1 [.bool d, .slice q n cq, .int .i64 t] rfl rfl hnews1 (by intro u hu; simp at hu; rcases hu with rfl | rfl | rfl <;> rfl) (by intro n h; simp at h) (by simp [maxLen]; omega) (by omega) (by omega) ?_; intro v1 w1 ho1 hg1; have HLn1 := hid (Hgo1.out _ _ _ _ ho1 hg1 rfl Hpt1.out); have HBn1 : Hid (Below W1.heap.size W1 w1) := hid ((lnGo Ba1.out HB5.out).grown hg1 (by have := (lnGo Ba1.out HB5.out).size; omega) (fun g hg => by have := (World.ownsRow.lt Hrow1.out.1 g hg).1; omega)); have hx1 := (hg1.block wr.heap.size (by omega) (by intro e; have := (HL.out.base _ e.symm).2.1; omega)).trans ((Ba1.out.block wr.heap.size (by omega)).trans E5.out); have hp1 := (hg1.block w.heap.size (by have := Z1.out; have := HB5.out.size; omega) (by intro e; have := (HL.out.base _ e.symm).1; have := Z1.out; omega)).trans ((Ba1.out.block w.heap.size (by have := Z1.out; have := HB5.out.size; omega)).trans Ep5.out); clear t0 t1 t2 u0 u1 u2; obtain ⟨t0, t1, t2⟩ := lnCells3 hx1; obtain ⟨u0, u1, u2⟩ := lnCells3 hp1; have HPx : Hid (PtR w1 [.bool dx, .slice qx nx cx', .int .i64 x2] (x1, x2)) := hid ⟨_, _, rfl, HX0.out.below (lnGo HBn1.out B1.out), Hwx.out⟩; have hsv1 := HLn1.out.shape; obtain ⟨pv1, cv1, ev0⟩ := hsv1; have ev1 : v1 = .slice pv1 (qs.length + 1) cv1 := (by rw [ev0]; simp); clear ev0; subst ev1; have hzz1 := HBn1.out.size; clear ho1 hg1 hx1 hp1)
        obtain ⟨a2, ha2⟩ : ∃ W', W' = w1.alloc (.cells #[.bool dx, .slice qx nx cx', .int .i64 x2] 38) := ⟨_, rfl⟩
        have ba2 : Below w1.heap.size w1 a2 := by rw [ha2]; exact below1 _ _
        have ea2 : a2.heap[w1.heap.size]? = some (.cells #[.bool dx, .slice qx nx cx', .int .i64 x2] 38 (0, 0)) := by rw [ha2, ← show w1.heap.size = w1.heap.size by omega]; exact heap_alloc_new _ _
        have za2 : a2.heap.size = w1.heap.size + 1 := by rw [ha2, size_alloc]
        have hl2 := HLn1.out.below ba2
        obtain ⟨xs2, hrow2, hgo2⟩ := hl2.row
        have Hrow2 := hid hrow2
        have Hgo2 := hid hgo2
        have Hpt2 := hid (HPx.out.below ba2)
        have hnews2 : ∀ j u, ([.bool dx, .slice qx nx cx', .int .i64 x2] : List Value)[j]? = some u → a2.cell? ((⟨w1.heap.size, 0, none⟩ : Addr).add j) = some u := by
          intro j u hj
          rw [Go.WideShapes.add_plain, Nat.zero_add, cell_of_row _ _ _ _ _ _ ea2]
          simpa using hj
        have hll2 : ((qs ++ [(c, t)])).length ≤ 4000000 := by rw [List.length_append]; exact (by omega : qs.length + 1 ≤ 4000000)
        have Ba2 := hid ba2
        clear hrow2 hgo2 ea2 hl2 ba2
        go_wp2_with (at_builtin; rw [← ha2]; refine wpList_append_w rfl _ _ 22 rfl B 38 i0 _ 3 40 Tryz.underlying22 hij hz0 hz1 hz2 rfl (by decide) (by intro n h; simp [Value.cells] at h) _ ((qs ++ [(c, t)])).length xs2 rfl Hrow2.out ⟨w1.heap.size, 0, none⟩ 1 1 [.bool dx, .slice qx nx cx', .int .i64 x2] rfl rfl hnews2 (by intro u hu; simp at hu; rcases hu with rfl | rfl | rfl <;> rfl) (by intro n h; simp at h) (by simp [maxLen]; omega) (by omega) (by omega) ?_; intro v2 w2 ho2 hg2)
        have HLn2 := hid (Hgo2.out _ _ _ _ ho2 hg2 rfl Hpt2.out)
        have HBn2 : Hid (Below W1.heap.size W1 w2) := hid ((lnGo Ba2.out HBn1.out).grown hg2 (by have := (lnGo Ba2.out HBn1.out).size; omega) (fun g hg => by have := (World.ownsRow.lt Hrow2.out.1 g hg).1; omega))
        go_roundw
        case rel => exact ⟨k + 1, ((qs ++ [(c, t)]) ++ [(x1, x2)], true), by omega, by go_num, rfl, hid (Hnx.out.symm), HLn2, HBn2⟩
        case measure => simp [intOf] <;> omega
      · by_cases h2 : t = x2
        · subst h2
          have hd1 : decide (t < t) = false := by simp
          have hd2 : (t == t) = true := by simp
          have Hnx : Hid ((l.take (k + 1)).foldl (putStep (c, t)) ([], false) = (qs ++ [(x1 + c, t)], true)) := hid (by rw [Hnext.out]; unfold putStep; rw [if_neg (fun h => by have := h.2; simp at this), if_pos rfl])
          have HAd := hid (RAdd_any _ _ _ _ W5 HR5.out HRp5.out)
          go_upto_region 6 with fail
          rw [← hW5]
          clear hW5 y0 y1 y2
          cases dn with
          | true =>
            go_wp2_with fail
            refine HAd.out.mono ?_
            rintro e w6 ⟨v6, rfl, i6, b6⟩
            obtain ⟨p6, n6, c6, rfl, i6⟩ := i6.shape
            have z6 := b6.size
            have E6 := hid ((b6.block wr.heap.size (by omega)).trans E5.out)
            obtain ⟨t0, t1, t2⟩ := lnCells3 E6.out
            have fz0 := frozen_of_row w6 wr.heap.size 0 _ _ E6.out
            have fz1 := frozen_of_row w6 wr.heap.size 1 _ _ E6.out
            have hno : NoWd w6 wr.heap.size := NoWd.cells E6.out (by simp)
            obtain ⟨w7, hw7⟩ : ∃ w7, w7 = (w6.setCell ⟨wr.heap.size, 0, none⟩ (.bool (decide (x1 + c < 0)))).setCell ⟨wr.heap.size, 1, none⟩ (.slice p6 n6 c6) := ⟨_, rfl⟩
            have a7 : Apart (fun k => k = wr.heap.size) w6 w7 := by rw [hw7]; exact (apart_set _ _ _ _).go (apart_set _ _ _ _)
            have e7 : w7.heap[wr.heap.size]? = some (.cells #[.bool (decide (x1 + c < 0)), .slice p6 n6 c6, .int .i64 t] 38 (0, 0)) := by rw [hw7]; exact heap_setCell_same _ _ 1 _ _ _ (heap_setCell_same _ _ 0 _ _ _ E6.out)
            have s7 := a7.size
            have HL7 := hid ((HL5.out.below b6).apart a7 (fun b hb => by rw [hb]; exact hno) (fun g hg hs => by have := (HL.out.base g hg).2.1; omega))
            have HPx : Hid (PtR w7 [.bool (decide (x1 + c < 0)), .slice p6 n6 c6, .int .i64 t] (x1 + c, t)) := hid ⟨_, _, rfl, (i6.quiet a7 (fun b hb => by rw [hb]; exact hno)).rawL (by have h1 := Nat.le_trans (sz_mono W2 (Int.natAbs_add_le x1 c)) (sz_add W2 Hsx.out HC.out); omega), Hwx.out⟩
            have HB7 := hid ((lnGo b6 HB5.out).trans (a7.below (B := W1.heap.size) (by have := HB5.out.size; omega) (fun i hi => by rw [hi]; exact hsr)))
            clear b6 i6 a7 hno
            go_upto_region 12 with fail
            rw [← hw7]
            clear hw7 fz0 fz1 t0 t1 t2 u0 u1 u2
            obtain ⟨t0, t1, t2⟩ := lnCells3 e7
            obtain ⟨a5, ha5⟩ : ∃ W', W' = w7.alloc (.cells #[.bool (decide (x1 + c < 0)), .slice p6 n6 c6, .int .i64 t] 38) := ⟨_, rfl⟩
            have ba5 : Below w7.heap.size w7 a5 := by rw [ha5]; exact below1 _ _
            have ea5 : a5.heap[w7.heap.size]? = some (.cells #[.bool (decide (x1 + c < 0)), .slice p6 n6 c6, .int .i64 t] 38 (0, 0)) := by rw [ha5, ← show w7.heap.size = w7.heap.size by omega]; exact heap_alloc_new _ _
            have za5 : a5.heap.size = w7.heap.size + 1 := by rw [ha5, size_alloc]
            have hl5 := HL7.out.below ba5
            obtain ⟨xs5, hrow5, hgo5⟩ := hl5.row
            have Hrow5 := hid hrow5
            have Hgo5 := hid hgo5
            have Hpt5 := hid (HPx.out.below ba5)
            have hnews5 : ∀ j u, ([.bool (decide (x1 + c < 0)), .slice p6 n6 c6, .int .i64 t] : List Value)[j]? = some u → a5.cell? ((⟨w7.heap.size, 0, none⟩ : Addr).add j) = some u := by
              intro j u hj
              rw [Go.WideShapes.add_plain, Nat.zero_add, cell_of_row _ _ _ _ _ _ ea5]
              simpa using hj
            have hll5 : (qs).length ≤ 4000000 := by omega
            have Ba5 := hid ba5
            clear hrow5 hgo5 ea5 hl5 ba5
            go_wp2_with (at_builtin; rw [← ha5]; refine wpList_append_w rfl _ _ 22 rfl B 38 i0 _ 3 40 Tryz.underlying22 hij hz0 hz1 hz2 rfl (by decide) (by intro n h; simp [Value.cells] at h) _ (qs).length xs5 rfl Hrow5.out ⟨w7.heap.size, 0, none⟩ 1 1 [.bool (decide (x1 + c < 0)), .slice p6 n6 c6, .int .i64 t] rfl rfl hnews5 (by intro u hu; simp at hu; rcases hu with rfl | rfl | rfl <;> rfl) (by intro n h; simp at h) (by simp [maxLen]; omega) (by omega) (by omega) ?_; intro v5 w5 ho5 hg5)
            have HLn5 := hid (Hgo5.out _ _ _ _ ho5 hg5 rfl Hpt5.out)
            have HBn5 : Hid (Below W1.heap.size W1 w5) := hid ((lnGo Ba5.out HB7.out).grown hg5 (by have := (lnGo Ba5.out HB7.out).size; omega) (fun g hg => by have := (World.ownsRow.lt Hrow5.out.1 g hg).1; omega))
            go_roundw
            case rel => exact ⟨k + 1, (qs ++ [(x1 + c, t)], true), by omega, by go_num, rfl, hid (Hnx.out.symm), HLn5, HBn5⟩
            case measure => simp [intOf] <;> omega
          | false =>
            go_wp2_with fail
            refine HAd.out.mono ?_
            rintro e w6 ⟨v6, rfl, i6, b6⟩
            obtain ⟨p6, n6, c6, rfl, i6⟩ := i6.shape
            have z6 := b6.size
            have E6 := hid ((b6.block wr.heap.size (by omega)).trans E5.out)
            obtain ⟨t0, t1, t2⟩ := lnCells3 E6.out
            have fz0 := frozen_of_row w6 wr.heap.size 0 _ _ E6.out
            have fz1 := frozen_of_row w6 wr.heap.size 1 _ _ E6.out
            have hno : NoWd w6 wr.heap.size := NoWd.cells E6.out (by simp)
            obtain ⟨w7, hw7⟩ : ∃ w7, w7 = (w6.setCell ⟨wr.heap.size, 0, none⟩ (.bool (decide (x1 + c < 0)))).setCell ⟨wr.heap.size, 1, none⟩ (.slice p6 n6 c6) := ⟨_, rfl⟩
            have a7 : Apart (fun k => k = wr.heap.size) w6 w7 := by rw [hw7]; exact (apart_set _ _ _ _).go (apart_set _ _ _ _)
            have e7 : w7.heap[wr.heap.size]? = some (.cells #[.bool (decide (x1 + c < 0)), .slice p6 n6 c6, .int .i64 t] 38 (0, 0)) := by rw [hw7]; exact heap_setCell_same _ _ 1 _ _ _ (heap_setCell_same _ _ 0 _ _ _ E6.out)
            have s7 := a7.size
            have HL7 := hid ((HL5.out.below b6).apart a7 (fun b hb => by rw [hb]; exact hno) (fun g hg hs => by have := (HL.out.base g hg).2.1; omega))
            have HPx : Hid (PtR w7 [.bool (decide (x1 + c < 0)), .slice p6 n6 c6, .int .i64 t] (x1 + c, t)) := hid ⟨_, _, rfl, (i6.quiet a7 (fun b hb => by rw [hb]; exact hno)).rawL (by have h1 := Nat.le_trans (sz_mono W2 (Int.natAbs_add_le x1 c)) (sz_add W2 Hsx.out HC.out); omega), Hwx.out⟩
            have HB7 := hid ((lnGo b6 HB5.out).trans (a7.below (B := W1.heap.size) (by have := HB5.out.size; omega) (fun i hi => by rw [hi]; exact hsr)))
            clear b6 i6 a7 hno
            go_upto_region 12 with fail
            rw [← hw7]
            clear hw7 fz0 fz1 t0 t1 t2 u0 u1 u2
            obtain ⟨t0, t1, t2⟩ := lnCells3 e7
            obtain ⟨a5, ha5⟩ : ∃ W', W' = w7.alloc (.cells #[.bool (decide (x1 + c < 0)), .slice p6 n6 c6, .int .i64 t] 38) := ⟨_, rfl⟩
            have ba5 : Below w7.heap.size w7 a5 := by rw [ha5]; exact below1 _ _
            have ea5 : a5.heap[w7.heap.size]? = some (.cells #[.bool (decide (x1 + c < 0)), .slice p6 n6 c6, .int .i64 t] 38 (0, 0)) := by rw [ha5, ← show w7.heap.size = w7.heap.size by omega]; exact heap_alloc_new _ _
            have za5 : a5.heap.size = w7.heap.size + 1 := by rw [ha5, size_alloc]
            have hl5 := HL7.out.below ba5
            obtain ⟨xs5, hrow5, hgo5⟩ := hl5.row
            have Hrow5 := hid hrow5
            have Hgo5 := hid hgo5
            have Hpt5 := hid (HPx.out.below ba5)
            have hnews5 : ∀ j u, ([.bool (decide (x1 + c < 0)), .slice p6 n6 c6, .int .i64 t] : List Value)[j]? = some u → a5.cell? ((⟨w7.heap.size, 0, none⟩ : Addr).add j) = some u := by
              intro j u hj
              rw [Go.WideShapes.add_plain, Nat.zero_add, cell_of_row _ _ _ _ _ _ ea5]
              simpa using hj
            have hll5 : (qs).length ≤ 4000000 := by omega
            have Ba5 := hid ba5
            clear hrow5 hgo5 ea5 hl5 ba5
            go_wp2_with (at_builtin; rw [← ha5]; refine wpList_append_w rfl _ _ 22 rfl B 38 i0 _ 3 40 Tryz.underlying22 hij hz0 hz1 hz2 rfl (by decide) (by intro n h; simp [Value.cells] at h) _ (qs).length xs5 rfl Hrow5.out ⟨w7.heap.size, 0, none⟩ 1 1 [.bool (decide (x1 + c < 0)), .slice p6 n6 c6, .int .i64 t] rfl rfl hnews5 (by intro u hu; simp at hu; rcases hu with rfl | rfl | rfl <;> rfl) (by intro n h; simp at h) (by simp [maxLen]; omega) (by omega) (by omega) ?_; intro v5 w5 ho5 hg5)
            have HLn5 := hid (Hgo5.out _ _ _ _ ho5 hg5 rfl Hpt5.out)
            have HBn5 : Hid (Below W1.heap.size W1 w5) := hid ((lnGo Ba5.out HB7.out).grown hg5 (by have := (lnGo Ba5.out HB7.out).size; omega) (fun g hg => by have := (World.ownsRow.lt Hrow5.out.1 g hg).1; omega))
            go_roundw
            case rel => exact ⟨k + 1, (qs ++ [(x1 + c, t)], true), by omega, by go_num, rfl, hid (Hnx.out.symm), HLn5, HBn5⟩
            case measure => simp [intOf] <;> omega
        · have hd2 : (t == x2) = false := by rw [beq_eq_false_iff_ne]; exact h2
          have Hnx : Hid ((l.take (k + 1)).foldl (putStep (c, t)) ([], false) = (qs ++ [(x1, x2)], dn)) := hid (by rw [Hnext.out]; unfold putStep; rw [if_neg h1, if_neg h2])
          have HPx : Hid (PtR W5 [.bool dx, .slice qx nx cx', .int .i64 x2] (x1, x2)) := hid ⟨_, _, rfl, HR5.out, Hwx.out⟩
          go_upto_region 6 with fail
          rw [← hW5]
          clear hW5 y0 y1 y2
          obtain ⟨a3, ha3⟩ : ∃ W', W' = W5.alloc (.cells #[.bool dx, .slice qx nx cx', .int .i64 x2] 38) := ⟨_, rfl⟩
          have ba3 : Below W5.heap.size W5 a3 := by rw [ha3]; exact below1 _ _
          have ea3 : a3.heap[wr.heap.size + 1]? = some (.cells #[.bool dx, .slice qx nx cx', .int .i64 x2] 38 (0, 0)) := by rw [ha3, ← show W5.heap.size = wr.heap.size + 1 by omega]; exact heap_alloc_new _ _
          have za3 : a3.heap.size = W5.heap.size + 1 := by rw [ha3, size_alloc]
          have hl3 := HL5.out.below ba3
          obtain ⟨xs3, hrow3, hgo3⟩ := hl3.row
          have Hrow3 := hid hrow3
          have Hgo3 := hid hgo3
          have Hpt3 := hid (HPx.out.below ba3)
          have hnews3 : ∀ j u, ([.bool dx, .slice qx nx cx', .int .i64 x2] : List Value)[j]? = some u → a3.cell? ((⟨wr.heap.size + 1, 0, none⟩ : Addr).add j) = some u := by
            intro j u hj
            rw [Go.WideShapes.add_plain, Nat.zero_add, cell_of_row _ _ _ _ _ _ ea3]
            simpa using hj
          have hll3 : (qs).length ≤ 4000000 := by omega
          have Ba3 := hid ba3
          clear hrow3 hgo3 ea3 hl3 ba3
          cases dn with
          | true =>
            go_wp2_with (at_builtin; rw [← ha3]; refine wpList_append_w rfl _ _ 22 rfl B 38 i0 _ 3 40 Tryz.underlying22 hij hz0 hz1 hz2 rfl (by decide) (by intro n h; simp [Value.cells] at h) _ (qs).length xs3 rfl Hrow3.out ⟨wr.heap.size + 1, 0, none⟩ 1 1 [.bool dx, .slice qx nx cx', .int .i64 x2] rfl rfl hnews3 (by intro u hu; simp at hu; rcases hu with rfl | rfl | rfl <;> rfl) (by intro n h; simp at h) (by simp [maxLen]; omega) (by omega) (by omega) ?_; intro v3 w3 ho3 hg3)
            have HLn3 := hid (Hgo3.out _ _ _ _ ho3 hg3 rfl Hpt3.out)
            have HBn3 : Hid (Below W1.heap.size W1 w3) := hid ((lnGo Ba3.out HB5.out).grown hg3 (by have := (lnGo Ba3.out HB5.out).size; omega) (fun g hg => by have := (World.ownsRow.lt Hrow3.out.1 g hg).1; omega))
            go_roundw
            case rel => exact ⟨k + 1, (qs ++ [(x1, x2)], true), by omega, by go_num, rfl, hid (Hnx.out.symm), HLn3, HBn3⟩
            case measure => simp [intOf] <;> omega
          | false =>
            have hd1 : decide (t < x2) = false := by simpa using h1
            go_wp2_with (at_builtin; rw [← ha3]; refine wpList_append_w rfl _ _ 22 rfl B 38 i0 _ 3 40 Tryz.underlying22 hij hz0 hz1 hz2 rfl (by decide) (by intro n h; simp [Value.cells] at h) _ (qs).length xs3 rfl Hrow3.out ⟨wr.heap.size + 1, 0, none⟩ 1 1 [.bool dx, .slice qx nx cx', .int .i64 x2] rfl rfl hnews3 (by intro u hu; simp at hu; rcases hu with rfl | rfl | rfl <;> rfl) (by intro n h; simp at h) (by simp [maxLen]; omega) (by omega) (by omega) ?_; intro v3 w3 ho3 hg3)
            have HLn3 := hid (Hgo3.out _ _ _ _ ho3 hg3 rfl Hpt3.out)
            have HBn3 : Hid (Below W1.heap.size W1 w3) := hid ((lnGo Ba3.out HB5.out).grown hg3 (by have := (lnGo Ba3.out HB5.out).size; omega) (fun g hg => by have := (World.ownsRow.lt Hrow3.out.1 g hg).1; omega))
            go_roundw
            case rel => exact ⟨k + 1, (qs ++ [(x1, x2)], false), by omega, by go_num, rfl, hid (Hnx.out.symm), HLn3, HBn3⟩
            case measure => simp [intOf] <;> omega
    · obtain rfl : k = L := by omega
      have hfin : l.take k = l := by rw [HLL.out, List.take_length]
      have hst := HSt.out
      rw [hfin] at hst
      have hall := HAll.out
      rw [← hst] at hall
      cases dn with
      | true =>
        have hq : qs = lnPut l (c, t) := by simpa [putEnd] using hall
        have HLf := HL.out.pts
        rw [hq] at HLf
        have HLF := hid HLf
        clear hall hst HLf
        go_wp2_with fail
        go_ret
        exact ⟨_, rfl, HLF.out, HBw.out⟩
      | false =>
        have hq : qs ++ [(c, t)] = lnPut l (c, t) := by simpa [putEnd] using hall
        clear hall hst
        have HPp : Hid (PtR wr [.bool d, .slice q n cq, .int .i64 t] (c, t)) := hid ⟨_, _, rfl, HRp.out.below HB.out, HT.out⟩
        obtain ⟨u0, u1, u2⟩ := lnCells3 Epr.out
        obtain ⟨a4, ha4⟩ : ∃ W', W' = wr.alloc (.cells #[.bool d, .slice q n cq, .int .i64 t] 38) := ⟨_, rfl⟩
        have ba4 : Below wr.heap.size wr a4 := by rw [ha4]; exact below1 _ _
        have ea4 : a4.heap[wr.heap.size]? = some (.cells #[.bool d, .slice q n cq, .int .i64 t] 38 (0, 0)) := by rw [ha4, ← show wr.heap.size = wr.heap.size by omega]; exact heap_alloc_new _ _
        have za4 : a4.heap.size = wr.heap.size + 1 := by rw [ha4, size_alloc]
        have hl4 := HL.out.below ba4
        obtain ⟨xs4, hrow4, hgo4⟩ := hl4.row
        have Hrow4 := hid hrow4
        have Hgo4 := hid hgo4
        have Hpt4 := hid (HPp.out.below ba4)
        have hnews4 : ∀ j u, ([.bool d, .slice q n cq, .int .i64 t] : List Value)[j]? = some u → a4.cell? ((⟨wr.heap.size, 0, none⟩ : Addr).add j) = some u := by
          intro j u hj
          rw [Go.WideShapes.add_plain, Nat.zero_add, cell_of_row _ _ _ _ _ _ ea4]
          simpa using hj
        have hll4 : (qs).length ≤ 4000000 := by omega
        have Ba4 := hid ba4
        clear hrow4 hgo4 ea4 hl4 ba4
        go_wp2_with (at_builtin; rw [← ha4]; refine wpList_append_w rfl _ _ 22 rfl B 38 i0 _ 3 40 Tryz.underlying22 hij hz0 hz1 hz2 rfl (by decide) (by intro n h; simp [Value.cells] at h) _ (qs).length xs4 rfl Hrow4.out ⟨wr.heap.size, 0, none⟩ 1 1 [.bool d, .slice q n cq, .int .i64 t] rfl rfl hnews4 (by intro u hu; simp at hu; rcases hu with rfl | rfl | rfl <;> rfl) (by intro n h; simp at h) (by simp [maxLen]; omega) (by omega) (by omega) ?_; intro v4 w4 ho4 hg4)
        have HLn4 := hid (Hgo4.out _ _ _ _ ho4 hg4 rfl Hpt4.out)
        have HBn4 : Hid (Below W1.heap.size W1 w4) := hid ((lnGo Ba4.out HB.out).grown hg4 (by have := (lnGo Ba4.out HB.out).size; omega) (fun g hg => by have := (World.ownsRow.lt Hrow4.out.1 g hg).1; omega))
        have HLf := HLn4.out.pts
        rw [hq] at HLf
        have HLF := hid HLf
        go_ret
        exact ⟨_, rfl, HLF.out, lnGo HBn4.out B1.out⟩
end Go.Proofs.YtjfehknilofdjaaGreat
/- linear.common: the greatest number that goes into all coefficients. -/
namespace Go.Proofs.YtjfehknilofdjaaGreat
open Go.RowKit Big

/-- a variable that holds a whole number -/
def LnCell (w : World) (g : Nat) (z : Int) : Prop := ∃ p n c, w.heap[g]? = some (.cells #[.bool (decide (z < 0)), .slice p n c] 26 (0, 0)) ∧ IntAt w (.agg #[.bool (decide (z < 0)), .slice p n c]) z
theorem LnCell.pair {w : World} {g : Nat} {z : Int} (h : LnCell w g z) : Pair w g 26 := by
  obtain ⟨p, n, c, h, _⟩ := h
  exact ⟨_, p, n, c, h⟩
theorem LnCell.below {w w' : World} {g : Nat} {z : Int} (h : LnCell w g z) (hb : Below w.heap.size w w') : LnCell w' g z := by
  obtain ⟨p, n, c, h, hi⟩ := h
  exact ⟨p, n, c, (hb.block g (Array.getElem?_eq_some_iff.1 h).1).trans h, hi.below hb⟩
theorem LnCell.put {w : World} {g : Nat} {z : Int} {p : Option Addr} {n c : Nat} (hp : Pair w g 26) (hi : IntAt w (.agg #[.bool (decide (z < 0)), .slice p n c]) z) :
    LnCell ((w.setCell ⟨g, 0, none⟩ (.bool (decide (z < 0)))).setCell ⟨g, 1, none⟩ (.slice p n c)) g z := by
  have h2 := hi.stored hp (decide (z < 0)) p n c
  obtain ⟨x, p', n', c', h⟩ := hp
  exact ⟨p, n, c, heap_setCell_same _ g 1 _ _ (.slice p n c) (heap_setCell_same w g 0 _ _ (.bool (decide (z < 0))) h), h2⟩
def lnGcd (l : List (Int × Int)) : Nat := l.foldl (fun g p => Nat.gcd g p.1.natAbs) 0
theorem lnGcd_snoc (l : List (Int × Int)) (p : Int × Int) : lnGcd (l ++ [p]) = Nat.gcd (lnGcd l) p.1.natAbs := by simp [lnGcd]
theorem lnGcd_all : ∀ (l : List (Int × Int)) (g : Nat), (l.foldl (fun g p => Nat.gcd g p.1.natAbs) g) ∣ g ∧ ∀ p ∈ l, (l.foldl (fun g p => Nat.gcd g p.1.natAbs) g) ∣ p.1.natAbs
  | [], g => ⟨Nat.dvd_refl _, nofun⟩
  | p :: l, g => by
    obtain ⟨h1, h2⟩ := lnGcd_all l (Nat.gcd g p.1.natAbs)
    refine ⟨Nat.dvd_trans h1 (Nat.gcd_dvd_left _ _), fun q hq => ?_⟩
    rcases List.mem_cons.1 hq with rfl | hq
    · exact Nat.dvd_trans h1 (Nat.gcd_dvd_right _ _)
    · exact h2 q hq
theorem lnGcd_dvd {l : List (Int × Int)} {p : Int × Int} (hp : p ∈ l) : (lnGcd l : Int) ∣ p.1 := Int.ofNat_dvd_left.2 ((lnGcd_all l 0).2 p hp)
theorem lnGcd_pos {l : List (Int × Int)} (hl : l ≠ []) (h : ∀ p ∈ l, p.1 ≠ 0) : 0 < lnGcd l := by
  rcases Nat.eq_zero_or_pos (lnGcd l) with h0 | h0
  · exfalso
    cases l with
    | nil => exact hl rfl
    | cons p l =>
      have h1 := lnGcd_dvd (l := p :: l) (p := p) (by simp)
      rw [h0] at h1
      exact h p (by simp) (Int.zero_dvd.1 (by simpa using h1))
  · exact h0
theorem lnGcd_sz {N : Nat} : ∀ (l : List (Int × Int)), (∀ p ∈ l, sz W p.1.natAbs ≤ N) → ∀ k, sz W (lnGcd (l.take k)) ≤ N := by
  intro l h k
  have key : ∀ (l : List (Int × Int)) (g : Nat), sz W g ≤ N → (∀ p ∈ l, sz W p.1.natAbs ≤ N) → sz W (l.foldl (fun g p => Nat.gcd g p.1.natAbs) g) ≤ N := by
    intro l
    induction l with
    | nil => intro g hg _; exact hg
    | cons p l ih =>
      intro g hg hl
      refine ih _ ?_ (fun q hq => hl q (by simp [hq]))
      show sz W (Nat.gcd g p.1.natAbs) ≤ N
      by_cases h0 : p.1.natAbs = 0
      · rw [h0, Nat.gcd_zero_right]; exact hg
      · exact Nat.le_trans (sz_mono W2 (Nat.le_of_dvd (by omega) (Nat.gcd_dvd_right _ _))) (hl p (by simp))
  exact key _ 0 (by simp [sz_zero]) (fun p hp => h p (List.mem_of_mem_take hp))
set_option maxRecDepth 100000 in
set_option maxHeartbeats 3200000 in
theorem common_lin (v : Value) (l : List (Int × Int)) (w : World) {N : Nat} (h : PtsR w v l) (hs : ∀ p ∈ l, sz W p.1.natAbs ≤ N) (hN : N ≤ 1099511627776) (hl : l.length ≤ 1000000000000) :
    Calls Tryz.prog 30 #[v] w (RInt (lnGcd l : Nat) w) := by
  obtain ⟨p, cp, rfl, j1, j2, -, j4⟩ := h
  have J4 := hid j4; have HS := hid hs
  obtain ⟨W1, hW⟩ : ∃ W1, W1 = w.alloc (.cells #[.bool false, .slice none 0 0] 26) := ⟨_, rfl⟩
  have b1 : Below w.heap.size w W1 := by rw [hW]; exact below1 w _
  have z1 : W1.heap.size = w.heap.size + 1 := by rw [hW, size_alloc]
  have hpr : Pair W1 w.heap.size 26 := by rw [hW]; exact Pair.new ..
  have B1 := hid b1; have Z1 := hid z1; have HP := hid hpr
  obtain ⟨L, hLL⟩ : ∃ L, L = l.length := ⟨_, rfl⟩
  have HLL := hid hLL
  rw [← hLL] at j1 hl ⊢
  clear j4 hs b1 z1 hpr hLL
  go_enter Tryz.func30, Tryz.ntmps30
  go_wp2_with fail
  rw [← hW]
  clear hW
  refine (Of_any 0 W1 (by decide) (by decide)).mono ?_
  rintro e w2 ⟨v2, rfl, i2, b2⟩
  obtain ⟨p2, n2, c2, rfl, i2⟩ := i2.shape
  have z2 := b2.size
  obtain ⟨W3, hW3⟩ : ∃ W3, W3 = w2.alloc (.cells #[.bool false, .slice p2 n2 c2] 26) := ⟨_, rfl⟩
  have b3 : Below w2.heap.size w2 W3 := by rw [hW3]; exact below1 _ _
  have hc3 : LnCell W3 w2.heap.size 0 := ⟨p2, n2, c2, by rw [hW3]; exact heap_alloc_new _ _, i2.below b3⟩
  have z3 : W3.heap.size = w2.heap.size + 1 := by rw [hW3, size_alloc]
  have HP3 := hid ((HP.out.below b2).below b3)
  have HB3 := hid (lnGo b3 (lnGo b2 B1.out))
  have HC3 := hid hc3
  have Hz2 : Hid (w.heap.size < w2.heap.size) := hid (by have := Z1.out; omega)
  clear i2 b3 hc3
  go_upto_region 2 with fail
  rw [← hW3]
  clear hW3
  go_wp2_with fail
  go_loopw [9] (fun i wr => ∃ (k : Nat), k ≤ L ∧ i = .int .i64 (k : Nat) ∧ Hid (LnCell wr w2.heap.size (lnGcd (l.take k) : Nat)) ∧ Hid (Pair wr w.heap.size 26) ∧ Hid (Below w.heap.size w wr)) (fun i _ => L - (intOf i).toNat)
  case atStart => exact ⟨0, Nat.zero_le _, rfl, HC3, HP3, HB3⟩
  case round =>
    obtain ⟨k, hk, rfl, HC, HPr, HBr⟩ := hrel
    by_cases hlt : k < L
    · have hkt : k < l.length := by rw [← HLL.out]; exact hlt
      have hlt' : (k : Int) < (L : Int) := by omega
      obtain ⟨b, o, rfl, hb, hc⟩ := J4.out (by omega)
      obtain ⟨cs, k0, d, s, ecs, hraw, hwf⟩ := hc k hkt
      have hsh := hraw.agg2
      obtain ⟨d', q, n, cq, e2⟩ := hsh
      obtain ⟨rfl, rfl⟩ : s = .slice q n cq ∧ d = d' := by
        injection e2 with e2
        simpa [and_comm] using e2
      clear e2
      subst ecs
      have y0 := (HBr.out.cell (p := ⟨b, o + k * 3, none⟩) hb).trans (k0 0 _ rfl)
      have y1 := (HBr.out.cell (p := ⟨b, o + k * 3 + 1, none⟩) hb).trans (k0 1 _ rfl)
      have y2 := (HBr.out.cell (p := ⟨b, o + k * 3 + 2, none⟩) hb).trans (k0 2 _ rfl)
      have Hnext : Hid (lnGcd (l.take (k + 1)) = Nat.gcd (lnGcd (l.take k)) l[k].1.natAbs) := hid (by rw [List.take_succ_eq_append_getElem hkt, lnGcd_snoc])
      have Hsz := hid (lnGcd_sz l HS.out k)
      have hraw := hraw.below HBr.out
      generalize lnGcd (l.take k) = gg at *
      generalize l[k].1 = c at *
      generalize l[k].2 = t at *
      clear k0
      have HCo := HC.out
      obtain ⟨pc, nc, cc, hcb, hci⟩ := HCo
      have hlw2 : w2.heap.size < wr.heap.size := (Array.getElem?_eq_some_iff.1 hcb).1
      obtain ⟨W5, hW5⟩ : ∃ W5, W5 = wr.alloc (.cells #[.bool d, .slice q n cq, .int .i64 t] 38) := ⟨_, rfl⟩
      have b5 : Below wr.heap.size wr W5 := by rw [hW5]; exact below1 wr _
      have e5 : W5.heap[wr.heap.size]? = some (.cells #[.bool d, .slice q n cq, .int .i64 t] 38 (0, 0)) := by rw [hW5]; exact heap_alloc_new wr _
      obtain ⟨t0, t1, t2⟩ := lnCells3 e5
      obtain ⟨u0, u1, -, -⟩ := two_cells ((b5.block w2.heap.size hlw2).trans hcb)
      have HGc := hid (Gcd_any _ _ _ _ W5 ((hci.below b5).rawL (by have := Hsz.out; rw [Int.natAbs_natCast]; omega)) (hraw.below b5))
      have HB5 := hid b5
      have HC5 := hid (HC.out.below b5)
      have HP5 := hid (HPr.out.below b5)
      clear hcb hci hraw hwf hc HC b5 e5
      go_upto_region 5 with fail
      rw [← hW5]
      clear hW5
      go_wp2_with fail
      refine HGc.out.mono ?_
      rintro e w6 ⟨v6, rfl, i6, b6⟩
      rw [Int.natAbs_natCast] at i6
      obtain ⟨p6, n6, c6, rfl, i6⟩ := i6.shape
      have hp6 := (HC5.out.below b6).pair
      obtain ⟨_, _, q0, q1, q2, q3⟩ := hp6.cells
      have HC6 := hid (LnCell.put hp6 i6)
      have HP6 := hid ((HP5.out.below b6).other (g' := w2.heap.size) (by have := Hz2.out; omega) 0 (.bool (decide (((gg.gcd c.natAbs : Nat) : Int) < 0))))
      have HP7 := hid (HP6.out.other (g' := w2.heap.size) (by have := Hz2.out; omega) 1 (.slice p6 n6 c6))
      have HB7 := hid (Below.stored (lnGo b6 (lnGo HB5.out HBr.out)) (g := w2.heap.size) (by have := Hz2.out; omega) (.bool (decide (((gg.gcd c.natAbs : Nat) : Int) < 0))) (.slice p6 n6 c6))
      clear i6 hp6 b6 t0 t1 t2 u0 u1 y0 y1 y2
      go_wp2_with fail
      go_roundw
      case rel => exact ⟨k + 1, by omega, by go_num, hid (by rw [Hnext.out]; exact HC6.out), HP7, HB7⟩
      case measure => simp [intOf] <;> omega
    · obtain rfl : k = L := by omega
      have hfin : l.take k = l := by rw [HLL.out, List.take_length]
      rw [hfin] at HC
      have HCo := HC.out
      obtain ⟨pc, nc, cc, hcb, hci⟩ := HCo
      obtain ⟨u0, u1, -, -⟩ := two_cells hcb
      have hpr := HPr.out
      obtain ⟨_, _, q0, q1, q2, q3⟩ := hpr.cells
      have Hci := hid hci
      clear hcb hfin HC hci
      go_wp2
      exact bodyPost_ret (v := .agg #[.bool (decide (((lnGcd l : Nat) : Int) < 0)), .slice pc nc cc]) (by simp [results, Tryz.results30, go_sem, q0, q1]) rfl
        ⟨_, rfl, Hci.out.stored hpr _ _ _ _, Below.stored HBr.out (Nat.le_refl _) _ _⟩
end Go.Proofs.YtjfehknilofdjaaGreat
/- linear.Value. -/
namespace Go.Proofs.YtjfehknilofdjaaGreat
open Go.RowKit Big

/-- a number's two cells, as it is handed in -/
def NumR (w : World) (c : List Value) (z : Int) : Prop := ∃ n s, c = [.bool n, s] ∧ RawAt w (.agg #[.bool n, s]) z
theorem NumR.below {w w' : World} {c : List Value} {z : Int} (h : NumR w c z) (hb : Below w.heap.size w w') : NumR w' c z := by
  obtain ⟨n, s, e, h⟩ := h
  exact ⟨n, s, e, h.below hb⟩
abbrev NmsR := LsIn 2 NumR
theorem NmsR.below {w w' : World} {v : Value} {l : List Int} (h : NmsR w v l) (hb : Below w.heap.size w w') : NmsR w' v l := LsIn.below (Q := NumR) (fun h hb => NumR.below h hb) h hb
def lnAtv (vals : List Int) (t : Int) : Int := vals[t.toNat]?.getD 0
/-- the value of parts, or an error -/
def lnValue (a : List (Int × Int) × Int) (vals : List Int) : Int × Int :=
  if ∀ p ∈ a.1, 0 ≤ p.2 ∧ p.2 < vals.length then (a.2 + lnVal (lnAtv vals) a.1, 0) else (0, 13)
/-- what a call answers: a number and an error -/
def RIntE (r : Int × Int) (w : World) (e : Ending) (w' : World) : Prop := ∃ v, e = .returned (.tuple #[v, .int .i64 r.2]) ∧ IntAt w' v r.1 ∧ Below w.heap.size w w'
end Go.Proofs.YtjfehknilofdjaaGreat
/- elenchusref06.Value. -/
namespace Go.Proofs.YtjfehknilofdjaaGreat
open Go.RowKit Big

theorem RWh_num (d : Bool) (s : Value) (z : Int) (w : World) (h : RawAt w (.agg #[.bool d, s]) z) : Calls Tryz.prog 29 #[.bool d, s] w (RInt z w) := by
  obtain ⟨neg, s', l, e, h1, h2, h3, rfl⟩ := h
  injection e with e
  simp only [Array.mk.injEq, List.cons.injEq, and_true] at e
  obtain ⟨e1, rfl⟩ := e
  injection e1 with e1
  subst e1
  exact Whole_any _ _ l w h1 h2 (Nat.le_trans h3 (by decide))
end Go.Proofs.YtjfehknilofdjaaGreat
/- elenchusref06.clean: the parts that are not 0, made anew. -/
namespace Go.Proofs.YtjfehknilofdjaaGreat
open Go.RowKit Big

/-- what a call answers: parts, told -/
def RPtsT (l : List (Int × Int)) (w : World) (e : Ending) (w' : World) : Prop := ∃ v, e = .returned v ∧ PtsT w' v l ∧ Below w.heap.size w w'
set_option maxRecDepth 100000 in
set_option maxHeartbeats 6400000 in
theorem clean_any (vl : Value) (l : List (Int × Int)) (w : World) (hl : PtsR w vl l) (hlen : l.length ≤ 2000000) :
    Calls Tryz.prog 22 #[vl] w (RPtsT (lnClean l) w) := by
  obtain ⟨i0, hij, hz0, hz1, hz2⟩ := info_parts infoPart
  obtain ⟨p0, c0, rfl, j1, j2, -, j4⟩ := hl
  have J4 := hid j4
  obtain ⟨B, hB⟩ : ∃ B, B = w.heap.size := ⟨_, rfl⟩
  obtain ⟨L, hLL⟩ : ∃ L, L = l.length := ⟨_, rfl⟩
  have HLL := hid hLL
  rw [← hLL] at j1 hlen ⊢
  clear j4 hLL
  go_enter Tryz.func22, Tryz.ntmps22
  go_wp2_with fail
  go_loopw [3, 8] (fun vo i wr => ∃ (k : Nat) (st : List (Int × Int)), k ≤ L ∧ i = .int .i64 (k : Nat) ∧ st.length ≤ k ∧ Hid (st = lnClean (l.take k)) ∧ Hid (LsW B wr vo st) ∧ Hid (Below w.heap.size w wr)) (fun _ i _ => L - (intOf i).toNat)
  case atStart => exact ⟨0, [], Nat.zero_le _, rfl, Nat.le_refl _, hid rfl, hid (LsW.nil _ _), hid (Below.refl _ _)⟩
  case round =>
    obtain ⟨k, qs, hk, rfl, hqk, HSt, HL, HB⟩ := hrel
    have hshv := HL.out.shape
    obtain ⟨pvo, cvo, evo⟩ := hshv
    subst evo
    have hsr := HB.out.size
    by_cases hlt : k < L
    · have hkt : k < l.length := by rw [← HLL.out]; exact hlt
      have hlt' : (k : Int) < (L : Int) := by omega
      obtain ⟨b, o', rfl, hb, hc⟩ := J4.out (by omega)
      obtain ⟨cs, kk0, dx, s, ecs, hraw, hwf⟩ := hc k hkt
      have hsh := hraw.agg2
      obtain ⟨d', qx, nx, cx', e2⟩ := hsh
      obtain ⟨rfl, rfl⟩ : s = .slice qx nx cx' ∧ dx = d' := by
        injection e2 with e2
        simpa [and_comm] using e2
      clear e2
      subst ecs
      have y0 := (HB.out.cell (p := ⟨b, o' + k * 3, none⟩) hb).trans (kk0 0 _ rfl)
      have y1 := (HB.out.cell (p := ⟨b, o' + k * 3 + 1, none⟩) hb).trans (kk0 1 _ rfl)
      have y2 := (HB.out.cell (p := ⟨b, o' + k * 3 + 2, none⟩) hb).trans (kk0 2 _ rfl)
      have Hnext : Hid (lnClean (l.take (k + 1)) = qs ++ (if l[k].1 = 0 then [] else [(l[k].1, l[k].2)])) := hid (by
        rw [List.take_succ_eq_append_getElem hkt, HSt.out]
        unfold lnClean
        rw [List.filter_append]
        by_cases h0 : l[k].1 = 0
        · rw [if_pos h0]
          simp [h0]
        · rw [if_neg h0]
          simp [h0])
      have hraw := hraw.below HB.out
      have Hwx := hid hwf
      generalize l[k].1 = c at *
      generalize l[k].2 = t at *
      clear kk0 hc hwf
      obtain ⟨W5, hW5⟩ : ∃ W5, W5 = wr.alloc (.cells #[.bool dx, .slice qx nx cx', .int .i64 t] 38) := ⟨_, rfl⟩
      have b5 : Below wr.heap.size wr W5 := by rw [hW5]; exact below1 wr _
      have e5 : W5.heap[wr.heap.size]? = some (.cells #[.bool dx, .slice qx nx cx', .int .i64 t] 38 (0, 0)) := by rw [hW5]; exact heap_alloc_new wr _
      have z5 : W5.heap.size = wr.heap.size + 1 := by rw [hW5, size_alloc]
      have HR5 := hid (hraw.below b5)
      have HB5 := hid (lnGo b5 HB.out)
      have HL5 := hid (HL.out.below b5)
      have E5 := hid e5
      obtain ⟨t0, t1, t2⟩ := lnCells3 e5
      have HSg := hid (RSign_any _ c W5 HR5.out)
      clear b5 e5 hraw HB
      go_upto_region 5 with fail
      rw [← hW5]
      clear hW5 y0 y1 y2
      by_cases hc0 : c = 0
      · have hs0 : (c.sign == 0) = true := by rw [hc0]; rfl
        have hs1 : (c.sign != 0) = false := by rw [hc0]; rfl
        go_wp2_with fail
        refine HSg.out.mono ?_
        rintro e w6 ⟨rfl, b6⟩
        go_wp2_with fail
        go_roundw
        case rel => exact ⟨k + 1, qs, by omega, by go_num, by omega, hid (by rw [Hnext.out, if_pos hc0, List.append_nil]), hid (HL5.out.below b6), hid (lnGo b6 HB5.out)⟩
        case measure => simp [intOf] <;> omega
      · have hs0 : (c.sign == 0) = false := by
          rw [beq_eq_false_iff_ne]
          exact fun h => hc0 (Int.sign_eq_zero_iff_zero.1 h)
        have hs1 : (c.sign != 0) = true := by rw [bne, hs0]; rfl
        go_wp2_with fail
        refine HSg.out.mono ?_
        rintro e w6 ⟨rfl, b6⟩
        have z6 := b6.size
        have E6 := hid ((b6.block wr.heap.size (by omega)).trans E5.out)
        clear t0 t1 t2
        obtain ⟨t0, t1, t2⟩ := lnCells3 E6.out
        have HWh := hid (RWh_num _ _ c w6 (HR5.out.below b6))
        have B6 := hid b6
        clear b6
        go_wp2_with fail
        refine HWh.out.mono ?_
        rintro e w7 ⟨v7, rfl, i7, b7⟩
        obtain ⟨p6, n6, c6, rfl, i7⟩ := i7.shape
        have z7 := b7.size
        have E7 := hid ((b7.block wr.heap.size (by omega)).trans E6.out)
        clear t0 t1 t2
        obtain ⟨t0, t1, t2⟩ := lnCells3 E7.out
        have fz0 := frozen_of_row w7 wr.heap.size 0 _ _ E7.out
        have fz1 := frozen_of_row w7 wr.heap.size 1 _ _ E7.out
        have hno : NoWd w7 wr.heap.size := NoWd.cells E7.out (by simp)
        obtain ⟨w8, hw8⟩ : ∃ w8, w8 = (w7.setCell ⟨wr.heap.size, 0, none⟩ (.bool (decide (c < 0)))).setCell ⟨wr.heap.size, 1, none⟩ (.slice p6 n6 c6) := ⟨_, rfl⟩
        have a8 : Apart (fun k => k = wr.heap.size) w7 w8 := by rw [hw8]; exact (apart_set _ _ _ _).go (apart_set _ _ _ _)
        have e8 : w8.heap[wr.heap.size]? = some (.cells #[.bool (decide (c < 0)), .slice p6 n6 c6, .int .i64 t] 38 (0, 0)) := by rw [hw8]; exact heap_setCell_same _ _ 1 _ _ _ (heap_setCell_same _ _ 0 _ _ _ E7.out)
        have s8 := a8.size
        have HL8 := hid (((HL5.out.below B6.out).below b7).apart a8 (fun b hb => by rw [hb]; exact hno) (fun g hg hs => by have := (HL.out.base g hg).2.1; omega))
        have HPx : Hid (PtT w8 [.bool (decide (c < 0)), .slice p6 n6 c6, .int .i64 t] (c, t)) := hid ⟨_, rfl, i7.quiet a8 (fun b hb => by rw [hb]; exact hno), Hwx.out⟩
        have HB8 := hid ((lnGo b7 (lnGo B6.out HB5.out)).trans (a8.below (B := w.heap.size) (by have := HB5.out.size; omega) (fun i hi => by rw [hi]; exact hsr)))
        clear b7 i7 a8 hno
        go_upto_region 7 with fail
        rw [← hw8]
        clear hw8 fz0 fz1 t0 t1 t2
        obtain ⟨t0, t1, t2⟩ := lnCells3 e8
        obtain ⟨a5, ha5⟩ : ∃ W', W' = w8.alloc (.cells #[.bool (decide (c < 0)), .slice p6 n6 c6, .int .i64 t] 38) := ⟨_, rfl⟩
        have ba5 : Below w8.heap.size w8 a5 := by rw [ha5]; exact below1 _ _
        have ea5 : a5.heap[w8.heap.size]? = some (.cells #[.bool (decide (c < 0)), .slice p6 n6 c6, .int .i64 t] 38 (0, 0)) := by rw [ha5, ← show w8.heap.size = w8.heap.size by omega]; exact heap_alloc_new _ _
        have za5 : a5.heap.size = w8.heap.size + 1 := by rw [ha5, size_alloc]
        have hl5 := HL8.out.below ba5
        obtain ⟨xs5, hrow5, hgo5⟩ := hl5.row
        have Hrow5 := hid hrow5
        have Hgo5 := hid hgo5
        have Hpt5 := hid (HPx.out.below ba5)
        have hnews5 : ∀ j u, ([.bool (decide (c < 0)), .slice p6 n6 c6, .int .i64 t] : List Value)[j]? = some u → a5.cell? ((⟨w8.heap.size, 0, none⟩ : Addr).add j) = some u := by
          intro j u hj
          rw [Go.WideShapes.add_plain, Nat.zero_add, cell_of_row _ _ _ _ _ _ ea5]
          simpa using hj
        have hll5 : (qs).length ≤ 4000000 := by omega
        have Ba5 := hid ba5
        clear hrow5 hgo5 ea5 hl5 ba5
        go_wp2_with (at_builtin; rw [← ha5]; refine wpList_append_w rfl _ _ 22 rfl B 38 i0 _ 3 40 Tryz.underlying22 hij hz0 hz1 hz2 rfl (by decide) (by intro n h; simp [Value.cells] at h) _ (qs).length xs5 rfl Hrow5.out ⟨w8.heap.size, 0, none⟩ 1 1 [.bool (decide (c < 0)), .slice p6 n6 c6, .int .i64 t] rfl rfl hnews5 (by intro u hu; simp at hu; rcases hu with rfl | rfl | rfl <;> rfl) (by intro n h; simp at h) (by simp [maxLen]; omega) (by omega) (by omega) ?_; intro v5 w5 ho5 hg5)
        have HLn5 := hid (Hgo5.out _ _ _ _ ho5 hg5 rfl Hpt5.out)
        have HBn5 : Hid (Below w.heap.size w w5) := hid ((lnGo Ba5.out HB8.out).grown hg5 (by have := (lnGo Ba5.out HB8.out).size; omega) (fun g hg => by have := (World.ownsRow.lt Hrow5.out.1 g hg).1; omega))
        go_roundw
        case rel => exact ⟨k + 1, qs ++ [(c, t)], by omega, by go_num, (by rw [List.length_append]; exact Nat.succ_le_succ hqk), hid (by rw [Hnext.out, if_neg hc0]), HLn5, HBn5⟩
        case measure => simp [intOf] <;> omega
    · obtain rfl : k = L := by omega
      have hfin : l.take k = l := by rw [HLL.out, List.take_length]
      have hst := HSt.out
      rw [hfin] at hst
      have HLF : Hid (PtsT wr (.slice pvo qs.length cvo) (lnClean l)) := hid (by rw [← hst]; exact HL.out.pts)
      clear hst
      go_wp2_with fail
      go_ret
      exact ⟨_, rfl, HLF.out, HB.out⟩
end Go.Proofs.YtjfehknilofdjaaGreat
/- lengths and sizes of what put has put together so far (pure) -/
namespace Go.Proofs.YtjfehknilofdjaaGreat
open Go.RowKit Big

theorem lnPutLen (p : Int × Int) : ∀ l, (lnPut l p).length ≤ l.length + 1
  | [] => by simp [lnPut]
  | x :: l => by
    have ih := lnPutLen p l
    unfold lnPut
    split
    · simp
    · split
      · simp
      · simp only [List.length_cons]; omega
theorem lnAllLen : ∀ (ps l : List (Int × Int)), (ps.foldl lnPut l).length ≤ l.length + ps.length
  | [], l => by simp
  | p :: ps, l => by
    rw [List.foldl_cons]
    have := lnAllLen ps (lnPut l p)
    have := lnPutLen p l
    simp only [List.length_cons]
    omega
theorem lnUp_cf : ∀ (l : List (Int × Int)), lnUp l → ∀ p ∈ l, lnCf l p.2 = p.1
  | [], _, p, hp => by cases hp
  | x :: l, h, p, hp => by
    rcases List.mem_cons.1 hp with rfl | hp
    · exact lnCf_head h
    · obtain ⟨h1, h2⟩ := List.pairwise_cons.1 h
      have hx := h1 p hp
      have ih := lnUp_cf l h2 p hp
      have e : lnCf (x :: l) p.2 = lnCf [x] p.2 + lnCf l p.2 := lnCf_append [x] l p.2
      rw [e, ih, lnCf_none (l := [x]) (by intro q hq; rw [List.mem_singleton.1 hq]; omega)]
      omega
/-- the sizes of what has been put together so far -/
theorem lnAllSz {N : Nat} (hN : 1 ≤ N) {ps : List (Int × Int)} (h : ∀ p ∈ ps, sz W p.1.natAbs ≤ N) : ∀ p ∈ ps.foldl lnPut [], sz W p.1.natAbs ≤ N + ps.length := by
  intro p hp
  have hu : lnUp (ps.foldl lnPut []) := lnAll_up ps [] List.Pairwise.nil
  have e := lnUp_cf _ hu p hp
  rw [lnAll_cf] at e
  have e0 : lnCf [] p.2 = 0 := rfl
  rw [e0, Int.zero_add] at e
  rw [← e]
  exact lnCf_sz hN p.2 ps h
end Go.Proofs.YtjfehknilofdjaaGreat
/- elenchusref06.Add. -/
namespace Go.Proofs.YtjfehknilofdjaaGreat
open Go.RowKit Big

/-- what put has put together of two lists so far -/
def lnUpTo (a b : List (Int × Int)) (m : Nat) : List (Int × Int) := (a ++ b.take m).foldl lnPut []
def lnP (l : List (Int × Int)) : SFact := ⟨fun v w => ∃ p n c, v = .slice p n c ∧ PtsT w v l, fun _ _ _ ⟨p, n, c, h1, h2⟩ hb => ⟨p, n, c, h1, h2.below hb⟩⟩
def lnS8 (X : List (Int × Int) × Int) : SFact := ⟨fun v w => ∃ p n c q k d, v = .agg #[.slice p n c, .bool (decide (X.2 < 0)), .slice q k d] ∧ LnT w v X, fun _ _ _ ⟨p, n, c, q, k, d, h1, h2⟩ hb => ⟨p, n, c, q, k, d, h1, h2.below hb⟩⟩

set_option maxRecDepth 100000 in
set_option maxHeartbeats 6400000 in
theorem RAdd_lin (va vb : Value) (a b : List (Int × Int) × Int) (w : World) {N : Nat} (hN : 1 ≤ N) (ha : LnR w va a) (hb : LnR w vb b) (sa : LnSz N a) (sb : LnSz N b) (hl : N + (a.1.length + b.1.length) ≤ 1000000) :
    Calls Tryz.prog 8 #[va, vb] w (RLin (lnSum (a.1 ++ b.1), a.2 + b.2) w) := by
  obtain ⟨p0, n0, c0, b0, q0, k0, d0, rfl⟩ := ha.agg3
  obtain ⟨p1, n1, c1, b1, q1, k1, d1, rfl⟩ := hb.agg3
  have HA := hid ha; have HB := hid hb; have SA := hid sa; have SB := hid sb; have HL := hid hl
  clear ha hb sa sb hl
  go_enter Tryz.func8, Tryz.ntmps8
  go_wp2_with fail
  obtain ⟨W3, hW⟩ : ∃ W3, W3 = ((w.alloc (.cells #[.slice p0 n0 c0, .bool b0, .slice q0 k0 d0] 28)).alloc (.cells #[.slice p1 n1 c1, .bool b1, .slice q1 k1 d1] 28)).alloc (.cells #[.slice none 0 0, .bool false, .slice none 0 0] 28) := ⟨_, rfl⟩
  rw [← hW]
  have hb3 : Below w.heap.size w W3 := by rw [hW]; exact ((below1 _ _).alloc (by simp) _).alloc (by simp; omega) _
  have z3 : W3.heap.size = w.heap.size + 3 := by rw [hW]; simp
  have e0 : W3.heap[w.heap.size]? = some (.cells #[.slice p0 n0 c0, .bool b0, .slice q0 k0 d0] 28 (0, 0)) := by rw [hW, heap_alloc_old _ _ (by simp; omega), heap_alloc_old _ _ (by simp)]; exact heap_alloc_new _ _
  have e1 : W3.heap[w.heap.size + 1]? = some (.cells #[.slice p1 n1 c1, .bool b1, .slice q1 k1 d1] 28 (0, 0)) := by
    rw [hW, heap_alloc_old _ _ (by simp)]
    have := heap_alloc_new (w.alloc (.cells #[.slice p0 n0 c0, .bool b0, .slice q0 k0 d0] 28)) (.cells #[.slice p1 n1 c1, .bool b1, .slice q1 k1 d1] 28)
    rwa [size_alloc] at this
  have e2 : W3.heap[w.heap.size + 1 + 1]? = some (.cells #[.slice none 0 0, .bool false, .slice none 0 0] 28 (0, 0)) := by
    have := heap_alloc_new ((w.alloc (.cells #[.slice p0 n0 c0, .bool b0, .slice q0 k0 d0] 28)).alloc (.cells #[.slice p1 n1 c1, .bool b1, .slice q1 k1 d1] 28)) (.cells #[.slice none 0 0, .bool false, .slice none 0 0] 28)
    rw [size_alloc, size_alloc] at this
    rw [hW]; exact this
  clear hW
  have H3 := hid hb3; have E0 := hid e0; have E1 := hid e1; have E2 := hid e2; have Z3 := hid z3
  clear e0 e1 e2
  obtain ⟨x0, x1, x2⟩ := lnCells3 E0.out
  obtain ⟨LA, hLA⟩ : ∃ LA, LA = a.1.length := ⟨_, rfl⟩
  have HLA := hid hLA
  have hLN : LA ≤ 1000000 := by rw [hLA]; have := HL.out; omega
  have HPa : Hid (PtsR W3 (.slice p0 n0 c0) a.1) := hid (by obtain ⟨pv, n, s, e, h1, h2⟩ := HA.out; injection e with e; simp at e; obtain ⟨rfl, -⟩ := e; exact h1.below H3.out)
  obtain ⟨p0', c0', e0, j1, j2, -, j4⟩ := HPa.out
  injection e0 with g1 g2 g3
  subst g1 g2 g3
  have J4 := hid j4
  rw [← hLA] at j1 x0 ⊢
  clear hLA j4
  have HUp := hid (fun ps => lnAll_up ps [] List.Pairwise.nil)
  have HSz := hid (fun (ps : List (Int × Int)) (h : ∀ p ∈ ps, sz W p.1.natAbs ≤ N) => lnAllSz hN h)
  have HLen := hid (fun ps => lnAllLen ps [])
  go_upto_region 2 with fail
  go_loopw [5, 13] (fun vo i wr => ∃ k : Nat, k ≤ LA ∧ i = .int .i64 (k : Nat) ∧ Hid (PtsR wr vo ((a.1.take k).foldl lnPut [])) ∧ Hid (Below W3.heap.size W3 wr)) (fun _ i _ => LA - (intOf i).toNat)
  case atStart => exact ⟨0, Nat.zero_le _, rfl, hid (LsV.nil W3.heap.size W3).pts, hid (Below.refl _ _)⟩
  case round =>
    obtain ⟨k, hk, rfl, HC, HBw⟩ := hrel
    by_cases hlt : k < LA
    · have hkt : k < a.1.length := by rw [← HLA.out]; exact hlt
      have hlt' : (k : Int) < (LA : Int) := by omega
      obtain ⟨b', o', rfl, hb', hc⟩ := J4.out (by omega)
      obtain ⟨cs, kk0, dx, s, ecs, hraw, hwf⟩ := hc k hkt
      have hsh := hraw.agg2
      obtain ⟨d', qx, nx, cx', e2⟩ := hsh
      obtain ⟨rfl, rfl⟩ : s = .slice qx nx cx' ∧ dx = d' := by
        injection e2 with e2
        simpa [and_comm] using e2
      clear e2
      subst ecs
      have y0 := (HBw.out.cell (p := ⟨b', o' + k * 3, none⟩) hb').trans (kk0 0 _ rfl)
      have y1 := (HBw.out.cell (p := ⟨b', o' + k * 3 + 1, none⟩) hb').trans (kk0 1 _ rfl)
      have y2 := (HBw.out.cell (p := ⟨b', o' + k * 3 + 2, none⟩) hb').trans (kk0 2 _ rfl)
      have Hnext : Hid ((a.1.take (k + 1)).foldl lnPut [] = lnPut ((a.1.take k).foldl lnPut []) (a.1[k].1, a.1[k].2)) := hid (by rw [List.take_succ_eq_append_getElem hkt, List.foldl_append]; rfl)
      have hsx := SA.out.1 a.1[k] (List.getElem_mem hkt)
      have hraw := hraw.below HBw.out
      have Hwx := hid hwf
      generalize a.1[k].1 = c at *
      generalize a.1[k].2 = t at *
      clear kk0 hc hwf
      obtain ⟨W5, hW5⟩ : ∃ W5, W5 = wr.alloc (.cells #[.bool dx, .slice qx nx cx', .int .i64 t] 38) := ⟨_, rfl⟩
      have b5 : Below wr.heap.size wr W5 := by rw [hW5]; exact below1 wr _
      have e5 : W5.heap[wr.heap.size]? = some (.cells #[.bool dx, .slice qx nx cx', .int .i64 t] 38 (0, 0)) := by rw [hW5]; exact heap_alloc_new wr _
      obtain ⟨t0, t1, t2⟩ := lnCells3 e5
      have HB5 := hid (lnGo b5 HBw.out)
      have hLAe := HLA.out
      have hlN := HL.out
      have hlk : (a.1.take k).length ≤ LA := by rw [List.length_take]; omega
      have HPut := hid (put_any _ ((a.1.take k).foldl lnPut []) dx qx nx cx' c t W5 (HC.out.below b5) (HUp.out _) (hraw.below b5) Hwx.out
        (fun p hp => Nat.le_trans (HSz.out _ (fun q hq => SA.out.1 q (List.mem_of_mem_take hq)) p hp) (by have := HL.out; omega)) (by have := HL.out; omega)
        (Nat.le_trans (HLen.out _) (by have := HL.out; simp; omega)))
      have hshc := HC.out
      obtain ⟨pc, cc, rfl, -⟩ := hshc
      clear b5 e5 hraw HC hLAe hlN hlk hsx
      go_upto_region 5 with fail
      rw [← hW5]
      clear hW5 y0 y1 y2
      go_wp2_with fail
      refine HPut.out.mono ?_
      rintro e w6 ⟨v6, rfl, i6, b6⟩
      go_wp2_with fail
      go_roundw
      case rel => exact ⟨k + 1, by omega, by go_num, hid (by rw [Hnext.out]; exact i6), hid (lnGo b6 HB5.out)⟩
      case measure => simp [intOf] <;> omega
    · obtain rfl : k = LA := by omega
      have hfin : (a.1.take k).foldl lnPut [] = a.1.foldl lnPut [] := by rw [HLA.out, List.take_length]
      have HC0 := HC.out
      rw [hfin] at HC0
      have HC1 : Hid (PtsR wr _ (lnUpTo a.1 b.1 0)) := hid (by unfold lnUpTo; rw [List.take_zero, List.append_nil]; exact HC0)
      clear HC HC0 hfin
      obtain ⟨LB, hLB⟩ : ∃ LB, LB = b.1.length := ⟨_, rfl⟩
      have HLB := hid hLB
      have hLN2 : LB ≤ 1000000 := by rw [hLB]; have := HL.out; omega
      have HPb : Hid (PtsR W3 (.slice p1 n1 c1) b.1) := hid (by obtain ⟨pv, n, s, e, h1, h2⟩ := HB.out; injection e with e; simp at e; obtain ⟨rfl, -⟩ := e; exact h1.below H3.out)
      obtain ⟨p1', c1', e0, j1b, j2b, -, j4b⟩ := HPb.out
      injection e0 with g1 g2 g3
      subst g1 g2 g3
      have J4b := hid j4b
      have E1' := E1.out
      rw [← hLB] at E1' j1b
      obtain ⟨z0, z1, z2⟩ := lnCells3 ((HBw.out.block (w.heap.size + 1) (by have := Z3.out; omega)).trans E1')
      have HE1 := hid E1'
      have hLB2 : b.1.length = LB := hLB.symm
      clear hLB j4b E1' x0 x1 x2
      rw [hLB2]
      clear hLB2
      go_wp2_with fail
      clear z0 z1 z2
      go_loopw [5, 24] (fun vo i wr => ∃ k : Nat, k ≤ LB ∧ i = .int .i64 (k : Nat) ∧ Hid (PtsR wr vo (lnUpTo a.1 b.1 k)) ∧ Hid (Below W3.heap.size W3 wr)) (fun _ i _ => LB - (intOf i).toNat)
      case atStart => exact ⟨0, Nat.zero_le _, rfl, HC1, HBw⟩
      case round =>
        obtain ⟨m, hm, rfl, HC, HBw⟩ := hrel
        by_cases hlt : m < LB
        · have hkt : m < b.1.length := by rw [← HLB.out]; exact hlt
          have hlt' : (m : Int) < (LB : Int) := by omega
          obtain ⟨b', o', rfl, hb', hc⟩ := J4b.out (by have := HLB.out; omega)
          obtain ⟨cs, kk0, dx, s, ecs, hraw, hwf⟩ := hc m hkt
          have hsh := hraw.agg2
          obtain ⟨d', qx, nx, cx', e2⟩ := hsh
          obtain ⟨rfl, rfl⟩ : s = .slice qx nx cx' ∧ dx = d' := by
            injection e2 with e2
            simpa [and_comm] using e2
          clear e2
          subst ecs
          have y0 := (HBw.out.cell (p := ⟨b', o' + m * 3, none⟩) hb').trans (kk0 0 _ rfl)
          have y1 := (HBw.out.cell (p := ⟨b', o' + m * 3 + 1, none⟩) hb').trans (kk0 1 _ rfl)
          have y2 := (HBw.out.cell (p := ⟨b', o' + m * 3 + 2, none⟩) hb').trans (kk0 2 _ rfl)
          have Hnext : Hid (lnUpTo a.1 b.1 (m + 1) = lnPut (lnUpTo a.1 b.1 m) (b.1[m].1, b.1[m].2)) := hid (by unfold lnUpTo; rw [List.take_succ_eq_append_getElem hkt, ← List.append_assoc, List.foldl_append]; rfl)
          have hsx := SB.out.1 b.1[m] (List.getElem_mem hkt)
          have hraw := hraw.below HBw.out
          have Hwx := hid hwf
          generalize b.1[m].1 = c at *
          generalize b.1[m].2 = t at *
          clear kk0 hc hwf
          obtain ⟨W5, hW5⟩ : ∃ W5, W5 = wr.alloc (.cells #[.bool dx, .slice qx nx cx', .int .i64 t] 38) := ⟨_, rfl⟩
          have b5 : Below wr.heap.size wr W5 := by rw [hW5]; exact below1 wr _
          have e5 : W5.heap[wr.heap.size]? = some (.cells #[.bool dx, .slice qx nx cx', .int .i64 t] 38 (0, 0)) := by rw [hW5]; exact heap_alloc_new wr _
          obtain ⟨t0, t1, t2⟩ := lnCells3 e5
          have HB5 := hid (lnGo b5 HBw.out)
          have hLAe := HLA.out
          have hLBe := HLB.out
          have hlN := HL.out
          have hlk : (a.1 ++ b.1.take m).length ≤ k + LB := by rw [List.length_append, List.length_take]; omega
          have HPut := hid (put_any _ (lnUpTo a.1 b.1 m) dx qx nx cx' c t W5 (HC.out.below b5) (HUp.out _) (hraw.below b5) Hwx.out
            (fun p hp => Nat.le_trans (HSz.out _ (fun q hq => (List.mem_append.1 hq).elim (fun h => SA.out.1 q h) (fun h => SB.out.1 q (List.mem_of_mem_take h))) p hp) (by have := HL.out; omega)) (by have := HL.out; omega)
            (Nat.le_trans (HLen.out _) (by have := HL.out; simp; omega)))
          have hshc := HC.out
          obtain ⟨pc, cc, rfl, -⟩ := hshc
          clear b5 e5 hraw HC hLAe hLBe hlN hlk hsx
          go_upto_region 10 with fail
          rw [← hW5]
          clear hW5 y0 y1 y2
          go_wp2_with fail
          refine HPut.out.mono ?_
          rintro e w6 ⟨v6, rfl, i6, b6⟩
          go_wp2_with fail
          go_roundw
          case rel => exact ⟨m + 1, by omega, by go_num, hid (by rw [Hnext.out]; exact i6), hid (lnGo b6 HB5.out)⟩
          case measure => simp [intOf] <;> omega
        · obtain rfl : m = LB := by omega
          have hfin : lnUpTo a.1 b.1 m = (a.1 ++ b.1).foldl lnPut [] := by unfold lnUpTo; rw [HLB.out, List.take_length]
          obtain ⟨pv, cv, hsv, -⟩ := id HC.out
          obtain ⟨nv, hnv⟩ : ∃ nv, nv = (lnUpTo a.1 b.1 m).length := ⟨_, rfl⟩
          rw [← hnv] at hsv
          subst hsv
          have HC0 := HC.out
          rw [hfin] at HC0
          clear hnv
          have HCl := hid (fun W' (hw : Below wr.heap.size wr W') => clean_any _ _ W' (HC0.below hw) (Nat.le_trans (lnAllLen _ _) (by have := HL.out; simp; omega)))
          have hE0 := (HBw.out.block w.heap.size (by have := Z3.out; omega)).trans E0.out
          have hE1 := (HBw.out.block (w.heap.size + 1) (by have := Z3.out; omega)).trans E1.out
          have hE2 := (HBw.out.block (w.heap.size + 1 + 1) (by have := Z3.out; omega)).trans E2.out
          have HBC : Hid (∀ w', Below wr.heap.size wr w' → (w'.cell? ⟨w.heap.size, 1, none⟩ = some (.bool b0) ∧ w'.cell? ⟨w.heap.size, 2, none⟩ = some (.slice q0 k0 d0)) ∧ (w'.cell? ⟨w.heap.size + 1, 1, none⟩ = some (.bool b1) ∧ w'.cell? ⟨w.heap.size + 1, 2, none⟩ = some (.slice q1 k1 d1)) ∧ w'.heap[w.heap.size + 1 + 1]? = some (.cells #[.slice none 0 0, .bool false, .slice none 0 0] 28 (0, 0))) := hid (fun w' hw => by
            have f0 := (hw.block w.heap.size (Array.getElem?_eq_some_iff.1 hE0).1).trans hE0
            have f1 := (hw.block (w.heap.size + 1) (Array.getElem?_eq_some_iff.1 hE1).1).trans hE1
            have f2 := (hw.block (w.heap.size + 1 + 1) (Array.getElem?_eq_some_iff.1 hE2).1).trans hE2
            exact ⟨(lnCells3 f0).2, (lnCells3 f1).2, f2⟩)
          have HRa : Hid (RawAt w (.agg #[.bool b0, .slice q0 k0 d0]) a.2) := hid (by obtain ⟨pv, n, s, e, h1, h2⟩ := HA.out; injection e with e; simp at e; obtain ⟨-, rfl, rfl⟩ := e; exact h2)
          have HRb : Hid (RawAt w (.agg #[.bool b1, .slice q1 k1 d1]) b.2) := hid (by obtain ⟨pv, n, s, e, h1, h2⟩ := HB.out; injection e with e; simp at e; obtain ⟨-, rfl, rfl⟩ := e; exact h2)
          have HBw0 := hid (lnGo HBw.out H3.out)
          have Hz3 := hid (show wr.heap.size ≥ w.heap.size + 3 by have := Z3.out; have := HBw.out.size; omega)
          have HSm : Hid (lnClean ((a.1 ++ b.1).foldl lnPut []) = lnSum (a.1 ++ b.1)) := hid rfl
          rw [HSm.out] at HCl
          clear hfin HC HC0 hE0 hE1 hE2 HSm hlt hk hm HPb J4b J4 HPa
          have HCl2 := hid HCl
          have HBC2 := hid HBC
          clear HCl HBC
          go_upto_region 12 with fail
          refine wp_region_facts (w0 := wr) 8 1 [32, 33, 34, 35, 36, 37, 38, 39] [undef, undef, undef, undef, undef, undef, undef, undef]
            (fun i => match i with | 0 => lnE (.slice pv nv cv) | 1 => lnP (lnSum (a.1 ++ b.1)) | 2 => lnE (.pointer (some ⟨w.heap.size, 1, none⟩)) | 3 => lnE (.agg #[.bool b0, .slice q0 k0 d0]) | 4 => lnE (.pointer (some ⟨w.heap.size + 1, 1, none⟩)) | 5 => lnE (.agg #[.bool b1, .slice q1 k1 d1]) | 6 => lnI (a.2 + b.2) | _ => lnS8 (lnSum (a.1 ++ b.1), a.2 + b.2)) [] (by kernel_rfl) (by kernel_rfl) (by kernel_rfl) (by kernel_rfl) (by decide) rfl (by kernel_rfl) rfl (by simp) ?he1 ?_ ?_ ?_
          case he1 => simp only [putAll, Act.put, List.setIfInBounds_toArray, List.set_cons_zero, List.set_cons_succ]
          · intro i hi; simp at hi
          · intro i o hi ho vs wx hvl hb hdep K hK
            have hvs := vlen8 hvl
            obtain ⟨s32, s33, s34, s35, s36, s37, s38, s39, rfl⟩ := hvs
            clear hvl
            have hk5 := HBC2.out.out wx hb
            obtain ⟨⟨y0, y1⟩, ⟨y2, y3⟩, y4⟩ := hk5
            have hBw := lnGo hb HBw0.out
            rcases i with _ | _ | _ | _ | _ | _ | _ | _ | i
            all_goals (simp only [List.getElem?_toArray, List.getElem?_cons_zero, List.getElem?_cons_succ, Option.some.injEq] at ho)
            all_goals try (subst ho)
            all_goals try simp only [putAll, Act.put, List.setIfInBounds_toArray, List.set_cons_zero, List.set_cons_succ]
            · go_simp
              have hK' := hK.out
              simp only [putAll, Act.put, List.setIfInBounds_toArray, List.set_cons_zero, List.set_cons_succ] at hK'
              exact hK' _ _ rfl (Below.refl _ _) (by simp)
            · have e0 : s32 = _ := hdep ⟨0, .data⟩ (by simp) rfl
              have e0 := e0.symm
              subst e0
              go_simp
              go_simp
              refine (HCl2.out.out wx hb).mono ?_
              rintro e wy ⟨vy, rfl, iy, hby⟩
              have hsh := iy
              obtain ⟨p5, c5, rfl, -⟩ := hsh
              go_wp2_with fail
              have hK' := hK.out
              simp only [putAll, Act.put, List.setIfInBounds_toArray, List.set_cons_zero, List.set_cons_succ] at hK'
              exact hK' _ _ ⟨_, _, _, rfl, iy⟩ hby (by simp)
            · go_simp
              have hK' := hK.out
              simp only [putAll, Act.put, List.setIfInBounds_toArray, List.set_cons_zero, List.set_cons_succ] at hK'
              exact hK' _ _ rfl (Below.refl _ _) (by simp)
            · have e2 : s34 = _ := hdep ⟨2, .data⟩ (by simp) rfl
              have e2 := e2.symm
              subst e2
              go_simp
              have hK' := hK.out
              simp only [putAll, Act.put, List.setIfInBounds_toArray, List.set_cons_zero, List.set_cons_succ] at hK'
              exact hK' _ _ rfl (Below.refl _ _) (by simp)
            · go_simp
              have hK' := hK.out
              simp only [putAll, Act.put, List.setIfInBounds_toArray, List.set_cons_zero, List.set_cons_succ] at hK'
              exact hK' _ _ rfl (Below.refl _ _) (by simp)
            · have e4 : s36 = _ := hdep ⟨4, .data⟩ (by simp) rfl
              have e4 := e4.symm
              subst e4
              go_simp
              have hK' := hK.out
              simp only [putAll, Act.put, List.setIfInBounds_toArray, List.set_cons_zero, List.set_cons_succ] at hK'
              exact hK' _ _ rfl (Below.refl _ _) (by simp)
            · have e3 : s35 = _ := hdep ⟨3, .data⟩ (by simp) rfl
              have e3 := e3.symm
              subst e3
              have e5 : s37 = _ := hdep ⟨5, .data⟩ (by simp) rfl
              have e5 := e5.symm
              subst e5
              go_simp
              go_simp
              refine (RAdd_any _ _ a.2 b.2 wx (HRa.out.below hBw) (HRb.out.below hBw)).mono ?_
              rintro e wy ⟨vy, rfl, iy, hby⟩
              have hsh := iy.shape
              obtain ⟨p5, n5, c5, rfl, iy⟩ := hsh
              go_wp2_with fail
              have hK' := hK.out
              simp only [putAll, Act.put, List.setIfInBounds_toArray, List.set_cons_zero, List.set_cons_succ] at hK'
              exact hK' _ _ ⟨_, _, _, _, rfl, iy⟩ hby (by simp)
            · have e1 : (lnP (lnSum (a.1 ++ b.1))).P s33 wx := hdep ⟨1, .data⟩ (by simp) rfl
              have e6 : (lnI (a.2 + b.2)).P s38 wx := hdep ⟨6, .data⟩ (by simp) rfl
              obtain ⟨p5, n5, c5, rfl, i5⟩ := e1
              obtain ⟨d6, p6, n6, c6, rfl, i6⟩ := e6
              obtain ⟨s6, e6', i6'⟩ := id i6
              obtain ⟨rfl, rfl⟩ : d6 = decide (a.2 + b.2 < 0) ∧ s6 = .slice p6 n6 c6 := by injection e6' with e6'; simp at e6'; exact ⟨e6'.1, e6'.2.symm⟩
              clear e6'
              go_simp
              go_simp
              have hK' := hK.out
              simp only [putAll, Act.put, List.setIfInBounds_toArray, List.set_cons_zero, List.set_cons_succ] at hK'
              exact hK' _ _ ⟨_, _, _, _, _, _, rfl, ⟨_, _, rfl, i5, i6⟩⟩ (Below.refl _ _) (by simp)
            · omega
          · intro vs wx hvl hb hf hdist
            have hvs := vlen8 hvl
            obtain ⟨s32, s33, s34, s35, s36, s37, s38, s39, rfl⟩ := hvs
            have f7 : (lnS8 (lnSum (a.1 ++ b.1), a.2 + b.2)).P s39 wx := hf 7 (by decide)
            obtain ⟨pA, nA, cA, qA, kA, dA, e1, T1⟩ := f7
            subst e1
            have hgb := (HBC2.out.out _ hb).2.2
            have hBw := lnGo hb HBw0.out
            clear hf hvl hdist
            obtain ⟨x0, x1, x2⟩ := lnCells3 hgb
            have fz0 := frozen_of_row wx (w.heap.size + 1 + 1) 0 _ _ hgb
            have fz1 := frozen_of_row wx (w.heap.size + 1 + 1) 1 _ _ hgb
            have fz2 := frozen_of_row wx (w.heap.size + 1 + 1) 2 _ _ hgb
            have HT7 := hid (T1.quiet (st3_apart wx (w.heap.size + 1 + 1) (.slice pA nA cA) (.bool (decide (a.2 + b.2 < 0))) (.slice qA kA dA)) (fun b hb => by rw [hb]; exact NoInt.cells hgb (by simp)))
            have HB7 := hid (st3_below (v0 := .slice pA nA cA) (v1 := .bool (decide (a.2 + b.2 < 0))) (v2 := .slice qA kA dA) (g := w.heap.size + 1 + 1) hBw (by omega))
            clear T1
            refine wpAny_one (i := 8) (by kernel_rfl) rfl ?_
            intro K hK
            simp only [putAll, Act.put, List.setIfInBounds_toArray, List.set_cons_zero, List.set_cons_succ]
            have hK' := hK.out
            go_simp
            apply hK'
            clear hK hK'
            refine wpAny_done (by kernel_rfl) ?_ _
            try simp only [Act.put, List.setIfInBounds_toArray, List.set_cons_zero, List.set_cons_succ]
            go_wp2
            exact bodyPost_ret (v := .agg #[.slice pA nA cA, .bool (decide (a.2 + b.2 < 0)), .slice qA kA dA]) (by simp [results, Tryz.results8, go_sem, x0, x1, x2]) rfl ⟨_, rfl, HT7.out, HB7.out⟩
end Go.Proofs.YtjfehknilofdjaaGreat
