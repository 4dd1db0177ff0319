/- Texts put together: LnMem, AtText0, LnSmall, LnTake, LnIs, ShelfK, LnSorted, LnSum, LnAdd, LnCommon, LnTight, LnPush, AtMem, AtReady, AtPush. -/
import Derived.Test.YtnfohbpgnbfmeaaGreatDoorAtomsMeansCardM3
import Derived.Maps.OwnSet
import Derived.Lib.SlKeysI
import Derived.Maps.AppendAt
import Derived.Deep.DeepCutAuto
import Derived.Deep.RegionHeld3
import Derived.Ground.GgzProg
import Derived.Shelf.SlIterI.Nil
import Derived.DeepKeys4
/- Parts and sums in memory (layer 6): how they read; the map of numbers by term, and what stays where no words lie. -/
namespace Go.Proofs.YtnfohbpgnbfmeaaGreatDoor
open Go.RowKit Big

/-! ### where no words lie -/
def NoWd (w : World) (b : Nat) : Prop := ∀ j n, w.cell? ⟨b, j, none⟩ ≠ some (.int .u64 n)
theorem At.quiet {w w' : World} {v : Value} {l : List Nat} {S : Nat → Prop} (h : At w .u64 v l) (ha : Apart S w w') (hS : ∀ b, S b → NoWd w b) : At w' .u64 v l := by
  obtain ⟨p, cap, rfl, h1, h2, h3, h4⟩ := h
  refine ⟨p, cap, rfl, h1, h2, h3, fun hp => ?_⟩
  obtain ⟨b, off, h5, h6, h7⟩ := h4 hp
  have hn : ¬ S b := fun hs => hS b hs _ _ (h7 0 hp)
  refine ⟨b, off, h5, Nat.lt_of_lt_of_le h6 ha.size, fun i hi => ?_⟩
  rw [← h7 i hi]
  exact World.cell?_of_block (w := w) (ha.block b h6 hn)
theorem IntAt.quiet {w w' : World} {v : Value} {z : Int} {S : Nat → Prop} (h : IntAt w v z) (ha : Apart S w w') (hS : ∀ b, S b → NoWd w b) : IntAt w' v z := by
  obtain ⟨s, e, h⟩ := h
  exact ⟨s, e, h.quiet ha hS⟩
theorem RawAt.quiet {w w' : World} {v : Value} {z : Int} {S : Nat → Prop} (h : RawAt w v z) (ha : Apart S w w') (hS : ∀ b, S b → NoWd w b) : RawAt w' v z := by
  obtain ⟨neg, s, l, e, h, r⟩ := h
  exact ⟨neg, s, l, e, h.quiet ha hS, r⟩
theorem NoWd.map {w : World} {b : Nat} {es : Array MapEntry} {c : Nat} (h : w.heap[b]? = some (.map es c)) : NoWd w b := by
  intro j n hc
  simp [World.cell?, h] at hc
theorem NoWd.cells {w : World} {b : Nat} {cs : Array Value} {T : TypeId} (h : w.heap[b]? = some (.cells cs T (0, 0))) (hc : ∀ n, .int .u64 n ∉ cs) : NoWd w b := by
  intro j n e
  rw [cell_of_row w b j cs T (0, 0) h] at e
  exact hc n (Array.mem_of_getElem? e)
theorem IntAt.rawL {w : World} {v : Value} {z : Int} (h : IntAt w v z) (hs : sz W z.natAbs ≤ 1099511627776) : RawAt w v z := by
  obtain ⟨s, rfl, h⟩ := h
  refine ⟨_, s, _, rfl, h, small_dig W2 _, hs, ?_⟩
  rw [val_dig W2]
  unfold sg
  by_cases e : z < 0
  · simp only [e, decide_true, if_true]; omega
  · simp only [e, decide_false, Bool.false_eq_true, if_false]; omega

/-! ### parts and sums -/
def wfI (t : Int) : Prop := (Lit.int .i64 t).wf = true
/-- a part as it is handed in -/
def PtR (w : World) (c : List Value) (p : Int × Int) : Prop := ∃ n s, c = [.bool n, s, .int .i64 p.2] ∧ RawAt w (.agg #[.bool n, s]) p.1 ∧ wfI p.2
theorem PtR.below {w w' : World} {c : List Value} {p : Int × Int} (h : PtR w c p) (hb : Below w.heap.size w w') : PtR w' c p := by
  obtain ⟨n, s, e, h, k⟩ := h
  exact ⟨n, s, e, h.below hb, k⟩
abbrev PtsR := LsIn 3 PtR
theorem PtsR.below {w w' : World} {v : Value} {l : List (Int × Int)} (h : PtsR w v l) (hb : Below w.heap.size w w') : PtsR w' v l := LsIn.below (Q := PtR) (fun h hb => PtR.below h hb) h hb
/-- a sum as it is handed in: three values, flat -/
def LnR (w : World) (v : Value) (a : List (Int × Int) × Int) : Prop := ∃ pv n s, v = .agg #[pv, .bool n, s] ∧ PtsR w pv a.1 ∧ RawAt w (.agg #[.bool n, s]) a.2
theorem LnR.below {w w' : World} {v : Value} {a : List (Int × Int) × Int} (h : LnR w v a) (hb : Below w.heap.size w w') : LnR w' v a := by
  obtain ⟨pv, n, s, e, h1, h2⟩ := h
  exact ⟨pv, n, s, e, h1.below hb, h2.below hb⟩
/-- a part as it is told -/
def PtT (w : World) (c : List Value) (p : Int × Int) : Prop := ∃ s, c = [.bool (decide (p.1 < 0)), s, .int .i64 p.2] ∧ IntAt w (.agg #[.bool (decide (p.1 < 0)), s]) p.1 ∧ wfI p.2
theorem PtT.below {w w' : World} {c : List Value} {p : Int × Int} (h : PtT w c p) (hb : Below w.heap.size w w') : PtT w' c p := by
  obtain ⟨s, e, h, k⟩ := h
  exact ⟨s, e, h.below hb, k⟩
abbrev PtsT := LsIn 3 PtT
theorem PtsT.below {w w' : World} {v : Value} {l : List (Int × Int)} (h : PtsT w v l) (hb : Below w.heap.size w w') : PtsT w' v l := LsIn.below (Q := PtT) (fun h hb => PtT.below h hb) h hb
def LnT (w : World) (v : Value) (a : List (Int × Int) × Int) : Prop := ∃ pv s, v = .agg #[pv, .bool (decide (a.2 < 0)), s] ∧ PtsT w pv a.1 ∧ IntAt w (.agg #[.bool (decide (a.2 < 0)), s]) a.2
theorem LnT.below {w w' : World} {v : Value} {a : List (Int × Int) × Int} (h : LnT w v a) (hb : Below w.heap.size w w') : LnT w' v a := by
  obtain ⟨pv, s, e, h1, h2⟩ := h
  exact ⟨pv, s, e, h1.below hb, h2.below hb⟩
/-- sizes: at most N words a number -/
def LnSz (N : Nat) (a : List (Int × Int) × Int) : Prop := (∀ p ∈ a.1, sz W p.1.natAbs ≤ N) ∧ sz W a.2.natAbs ≤ N
theorem PtsT.raw {w : World} {v : Value} {l : List (Int × Int)} (h : PtsT w v l) (hs : ∀ p ∈ l, sz W p.1.natAbs ≤ 1099511627776) : PtsR w v l := by
  obtain ⟨p, cap, rfl, h1, h2, h3, h4⟩ := h
  refine ⟨p, cap, rfl, h1, h2, h3, fun hp => ?_⟩
  obtain ⟨b, off, h5, h6, h7⟩ := h4 hp
  refine ⟨b, off, h5, h6, fun i hi => ?_⟩
  obtain ⟨c, k1, s, e, k2, k3⟩ := h7 i hi
  exact ⟨c, k1, _, s, e, k2.rawL (hs _ (List.getElem_mem hi)), k3⟩
theorem LnT.raw {w : World} {v : Value} {a : List (Int × Int) × Int} (h : LnT w v a) {N : Nat} (hs : LnSz N a) (hN : N ≤ 1099511627776) : LnR w v a := by
  obtain ⟨pv, s, e, h1, h2⟩ := h
  exact ⟨pv, _, s, e, h1.raw (fun p hp => Nat.le_trans (hs.1 p hp) hN), h2.rawL (Nat.le_trans hs.2 hN)⟩
/-- what a call answers: a sum -/
def RLin (a : List (Int × Int) × Int) (w : World) (e : Ending) (w' : World) : Prop := ∃ v, e = .returned v ∧ LnT w' v a ∧ Below w.heap.size w w'
/-- a sum whose parts lie in new memory -/
def LnFr (B : Nat) (v : Value) : Prop := ∃ pv b s, v = .agg #[pv, b, s] ∧ ∀ g, pv.ownBlock = some g → B ≤ g
theorem LnFr.mono {B B' : Nat} {v : Value} (h : LnFr B v) (hb : B' ≤ B) : LnFr B' v := by
  obtain ⟨pv, b, s, e, h⟩ := h
  exact ⟨pv, b, s, e, fun g hg => Nat.le_trans hb (h g hg)⟩
theorem LnFr.of {B : Nat} {pv b s b' s' : Value} (h : LnFr B (.agg #[pv, b, s])) : LnFr B (.agg #[pv, b', s']) := by
  obtain ⟨pv', b2, s2, e, h⟩ := h
  injection e with e
  simp only [Array.mk.injEq, List.cons.injEq, and_true] at e
  exact ⟨_, _, _, rfl, by rw [e.1]; exact h⟩
theorem LnFr.nil (B : Nat) (b s : Value) : LnFr B (.agg #[.slice none 0 0, b, s]) := ⟨_, _, _, rfl, fun g hg => by simp [Value.ownBlock] at hg⟩
def RLinF (a : List (Int × Int) × Int) (w : World) (e : Ending) (w' : World) : Prop := ∃ v, e = .returned v ∧ LnT w' v a ∧ Below w.heap.size w w' ∧ LnFr w.heap.size v
theorem RLinF.lin {a : List (Int × Int) × Int} {w w' : World} {e : Ending} (h : RLinF a w e w') : RLin a w e w' := by
  obtain ⟨v, h1, h2, h3, -⟩ := h
  exact ⟨v, h1, h2, h3⟩
theorem wfI_iff (t : Int) : wfI t ↔ -9223372036854775808 ≤ t ∧ t ≤ 9223372036854775807 := by
  have e : IntKind.min .i64 = -9223372036854775808 := by decide
  have e' : IntKind.max .i64 = 9223372036854775807 := by decide
  simp only [wfI, Lit.wf, e, e', Bool.and_eq_true, decide_eq_true_eq]
theorem lnCf_sz {N : Nat} (hN : 1 ≤ N) (t : Int) : ∀ (ps : List (Int × Int)), (∀ p ∈ ps, sz W p.1.natAbs ≤ N) → sz W (lnCf ps t).natAbs ≤ N + ps.length
  | [], _ => by simp [lnCf, sz_zero]
  | p :: ps, h => by
    have ih := lnCf_sz hN t ps (fun q hq => h q (by simp [hq]))
    have h0 : sz W (if p.2 = t then p.1 else 0).natAbs ≤ N + ps.length := by
      split
      · exact Nat.le_trans (h p (by simp)) (Nat.le_add_right _ _)
      · simp [sz_zero]
    simp only [lnCf, List.length_cons]
    exact Nat.le_trans (sz_mono W2 (Int.natAbs_add_le _ _)) (sz_add W2 h0 ih)
/-! ### the keys in order -/
def lnDed : List Int → List Int
  | [] => []
  | x :: l => if x ∈ lnDed l then lnDed l else x :: lnDed l
theorem lnDed_mem (t : Int) : ∀ l, t ∈ lnDed l ↔ t ∈ l
  | [] => by simp [lnDed]
  | x :: l => by
    unfold lnDed
    by_cases h : x ∈ lnDed l
    · rw [if_pos h, lnDed_mem t l, List.mem_cons]
      constructor
      · exact .inr
      · rintro (rfl | h2)
        · exact (lnDed_mem _ l).1 h
        · exact h2
    · rw [if_neg h, List.mem_cons, List.mem_cons, lnDed_mem t l]
theorem lnDed_nodup : ∀ l, (lnDed l).Nodup
  | [] => List.nodup_nil
  | x :: l => by
    unfold lnDed
    by_cases h : x ∈ lnDed l
    · rw [if_pos h]; exact lnDed_nodup l
    · rw [if_neg h]; exact List.nodup_cons.2 ⟨h, lnDed_nodup l⟩
theorem lnDed_len : ∀ l, (lnDed l).length ≤ l.length
  | [] => by simp [lnDed]
  | x :: l => by
    have := lnDed_len l
    unfold lnDed
    split
    · simp; omega
    · simp; omega
def lnKeys (ks : List Int) : List Int := (lnDed ks).mergeSort leI
theorem lnKeys_mem (ks : List Int) (t : Int) : t ∈ lnKeys ks ↔ t ∈ ks := by
  unfold lnKeys
  rw [(List.mergeSort_perm _ _).mem_iff, lnDed_mem]
theorem lnKeys_len (ks : List Int) : (lnKeys ks).length ≤ ks.length := by
  unfold lnKeys
  rw [List.length_mergeSort]
  exact lnDed_len ks
theorem lnKeys_up (ks : List Int) : (lnKeys ks).Pairwise (· < ·) := by
  have tr : ∀ a b c : Int, leI a b = true → leI b c = true → leI a c = true := fun a b c h1 h2 => by simp only [leI, decide_eq_true_eq] at *; exact Int.le_trans h1 h2
  have hto : ∀ a b : Int, (leI a b || leI b a) = true := fun a b => by simp only [leI, Bool.or_eq_true, decide_eq_true_eq]; exact Int.le_total a b
  have h1 := List.pairwise_mergeSort tr hto (lnDed ks)
  have h2 : (lnKeys ks).Nodup := ((List.mergeSort_perm _ _).nodup_iff).2 (lnDed_nodup ks)
  refine (h1.and h2).imp ?_
  rintro a b ⟨h3, h4⟩
  simp only [leI, decide_eq_true_eq] at h3
  omega

/-! ### a gathering -/
def zeroI : Value := .agg #[.bool false, .slice none 0 0]
def RV (v : Value) : Option (DataW Value × List MemPlace) := some (.held v, [])
/-- block m is a map that tells each term's number; ks: the terms that were put in -/
def MpN (w : World) (m : Nat) (ks : List Int) (cf : Int → Int) : Prop :=
  ∃ (D : DataW Value) (n : Nat), n ≤ ks.length ∧ w.ownsMap Tryz.prog 3 RV m n D ∧ (∀ t, Maps.has D (.int .i64 t) = decide (t ∈ ks)) ∧ (∀ t ∈ ks, wfI t) ∧
    ∀ t, ∃ v, D.atKey (.int .i64 t) (.held zeroI) = .held v ∧ IntAt w v (cf t)
theorem MpN.made (w : World) : MpN (w.alloc (.map #[] 0)) w.heap.size [] (fun _ => 0) :=
  ⟨.map [], 0, Nat.le_refl _, World.ownsMap_made w _ _ _, fun t => by simp [Maps.has], nofun, fun t => ⟨zeroI, by simp [DataW.atKey], IntAt.zero _⟩⟩
theorem MpN.congr {w : World} {m : Nat} {ks : List Int} {cf cf' : Int → Int} (h : MpN w m ks cf) (he : ∀ t, cf t = cf' t) : MpN w m ks cf' := by
  obtain rfl : cf = cf' := funext he
  exact h
theorem MpN.noWd {w : World} {m : Nat} {ks : List Int} {cf : Int → Int} (h : MpN w m ks cf) : NoWd w m := by
  obtain ⟨D, n, _, ⟨es, c, hb, _⟩, _⟩ := h
  exact NoWd.map hb
theorem MpN.lt {w : World} {m : Nat} {ks : List Int} {cf : Int → Int} (h : MpN w m ks cf) : m < w.heap.size := by
  obtain ⟨D, n, _, h, _⟩ := h
  exact h.lt
theorem MpN.apart {w w' : World} {m : Nat} {ks : List Int} {cf : Int → Int} (h : MpN w m ks cf) {S : Nat → Prop} (ha : Apart S w w') (hm : ¬ S m) (hS : ∀ b, S b → NoWd w b) : MpN w' m ks cf := by
  have hlt := h.lt
  obtain ⟨D, n, h1, ⟨es, c, hb, r⟩, h3, h4, h5⟩ := h
  refine ⟨D, n, h1, ⟨es, c, (ha.block m hlt hm).trans hb, r⟩, h3, h4, fun t => ?_⟩
  obtain ⟨v, e, hi⟩ := h5 t
  exact ⟨v, e, hi.quiet ha hS⟩
theorem MpN.below {w w' : World} {m : Nat} {ks : List Int} {cf : Int → Int} (h : MpN w m ks cf) (hb : Below w.heap.size w w') : MpN w' m ks cf :=
  h.apart (S := fun _ => False) (Apart.of_below hb) id nofun
theorem undI : Tryz.prog.underlying 3 = some (.int .i64) := Tryz.underlying3
theorem key_i (t : Int) (h : wfI t) : keyOf Tryz.prog 3 (.int .i64 t) = some (.int .i64 t) := Maps.keyOf_int_mk undI h
theorem zeroInt_run (w : World) : (zeroValue 35).run Tryz.prog w = .ok zeroI w := by kernel_rfl
theorem MpN.look {w : World} {m : Nat} {ks : List Int} {cf : Int → Int} (h : MpN w m ks cf) (t : Int) (ht : wfI t) :
    ∃ p n c, (Instr.lookup 105 (.map (some m)) (.int .i64 t) false).run Tryz.prog w = .ok (.agg #[.bool (decide (cf t < 0)), .slice p n c]) w ∧ IntAt w (.agg #[.bool (decide (cf t < 0)), .slice p n c]) (cf t) := by
  obtain ⟨D, n, h1, h2, h3, h4, h5⟩ := h
  obtain ⟨v, ps, hrun, hv⟩ := h2.lookup (Maps.int_keyed undI) Tryz.underlying105 (zeroInt_run w) (zd := .held zeroI) (zp := []) rfl (key_i t ht)
  obtain ⟨u, e, hi⟩ := h5 t
  rw [e] at hv
  unfold RV at hv
  simp only [Option.some.injEq, Prod.mk.injEq, DataW.held.injEq] at hv
  obtain ⟨rfl, -⟩ := hv
  obtain ⟨p, k, c, rfl, hi⟩ := hi.shape
  exact ⟨p, k, c, hrun, hi⟩
theorem MpN.put {w : World} {m : Nat} {ks : List Int} {cf : Int → Int} (h : MpN w m ks cf) (t : Int) (ht : wfI t) (hk : ks.length < maxLen) {v : Value} {z : Int} (hv : IntAt w v z) :
    ∃ w', (Instr.mapUpdate 105 (.map (some m)) (.int .i64 t) v).run Tryz.prog w = .ok () w' ∧ MpN w' m (ks ++ [t]) (fun u => if u = t then z else cf u) ∧ Apart (fun k => k = m) w w' := by
  have hnw := h.noWd
  obtain ⟨D, n, h1, h2, h3, h4, h5⟩ := h
  have hD := h2.isMap
  have hkl : WideAt.IsKeyLit (Lit.int .i64 t) := by simp [WideAt.IsKeyLit]
  obtain ⟨w', hrun, h6, hg⟩ := h2.update (Maps.int_keyed undI) Tryz.underlying105 (Nat.lt_of_le_of_lt h1 hk) (key_i t ht) (val := v) (d := .held v) (ps := []) rfl
  have ha : Apart (fun k => k = m) w w' := ⟨hg.os, hg.tape, hg.output, hg.size, fun i hi hn => hg.block i hi (by intro e; injection e with e; exact hn e)⟩
  refine ⟨w', hrun, ⟨_, n + 1, by simp; omega, h6, fun u => ?_, fun u hu => ?_, fun u => ?_⟩, ha⟩
  · by_cases e : u = t
    · subst e; rw [Maps.has_put_same hD hkl]; simp
    · rw [Maps.has_put_other (by intro h; injection h with _ h; exact e h), h3 u]; simp [e]
  · rcases List.mem_append.1 hu with hu | hu
    · exact h4 u hu
    · rw [List.mem_singleton.1 hu]; exact ht
  · by_cases e : u = t
    · subst e
      refine ⟨v, Maps.atKey_put_same hD hkl _ _, ?_⟩
      show IntAt w' v (if u = u then z else cf u)
      rw [if_pos rfl]
      exact hv.quiet ha (fun b hb => by rw [hb]; exact hnw)
    · obtain ⟨x, ex, hx⟩ := h5 u
      refine ⟨x, by rw [Maps.atKey_put_other (by intro h; injection h with _ h; exact e h)]; exact ex, ?_⟩
      show IntAt w' x (if u = t then z else cf u)
      rw [if_neg e]
      exact hx.quiet ha (fun b hb => by rw [hb]; exact hnw)
/-- block g holds a map and a number -/
structure GaAt (w : World) (g m : Nat) (ks : List Int) (cf : Int → Int) (r : Int) : Prop where
  ne : m ≠ g
  cells : ∃ p n c, w.heap[g]? = some (.cells #[.map (some m), .bool (decide (r < 0)), .slice p n c] 107 (0, 0)) ∧ IntAt w (.agg #[.bool (decide (r < 0)), .slice p n c]) r
  map : MpN w m ks cf
theorem GaAt.congr {w : World} {g m : Nat} {ks : List Int} {cf cf' : Int → Int} {r : Int} (h : GaAt w g m ks cf r) (he : ∀ t, cf t = cf' t) : GaAt w g m ks cf' r := ⟨h.ne, h.cells, h.map.congr he⟩
theorem GaAt.noWd {w : World} {g m : Nat} {ks : List Int} {cf : Int → Int} {r : Int} (h : GaAt w g m ks cf r) : NoWd w g := by
  obtain ⟨p, n, c, hb, _⟩ := h.cells
  exact NoWd.cells hb (by simp)
theorem GaAt.lt {w : World} {g m : Nat} {ks : List Int} {cf : Int → Int} {r : Int} (h : GaAt w g m ks cf r) : g < w.heap.size := by
  obtain ⟨p, n, c, hb, _⟩ := h.cells
  exact (Array.getElem?_eq_some_iff.1 hb).1
theorem GaAt.below {w w' : World} {g m : Nat} {ks : List Int} {cf : Int → Int} {r : Int} (h : GaAt w g m ks cf r) (hb : Below w.heap.size w w') : GaAt w' g m ks cf r := by
  have hlt := h.lt
  obtain ⟨h1, ⟨p, n, c, h2, h3⟩, h4⟩ := h
  exact ⟨h1, ⟨p, n, c, (hb.block g hlt).trans h2, h3.below hb⟩, h4.below hb⟩
theorem GaAt.put {w : World} {g m : Nat} {ks : List Int} {cf : Int → Int} {r : Int} (h : GaAt w g m ks cf r) (t : Int) (ht : wfI t) (hk : ks.length < maxLen) {v : Value} {z : Int} (hv : IntAt w v z) :
    ∃ w', (Instr.mapUpdate 105 (.map (some m)) (.int .i64 t) v).run Tryz.prog w = .ok () w' ∧ GaAt w' g m (ks ++ [t]) (fun u => if u = t then z else cf u) r ∧ Apart (fun k => k = m) w w' := by
  have hnw := h.map.noWd
  have hlt := h.lt
  obtain ⟨h1, ⟨p, n, c, h2, h3⟩, h4⟩ := h
  obtain ⟨w', hrun, h5, ha⟩ := h4.put t ht hk hv
  exact ⟨w', hrun, ⟨h1, ⟨p, n, c, (ha.block g hlt (fun e => h1 e.symm)).trans h2, h3.quiet ha (fun b hb => by rw [hb]; exact hnw)⟩, h5⟩, ha⟩
theorem apart_set (w : World) (g j : Nat) (u : Value) : Apart (fun k => k = g) w (w.setCell ⟨g, j, none⟩ u) :=
  ⟨rfl, rfl, rfl, by simp [World.setCell], fun k _ hn => Below.heap_setCell _ _ _ _ hn⟩
theorem GaAt.rest {w : World} {g m : Nat} {ks : List Int} {cf : Int → Int} {r : Int} (h : GaAt w g m ks cf r) {z : Int} {p : Option Addr} {n c : Nat} (hv : IntAt w (.agg #[.bool (decide (z < 0)), .slice p n c]) z) :
    GaAt ((w.setCell ⟨g, 1, none⟩ (.bool (decide (z < 0)))).setCell ⟨g, 2, none⟩ (.slice p n c)) g m ks cf z ∧ Apart (fun k => k = g) w ((w.setCell ⟨g, 1, none⟩ (.bool (decide (z < 0)))).setCell ⟨g, 2, none⟩ (.slice p n c)) := by
  have hnw := h.noWd
  have hlt := h.lt
  obtain ⟨h1, ⟨p', n', c', h2, h3⟩, h4⟩ := h
  have ha : Apart (fun k => k = g) w ((w.setCell ⟨g, 1, none⟩ (.bool (decide (z < 0)))).setCell ⟨g, 2, none⟩ (.slice p n c)) := (apart_set _ _ _ _).go (apart_set _ _ _ _)
  refine ⟨⟨h1, ⟨p, n, c, ?_, hv.quiet ha (fun b hb => by rw [hb]; exact hnw)⟩, h4.apart ha h1 (fun b hb => by rw [hb]; exact hnw)⟩, ha⟩
  have e1 := heap_setCell_same w g 1 _ _ (.bool (decide (z < 0))) h2
  exact heap_setCell_same _ g 2 _ _ (.slice p n c) e1
/-- the keys of the map -/
theorem MpN.keys {w : World} {m : Nat} {ks : List Int} {cf : Int → Int} (h : MpN w m ks cf) : ∃ (D : DataW Value) (n : Nat), w.ownsMap Tryz.prog 3 RV m n D ∧ Maps.size D ≤ ks.length ∧ (lnDed ks).Perm (intKeys D) := by
  obtain ⟨D, n, h1, h2, h3, h4, h5⟩ := h
  refine ⟨D, n, h2, Nat.le_trans h2.size_le h1, ?_⟩
  obtain ⟨es, rfl, hk⟩ := h2.keysOf
  obtain ⟨es', e, ht⟩ := h2.tidy (Maps.int_keyed undI)
  injection e with e
  subst e
  refine perm_intKeys ht (fun p hp => ?_) (lnDed_nodup ks) (fun x => ?_)
  · obtain ⟨v, hv⟩ := hk p hp
    obtain ⟨x, -, e, -⟩ := Maps.keyOf_i64 undI hv
    exact ⟨x, e⟩
  · rw [h3, lnDed_mem]
    simp
end Go.Proofs.YtnfohbpgnbfmeaaGreatDoor
/- strconv.AppendUint at base 10 (the public one), out of the shelf's inner one. -/
namespace Go.Proofs.YtnfohbpgnbfmeaaGreatDoor
open Go.RowKit Big Go.WideMaps

set_option maxRecDepth 100000 in
set_option maxHeartbeats 1600000 in
theorem AppendUint_any (B n u : Nat) (hu : u < W) (sv : Value) (xs : List Value) (w : World) (hown : w.ownsRow B 5 1 sv n xs) (hBw : B ≤ w.heap.size) (hlim : n + 20 ≤ 140737488355328)
    (htab : Lib.TabIs Tryz.prog w "internal/strconv.uint64pow10" .u64 Lib.pow10Tab) :
    Calls Tryz.prog 75 #[sv, .int .u64 (u : Nat), .int .i64 10] w fun e w' => ∃ v', e = .returned v' ∧ w'.ownsRow B 5 1 v' (n + (Lib.decDigits u).length) (xs ++ Lib.byteCells (Lib.decDigits u)) ∧ Below B w w' ∧ Lib.OthersKept 5 none w w' := by
  have hc := Tryz.internal_strconv_AppendUint_10 B n u hu sv xs w hown hBw hlim htab
  have Hc := hid hc
  clear hc htab hown
  go_enter Tryz.func75, Tryz.ntmps75
  go_wp2_with fail
  refine Hc.out.mono ?_
  rintro e w1 ⟨v1, rfl, h1, h2, h3⟩
  go_wp2
  go_ret
  exact ⟨v1, rfl, h1, h2, h3⟩
theorem byte_new (w : World) (c : Nat) (t : TypeId) : ∀ j u, ([.int .u8 c] : List Value)[j]? = some u → (w.alloc (.cells #[.int .u8 c] t)).cell? ((⟨w.heap.size, 0, none⟩ : Addr).add j) = some u := by
  intro j u hj
  rw [Go.WideShapes.add_plain, cell_of_row _ w.heap.size _ _ t (0, 0) (heap_alloc_new w _), Nat.zero_add]
  simpa using hj
theorem elemBytes : Elem Tryz.prog 115 5 .u8 1 := ⟨Tryz.underlying115, info_parts (by kernel_rfl)⟩
def Tb (B : Nat) (w : World) : Prop := Lib.TabBelow Tryz.prog B w "internal/strconv.uint64pow10" .u64 Lib.pow10Tab
theorem tab_later {w w' : World} (h : Tb w.heap.size w) (hb : Below w.heap.size w w') : Tb w'.heap.size w' := fun w2 h2 => h w2 (hb.trans (h2.mono hb.size))
theorem nd_le : ∀ (k u : Nat), u < 10 ^ (k + 1) → Lib.nDigits u ≤ k + 1
  | 0, u, h => by rw [Lib.nDigits_small (by simpa using h)]; exact Nat.le_refl _
  | k + 1, u, h => by
    by_cases hu : u < 10
    · rw [Lib.nDigits_small hu]; omega
    · rw [Lib.nDigits_big hu]
      have := nd_le k (u / 10) (by rw [Nat.pow_succ] at h; omega)
      omega
theorem dec_len (x : Nat) (h : x < W) : (Lib.decDigits x).length ≤ 20 := by
  rw [Lib.decDigits_length]
  exact nd_le 19 x (Nat.lt_of_lt_of_le h (by decide))
theorem itoa_len (x : Int) (h0 : -9223372036854775808 ≤ x) (h1 : x ≤ 9223372036854775807) : (Lib.itoa x).length ≤ 20 := by
  have key : ∀ u : Nat, u ≤ 9223372036854775808 → (Lib.decDigits u).length ≤ 19 := fun u hu => by
    rw [Lib.decDigits_length]
    exact nd_le 18 u (Nat.lt_of_le_of_lt hu (by decide))
  unfold Lib.itoa
  split
  · rw [List.length_cons]
    have := key x.natAbs (by omega)
    omega
  · exact Nat.le_trans (key x.toNat (by omega)) (by omega)
end Go.Proofs.YtnfohbpgnbfmeaaGreatDoor
/- linear's small functions: gather, itself, number.product, number.quotient. -/
namespace Go.Proofs.YtnfohbpgnbfmeaaGreatDoor
open Go.RowKit Big

/-- what a call answers: a number that reads as z -/
def RRaw (z : Int) (w : World) (e : Ending) (w' : World) : Prop := ∃ p n c d, e = .returned (.agg #[.bool d, .slice p n c]) ∧ RawAt w' (.agg #[.bool d, .slice p n c]) z ∧ Below w.heap.size w w'
theorem RawAt.agg2 {w : World} {v : Value} {z : Int} (h : RawAt w v z) : ∃ d p n c, v = .agg #[.bool d, .slice p n c] := by
  obtain ⟨d, s, l, rfl, ⟨p, c, rfl, -⟩, -⟩ := h
  exact ⟨_, _, _, _, rfl⟩
set_option maxRecDepth 100000 in
theorem product_any (v u : Value) (z k : Int) (w : World) (h : RawAt w v z) (hk : RawAt w u k) (hz : sz W z.natAbs ≤ 549755813888) (hks : sz W k.natAbs ≤ 549755813888) (hp : sz W (z * k).natAbs ≤ 1099511627776) :
    Calls Tryz.prog 76 #[u, v] w (RRaw (z * k) w) := by
  obtain ⟨d, p, n, c, rfl⟩ := h.agg2
  obtain ⟨d1, p1, n1, c1, rfl⟩ := hk.agg2
  obtain ⟨W3, hW⟩ : ∃ W3, W3 = ((w.alloc (.cells #[.bool d1, .slice p1 n1 c1] 88)).alloc (.cells #[.bool d, .slice p n c] 35)).alloc (.cells #[.bool false, .slice none 0 0] 35) := ⟨_, rfl⟩
  have b1 : Below w.heap.size w W3 := by rw [hW]; exact ((below1 _ _).alloc (by simp) _).alloc (by simp; omega) _
  have hM := hid (fun w' (hb : Below w.heap.size w w') => Mul_any _ _ z k w' (h.below hb) (hk.below hb) hz hks)
  have hpr : Pair W3 (w.heap.size + 1 + 1) 35 := by rw [hW]; exact Pair.new2 ..
  have HP := hid hp
  have z3 : W3.heap.size = w.heap.size + 3 := by rw [hW]; simp
  clear h hk hz hks hp
  go_enter Tryz.func76, Tryz.ntmps76
  go_wp2_with fail
  rw [← hW]
  clear hW
  refine (hM.out W3 b1).mono ?_
  rintro e w2 ⟨v2, rfl, i2, b2⟩
  obtain ⟨p2, n2, c2, rfl, i2⟩ := i2.shape
  have hp2 := hpr.below b2
  obtain ⟨_, _, q0, q1, q2, q3⟩ := hp2.cells
  go_wp2
  have b3 := Below.stored (b1.trans (b2.mono (B' := w.heap.size) (by omega))) (g := w.heap.size + 1 + 1) (by omega) (.bool (decide (z * k < 0))) (.slice p2 n2 c2)
  exact bodyPost_ret (v := .agg #[.bool (decide (z * k < 0)), .slice p2 n2 c2]) (by simp [results, Tryz.results76, go_sem, q0, q1]) rfl
    ⟨_, _, _, _, rfl, (i2.stored hp2 _ _ _ _).rawL HP.out, b3⟩
set_option maxRecDepth 100000 in
theorem quotient_any (v u : Value) (z k : Int) (w : World) (h : RawAt w v z) (hk : RawAt w u k) (h0 : k ≠ 0) :
    Calls Tryz.prog 50 #[u, v] w (RInt (z / k) w) := by
  obtain ⟨d, p, n, c, rfl⟩ := h.agg2
  obtain ⟨d1, p1, n1, c1, rfl⟩ := hk.agg2
  obtain ⟨W3, hW⟩ : ∃ W3, W3 = ((w.alloc (.cells #[.bool d1, .slice p1 n1 c1] 88)).alloc (.cells #[.bool d, .slice p n c] 35)).alloc (.cells #[.bool false, .slice none 0 0] 35) := ⟨_, rfl⟩
  have b1 : Below w.heap.size w W3 := by rw [hW]; exact ((below1 _ _).alloc (by simp) _).alloc (by simp; omega) _
  have hM := hid (fun w' (hb : Below w.heap.size w w') => Div_any _ _ z k w' (h.below hb) (hk.below hb) h0)
  have hpr : Pair W3 (w.heap.size + 1 + 1) 35 := by rw [hW]; exact Pair.new2 ..
  have z3 : W3.heap.size = w.heap.size + 3 := by rw [hW]; simp
  clear h hk h0
  go_enter Tryz.func50, Tryz.ntmps50
  go_wp2_with fail
  rw [← hW]
  clear hW
  refine (hM.out W3 b1).mono ?_
  rintro e w2 ⟨v2, v3, rfl, i2, i3, b2⟩
  obtain ⟨p2, n2, c2, rfl, i2⟩ := i2.shape
  obtain ⟨p3, n3, c3, rfl, i3⟩ := i3.shape
  have z2 := b2.size
  obtain ⟨W5, hW5⟩ : ∃ W5, W5 = (w2.alloc (.cells #[.bool (decide (z / k < 0)), .slice p2 n2 c2] 35)).alloc (.cells #[.bool (decide (z % k < 0)), .slice p3 n3 c3] 35) := ⟨_, rfl⟩
  have b5 : Below w2.heap.size w2 W5 := by rw [hW5]; exact (below1 _ _).alloc (by simp) _
  have hp5 := (hpr.below b2).below b5
  have e5 : W5.heap[w2.heap.size]? = some (.cells #[.bool (decide (z / k < 0)), .slice p2 n2 c2] 35 (0, 0)) := by
    rw [hW5, heap_alloc_old _ _ (by simp)]; exact heap_alloc_new _ _
  have i5 := i2.below b5
  obtain ⟨_, _, q0, q1, q2, q3⟩ := hp5.cells
  obtain ⟨t0, t1, t2, t3⟩ := two_cells e5
  go_upto_region 2 with fail
  rw [← hW5]
  clear hW5
  go_wp2
  have b3 := Below.stored (b1.trans ((b2.trans (b5.mono (B' := W3.heap.size) (by omega))).mono (B' := w.heap.size) (by omega))) (g := w.heap.size + 1 + 1) (by omega) (.bool (decide (z / k < 0))) (.slice p2 n2 c2)
  exact bodyPost_ret (v := .agg #[.bool (decide (z / k < 0)), .slice p2 n2 c2]) (by simp [results, Tryz.results50, go_sem, q0, q1]) rfl
    ⟨_, rfl, i5.stored hp5 _ _ _ _, b3⟩
theorem quotient_raw (v u : Value) (z k : Int) (w : World) (h : RawAt w v z) (hk : RawAt w u k) (h0 : k ≠ 0) (hp : sz W (z / k).natAbs ≤ 1099511627776) :
    Calls Tryz.prog 50 #[u, v] w (RRaw (z / k) w) := by
  refine (quotient_any v u z k w h hk h0).mono ?_
  rintro e w1 ⟨v1, rfl, i1, b1⟩
  obtain ⟨p1, n1, c1, rfl, i1⟩ := i1.shape
  exact ⟨_, _, _, _, rfl, i1.rawL hp, b1⟩
theorem gather_any (w : World) : Calls Tryz.prog 48 #[] w (fun e w' => ∃ g m, e = .returned (.pointer (some ⟨g, 0, none⟩)) ∧ GaAt w' g m [] (fun _ => 0) 0 ∧ Below w.heap.size w w' ∧ w.heap.size ≤ g ∧ w.heap.size ≤ m) := by
  have hmm := @run_makeMap Tryz.prog
  go_enter Tryz.func48, Tryz.ntmps48
  go_wp2
  go_ret
  have hM := MpN.made w
  have b1 := below1 (w.alloc (.map #[] 0)) (.cells #[.map (some w.heap.size), .bool false, .slice none 0 0] 107)
  refine ⟨_, w.heap.size, rfl, ⟨by simp, ⟨none, 0, 0, ?_, IntAt.zero _⟩, hM.below b1⟩, (below1 w _).alloc (by simp) _, by simp, Nat.le_refl _⟩
  have := heap_alloc_new (w.alloc (.map #[] 0)) (.cells #[.map (some w.heap.size), .bool false, .slice none 0 0] 107)
  rw [size_alloc] at this
  exact this
end Go.Proofs.YtnfohbpgnbfmeaaGreatDoor
/- (*linear.gathering).take: parts put into a gathering, one theorem a function value. -/
namespace Go.Proofs.YtnfohbpgnbfmeaaGreatDoor
open Go.RowKit Big

theorem oper_map {P : Program} {w w' : World} {o : Oper} {a : Act} {K : Act → World → Prop} {Q : Exit → Act → World → Prop} (m x v : Operand) (t : TypeId) (hop : o.op = Op.mapUpdate t m x v)
    (vm key val : Value) (hm : a.eval m = vm) (hx : a.eval x = key) (hv : a.eval v = val) (hd : o.dst = none) (hrun : (Instr.mapUpdate t vm key val).run P w = .ok () w') (h : K a w') : Oper.wp P o a w K Q := by
  have h' : K (a.put o.dst undef) w' := by rw [hd]; exact h
  unfold Oper.wp
  simp [execOp, hop, hm, hx, hv, hrun, Result.andThen]
  exact h'
def lnE (v0 : Value) : SFact := ⟨fun v _ => v = v0, fun _ _ _ h _ => h⟩
def lnI (z : Int) : SFact := ⟨fun v w => ∃ d p n c, v = .agg #[.bool d, .slice p n c] ∧ IntAt w v z, fun _ _ _ ⟨d, p, n, c, h1, h2⟩ hb => ⟨d, p, n, c, h1, h2.below hb⟩⟩
def lnR (z : Int) : SFact := ⟨fun v w => ∃ d p n c, v = .agg #[.bool d, .slice p n c] ∧ RawAt w v z, fun _ _ _ ⟨d, p, n, c, h1, h2⟩ hb => ⟨d, p, n, c, h1, h2.below hb⟩⟩
theorem lnGo {u w w' : World} (hb : Below w.heap.size w w') (h : Below u.heap.size u w) : Below u.heap.size u w' := h.trans (hb.mono h.size)
theorem lnCells3 {w : World} {g : Nat} {a b c : Value} {t : TypeId} (h : w.heap[g]? = some (.cells #[a, b, c] t (0, 0))) : w.cell? ⟨g, 0, none⟩ = some a ∧ w.cell? ⟨g, 1, none⟩ = some b ∧ w.cell? ⟨g, 2, none⟩ = some c := by
  simp [World.cell?, h]
/-- a gathering of so many parts -/
def Gn (w : World) (g m : Nat) (qs : List (Int × Int)) (r : Int) : Prop := GaAt w g m (qs.map (·.2)) (lnCf qs) r
theorem Gn.put {w : World} {g m : Nat} {qs : List (Int × Int)} {r : Int} (h : Gn w g m qs r) (t c : Int) (ht : wfI t) (hk : qs.length < maxLen) {v : Value} (hv : IntAt w v (lnCf qs t + c)) :
    ∃ w', (Instr.mapUpdate 105 (.map (some m)) (.int .i64 t) v).run Tryz.prog w = .ok () w' ∧ Gn w' g m (qs ++ [(c, t)]) r ∧ Apart (fun k => k = m) w w' := by
  obtain ⟨w', h1, h2, h3⟩ := GaAt.put h t ht (by simpa using hk) hv
  refine ⟨w', h1, ?_, h3⟩
  unfold Gn
  rw [List.map_append]
  refine GaAt.congr h2 (fun u => ?_)
  show (if u = t then lnCf qs t + c else lnCf qs u) = _
  rw [lnCf_append]
  by_cases e : u = t
  · subst e; simp [lnCf]
  · have e' : ¬ t = u := fun h => e h.symm
    simp [lnCf, e, e']
theorem apart_below {w0 w w' : World} {g m : Nat} (hb : Below w0.heap.size w0 w) (ha : Apart (fun k => k = g ∨ k = m) w w') (hg : w0.heap.size ≤ g) (hm : w0.heap.size ≤ m) : Below w0.heap.size w0 w' :=
  ⟨ha.os.trans hb.os, ha.tape.trans hb.tape, ha.output.trans hb.output, Nat.le_trans hb.size ha.size, fun k hk => (ha.block k (Nat.lt_of_lt_of_le hk hb.size) (by omega)).trans (hb.block k hk)⟩
set_option maxRecDepth 100000 in
set_option maxHeartbeats 6400000 in
theorem take_product (W0 : World) (va : Value) (a : List (Int × Int) × Int) (g m : Nat) (qs : List (Int × Int)) (r : Int) (w : World) {N : Nat} {dk : Bool} {pk : Option Addr} {nk ck : Nat} {x : Int} (hK : RawAt W0 (.agg #[.bool dk, .slice pk nk ck]) x) (hxs : sz W x.natAbs ≤ N) (hN0 : 1 ≤ N)
    (ha : LnR W0 va a) (hN : ∀ p ∈ a.1, sz W p.1.natAbs ≤ N) (hN2 : sz W a.2.natAbs ≤ N) (hqs : ∀ p ∈ qs, sz W p.1.natAbs ≤ N + N) (hr : sz W r.natAbs ≤ 549755813888) (hlen : N + N + (qs.length + a.1.length) ≤ 549755813888)
    (hb : Below W0.heap.size W0 w) (hg : W0.heap.size ≤ g) (hm : W0.heap.size ≤ m) (hG : Gn w g m qs r) :
    Calls Tryz.prog 49 #[.pointer (some ⟨g, 0, none⟩), va, .func (.func 76) #[.agg #[.bool dk, .slice pk nk ck]] #[]] w (fun e w' => e = .returned (.tuple #[]) ∧ Gn w' g m (qs ++ (a.1.map fun p => (p.1 * x, p.2))) (r + (a.2 * x)) ∧ Apart (fun k => k = g ∨ k = m) w w') := by
  obtain ⟨f, hf⟩ : ∃ f : Int → Int, f = fun z => z * x := ⟨_, rfl⟩
  have hfz : ∀ z, f z = z * x := fun z => by rw [hf]
  have HPhi : Hid (∀ (v : Value) (z : Int) (w' : World), Below W0.heap.size W0 w' → RawAt w' v z → sz W z.natAbs ≤ N → Calls Tryz.prog 76 #[.agg #[.bool dk, .slice pk nk ck], v] w' (RRaw (f z) w')) := hid (fun v z w' hb h hz => by rw [hfz]; exact product_any v _ z x w' h (hK.below hb) (by omega) (by omega) (Nat.le_trans (by rw [Int.natAbs_mul]; exact sz_mul W2 _ _) (by omega : sz W z.natAbs + sz W x.natAbs ≤ 1099511627776)))
  have HF : Hid (∀ z, sz W z.natAbs ≤ N → sz W (f z).natAbs ≤ N + N) := hid (fun z hz => by rw [hfz, Int.natAbs_mul]; exact Nat.le_trans (sz_mul W2 _ _) (by omega : sz W z.natAbs + sz W x.natAbs ≤ N + N))
  have hmap : (a.1.map fun p => (p.1 * x, p.2)) = a.1.map (fun p => (f p.1, p.2)) := by rw [hf]
  rw [hmap, ← hfz a.2]
  clear hmap hfz hf hK hxs
  obtain ⟨a1, a2⟩ := a
  have ha : LnR W0 va (a1, a2) := ha
  obtain ⟨pv, n0, s0, rfl, hp, h2⟩ := ha
  obtain ⟨p, cp, rfl, j1, j2, -, j4⟩ := hp
  have hp2 := h2.agg2
  obtain ⟨d2, p2, n2, c2, e2⟩ := hp2
  obtain ⟨rfl, rfl⟩ : s0 = .slice p2 n2 c2 ∧ n0 = d2 := by
    injection e2 with e2
    simpa [and_comm] using e2
  clear e2
  have J4 := hid j4
  have HR2 := hid h2
  unfold maxLen at j2
  obtain ⟨W, hW⟩ : ∃ W, W = w.alloc (.cells #[.slice p a1.length cp, .bool n0, .slice p2 n2 c2] 37) := ⟨_, rfl⟩
  have b0 : Below w.heap.size w W := by rw [hW]; exact below1 w _
  have e0 : W.heap[w.heap.size]? = some (.cells #[.slice p a1.length cp, .bool n0, .slice p2 n2 c2] 37 (0, 0)) := by rw [hW]; exact heap_alloc_new w _
  have hGW : Gn W g m qs r := hG.below b0
  have glt : g < w.heap.size := hG.lt
  have mlt : m < w.heap.size := hG.map.lt
  have Hb0 := hid b0; have HE0 := hid e0; have HGW := hid hGW; have HBW := hid (lnGo b0 hb)
  have Hg := hid hg; have Hm := hid hm; have Hr := hid (Nat.le_trans hr (by decide : 549755813888 ≤ 1099511627776)); have HN := hid hN; have HS2 := hid hN2; have Hqs := hid hqs; have Hlen := hid hlen
  have hzW : W.heap.size = w.heap.size + 1 := by rw [hW, size_alloc]
  have HzW := hid hzW
  obtain ⟨L, hLL⟩ : ∃ L, L = a1.length := ⟨_, rfl⟩
  have HLL := hid hLL
  have hLb : L ≤ 549755813888 := by rw [hLL]; have : (a1, a2).1.length = a1.length := rfl; omega
  rw [← hLL] at HE0 hW j1 ⊢
  clear hG hb hN hN2 hqs hr hlen hg hm j4 h2 b0 e0 hGW hzW hLL
  go_enter Tryz.func49, Tryz.ntmps49
  go_upto_region 1 with fail
  rw [← hW]
  clear hW
  have y1 := (lnCells3 HE0.out).1
  go_wp2_with fail
  clear y1
  go_loopw [11] (fun i wr => ∃ (k : Nat), k ≤ L ∧ i = .int .i64 (k : Nat) ∧ Hid (Gn wr g m (qs ++ (a1.take k).map (fun p => (f p.1, p.2))) r) ∧ Hid (Apart (fun k => k = g ∨ k = m) W wr)) (fun i _ => L - (intOf i).toNat)
  case atStart => exact ⟨0, Nat.zero_le _, rfl, hid (by simpa using HGW.out), hid (Apart.refl _ _)⟩
  case round =>
    obtain ⟨k, hk, rfl, hGk, hAk⟩ := hrel
    have HBr : Hid (Below W0.heap.size W0 wr) := hid (apart_below HBW.out hAk.out Hg.out Hm.out)
    by_cases hlt : k < L
    · have hkt : k < a1.length := by rw [← HLL.out]; exact hlt
      have hlt' : (k : Int) < (L : Int) := by omega
      obtain ⟨b, o, rfl, hb, hc⟩ := J4.out (by omega)
      obtain ⟨cs, k0, d, s, ecs, hraw, hwf⟩ := hc k hkt
      have hsh := hraw.agg2
      obtain ⟨d', q, n, cq, e2⟩ := hsh
      obtain ⟨rfl, rfl⟩ : s = .slice q n cq ∧ d = d' := by
        injection e2 with e2
        simpa [and_comm] using e2
      clear e2
      subst ecs
      have y0 := (HBr.out.cell (p := ⟨b, o + k * 3, none⟩) hb).trans (k0 0 _ rfl)
      have y1 := (HBr.out.cell (p := ⟨b, o + k * 3 + 1, none⟩) hb).trans (k0 1 _ rfl)
      have y2 := (HBr.out.cell (p := ⟨b, o + k * 3 + 2, none⟩) hb).trans (k0 2 _ rfl)
      have Hc := hid (HN.out a1[k] (List.getElem_mem hkt))
      have HT := hid hwf
      have Hnext : Hid (qs ++ (a1.take (k + 1)).map (fun p => (f p.1, p.2)) = (qs ++ (a1.take k).map (fun p => (f p.1, p.2))) ++ [(f a1[k].1, a1[k].2)]) := hid (by rw [List.take_succ_eq_append_getElem hkt, List.map_append, List.append_assoc]; rfl)
      have hqk : ∀ p ∈ qs ++ (a1.take k).map (fun p => (f p.1, p.2)), sz Big.W p.1.natAbs ≤ N + N := by
        intro p hp
        rcases List.mem_append.1 hp with hp | hp
        · exact Hqs.out p hp
        · obtain ⟨y, hy, rfl⟩ := List.mem_map.1 hp
          exact HF.out _ (HN.out y (List.mem_of_mem_take hy))
      have hll := Hlen.out
      have hlq : (qs ++ (a1.take k).map (fun p => (f p.1, p.2))).length = qs.length + k := by simp; omega
      generalize qs ++ (a1.take k).map (fun p => (f p.1, p.2)) = qk at *
      generalize a1[k].1 = c at *
      generalize a1[k].2 = t at *
      have Hs1 := hid (Nat.le_trans (lnCf_sz (by omega) t qk hqk) (by have : (a1, a2).1.length = a1.length := rfl; omega : N + N + qk.length ≤ 1099511627776))
      have Hk : Hid (qk.length < maxLen) := hid (by unfold maxLen; have : (a1, a2).1.length = a1.length := rfl; omega)
      have HR5' := hid (hraw.below HBr.out)
      clear hc hqk hlq hll hraw hwf k0 J4
      obtain ⟨W5, hW5⟩ : ∃ W5, W5 = wr.alloc (.cells #[.bool d, .slice q n cq, .int .i64 t] 63) := ⟨_, rfl⟩
      have b5 : Below wr.heap.size wr W5 := by rw [hW5]; exact below1 wr _
      have HE5 : Hid (W5.heap[wr.heap.size]? = some (.cells #[.bool d, .slice q n cq, .int .i64 t] 63 (0, 0))) := hid (by rw [hW5]; exact heap_alloc_new wr _)
      have HG5 : Hid (Gn W5 g m qk r) := hid (hGk.out.below b5)
      have HR5 := hid (HR5'.out.below b5)
      have HB5 := hid (lnGo b5 HBr.out)
      have HA5 : Hid (Apart (fun k => k = g ∨ k = m) W W5) := hid (hAk.out.go (Apart.of_below b5))
      have z5 : wr.heap.size < W5.heap.size := by rw [hW5, size_alloc]; omega
      clear b5 hGk hAk HR5' hb
      go_upto_region 4 with fail
      rw [← hW5]
      clear hW5 y0 y1 y2
      refine wp_region_facts (w0 := W5) 18 1 [15, 16, 17, 18, 19, 20, 21, 22, 23, 24, 25, 26, 27, 28, 29, 30, 31, 32] [u15, u16, u17, u18, u19, u20, u21, u22, u23, u24, u25, u26, u27, u28, u29, u30, u31, u32]
        (fun i => match i with | 0 => lnE (.pointer (some ⟨g, 0, none⟩)) | 1 => lnE (.pointer (some ⟨g, 0, none⟩)) | 2 => lnE (.pointer (some ⟨g, 0, none⟩)) | 3 => lnE (.map (some m)) | 4 => lnE (.pointer (some ⟨wr.heap.size, 2, none⟩)) | 5 => lnE (.int .i64 t) | 6 => lnE (.pointer (some ⟨g, 0, none⟩)) | 7 => lnE (.pointer (some ⟨g, 0, none⟩)) | 8 => lnE (.pointer (some ⟨g, 0, none⟩)) | 9 => lnE (.map (some m)) | 10 => lnE (.pointer (some ⟨wr.heap.size, 2, none⟩)) | 11 => lnE (.int .i64 t) | 12 => lnI (lnCf qk t) | 13 => lnE (.func (.func 76) #[.agg #[.bool dk, .slice pk nk ck]] #[]) | 14 => lnE (.pointer (some ⟨wr.heap.size, 0, none⟩)) | 15 => lnE (.agg #[.bool d, .slice q n cq]) | 16 => lnR (f c) | _ => lnI (lnCf qk t + f c)) [] (by kernel_rfl) (by kernel_rfl) (by kernel_rfl) (by kernel_rfl) (by decide) rfl (by kernel_rfl) rfl (by simp) ?he3 ?_ ?_ ?_
      case he3 => simp only [putAll, Act.put, List.setIfInBounds_toArray, List.set_cons_zero, List.set_cons_succ]
      · intro i hi; simp at hi
      · intro i o hi ho vs wx hvl hb hdep K hK
        have hvs := vlen18 hvl
        obtain ⟨s15, s16, s17, s18, s19, s20, s21, s22, s23, s24, s25, s26, s27, s28, s29, s30, s31, s32, rfl⟩ := hvs
        clear hvl
        have HGx : GaAt wx g m _ _ r := HG5.out.below hb
        obtain ⟨pg, ng, cg, hgb, -⟩ := HGx.cells
        obtain ⟨x0, x1, x2⟩ := lnCells3 hgb
        obtain ⟨z0, z1, z2⟩ := lnCells3 ((hb.block wr.heap.size (by omega)).trans HE5.out)
        rcases i with _ | _ | _ | _ | _ | _ | _ | _ | _ | _ | _ | _ | _ | _ | _ | _ | _ | _ | i
        all_goals (simp only [List.getElem?_toArray, List.getElem?_cons_zero, List.getElem?_cons_succ, Option.some.injEq] at ho)
        all_goals try (subst ho)
        all_goals try simp only [putAll, Act.put, List.setIfInBounds_toArray, List.set_cons_zero, List.set_cons_succ]
        · go_simp
          have hK' := hK.out
          simp only [putAll, Act.put, List.setIfInBounds_toArray, List.set_cons_zero, List.set_cons_succ] at hK'
          exact hK' _ _ rfl (Below.refl _ _) (by simp)
        · have e0 : s15 = _ := hdep ⟨0, .data⟩ (by simp) rfl
          have e0 := e0.symm
          subst e0
          go_simp
          have hK' := hK.out
          simp only [putAll, Act.put, List.setIfInBounds_toArray, List.set_cons_zero, List.set_cons_succ] at hK'
          exact hK' _ _ rfl (Below.refl _ _) (by simp)
        · have e1 : s16 = _ := hdep ⟨1, .data⟩ (by simp) rfl
          have e1 := e1.symm
          subst e1
          go_simp
          have hK' := hK.out
          simp only [putAll, Act.put, List.setIfInBounds_toArray, List.set_cons_zero, List.set_cons_succ] at hK'
          exact hK' _ _ rfl (Below.refl _ _) (by simp)
        · have e2 : s17 = _ := hdep ⟨2, .data⟩ (by simp) rfl
          have e2 := e2.symm
          subst e2
          go_simp
          have hK' := hK.out
          simp only [putAll, Act.put, List.setIfInBounds_toArray, List.set_cons_zero, List.set_cons_succ] at hK'
          exact hK' _ _ rfl (Below.refl _ _) (by simp)
        · go_simp
          have hK' := hK.out
          simp only [putAll, Act.put, List.setIfInBounds_toArray, List.set_cons_zero, List.set_cons_succ] at hK'
          exact hK' _ _ rfl (Below.refl _ _) (by simp)
        · have e4 : s19 = _ := hdep ⟨4, .data⟩ (by simp) rfl
          have e4 := e4.symm
          subst e4
          go_simp
          have hK' := hK.out
          simp only [putAll, Act.put, List.setIfInBounds_toArray, List.set_cons_zero, List.set_cons_succ] at hK'
          exact hK' _ _ rfl (Below.refl _ _) (by simp)
        · go_simp
          have hK' := hK.out
          simp only [putAll, Act.put, List.setIfInBounds_toArray, List.set_cons_zero, List.set_cons_succ] at hK'
          exact hK' _ _ rfl (Below.refl _ _) (by simp)
        · have e6 : s21 = _ := hdep ⟨6, .data⟩ (by simp) rfl
          have e6 := e6.symm
          subst e6
          go_simp
          have hK' := hK.out
          simp only [putAll, Act.put, List.setIfInBounds_toArray, List.set_cons_zero, List.set_cons_succ] at hK'
          exact hK' _ _ rfl (Below.refl _ _) (by simp)
        · have e7 : s22 = _ := hdep ⟨7, .data⟩ (by simp) rfl
          have e7 := e7.symm
          subst e7
          go_simp
          have hK' := hK.out
          simp only [putAll, Act.put, List.setIfInBounds_toArray, List.set_cons_zero, List.set_cons_succ] at hK'
          exact hK' _ _ rfl (Below.refl _ _) (by simp)
        · have e8 : s23 = _ := hdep ⟨8, .data⟩ (by simp) rfl
          have e8 := e8.symm
          subst e8
          go_simp
          have hK' := hK.out
          simp only [putAll, Act.put, List.setIfInBounds_toArray, List.set_cons_zero, List.set_cons_succ] at hK'
          exact hK' _ _ rfl (Below.refl _ _) (by simp)
        · go_simp
          have hK' := hK.out
          simp only [putAll, Act.put, List.setIfInBounds_toArray, List.set_cons_zero, List.set_cons_succ] at hK'
          exact hK' _ _ rfl (Below.refl _ _) (by simp)
        · have e10 : s25 = _ := hdep ⟨10, .data⟩ (by simp) rfl
          have e10 := e10.symm
          subst e10
          go_simp
          have hK' := hK.out
          simp only [putAll, Act.put, List.setIfInBounds_toArray, List.set_cons_zero, List.set_cons_succ] at hK'
          exact hK' _ _ rfl (Below.refl _ _) (by simp)
        · have e9 : s24 = _ := hdep ⟨9, .data⟩ (by simp) rfl
          have e9 := e9.symm
          subst e9
          have e11 : s26 = _ := hdep ⟨11, .data⟩ (by simp) rfl
          have e11 := e11.symm
          subst e11
          obtain ⟨p5, n5, c5, hrun, hi⟩ := (HGx.map).look t HT.out
          go_simp
          go_simp
          have hK' := hK.out
          simp only [putAll, Act.put, List.setIfInBounds_toArray, List.set_cons_zero, List.set_cons_succ] at hK'
          exact hK' _ _ ⟨_, _, _, _, rfl, hi⟩ (Below.refl _ _) (by simp)
        · go_simp
          have hK' := hK.out
          simp only [putAll, Act.put, List.setIfInBounds_toArray, List.set_cons_zero, List.set_cons_succ] at hK'
          exact hK' _ _ rfl (Below.refl _ _) (by simp)
        · go_simp
          have hK' := hK.out
          simp only [putAll, Act.put, List.setIfInBounds_toArray, List.set_cons_zero, List.set_cons_succ] at hK'
          exact hK' _ _ rfl (Below.refl _ _) (by simp)
        · have e14 : s29 = _ := hdep ⟨14, .data⟩ (by simp) rfl
          have e14 := e14.symm
          subst e14
          go_simp
          have hK' := hK.out
          simp only [putAll, Act.put, List.setIfInBounds_toArray, List.set_cons_zero, List.set_cons_succ] at hK'
          exact hK' _ _ rfl (Below.refl _ _) (by simp)
        · have e13 : s28 = _ := hdep ⟨13, .data⟩ (by simp) rfl
          have e13 := e13.symm
          subst e13
          have e15 : s30 = _ := hdep ⟨15, .data⟩ (by simp) rfl
          have e15 := e15.symm
          subst e15
          go_simp
          refine (HPhi.out _ c wx (lnGo hb HB5.out) (HR5.out.below hb) Hc.out).mono ?_
          rintro e wy ⟨p5, n5, c5, d5, rfl, iy, hby⟩
          go_wp2_with fail
          have hK' := hK.out
          simp only [putAll, Act.put, List.setIfInBounds_toArray, List.set_cons_zero, List.set_cons_succ] at hK'
          exact hK' _ _ ⟨_, _, _, _, rfl, iy⟩ hby (by simp)
        · have e12 : (lnI (lnCf qk t)).P s27 wx := hdep ⟨12, .data⟩ (by simp) rfl
          obtain ⟨da12, pa12, na12, ca12, rfl, ia12⟩ := e12
          have e16 : (lnR (f c)).P s31 wx := hdep ⟨16, .data⟩ (by simp) rfl
          obtain ⟨da16, pa16, na16, ca16, rfl, ia16⟩ := e16
          go_simp
          refine (Add_any _ _ _ _ wx (ia12.rawL Hs1.out) ia16).mono ?_
          rintro e wy ⟨vy, rfl, iy, hby⟩
          have hsh := iy.shape
          obtain ⟨p5, n5, c5, rfl, iy⟩ := hsh
          go_wp2_with fail
          have hK' := hK.out
          simp only [putAll, Act.put, List.setIfInBounds_toArray, List.set_cons_zero, List.set_cons_succ] at hK'
          exact hK' _ _ ⟨_, _, _, _, rfl, iy⟩ hby (by simp)
        · omega
      · intro vs wx hvl hb hf hdist
        have hvs := vlen18 hvl
        obtain ⟨s15, s16, s17, s18, s19, s20, s21, s22, s23, s24, s25, s26, s27, s28, s29, s30, s31, s32, rfl⟩ := hvs
        have f3 : s18 = .map (some m) := hf 3 (by decide)
        have f5 : s20 = .int .i64 t := hf 5 (by decide)
        have f17 : (lnI (lnCf qk t + f c)).P s32 wx := hf 17 (by decide)
        obtain ⟨d7, p7, n7, c7, e7, i7⟩ := f17
        subst f3 f5 e7
        obtain ⟨w8, hrun, hG8, hA8⟩ := (show Gn wx g m qk r from HG5.out.below hb).put t (f c) HT.out Hk.out i7
        have HG8 := hid hG8
        have HA8 : Hid (Apart (fun k => k = g ∨ k = m) W w8) := hid (HA5.out.go ((Apart.of_below hb).go (hA8.mono (fun k hk => .inr hk))))
        clear hf hvl hdist hG8 hA8 i7
        refine wpAny_one (i := 18) (by kernel_rfl) rfl ?_
        intro K hK
        simp only [putAll, Act.put, List.setIfInBounds_toArray, List.set_cons_zero, List.set_cons_succ]
        have hK' := hK.out
        refine oper_map (.tmp 18) (.tmp 20) (.tmp 32) 105 rfl _ _ _ rfl rfl rfl rfl hrun ?_
        apply hK'
        clear hK hK' hrun
        refine wpAny_done (by kernel_rfl) ?_ _
        go_wp2_with fail
        go_roundw
        case rel => exact ⟨k + 1, by omega, by go_num, hid (by rw [Hnext.out]; exact HG8.out), HA8⟩
        case measure => simp [intOf] <;> omega
    · obtain rfl : k = L := by omega
      have hfin : a1.take k = a1 := by rw [HLL.out, List.take_length]
      have HGr : Hid (Gn wr g m (qs ++ a1.map (fun p => (f p.1, p.2))) r) := hid (by have := hGk.out; rw [hfin] at this; exact this)
      have HAr := hAk
      have HEr := hid ((hAk.out.block w.heap.size (by have := HzW.out; omega) (by omega)).trans HE0.out)
      have zr : w.heap.size < wr.heap.size := by have := hAk.out.size; have := HzW.out; omega
      have HR2 := hid (HR2.out.below HBr.out)
      clear hfin hGk hAk
      go_upto_region 6 with fail
      refine wp_region_facts (w0 := wr) 12 1 [34, 35, 36, 37, 38, 39, 40, 41, 42, 43, 44, 45] [undef, undef, undef, undef, undef, undef, undef, undef, undef, undef, undef, undef]
        (fun i => match i with | 0 => lnE (.pointer (some ⟨g, 0, none⟩)) | 1 => lnE (.pointer (some ⟨g, 0, none⟩)) | 2 => lnE (.pointer (some ⟨g, 0, none⟩)) | 3 => lnE (.pointer (some ⟨g, 1, none⟩)) | 4 => lnI r | 5 => lnE (.func (.func 76) #[.agg #[.bool dk, .slice pk nk ck]] #[]) | 6 => lnE (.pointer (some ⟨w.heap.size, 1, none⟩)) | 7 => lnE (.agg #[.bool n0, .slice p2 n2 c2]) | 8 => lnR (f a2) | 9 => lnI (r + f a2) | 10 => lnE (.pointer (some ⟨g, 0, none⟩)) | _ => lnE (.pointer (some ⟨g, 1, none⟩))) [] (by kernel_rfl) (by kernel_rfl) (by kernel_rfl) (by kernel_rfl) (by decide) rfl (by kernel_rfl) rfl (by simp) ?he4 ?_ ?_ ?_
      case he4 => simp only [putAll, Act.put, List.setIfInBounds_toArray, List.set_cons_zero, List.set_cons_succ]
      · intro i hi; simp at hi
      · intro i o hi ho vs wx hvl hb hdep K hK
        have hvs := vlen12 hvl
        obtain ⟨s34, s35, s36, s37, s38, s39, s40, s41, s42, s43, s44, s45, rfl⟩ := hvs
        clear hvl
        have HGx : GaAt wx g m _ _ r := HGr.out.below hb
        obtain ⟨pg, ng, cg, hgb, hgi⟩ := HGx.cells
        obtain ⟨x0, x1, x2⟩ := lnCells3 hgb
        obtain ⟨z0, z1, z2⟩ := lnCells3 ((hb.block w.heap.size (by omega)).trans HEr.out)
        rcases i with _ | _ | _ | _ | _ | _ | _ | _ | _ | _ | _ | _ | i
        all_goals (simp only [List.getElem?_toArray, List.getElem?_cons_zero, List.getElem?_cons_succ, Option.some.injEq] at ho)
        all_goals try (subst ho)
        all_goals try simp only [putAll, Act.put, List.setIfInBounds_toArray, List.set_cons_zero, List.set_cons_succ]
        · go_simp
          have hK' := hK.out
          simp only [putAll, Act.put, List.setIfInBounds_toArray, List.set_cons_zero, List.set_cons_succ] at hK'
          exact hK' _ _ rfl (Below.refl _ _) (by simp)
        · go_simp
          have hK' := hK.out
          simp only [putAll, Act.put, List.setIfInBounds_toArray, List.set_cons_zero, List.set_cons_succ] at hK'
          exact hK' _ _ rfl (Below.refl _ _) (by simp)
        · have e1 : s35 = _ := hdep ⟨1, .data⟩ (by simp) rfl
          have e1 := e1.symm
          subst e1
          go_simp
          have hK' := hK.out
          simp only [putAll, Act.put, List.setIfInBounds_toArray, List.set_cons_zero, List.set_cons_succ] at hK'
          exact hK' _ _ rfl (Below.refl _ _) (by simp)
        · have e2 : s36 = _ := hdep ⟨2, .data⟩ (by simp) rfl
          have e2 := e2.symm
          subst e2
          go_simp
          have hK' := hK.out
          simp only [putAll, Act.put, List.setIfInBounds_toArray, List.set_cons_zero, List.set_cons_succ] at hK'
          exact hK' _ _ rfl (Below.refl _ _) (by simp)
        · have e3 : s37 = _ := hdep ⟨3, .data⟩ (by simp) rfl
          have e3 := e3.symm
          subst e3
          go_simp
          go_simp
          have hK' := hK.out
          simp only [putAll, Act.put, List.setIfInBounds_toArray, List.set_cons_zero, List.set_cons_succ] at hK'
          exact hK' _ _ ⟨_, _, _, _, rfl, hgi⟩ (Below.refl _ _) (by simp)
        · go_simp
          have hK' := hK.out
          simp only [putAll, Act.put, List.setIfInBounds_toArray, List.set_cons_zero, List.set_cons_succ] at hK'
          exact hK' _ _ rfl (Below.refl _ _) (by simp)
        · go_simp
          have hK' := hK.out
          simp only [putAll, Act.put, List.setIfInBounds_toArray, List.set_cons_zero, List.set_cons_succ] at hK'
          exact hK' _ _ rfl (Below.refl _ _) (by simp)
        · have e6 : s40 = _ := hdep ⟨6, .data⟩ (by simp) rfl
          have e6 := e6.symm
          subst e6
          go_simp
          have hK' := hK.out
          simp only [putAll, Act.put, List.setIfInBounds_toArray, List.set_cons_zero, List.set_cons_succ] at hK'
          exact hK' _ _ rfl (Below.refl _ _) (by simp)
        · have e5 : s39 = _ := hdep ⟨5, .data⟩ (by simp) rfl
          have e5 := e5.symm
          subst e5
          have e7 : s41 = _ := hdep ⟨7, .data⟩ (by simp) rfl
          have e7 := e7.symm
          subst e7
          go_simp
          refine (HPhi.out _ a2 wx (lnGo hb HBr.out) (HR2.out.below hb) HS2.out).mono ?_
          rintro e wy ⟨p5, n5, c5, d5, rfl, iy, hby⟩
          go_wp2_with fail
          have hK' := hK.out
          simp only [putAll, Act.put, List.setIfInBounds_toArray, List.set_cons_zero, List.set_cons_succ] at hK'
          exact hK' _ _ ⟨_, _, _, _, rfl, iy⟩ hby (by simp)
        · have e4 : (lnI r).P s38 wx := hdep ⟨4, .data⟩ (by simp) rfl
          obtain ⟨da4, pa4, na4, ca4, rfl, ia4⟩ := e4
          have e8 : (lnR (f a2)).P s42 wx := hdep ⟨8, .data⟩ (by simp) rfl
          obtain ⟨da16, pa16, na16, ca16, rfl, ia16⟩ := e8
          go_simp
          refine (Add_any _ _ _ _ wx (ia4.rawL Hr.out) ia16).mono ?_
          rintro e wy ⟨vy, rfl, iy, hby⟩
          have hsh := iy.shape
          obtain ⟨p5, n5, c5, rfl, iy⟩ := hsh
          go_wp2_with fail
          have hK' := hK.out
          simp only [putAll, Act.put, List.setIfInBounds_toArray, List.set_cons_zero, List.set_cons_succ] at hK'
          exact hK' _ _ ⟨_, _, _, _, rfl, iy⟩ hby (by simp)
        · have e0 : s34 = _ := hdep ⟨0, .data⟩ (by simp) rfl
          have e0 := e0.symm
          subst e0
          go_simp
          have hK' := hK.out
          simp only [putAll, Act.put, List.setIfInBounds_toArray, List.set_cons_zero, List.set_cons_succ] at hK'
          exact hK' _ _ rfl (Below.refl _ _) (by simp)
        · have e10 : s44 = _ := hdep ⟨10, .data⟩ (by simp) rfl
          have e10 := e10.symm
          subst e10
          go_simp
          have hK' := hK.out
          simp only [putAll, Act.put, List.setIfInBounds_toArray, List.set_cons_zero, List.set_cons_succ] at hK'
          exact hK' _ _ rfl (Below.refl _ _) (by simp)
        · omega
      · intro vs wx hvl hb hf hdist
        have hvs := vlen12 hvl
        obtain ⟨s34, s35, s36, s37, s38, s39, s40, s41, s42, s43, s44, s45, rfl⟩ := hvs
        have f11 : s45 = .pointer (some ⟨g, 1, none⟩) := hf 11 (by decide)
        have f9 : (lnI (r + f a2)).P s43 wx := hf 9 (by decide)
        obtain ⟨d7, p7, n7, c7, e7, i7⟩ := f9
        subst f11 e7
        have hsh := i7.shape
        obtain ⟨p8, n8, c8, e8, i8⟩ := hsh
        injection e8 with e8
        have HGx : GaAt wx g m _ _ r := HGr.out.below hb
        obtain ⟨hG8, hA8⟩ := HGx.rest i8
        have e9 : d7 = decide (r + f a2 < 0) ∧ (.slice p7 n7 c7 : Value) = .slice p8 n8 c8 := by simpa using e8
        obtain ⟨rfl, e9⟩ := e9
        injection e9 with e91 e92 e93
        subst e91 e92 e93
        have HG8 := hid hG8
        have HA8 := hid (HAr.out.go ((Apart.of_below hb).go (hA8.mono (fun k hk => .inl hk))))
        obtain ⟨pg, ng, cg, hgb, -⟩ := HGx.cells
        obtain ⟨x0, x1, x2⟩ := lnCells3 hgb
        have fz1 := frozen_of_row wx g 1 _ _ hgb
        have fz2 := frozen_of_row wx g 2 _ _ hgb
        clear hf hvl hdist hG8 hA8 i7 i8
        refine wpAny_one (i := 12) (by kernel_rfl) rfl ?_
        intro K hK
        simp only [putAll, Act.put, List.setIfInBounds_toArray, List.set_cons_zero, List.set_cons_succ]
        have hK' := hK.out
        go_simp
        apply hK'
        clear hK hK'
        refine wpAny_done (by kernel_rfl) ?_ _
        try simp only [putAll, Act.put, List.setIfInBounds_toArray, List.set_cons_zero, List.set_cons_succ]
        go_wp2
        go_end0
        exact ⟨rfl, HG8.out, ⟨HA8.out.os.trans (Hb0.out.os), HA8.out.tape.trans Hb0.out.tape, HA8.out.output.trans Hb0.out.output, Nat.le_trans Hb0.out.size HA8.out.size, fun k hk hn => (HA8.out.block k (Nat.lt_of_lt_of_le hk Hb0.out.size) hn).trans (Hb0.out.block k hk)⟩⟩
set_option maxRecDepth 100000 in
set_option maxHeartbeats 6400000 in
theorem take_quotient (W0 : World) (va : Value) (a : List (Int × Int) × Int) (g m : Nat) (qs : List (Int × Int)) (r : Int) (w : World) {N : Nat} {dk : Bool} {pk : Option Addr} {nk ck : Nat} {x : Int} (hK : RawAt W0 (.agg #[.bool dk, .slice pk nk ck]) x) (hx0 : x ≠ 0) (hN0 : 1 ≤ N)
    (ha : LnR W0 va a) (hN : ∀ p ∈ a.1, sz W p.1.natAbs ≤ N) (hN2 : sz W a.2.natAbs ≤ N) (hqs : ∀ p ∈ qs, sz W p.1.natAbs ≤ N + N) (hr : sz W r.natAbs ≤ 549755813888) (hlen : N + N + (qs.length + a.1.length) ≤ 549755813888)
    (hb : Below W0.heap.size W0 w) (hg : W0.heap.size ≤ g) (hm : W0.heap.size ≤ m) (hG : Gn w g m qs r) :
    Calls Tryz.prog 49 #[.pointer (some ⟨g, 0, none⟩), va, .func (.func 50) #[.agg #[.bool dk, .slice pk nk ck]] #[]] w (fun e w' => e = .returned (.tuple #[]) ∧ Gn w' g m (qs ++ (a.1.map fun p => (p.1 / x, p.2))) (r + (a.2 / x)) ∧ Apart (fun k => k = g ∨ k = m) w w') := by
  obtain ⟨f, hf⟩ : ∃ f : Int → Int, f = fun z => z / x := ⟨_, rfl⟩
  have hfz : ∀ z, f z = z / x := fun z => by rw [hf]
  have HPhi : Hid (∀ (v : Value) (z : Int) (w' : World), Below W0.heap.size W0 w' → RawAt w' v z → sz W z.natAbs ≤ N → Calls Tryz.prog 50 #[.agg #[.bool dk, .slice pk nk ck], v] w' (RRaw (f z) w')) := hid (fun v z w' hb h hz => by rw [hfz]; exact quotient_raw v _ z x w' h (hK.below hb) hx0 (Nat.le_trans (sz_mono W2 (Int.natAbs_ediv_le_natAbs z x)) (by omega)))
  have HF : Hid (∀ z, sz W z.natAbs ≤ N → sz W (f z).natAbs ≤ N + N) := hid (fun z hz => by rw [hfz]; exact Nat.le_trans (sz_mono W2 (Int.natAbs_ediv_le_natAbs z x)) (by omega))
  have hmap : (a.1.map fun p => (p.1 / x, p.2)) = a.1.map (fun p => (f p.1, p.2)) := by rw [hf]
  rw [hmap, ← hfz a.2]
  clear hmap hfz hf hK hx0
  obtain ⟨a1, a2⟩ := a
  have ha : LnR W0 va (a1, a2) := ha
  obtain ⟨pv, n0, s0, rfl, hp, h2⟩ := ha
  obtain ⟨p, cp, rfl, j1, j2, -, j4⟩ := hp
  have hp2 := h2.agg2
  obtain ⟨d2, p2, n2, c2, e2⟩ := hp2
  obtain ⟨rfl, rfl⟩ : s0 = .slice p2 n2 c2 ∧ n0 = d2 := by
    injection e2 with e2
    simpa [and_comm] using e2
  clear e2
  have J4 := hid j4
  have HR2 := hid h2
  unfold maxLen at j2
  obtain ⟨W, hW⟩ : ∃ W, W = w.alloc (.cells #[.slice p a1.length cp, .bool n0, .slice p2 n2 c2] 37) := ⟨_, rfl⟩
  have b0 : Below w.heap.size w W := by rw [hW]; exact below1 w _
  have e0 : W.heap[w.heap.size]? = some (.cells #[.slice p a1.length cp, .bool n0, .slice p2 n2 c2] 37 (0, 0)) := by rw [hW]; exact heap_alloc_new w _
  have hGW : Gn W g m qs r := hG.below b0
  have glt : g < w.heap.size := hG.lt
  have mlt : m < w.heap.size := hG.map.lt
  have Hb0 := hid b0; have HE0 := hid e0; have HGW := hid hGW; have HBW := hid (lnGo b0 hb)
  have Hg := hid hg; have Hm := hid hm; have Hr := hid (Nat.le_trans hr (by decide : 549755813888 ≤ 1099511627776)); have HN := hid hN; have HS2 := hid hN2; have Hqs := hid hqs; have Hlen := hid hlen
  have hzW : W.heap.size = w.heap.size + 1 := by rw [hW, size_alloc]
  have HzW := hid hzW
  obtain ⟨L, hLL⟩ : ∃ L, L = a1.length := ⟨_, rfl⟩
  have HLL := hid hLL
  have hLb : L ≤ 549755813888 := by rw [hLL]; have : (a1, a2).1.length = a1.length := rfl; omega
  rw [← hLL] at HE0 hW j1 ⊢
  clear hG hb hN hN2 hqs hr hlen hg hm j4 h2 b0 e0 hGW hzW hLL
  go_enter Tryz.func49, Tryz.ntmps49
  go_upto_region 1 with fail
  rw [← hW]
  clear hW
  have y1 := (lnCells3 HE0.out).1
  go_wp2_with fail
  clear y1
  go_loopw [11] (fun i wr => ∃ (k : Nat), k ≤ L ∧ i = .int .i64 (k : Nat) ∧ Hid (Gn wr g m (qs ++ (a1.take k).map (fun p => (f p.1, p.2))) r) ∧ Hid (Apart (fun k => k = g ∨ k = m) W wr)) (fun i _ => L - (intOf i).toNat)
  case atStart => exact ⟨0, Nat.zero_le _, rfl, hid (by simpa using HGW.out), hid (Apart.refl _ _)⟩
  case round =>
    obtain ⟨k, hk, rfl, hGk, hAk⟩ := hrel
    have HBr : Hid (Below W0.heap.size W0 wr) := hid (apart_below HBW.out hAk.out Hg.out Hm.out)
    by_cases hlt : k < L
    · have hkt : k < a1.length := by rw [← HLL.out]; exact hlt
      have hlt' : (k : Int) < (L : Int) := by omega
      obtain ⟨b, o, rfl, hb, hc⟩ := J4.out (by omega)
      obtain ⟨cs, k0, d, s, ecs, hraw, hwf⟩ := hc k hkt
      have hsh := hraw.agg2
      obtain ⟨d', q, n, cq, e2⟩ := hsh
      obtain ⟨rfl, rfl⟩ : s = .slice q n cq ∧ d = d' := by
        injection e2 with e2
        simpa [and_comm] using e2
      clear e2
      subst ecs
      have y0 := (HBr.out.cell (p := ⟨b, o + k * 3, none⟩) hb).trans (k0 0 _ rfl)
      have y1 := (HBr.out.cell (p := ⟨b, o + k * 3 + 1, none⟩) hb).trans (k0 1 _ rfl)
      have y2 := (HBr.out.cell (p := ⟨b, o + k * 3 + 2, none⟩) hb).trans (k0 2 _ rfl)
      have Hc := hid (HN.out a1[k] (List.getElem_mem hkt))
      have HT := hid hwf
      have Hnext : Hid (qs ++ (a1.take (k + 1)).map (fun p => (f p.1, p.2)) = (qs ++ (a1.take k).map (fun p => (f p.1, p.2))) ++ [(f a1[k].1, a1[k].2)]) := hid (by rw [List.take_succ_eq_append_getElem hkt, List.map_append, List.append_assoc]; rfl)
      have hqk : ∀ p ∈ qs ++ (a1.take k).map (fun p => (f p.1, p.2)), sz Big.W p.1.natAbs ≤ N + N := by
        intro p hp
        rcases List.mem_append.1 hp with hp | hp
        · exact Hqs.out p hp
        · obtain ⟨y, hy, rfl⟩ := List.mem_map.1 hp
          exact HF.out _ (HN.out y (List.mem_of_mem_take hy))
      have hll := Hlen.out
      have hlq : (qs ++ (a1.take k).map (fun p => (f p.1, p.2))).length = qs.length + k := by simp; omega
      generalize qs ++ (a1.take k).map (fun p => (f p.1, p.2)) = qk at *
      generalize a1[k].1 = c at *
      generalize a1[k].2 = t at *
      have Hs1 := hid (Nat.le_trans (lnCf_sz (by omega) t qk hqk) (by have : (a1, a2).1.length = a1.length := rfl; omega : N + N + qk.length ≤ 1099511627776))
      have Hk : Hid (qk.length < maxLen) := hid (by unfold maxLen; have : (a1, a2).1.length = a1.length := rfl; omega)
      have HR5' := hid (hraw.below HBr.out)
      clear hc hqk hlq hll hraw hwf k0 J4
      obtain ⟨W5, hW5⟩ : ∃ W5, W5 = wr.alloc (.cells #[.bool d, .slice q n cq, .int .i64 t] 63) := ⟨_, rfl⟩
      have b5 : Below wr.heap.size wr W5 := by rw [hW5]; exact below1 wr _
      have HE5 : Hid (W5.heap[wr.heap.size]? = some (.cells #[.bool d, .slice q n cq, .int .i64 t] 63 (0, 0))) := hid (by rw [hW5]; exact heap_alloc_new wr _)
      have HG5 : Hid (Gn W5 g m qk r) := hid (hGk.out.below b5)
      have HR5 := hid (HR5'.out.below b5)
      have HB5 := hid (lnGo b5 HBr.out)
      have HA5 : Hid (Apart (fun k => k = g ∨ k = m) W W5) := hid (hAk.out.go (Apart.of_below b5))
      have z5 : wr.heap.size < W5.heap.size := by rw [hW5, size_alloc]; omega
      clear b5 hGk hAk HR5' hb
      go_upto_region 4 with fail
      rw [← hW5]
      clear hW5 y0 y1 y2
      refine wp_region_facts (w0 := W5) 18 1 [15, 16, 17, 18, 19, 20, 21, 22, 23, 24, 25, 26, 27, 28, 29, 30, 31, 32] [u15, u16, u17, u18, u19, u20, u21, u22, u23, u24, u25, u26, u27, u28, u29, u30, u31, u32]
        (fun i => match i with | 0 => lnE (.pointer (some ⟨g, 0, none⟩)) | 1 => lnE (.pointer (some ⟨g, 0, none⟩)) | 2 => lnE (.pointer (some ⟨g, 0, none⟩)) | 3 => lnE (.map (some m)) | 4 => lnE (.pointer (some ⟨wr.heap.size, 2, none⟩)) | 5 => lnE (.int .i64 t) | 6 => lnE (.pointer (some ⟨g, 0, none⟩)) | 7 => lnE (.pointer (some ⟨g, 0, none⟩)) | 8 => lnE (.pointer (some ⟨g, 0, none⟩)) | 9 => lnE (.map (some m)) | 10 => lnE (.pointer (some ⟨wr.heap.size, 2, none⟩)) | 11 => lnE (.int .i64 t) | 12 => lnI (lnCf qk t) | 13 => lnE (.func (.func 50) #[.agg #[.bool dk, .slice pk nk ck]] #[]) | 14 => lnE (.pointer (some ⟨wr.heap.size, 0, none⟩)) | 15 => lnE (.agg #[.bool d, .slice q n cq]) | 16 => lnR (f c) | _ => lnI (lnCf qk t + f c)) [] (by kernel_rfl) (by kernel_rfl) (by kernel_rfl) (by kernel_rfl) (by decide) rfl (by kernel_rfl) rfl (by simp) ?he5 ?_ ?_ ?_
      case he5 => simp only [putAll, Act.put, List.setIfInBounds_toArray, List.set_cons_zero, List.set_cons_succ]
      · intro i hi; simp at hi
      · intro i o hi ho vs wx hvl hb hdep K hK
        have hvs := vlen18 hvl
        obtain ⟨s15, s16, s17, s18, s19, s20, s21, s22, s23, s24, s25, s26, s27, s28, s29, s30, s31, s32, rfl⟩ := hvs
        clear hvl
        have HGx : GaAt wx g m _ _ r := HG5.out.below hb
        obtain ⟨pg, ng, cg, hgb, -⟩ := HGx.cells
        obtain ⟨x0, x1, x2⟩ := lnCells3 hgb
        obtain ⟨z0, z1, z2⟩ := lnCells3 ((hb.block wr.heap.size (by omega)).trans HE5.out)
        rcases i with _ | _ | _ | _ | _ | _ | _ | _ | _ | _ | _ | _ | _ | _ | _ | _ | _ | _ | i
        all_goals (simp only [List.getElem?_toArray, List.getElem?_cons_zero, List.getElem?_cons_succ, Option.some.injEq] at ho)
        all_goals try (subst ho)
        all_goals try simp only [putAll, Act.put, List.setIfInBounds_toArray, List.set_cons_zero, List.set_cons_succ]
        · go_simp
          have hK' := hK.out
          simp only [putAll, Act.put, List.setIfInBounds_toArray, List.set_cons_zero, List.set_cons_succ] at hK'
          exact hK' _ _ rfl (Below.refl _ _) (by simp)
        · have e0 : s15 = _ := hdep ⟨0, .data⟩ (by simp) rfl
          have e0 := e0.symm
          subst e0
          go_simp
          have hK' := hK.out
          simp only [putAll, Act.put, List.setIfInBounds_toArray, List.set_cons_zero, List.set_cons_succ] at hK'
          exact hK' _ _ rfl (Below.refl _ _) (by simp)
        · have e1 : s16 = _ := hdep ⟨1, .data⟩ (by simp) rfl
          have e1 := e1.symm
          subst e1
          go_simp
          have hK' := hK.out
          simp only [putAll, Act.put, List.setIfInBounds_toArray, List.set_cons_zero, List.set_cons_succ] at hK'
          exact hK' _ _ rfl (Below.refl _ _) (by simp)
        · have e2 : s17 = _ := hdep ⟨2, .data⟩ (by simp) rfl
          have e2 := e2.symm
          subst e2
          go_simp
          have hK' := hK.out
          simp only [putAll, Act.put, List.setIfInBounds_toArray, List.set_cons_zero, List.set_cons_succ] at hK'
          exact hK' _ _ rfl (Below.refl _ _) (by simp)
        · go_simp
          have hK' := hK.out
          simp only [putAll, Act.put, List.setIfInBounds_toArray, List.set_cons_zero, List.set_cons_succ] at hK'
          exact hK' _ _ rfl (Below.refl _ _) (by simp)
        · have e4 : s19 = _ := hdep ⟨4, .data⟩ (by simp) rfl
          have e4 := e4.symm
          subst e4
          go_simp
          have hK' := hK.out
          simp only [putAll, Act.put, List.setIfInBounds_toArray, List.set_cons_zero, List.set_cons_succ] at hK'
          exact hK' _ _ rfl (Below.refl _ _) (by simp)
        · go_simp
          have hK' := hK.out
          simp only [putAll, Act.put, List.setIfInBounds_toArray, List.set_cons_zero, List.set_cons_succ] at hK'
          exact hK' _ _ rfl (Below.refl _ _) (by simp)
        · have e6 : s21 = _ := hdep ⟨6, .data⟩ (by simp) rfl
          have e6 := e6.symm
          subst e6
          go_simp
          have hK' := hK.out
          simp only [putAll, Act.put, List.setIfInBounds_toArray, List.set_cons_zero, List.set_cons_succ] at hK'
          exact hK' _ _ rfl (Below.refl _ _) (by simp)
        · have e7 : s22 = _ := hdep ⟨7, .data⟩ (by simp) rfl
          have e7 := e7.symm
          subst e7
          go_simp
          have hK' := hK.out
          simp only [putAll, Act.put, List.setIfInBounds_toArray, List.set_cons_zero, List.set_cons_succ] at hK'
          exact hK' _ _ rfl (Below.refl _ _) (by simp)
        · have e8 : s23 = _ := hdep ⟨8, .data⟩ (by simp) rfl
          have e8 := e8.symm
          subst e8
          go_simp
          have hK' := hK.out
          simp only [putAll, Act.put, List.setIfInBounds_toArray, List.set_cons_zero, List.set_cons_succ] at hK'
          exact hK' _ _ rfl (Below.refl _ _) (by simp)
        · go_simp
          have hK' := hK.out
          simp only [putAll, Act.put, List.setIfInBounds_toArray, List.set_cons_zero, List.set_cons_succ] at hK'
          exact hK' _ _ rfl (Below.refl _ _) (by simp)
        · have e10 : s25 = _ := hdep ⟨10, .data⟩ (by simp) rfl
          have e10 := e10.symm
          subst e10
          go_simp
          have hK' := hK.out
          simp only [putAll, Act.put, List.setIfInBounds_toArray, List.set_cons_zero, List.set_cons_succ] at hK'
          exact hK' _ _ rfl (Below.refl _ _) (by simp)
        · have e9 : s24 = _ := hdep ⟨9, .data⟩ (by simp) rfl
          have e9 := e9.symm
          subst e9
          have e11 : s26 = _ := hdep ⟨11, .data⟩ (by simp) rfl
          have e11 := e11.symm
          subst e11
          obtain ⟨p5, n5, c5, hrun, hi⟩ := (HGx.map).look t HT.out
          go_simp
          go_simp
          have hK' := hK.out
          simp only [putAll, Act.put, List.setIfInBounds_toArray, List.set_cons_zero, List.set_cons_succ] at hK'
          exact hK' _ _ ⟨_, _, _, _, rfl, hi⟩ (Below.refl _ _) (by simp)
        · go_simp
          have hK' := hK.out
          simp only [putAll, Act.put, List.setIfInBounds_toArray, List.set_cons_zero, List.set_cons_succ] at hK'
          exact hK' _ _ rfl (Below.refl _ _) (by simp)
        · go_simp
          have hK' := hK.out
          simp only [putAll, Act.put, List.setIfInBounds_toArray, List.set_cons_zero, List.set_cons_succ] at hK'
          exact hK' _ _ rfl (Below.refl _ _) (by simp)
        · have e14 : s29 = _ := hdep ⟨14, .data⟩ (by simp) rfl
          have e14 := e14.symm
          subst e14
          go_simp
          have hK' := hK.out
          simp only [putAll, Act.put, List.setIfInBounds_toArray, List.set_cons_zero, List.set_cons_succ] at hK'
          exact hK' _ _ rfl (Below.refl _ _) (by simp)
        · have e13 : s28 = _ := hdep ⟨13, .data⟩ (by simp) rfl
          have e13 := e13.symm
          subst e13
          have e15 : s30 = _ := hdep ⟨15, .data⟩ (by simp) rfl
          have e15 := e15.symm
          subst e15
          go_simp
          refine (HPhi.out _ c wx (lnGo hb HB5.out) (HR5.out.below hb) Hc.out).mono ?_
          rintro e wy ⟨p5, n5, c5, d5, rfl, iy, hby⟩
          go_wp2_with fail
          have hK' := hK.out
          simp only [putAll, Act.put, List.setIfInBounds_toArray, List.set_cons_zero, List.set_cons_succ] at hK'
          exact hK' _ _ ⟨_, _, _, _, rfl, iy⟩ hby (by simp)
        · have e12 : (lnI (lnCf qk t)).P s27 wx := hdep ⟨12, .data⟩ (by simp) rfl
          obtain ⟨da12, pa12, na12, ca12, rfl, ia12⟩ := e12
          have e16 : (lnR (f c)).P s31 wx := hdep ⟨16, .data⟩ (by simp) rfl
          obtain ⟨da16, pa16, na16, ca16, rfl, ia16⟩ := e16
          go_simp
          refine (Add_any _ _ _ _ wx (ia12.rawL Hs1.out) ia16).mono ?_
          rintro e wy ⟨vy, rfl, iy, hby⟩
          have hsh := iy.shape
          obtain ⟨p5, n5, c5, rfl, iy⟩ := hsh
          go_wp2_with fail
          have hK' := hK.out
          simp only [putAll, Act.put, List.setIfInBounds_toArray, List.set_cons_zero, List.set_cons_succ] at hK'
          exact hK' _ _ ⟨_, _, _, _, rfl, iy⟩ hby (by simp)
        · omega
      · intro vs wx hvl hb hf hdist
        have hvs := vlen18 hvl
        obtain ⟨s15, s16, s17, s18, s19, s20, s21, s22, s23, s24, s25, s26, s27, s28, s29, s30, s31, s32, rfl⟩ := hvs
        have f3 : s18 = .map (some m) := hf 3 (by decide)
        have f5 : s20 = .int .i64 t := hf 5 (by decide)
        have f17 : (lnI (lnCf qk t + f c)).P s32 wx := hf 17 (by decide)
        obtain ⟨d7, p7, n7, c7, e7, i7⟩ := f17
        subst f3 f5 e7
        obtain ⟨w8, hrun, hG8, hA8⟩ := (show Gn wx g m qk r from HG5.out.below hb).put t (f c) HT.out Hk.out i7
        have HG8 := hid hG8
        have HA8 : Hid (Apart (fun k => k = g ∨ k = m) W w8) := hid (HA5.out.go ((Apart.of_below hb).go (hA8.mono (fun k hk => .inr hk))))
        clear hf hvl hdist hG8 hA8 i7
        refine wpAny_one (i := 18) (by kernel_rfl) rfl ?_
        intro K hK
        simp only [putAll, Act.put, List.setIfInBounds_toArray, List.set_cons_zero, List.set_cons_succ]
        have hK' := hK.out
        refine oper_map (.tmp 18) (.tmp 20) (.tmp 32) 105 rfl _ _ _ rfl rfl rfl rfl hrun ?_
        apply hK'
        clear hK hK' hrun
        refine wpAny_done (by kernel_rfl) ?_ _
        go_wp2_with fail
        go_roundw
        case rel => exact ⟨k + 1, by omega, by go_num, hid (by rw [Hnext.out]; exact HG8.out), HA8⟩
        case measure => simp [intOf] <;> omega
    · obtain rfl : k = L := by omega
      have hfin : a1.take k = a1 := by rw [HLL.out, List.take_length]
      have HGr : Hid (Gn wr g m (qs ++ a1.map (fun p => (f p.1, p.2))) r) := hid (by have := hGk.out; rw [hfin] at this; exact this)
      have HAr := hAk
      have HEr := hid ((hAk.out.block w.heap.size (by have := HzW.out; omega) (by omega)).trans HE0.out)
      have zr : w.heap.size < wr.heap.size := by have := hAk.out.size; have := HzW.out; omega
      have HR2 := hid (HR2.out.below HBr.out)
      clear hfin hGk hAk
      go_upto_region 6 with fail
      refine wp_region_facts (w0 := wr) 12 1 [34, 35, 36, 37, 38, 39, 40, 41, 42, 43, 44, 45] [undef, undef, undef, undef, undef, undef, undef, undef, undef, undef, undef, undef]
        (fun i => match i with | 0 => lnE (.pointer (some ⟨g, 0, none⟩)) | 1 => lnE (.pointer (some ⟨g, 0, none⟩)) | 2 => lnE (.pointer (some ⟨g, 0, none⟩)) | 3 => lnE (.pointer (some ⟨g, 1, none⟩)) | 4 => lnI r | 5 => lnE (.func (.func 50) #[.agg #[.bool dk, .slice pk nk ck]] #[]) | 6 => lnE (.pointer (some ⟨w.heap.size, 1, none⟩)) | 7 => lnE (.agg #[.bool n0, .slice p2 n2 c2]) | 8 => lnR (f a2) | 9 => lnI (r + f a2) | 10 => lnE (.pointer (some ⟨g, 0, none⟩)) | _ => lnE (.pointer (some ⟨g, 1, none⟩))) [] (by kernel_rfl) (by kernel_rfl) (by kernel_rfl) (by kernel_rfl) (by decide) rfl (by kernel_rfl) rfl (by simp) ?he6 ?_ ?_ ?_
      case he6 => simp only [putAll, Act.put, List.setIfInBounds_toArray, List.set_cons_zero, List.set_cons_succ]
      · intro i hi; simp at hi
      · intro i o hi ho vs wx hvl hb hdep K hK
        have hvs := vlen12 hvl
        obtain ⟨s34, s35, s36, s37, s38, s39, s40, s41, s42, s43, s44, s45, rfl⟩ := hvs
        clear hvl
        have HGx : GaAt wx g m _ _ r := HGr.out.below hb
        obtain ⟨pg, ng, cg, hgb, hgi⟩ := HGx.cells
        obtain ⟨x0, x1, x2⟩ := lnCells3 hgb
        obtain ⟨z0, z1, z2⟩ := lnCells3 ((hb.block w.heap.size (by omega)).trans HEr.out)
        rcases i with _ | _ | _ | _ | _ | _ | _ | _ | _ | _ | _ | _ | i
        all_goals (simp only [List.getElem?_toArray, List.getElem?_cons_zero, List.getElem?_cons_succ, Option.some.injEq] at ho)
        all_goals try (subst ho)
        all_goals try simp only [putAll, Act.put, List.setIfInBounds_toArray, List.set_cons_zero, List.set_cons_succ]
        · go_simp
          have hK' := hK.out
          simp only [putAll, Act.put, List.setIfInBounds_toArray, List.set_cons_zero, List.set_cons_succ] at hK'
          exact hK' _ _ rfl (Below.refl _ _) (by simp)
        · go_simp
          have hK' := hK.out
          simp only [putAll, Act.put, List.setIfInBounds_toArray, List.set_cons_zero, List.set_cons_succ] at hK'
          exact hK' _ _ rfl (Below.refl _ _) (by simp)
        · have e1 : s35 = _ := hdep ⟨1, .data⟩ (by simp) rfl
          have e1 := e1.symm
          subst e1
          go_simp
          have hK' := hK.out
          simp only [putAll, Act.put, List.setIfInBounds_toArray, List.set_cons_zero, List.set_cons_succ] at hK'
          exact hK' _ _ rfl (Below.refl _ _) (by simp)
        · have e2 : s36 = _ := hdep ⟨2, .data⟩ (by simp) rfl
          have e2 := e2.symm
          subst e2
          go_simp
          have hK' := hK.out
          simp only [putAll, Act.put, List.setIfInBounds_toArray, List.set_cons_zero, List.set_cons_succ] at hK'
          exact hK' _ _ rfl (Below.refl _ _) (by simp)
        · have e3 : s37 = _ := hdep ⟨3, .data⟩ (by simp) rfl
          have e3 := e3.symm
          subst e3
          go_simp
          go_simp
          have hK' := hK.out
          simp only [putAll, Act.put, List.setIfInBounds_toArray, List.set_cons_zero, List.set_cons_succ] at hK'
          exact hK' _ _ ⟨_, _, _, _, rfl, hgi⟩ (Below.refl _ _) (by simp)
        · go_simp
          have hK' := hK.out
          simp only [putAll, Act.put, List.setIfInBounds_toArray, List.set_cons_zero, List.set_cons_succ] at hK'
          exact hK' _ _ rfl (Below.refl _ _) (by simp)
        · go_simp
          have hK' := hK.out
          simp only [putAll, Act.put, List.setIfInBounds_toArray, List.set_cons_zero, List.set_cons_succ] at hK'
          exact hK' _ _ rfl (Below.refl _ _) (by simp)
        · have e6 : s40 = _ := hdep ⟨6, .data⟩ (by simp) rfl
          have e6 := e6.symm
          subst e6
          go_simp
          have hK' := hK.out
          simp only [putAll, Act.put, List.setIfInBounds_toArray, List.set_cons_zero, List.set_cons_succ] at hK'
          exact hK' _ _ rfl (Below.refl _ _) (by simp)
        · have e5 : s39 = _ := hdep ⟨5, .data⟩ (by simp) rfl
          have e5 := e5.symm
          subst e5
          have e7 : s41 = _ := hdep ⟨7, .data⟩ (by simp) rfl
          have e7 := e7.symm
          subst e7
          go_simp
          refine (HPhi.out _ a2 wx (lnGo hb HBr.out) (HR2.out.below hb) HS2.out).mono ?_
          rintro e wy ⟨p5, n5, c5, d5, rfl, iy, hby⟩
          go_wp2_with fail
          have hK' := hK.out
          simp only [putAll, Act.put, List.setIfInBounds_toArray, List.set_cons_zero, List.set_cons_succ] at hK'
          exact hK' _ _ ⟨_, _, _, _, rfl, iy⟩ hby (by simp)
        · have e4 : (lnI r).P s38 wx := hdep ⟨4, .data⟩ (by simp) rfl
          obtain ⟨da4, pa4, na4, ca4, rfl, ia4⟩ := e4
          have e8 : (lnR (f a2)).P s42 wx := hdep ⟨8, .data⟩ (by simp) rfl
          obtain ⟨da16, pa16, na16, ca16, rfl, ia16⟩ := e8
          go_simp
          refine (Add_any _ _ _ _ wx (ia4.rawL Hr.out) ia16).mono ?_
          rintro e wy ⟨vy, rfl, iy, hby⟩
          have hsh := iy.shape
          obtain ⟨p5, n5, c5, rfl, iy⟩ := hsh
          go_wp2_with fail
          have hK' := hK.out
          simp only [putAll, Act.put, List.setIfInBounds_toArray, List.set_cons_zero, List.set_cons_succ] at hK'
          exact hK' _ _ ⟨_, _, _, _, rfl, iy⟩ hby (by simp)
        · have e0 : s34 = _ := hdep ⟨0, .data⟩ (by simp) rfl
          have e0 := e0.symm
          subst e0
          go_simp
          have hK' := hK.out
          simp only [putAll, Act.put, List.setIfInBounds_toArray, List.set_cons_zero, List.set_cons_succ] at hK'
          exact hK' _ _ rfl (Below.refl _ _) (by simp)
        · have e10 : s44 = _ := hdep ⟨10, .data⟩ (by simp) rfl
          have e10 := e10.symm
          subst e10
          go_simp
          have hK' := hK.out
          simp only [putAll, Act.put, List.setIfInBounds_toArray, List.set_cons_zero, List.set_cons_succ] at hK'
          exact hK' _ _ rfl (Below.refl _ _) (by simp)
        · omega
      · intro vs wx hvl hb hf hdist
        have hvs := vlen12 hvl
        obtain ⟨s34, s35, s36, s37, s38, s39, s40, s41, s42, s43, s44, s45, rfl⟩ := hvs
        have f11 : s45 = .pointer (some ⟨g, 1, none⟩) := hf 11 (by decide)
        have f9 : (lnI (r + f a2)).P s43 wx := hf 9 (by decide)
        obtain ⟨d7, p7, n7, c7, e7, i7⟩ := f9
        subst f11 e7
        have hsh := i7.shape
        obtain ⟨p8, n8, c8, e8, i8⟩ := hsh
        injection e8 with e8
        have HGx : GaAt wx g m _ _ r := HGr.out.below hb
        obtain ⟨hG8, hA8⟩ := HGx.rest i8
        have e9 : d7 = decide (r + f a2 < 0) ∧ (.slice p7 n7 c7 : Value) = .slice p8 n8 c8 := by simpa using e8
        obtain ⟨rfl, e9⟩ := e9
        injection e9 with e91 e92 e93
        subst e91 e92 e93
        have HG8 := hid hG8
        have HA8 := hid (HAr.out.go ((Apart.of_below hb).go (hA8.mono (fun k hk => .inl hk))))
        obtain ⟨pg, ng, cg, hgb, -⟩ := HGx.cells
        obtain ⟨x0, x1, x2⟩ := lnCells3 hgb
        have fz1 := frozen_of_row wx g 1 _ _ hgb
        have fz2 := frozen_of_row wx g 2 _ _ hgb
        clear hf hvl hdist hG8 hA8 i7 i8
        refine wpAny_one (i := 12) (by kernel_rfl) rfl ?_
        intro K hK
        simp only [putAll, Act.put, List.setIfInBounds_toArray, List.set_cons_zero, List.set_cons_succ]
        have hK' := hK.out
        go_simp
        apply hK'
        clear hK hK'
        refine wpAny_done (by kernel_rfl) ?_ _
        try simp only [putAll, Act.put, List.setIfInBounds_toArray, List.set_cons_zero, List.set_cons_succ]
        go_wp2
        go_end0
        exact ⟨rfl, HG8.out, ⟨HA8.out.os.trans (Hb0.out.os), HA8.out.tape.trans Hb0.out.tape, HA8.out.output.trans Hb0.out.output, Nat.le_trans Hb0.out.size HA8.out.size, fun k hk hn => (HA8.out.block k (Nat.lt_of_lt_of_le hk Hb0.out.size) hn).trans (Hb0.out.block k hk)⟩⟩
end Go.Proofs.YtnfohbpgnbfmeaaGreatDoor
/- linear.Is. -/
namespace Go.Proofs.YtnfohbpgnbfmeaaGreatDoor
open Go.RowKit Big

theorem lnIs_take {l : List (Int × Int)} (h : lnIs l) (k : Nat) : lnIs (l.take k) := ⟨h.1.take, fun p hp => h.2 p (List.mem_of_mem_take hp)⟩
theorem lnIs_snoc : ∀ (l : List (Int × Int)) (p : Int × Int), lnIs (l ++ [p]) ↔ lnIs l ∧ p.1 ≠ 0 ∧ ∀ q ∈ l.getLast?, q.2 < p.2 := by
  intro l p
  unfold lnIs lnUp
  rw [List.pairwise_append]
  constructor
  · rintro ⟨⟨h1, -, h2⟩, h3⟩
    refine ⟨⟨h1, fun q hq => h3 q (by simp [hq])⟩, h3 p (by simp), fun q hq => h2 q (List.mem_of_getLast? hq) p (by simp)⟩
  · rintro ⟨⟨h1, h2⟩, h3, h4⟩
    refine ⟨⟨h1, List.pairwise_singleton _ _, fun q hq r hr => ?_⟩, fun q hq => ?_⟩
    · rw [List.mem_singleton.1 hr]
      cases hl : l.getLast? with
      | none =>
        rw [List.getLast?_eq_none_iff.1 hl] at hq
        cases hq
      | some x =>
        have hx := h4 x (by rw [hl]; rfl)
        obtain ⟨ys, rfl⟩ := List.getLast?_eq_some_iff.1 hl
        rcases List.mem_append.1 hq with hq | hq
        · have := (List.pairwise_append.1 h1).2.2 q hq x (by simp)
          omega
        · rw [List.mem_singleton.1 hq]; exact hx
    · rcases List.mem_append.1 hq with hq | hq
      · exact h2 q hq
      · rw [List.mem_singleton.1 hq]; exact h3
theorem lnIs_step (l : List (Int × Int)) (k : Nat) (hk : k < l.length) : lnIs (l.take (k + 1)) ↔ lnIs (l.take k) ∧ l[k].1 ≠ 0 ∧ (0 < k → ∀ (h : k - 1 < l.length), l[k - 1].2 < l[k].2) := by
  rw [List.take_succ_eq_append_getElem hk, lnIs_snoc]
  refine and_congr_right fun _ => and_congr_right fun _ => ?_
  rw [List.getLast?_take]
  by_cases h0 : k = 0
  · subst h0; simp
  · have h1 : k - 1 < l.length := by omega
    simp only [h0, if_false]
    rw [List.getElem?_eq_getElem h1]
    simp
    constructor
    · intro h _ _; exact h
    · intro h; exact h (by omega) h1
set_option maxRecDepth 100000 in
set_option maxHeartbeats 6400000 in
theorem Is_lin (v : Value) (a : List (Int × Int) × Int) (w : World) (h : LnR w v a) (hl : a.1.length ≤ 1000000000000) :
    Calls Tryz.prog 29 #[v] w (RBool (decide (lnIs a.1)) w) := by
  obtain ⟨pv, n0, s0, rfl, hp, h2⟩ := h
  have hsh := h2.agg2
  obtain ⟨d2, p2, n2, c2, e2⟩ := hsh
  obtain ⟨rfl, rfl⟩ : s0 = .slice p2 n2 c2 ∧ n0 = d2 := by
    injection e2 with e2
    simpa [and_comm] using e2
  clear e2 h2
  obtain ⟨l, x⟩ := a
  have hl : l.length ≤ 1000000000000 := hl
  show Calls Tryz.prog 29 _ w (RBool (decide (lnIs l)) w)
  obtain ⟨p, cp, rfl, j1, j2, -, j4⟩ := (show PtsR w pv l from hp)
  have J4 := hid j4
  obtain ⟨W, hW⟩ : ∃ W, W = w.alloc (.cells #[.slice p l.length cp, .bool n0, .slice p2 n2 c2] 37) := ⟨_, rfl⟩
  have b0 : Below w.heap.size w W := by rw [hW]; exact below1 w _
  have e0 : W.heap[w.heap.size]? = some (.cells #[.slice p l.length cp, .bool n0, .slice p2 n2 c2] 37 (0, 0)) := by rw [hW]; exact heap_alloc_new w _
  have z0 : W.heap.size = w.heap.size + 1 := by rw [hW, size_alloc]
  have B0 := hid b0; have E0 := hid e0; have Z0 := hid z0
  obtain ⟨L, hLL⟩ : ∃ L, L = l.length := ⟨_, rfl⟩
  have HLL := hid hLL
  rw [← hLL] at E0 hW j1 hl ⊢
  clear hp j4 b0 e0 z0 hLL
  go_enter Tryz.func29, Tryz.ntmps29
  go_upto_region 1 with fail
  rw [← hW]
  clear hW
  have y1 := (lnCells3 E0.out).1
  go_wp2_with fail
  clear y1
  go_loopw [8] (fun i wr => ∃ (k : Nat), k ≤ L ∧ i = .int .i64 (k : Nat) ∧ Hid (lnIs (l.take k)) ∧ Hid (Below W.heap.size W wr)) (fun i _ => L - (intOf i).toNat)
  case atStart => exact ⟨0, Nat.zero_le _, rfl, hid ⟨List.Pairwise.nil, by simp⟩, hid (Below.refl _ _)⟩
  case round =>
    obtain ⟨k, hk, rfl, HI, HB⟩ := hrel
    by_cases hlt : k < L
    · have hkt : k < l.length := by rw [← HLL.out]; exact hlt
      have hlt' : (k : Int) < (L : Int) := by omega
      have HBw := hid (lnGo HB.out B0.out)
      obtain ⟨b, o, rfl, hb, hc⟩ := J4.out (by omega)
      have hc' := hc
      obtain ⟨cs, k0, d, s, ecs, hraw, hwf⟩ := hc k hkt
      have hsh := hraw.agg2
      obtain ⟨d', q, n, cq, e2⟩ := hsh
      obtain ⟨rfl, rfl⟩ : s = .slice q n cq ∧ d = d' := by
        injection e2 with e2
        simpa [and_comm] using e2
      clear e2
      subst ecs
      have y0 := (HBw.out.cell (p := ⟨b, o + k * 3, none⟩) hb).trans (k0 0 _ rfl)
      have y1 := (HBw.out.cell (p := ⟨b, o + k * 3 + 1, none⟩) hb).trans (k0 1 _ rfl)
      have y2 := (HBw.out.cell (p := ⟨b, o + k * 3 + 2, none⟩) hb).trans (k0 2 _ rfl)
      have Hstep := hid (lnIs_step l k hkt)
      have hraw := hraw.below HBw.out
      have hpre : ∀ (hk1 : k - 1 < l.length), 0 < k → w.cell? ⟨b, o + (k - 1) * 3 + 2, none⟩ = some (.int .i64 l[k - 1].2) := by
        intro hk1 _
        obtain ⟨cs, k0, d, s, rfl, -, -⟩ := hc' (k - 1) hk1
        exact k0 2 _ rfl
      have Hpre := hid hpre
      generalize l[k].1 = c at *
      generalize l[k].2 = t at *
      clear k0 hc hc' hpre
      obtain ⟨W5, hW5⟩ : ∃ W5, W5 = wr.alloc (.cells #[.bool d, .slice q n cq, .int .i64 t] 63) := ⟨_, rfl⟩
      have b5 : Below wr.heap.size wr W5 := by rw [hW5]; exact below1 wr _
      have e5 : W5.heap[wr.heap.size]? = some (.cells #[.bool d, .slice q n cq, .int .i64 t] 63 (0, 0)) := by rw [hW5]; exact heap_alloc_new wr _
      have z5 : wr.heap.size < W5.heap.size := by rw [hW5, size_alloc]; omega
      have zr := HB.out.size
      have HBw5 : Hid (Below w.heap.size w W5) := hid (lnGo b5 HBw.out)
      have HBW5 : Hid (Below W.heap.size W W5) := hid (lnGo b5 HB.out)
      have HS : Hid (∀ w', Below W5.heap.size W5 w' → w'.cell? ⟨wr.heap.size, 0, none⟩ = some (.bool d) ∧ w'.cell? ⟨wr.heap.size, 1, none⟩ = some (.slice q n cq) ∧ w'.cell? ⟨wr.heap.size, 2, none⟩ = some (.int .i64 t) ∧ w'.cell? ⟨w.heap.size, 0, none⟩ = some (.slice (some ⟨b, o, none⟩) L cp) ∧ True) := hid fun w' hb' => by
        obtain ⟨t0, t1, t2⟩ := lnCells3 ((hb'.block wr.heap.size z5).trans e5)
        obtain ⟨t3, -, -⟩ := lnCells3 (((lnGo hb' HBW5.out).block w.heap.size (by have := Z0.out; omega)).trans E0.out)
        exact ⟨t0, t1, t2, t3, trivial⟩
      have HSg0 := hid (fun w' (hb' : Below W5.heap.size W5 w') => Sign_any _ c w' ((hraw.below b5).below hb'))
      clear b5 e5 hraw HB
      by_cases hc0 : c = 0
      · have HSg : Hid (∀ w', Below W5.heap.size W5 w' → Calls Tryz.prog 30 #[.agg #[.bool d, .slice q n cq]] w' (fun e w'' => e = .returned (.int .i64 0) ∧ Below w'.heap.size w' w'')) := hid fun w' hb' => by
          have := HSg0.out w' hb'
          rw [hc0] at this
          exact this
        have Hno : Hid (¬ lnIs l) := hid fun hI => ((Hstep.out).1 (lnIs_take hI _)).2.1 hc0
        clear HSg0 hc0 Hstep
        go_upto_region 4 with fail
        rw [← hW5]
        clear hW5 y0 y1 y2
        refine wp_region_facts (w0 := W5) 20 0 [13, 14, 15, 16, 17, 18, 19, 20, 21, 22, 23, 24, 25, 26, 27, 28, 29, 30, 31, 32] [u13, u14, u15, u16, u17, u18, u19, u20, u21, u22, u23, u24, u25, u26, u27, u28, u29, u30, u31, u32]
          (fun i => match i with | 0 => lnE (.pointer (some ⟨wr.heap.size, 0, none⟩)) | 1 => lnE (.agg #[.bool d, .slice q n cq]) | 2 => lnE (.int .i64 0) | 3 => lnE (.bool true) | 4 => lnE (.bool true) | 5 => lnE (undef) | 6 => lnE (undef) | 7 => lnE (undef) | 8 => lnE (undef) | 9 => lnE (undef) | 10 => lnE (undef) | 11 => lnE (undef) | 12 => lnE (undef) | 13 => lnE (undef) | 14 => lnE (undef) | 15 => lnE (undef) | 16 => lnE (undef) | 17 => lnE (undef) | 18 => lnE (undef) | _ => lnE (.bool true)) [] (by kernel_rfl) (by kernel_rfl) (by kernel_rfl) (by kernel_rfl) (by decide) rfl (by kernel_rfl) rfl (by simp) ?he1 ?_ ?_ ?_
        case he1 => simp only [putAll, Act.put, List.setIfInBounds_toArray, List.set_cons_zero, List.set_cons_succ]
        · intro i hi; simp at hi
        · intro i o hi ho vs wx hvl hb hdep K hK
          have hvs := vlen20 hvl
          obtain ⟨s13, s14, s15, s16, s17, s18, s19, s20, s21, s22, s23, s24, s25, s26, s27, s28, s29, s30, s31, s32, rfl⟩ := hvs
          clear hvl
          have hk5 := HS.out wx hb
          obtain ⟨y3, y4, y5, y6, y7⟩ := hk5
          rcases i with _ | _ | _ | _ | _ | _ | _ | _ | _ | _ | _ | _ | _ | _ | _ | _ | _ | _ | _ | _ | i
          all_goals (simp only [List.getElem?_toArray, List.getElem?_cons_zero, List.getElem?_cons_succ, Option.some.injEq] at ho)
          all_goals try (subst ho)
          all_goals try simp only [putAll, Act.put, List.setIfInBounds_toArray, List.set_cons_zero, List.set_cons_succ]
          · go_simp
            have hK' := hK.out
            simp only [putAll, Act.put, List.setIfInBounds_toArray, List.set_cons_zero, List.set_cons_succ] at hK'
            exact hK' _ _ rfl (Below.refl _ _) (by simp)
          · have e0 : s13 = _ := hdep ⟨0, .data⟩ (by simp) rfl
            have e0 := e0.symm
            subst e0
            go_simp
            have hK' := hK.out
            simp only [putAll, Act.put, List.setIfInBounds_toArray, List.set_cons_zero, List.set_cons_succ] at hK'
            exact hK' _ _ rfl (Below.refl _ _) (by simp)
          · have e1 : s14 = _ := hdep ⟨1, .data⟩ (by simp) rfl
            have e1 := e1.symm
            subst e1
            go_simp
            go_simp
            refine (HSg.out wx hb).mono ?_
            rintro e wy ⟨rfl, hby⟩
            go_wp2_with fail
            have hK' := hK.out
            simp only [putAll, Act.put, List.setIfInBounds_toArray, List.set_cons_zero, List.set_cons_succ] at hK'
            exact hK' _ _ rfl hby (by simp)
          · have e2 : s15 = _ := hdep ⟨2, .data⟩ (by simp) rfl
            have e2 := e2.symm
            subst e2
            go_simp
            have hK' := hK.out
            simp only [putAll, Act.put, List.setIfInBounds_toArray, List.set_cons_zero, List.set_cons_succ] at hK'
            exact hK' _ _ rfl (Below.refl _ _) (by simp)
          · have e3 : s16 = _ := hdep ⟨3, .data⟩ (by simp) rfl
            have e3 := e3.symm
            subst e3
            go_simp
            have hK' := hK.out
            simp only [putAll, Act.put, List.setIfInBounds_toArray, List.set_cons_zero, List.set_cons_succ] at hK'
            exact hK' _ _ rfl (Below.refl _ _) (by simp)
          · go_simp
            have eg : s17 = _ := hdep ⟨4, .guard⟩ (by simp) rfl
            have eg := eg.symm
            subst eg
            first | go_simp | skip
            try rw [if_neg (by simp [undef])]
            have hK' := hK.out
            simp only [putAll, Act.put, List.setIfInBounds_toArray, List.set_cons_zero, List.set_cons_succ] at hK'
            exact hK' _ _ rfl (Below.refl _ _) (by simp)
          · go_simp
            have eg : s17 = _ := hdep ⟨4, .guard⟩ (by simp) rfl
            have eg := eg.symm
            subst eg
            first | go_simp | skip
            try rw [if_neg (by simp [undef])]
            have hK' := hK.out
            simp only [putAll, Act.put, List.setIfInBounds_toArray, List.set_cons_zero, List.set_cons_succ] at hK'
            exact hK' _ _ rfl (Below.refl _ _) (by simp)
          · go_simp
            have eg : s17 = _ := hdep ⟨4, .guard⟩ (by simp) rfl
            have eg := eg.symm
            subst eg
            first | go_simp | skip
            try rw [if_neg (by simp [undef])]
            have hK' := hK.out
            simp only [putAll, Act.put, List.setIfInBounds_toArray, List.set_cons_zero, List.set_cons_succ] at hK'
            exact hK' _ _ rfl (Below.refl _ _) (by simp)
          · go_simp
            have eg : s20 = _ := hdep ⟨7, .guard⟩ (by simp) rfl
            have eg := eg.symm
            subst eg
            first | go_simp | skip
            try rw [if_neg (by simp [undef])]
            have hK' := hK.out
            simp only [putAll, Act.put, List.setIfInBounds_toArray, List.set_cons_zero, List.set_cons_succ] at hK'
            exact hK' _ _ rfl (Below.refl _ _) (by simp)
          · go_simp
            have eg : s20 = _ := hdep ⟨7, .guard⟩ (by simp) rfl
            have eg := eg.symm
            subst eg
            first | go_simp | skip
            try rw [if_neg (by simp [undef])]
            have hK' := hK.out
            simp only [putAll, Act.put, List.setIfInBounds_toArray, List.set_cons_zero, List.set_cons_succ] at hK'
            exact hK' _ _ rfl (Below.refl _ _) (by simp)
          · go_simp
            have eg : s20 = _ := hdep ⟨7, .guard⟩ (by simp) rfl
            have eg := eg.symm
            subst eg
            first | go_simp | skip
            try rw [if_neg (by simp [undef])]
            have hK' := hK.out
            simp only [putAll, Act.put, List.setIfInBounds_toArray, List.set_cons_zero, List.set_cons_succ] at hK'
            exact hK' _ _ rfl (Below.refl _ _) (by simp)
          · go_simp
            have eg : s20 = _ := hdep ⟨7, .guard⟩ (by simp) rfl
            have eg := eg.symm
            subst eg
            first | go_simp | skip
            try rw [if_neg (by simp [undef])]
            have hK' := hK.out
            simp only [putAll, Act.put, List.setIfInBounds_toArray, List.set_cons_zero, List.set_cons_succ] at hK'
            exact hK' _ _ rfl (Below.refl _ _) (by simp)
          · go_simp
            have eg : s20 = _ := hdep ⟨7, .guard⟩ (by simp) rfl
            have eg := eg.symm
            subst eg
            first | go_simp | skip
            try rw [if_neg (by simp [undef])]
            have hK' := hK.out
            simp only [putAll, Act.put, List.setIfInBounds_toArray, List.set_cons_zero, List.set_cons_succ] at hK'
            exact hK' _ _ rfl (Below.refl _ _) (by simp)
          · go_simp
            have eg : s20 = _ := hdep ⟨7, .guard⟩ (by simp) rfl
            have eg := eg.symm
            subst eg
            first | go_simp | skip
            try rw [if_neg (by simp [undef])]
            have hK' := hK.out
            simp only [putAll, Act.put, List.setIfInBounds_toArray, List.set_cons_zero, List.set_cons_succ] at hK'
            exact hK' _ _ rfl (Below.refl _ _) (by simp)
          · go_simp
            have eg : s20 = _ := hdep ⟨7, .guard⟩ (by simp) rfl
            have eg := eg.symm
            subst eg
            first | go_simp | skip
            try rw [if_neg (by simp [undef])]
            have hK' := hK.out
            simp only [putAll, Act.put, List.setIfInBounds_toArray, List.set_cons_zero, List.set_cons_succ] at hK'
            exact hK' _ _ rfl (Below.refl _ _) (by simp)
          · go_simp
            have eg : s20 = _ := hdep ⟨7, .guard⟩ (by simp) rfl
            have eg := eg.symm
            subst eg
            first | go_simp | skip
            try rw [if_neg (by simp [undef])]
            have hK' := hK.out
            simp only [putAll, Act.put, List.setIfInBounds_toArray, List.set_cons_zero, List.set_cons_succ] at hK'
            exact hK' _ _ rfl (Below.refl _ _) (by simp)
          · go_simp
            have eg : s20 = _ := hdep ⟨7, .guard⟩ (by simp) rfl
            have eg := eg.symm
            subst eg
            first | go_simp | skip
            try rw [if_neg (by simp [undef])]
            have hK' := hK.out
            simp only [putAll, Act.put, List.setIfInBounds_toArray, List.set_cons_zero, List.set_cons_succ] at hK'
            exact hK' _ _ rfl (Below.refl _ _) (by simp)
          · go_simp
            have eg : s20 = _ := hdep ⟨7, .guard⟩ (by simp) rfl
            have eg := eg.symm
            subst eg
            first | go_simp | skip
            try rw [if_neg (by simp [undef])]
            have hK' := hK.out
            simp only [putAll, Act.put, List.setIfInBounds_toArray, List.set_cons_zero, List.set_cons_succ] at hK'
            exact hK' _ _ rfl (Below.refl _ _) (by simp)
          · go_simp
            have eg : s17 = _ := hdep ⟨4, .guard⟩ (by simp) rfl
            have eg := eg.symm
            subst eg
            first | go_simp | skip
            try rw [if_neg (by simp [undef])]
            have hK' := hK.out
            simp only [putAll, Act.put, List.setIfInBounds_toArray, List.set_cons_zero, List.set_cons_succ] at hK'
            exact hK' _ _ rfl (Below.refl _ _) (by simp)
          · have e4 : s17 = _ := hdep ⟨4, .data⟩ (by simp) rfl
            have e4 := e4.symm
            subst e4
            go_simp
            have hK' := hK.out
            simp only [putAll, Act.put, List.setIfInBounds_toArray, List.set_cons_zero, List.set_cons_succ] at hK'
            exact hK' _ _ rfl (Below.refl _ _) (by simp)
          · omega
        · intro vs wx hvl hb hf hdist
          have hvs := vlen20 hvl
          obtain ⟨s13, s14, s15, s16, s17, s18, s19, s20, s21, s22, s23, s24, s25, s26, s27, s28, s29, s30, s31, s32, rfl⟩ := hvs
          have f19 : s32 = _ := hf 19 (by decide)
          have f19 := f19.symm
          subst f19
          have Hb9 := hid (lnGo hb HBw5.out)
          clear hf hvl hdist
          refine wpAny_done (by kernel_rfl) ?_ _
          try simp only [putAll, Act.put, List.setIfInBounds_toArray, List.set_cons_zero, List.set_cons_succ]
          have hd : decide (lnIs l) = false := by simpa using Hno.out
          go_wp2
          go_ret
          exact ⟨by rw [hd]; rfl, Hb9.out⟩
      · have hs0 : (c.sign == 0) = false := by
          rw [beq_eq_false_iff_ne]
          exact fun h => hc0 (Int.sign_eq_zero_iff_zero.1 h)
        have HSg := HSg0
        have HsE := hid hs0
        by_cases hk0 : k = 0
        · have HK0 := hid hk0
          have Hnx : Hid (lnIs (l.take (k + 1))) := hid ((Hstep.out).2 ⟨HI.out, hc0, fun h => absurd h (by omega)⟩)
          clear HSg0 hc0 Hstep hs0 hk0 HI
          go_upto_region 4 with fail
          rw [← hW5]
          clear hW5 y0 y1 y2
          refine wp_region_facts (w0 := W5) 20 0 [13, 14, 15, 16, 17, 18, 19, 20, 21, 22, 23, 24, 25, 26, 27, 28, 29, 30, 31, 32] [u13, u14, u15, u16, u17, u18, u19, u20, u21, u22, u23, u24, u25, u26, u27, u28, u29, u30, u31, u32]
            (fun i => match i with | 0 => lnE (.pointer (some ⟨wr.heap.size, 0, none⟩)) | 1 => lnE (.agg #[.bool d, .slice q n cq]) | 2 => lnE (.int .i64 c.sign) | 3 => lnE (.bool false) | 4 => lnE (.bool false) | 5 => lnE (.int .i64 (k : Nat)) | 6 => lnE (.bool false) | 7 => lnE (.bool false) | 8 => lnE (undef) | 9 => lnE (undef) | 10 => lnE (undef) | 11 => lnE (undef) | 12 => lnE (undef) | 13 => lnE (undef) | 14 => lnE (undef) | 15 => lnE (undef) | 16 => lnE (undef) | 17 => lnE (undef) | 18 => lnE (.bool false) | _ => lnE (.bool false)) [] (by kernel_rfl) (by kernel_rfl) (by kernel_rfl) (by kernel_rfl) (by decide) rfl (by kernel_rfl) rfl (by simp) ?he2 ?_ ?_ ?_
          case he2 => simp only [putAll, Act.put, List.setIfInBounds_toArray, List.set_cons_zero, List.set_cons_succ]
          · intro i hi; simp at hi
          · intro i o hi ho vs wx hvl hb hdep K hK
            have hvs := vlen20 hvl
            obtain ⟨s13, s14, s15, s16, s17, s18, s19, s20, s21, s22, s23, s24, s25, s26, s27, s28, s29, s30, s31, s32, rfl⟩ := hvs
            clear hvl
            have hk5 := HS.out wx hb
            obtain ⟨y3, y4, y5, y6, y7⟩ := hk5
            rcases i with _ | _ | _ | _ | _ | _ | _ | _ | _ | _ | _ | _ | _ | _ | _ | _ | _ | _ | _ | _ | i
            all_goals (simp only [List.getElem?_toArray, List.getElem?_cons_zero, List.getElem?_cons_succ, Option.some.injEq] at ho)
            all_goals try (subst ho)
            all_goals try simp only [putAll, Act.put, List.setIfInBounds_toArray, List.set_cons_zero, List.set_cons_succ]
            · go_simp
              have hK' := hK.out
              simp only [putAll, Act.put, List.setIfInBounds_toArray, List.set_cons_zero, List.set_cons_succ] at hK'
              exact hK' _ _ rfl (Below.refl _ _) (by simp)
            · have e0 : s13 = _ := hdep ⟨0, .data⟩ (by simp) rfl
              have e0 := e0.symm
              subst e0
              go_simp
              have hK' := hK.out
              simp only [putAll, Act.put, List.setIfInBounds_toArray, List.set_cons_zero, List.set_cons_succ] at hK'
              exact hK' _ _ rfl (Below.refl _ _) (by simp)
            · have e1 : s14 = _ := hdep ⟨1, .data⟩ (by simp) rfl
              have e1 := e1.symm
              subst e1
              go_simp
              go_simp
              refine (HSg.out wx hb).mono ?_
              rintro e wy ⟨rfl, hby⟩
              go_wp2_with fail
              have hK' := hK.out
              simp only [putAll, Act.put, List.setIfInBounds_toArray, List.set_cons_zero, List.set_cons_succ] at hK'
              exact hK' _ _ rfl hby (by simp)
            · have e2 : s15 = _ := hdep ⟨2, .data⟩ (by simp) rfl
              have e2 := e2.symm
              subst e2
              go_simp
              have hK' := hK.out
              simp only [putAll, Act.put, List.setIfInBounds_toArray, List.set_cons_zero, List.set_cons_succ] at hK'
              exact hK' _ _ (show Value.bool (c.sign == 0) = .bool false by rw [HsE.out]) (Below.refl _ _) (by simp)
            · have e3 : s16 = _ := hdep ⟨3, .data⟩ (by simp) rfl
              have e3 := e3.symm
              subst e3
              go_simp
              have hK' := hK.out
              simp only [putAll, Act.put, List.setIfInBounds_toArray, List.set_cons_zero, List.set_cons_succ] at hK'
              exact hK' _ _ rfl (Below.refl _ _) (by simp)
            · have eg : s17 = _ := hdep ⟨4, .guard⟩ (by simp) rfl
              have eg := eg.symm
              subst eg
              go_simp
              have hK' := hK.out
              simp only [putAll, Act.put, List.setIfInBounds_toArray, List.set_cons_zero, List.set_cons_succ] at hK'
              exact hK' _ _ rfl (Below.refl _ _) (by simp)
            · have e5 : s18 = _ := hdep ⟨5, .data⟩ (by simp) rfl
              have e5 := e5.symm
              subst e5
              have eg : s17 = _ := hdep ⟨4, .guard⟩ (by simp) rfl
              have eg := eg.symm
              subst eg
              go_simp
              have hK' := hK.out
              simp only [putAll, Act.put, List.setIfInBounds_toArray, List.set_cons_zero, List.set_cons_succ] at hK'
              exact hK' _ _ (show _ = Value.bool false by first | rfl | (have := HK0.out; simp [this])) (Below.refl _ _) (by simp)
            · have e6 : s19 = _ := hdep ⟨6, .data⟩ (by simp) rfl
              have e6 := e6.symm
              subst e6
              have eg : s17 = _ := hdep ⟨4, .guard⟩ (by simp) rfl
              have eg := eg.symm
              subst eg
              go_simp
              have hK' := hK.out
              simp only [putAll, Act.put, List.setIfInBounds_toArray, List.set_cons_zero, List.set_cons_succ] at hK'
              exact hK' _ _ rfl (Below.refl _ _) (by simp)
            · go_simp
              have eg : s20 = _ := hdep ⟨7, .guard⟩ (by simp) rfl
              have eg := eg.symm
              subst eg
              first | go_simp | skip
              try rw [if_neg (by simp [undef])]
              have hK' := hK.out
              simp only [putAll, Act.put, List.setIfInBounds_toArray, List.set_cons_zero, List.set_cons_succ] at hK'
              exact hK' _ _ rfl (Below.refl _ _) (by simp)
            · go_simp
              have eg : s20 = _ := hdep ⟨7, .guard⟩ (by simp) rfl
              have eg := eg.symm
              subst eg
              first | go_simp | skip
              try rw [if_neg (by simp [undef])]
              have hK' := hK.out
              simp only [putAll, Act.put, List.setIfInBounds_toArray, List.set_cons_zero, List.set_cons_succ] at hK'
              exact hK' _ _ rfl (Below.refl _ _) (by simp)
            · go_simp
              have eg : s20 = _ := hdep ⟨7, .guard⟩ (by simp) rfl
              have eg := eg.symm
              subst eg
              first | go_simp | skip
              try rw [if_neg (by simp [undef])]
              have hK' := hK.out
              simp only [putAll, Act.put, List.setIfInBounds_toArray, List.set_cons_zero, List.set_cons_succ] at hK'
              exact hK' _ _ rfl (Below.refl _ _) (by simp)
            · go_simp
              have eg : s20 = _ := hdep ⟨7, .guard⟩ (by simp) rfl
              have eg := eg.symm
              subst eg
              first | go_simp | skip
              try rw [if_neg (by simp [undef])]
              have hK' := hK.out
              simp only [putAll, Act.put, List.setIfInBounds_toArray, List.set_cons_zero, List.set_cons_succ] at hK'
              exact hK' _ _ rfl (Below.refl _ _) (by simp)
            · go_simp
              have eg : s20 = _ := hdep ⟨7, .guard⟩ (by simp) rfl
              have eg := eg.symm
              subst eg
              first | go_simp | skip
              try rw [if_neg (by simp [undef])]
              have hK' := hK.out
              simp only [putAll, Act.put, List.setIfInBounds_toArray, List.set_cons_zero, List.set_cons_succ] at hK'
              exact hK' _ _ rfl (Below.refl _ _) (by simp)
            · go_simp
              have eg : s20 = _ := hdep ⟨7, .guard⟩ (by simp) rfl
              have eg := eg.symm
              subst eg
              first | go_simp | skip
              try rw [if_neg (by simp [undef])]
              have hK' := hK.out
              simp only [putAll, Act.put, List.setIfInBounds_toArray, List.set_cons_zero, List.set_cons_succ] at hK'
              exact hK' _ _ rfl (Below.refl _ _) (by simp)
            · go_simp
              have eg : s20 = _ := hdep ⟨7, .guard⟩ (by simp) rfl
              have eg := eg.symm
              subst eg
              first | go_simp | skip
              try rw [if_neg (by simp [undef])]
              have hK' := hK.out
              simp only [putAll, Act.put, List.setIfInBounds_toArray, List.set_cons_zero, List.set_cons_succ] at hK'
              exact hK' _ _ rfl (Below.refl _ _) (by simp)
            · go_simp
              have eg : s20 = _ := hdep ⟨7, .guard⟩ (by simp) rfl
              have eg := eg.symm
              subst eg
              first | go_simp | skip
              try rw [if_neg (by simp [undef])]
              have hK' := hK.out
              simp only [putAll, Act.put, List.setIfInBounds_toArray, List.set_cons_zero, List.set_cons_succ] at hK'
              exact hK' _ _ rfl (Below.refl _ _) (by simp)
            · go_simp
              have eg : s20 = _ := hdep ⟨7, .guard⟩ (by simp) rfl
              have eg := eg.symm
              subst eg
              first | go_simp | skip
              try rw [if_neg (by simp [undef])]
              have hK' := hK.out
              simp only [putAll, Act.put, List.setIfInBounds_toArray, List.set_cons_zero, List.set_cons_succ] at hK'
              exact hK' _ _ rfl (Below.refl _ _) (by simp)
            · go_simp
              have eg : s20 = _ := hdep ⟨7, .guard⟩ (by simp) rfl
              have eg := eg.symm
              subst eg
              first | go_simp | skip
              try rw [if_neg (by simp [undef])]
              have hK' := hK.out
              simp only [putAll, Act.put, List.setIfInBounds_toArray, List.set_cons_zero, List.set_cons_succ] at hK'
              exact hK' _ _ rfl (Below.refl _ _) (by simp)
            · have e7 : s20 = _ := hdep ⟨7, .data⟩ (by simp) rfl
              have e7 := e7.symm
              subst e7
              have eg : s17 = _ := hdep ⟨4, .guard⟩ (by simp) rfl
              have eg := eg.symm
              subst eg
              go_simp
              have hK' := hK.out
              simp only [putAll, Act.put, List.setIfInBounds_toArray, List.set_cons_zero, List.set_cons_succ] at hK'
              exact hK' _ _ rfl (Below.refl _ _) (by simp)
            · have e4 : s17 = _ := hdep ⟨4, .data⟩ (by simp) rfl
              have e4 := e4.symm
              subst e4
              have e18 : s31 = _ := hdep ⟨18, .data⟩ (by simp) rfl
              have e18 := e18.symm
              subst e18
              go_simp
              have hK' := hK.out
              simp only [putAll, Act.put, List.setIfInBounds_toArray, List.set_cons_zero, List.set_cons_succ] at hK'
              exact hK' _ _ rfl (Below.refl _ _) (by simp)
            · omega
          · intro vs wx hvl hb hf hdist
            have hvs := vlen20 hvl
            obtain ⟨s13, s14, s15, s16, s17, s18, s19, s20, s21, s22, s23, s24, s25, s26, s27, s28, s29, s30, s31, s32, rfl⟩ := hvs
            have f19 : s32 = _ := hf 19 (by decide)
            have f19 := f19.symm
            subst f19
            have Hb9 := hid (lnGo hb HBw5.out)
            clear hf hvl hdist
            refine wpAny_done (by kernel_rfl) ?_ _
            try simp only [putAll, Act.put, List.setIfInBounds_toArray, List.set_cons_zero, List.set_cons_succ]
            have Hb9W := hid (lnGo hb HBW5.out)
            go_wp2_with fail
            go_roundw
            case rel => exact ⟨k + 1, by omega, by go_num, Hnx, Hb9W⟩
            case measure => simp [intOf] <;> omega
        · obtain ⟨k1, hk1⟩ : ∃ k1 : Nat, k = k1 + 1 := ⟨k - 1, by omega⟩
          have HK0 : Hid (0 < k) := hid (by omega)
          have hka : k ≤ k1 + 1 := by omega
          have hkb : k1 + 1 ≤ k := by omega
          have hk1t : k - 1 < l.length := by omega
          have hp1 := Hpre.out hk1t (by omega)
          rw [show o + (k - 1) * 3 + 2 = o + k1 * 3 + 2 by rw [hk1, Nat.add_sub_cancel]] at hp1
          obtain ⟨t', ht'⟩ : ∃ t', t' = l[k - 1].2 := ⟨_, rfl⟩
          have et' : l[k - 1].2 = t' := ht'.symm
          have hp1' : w.cell? ⟨b, o + k1 * 3 + 2, none⟩ = some (.int .i64 t') := by rw [hp1, ht']
          have HS0 := HS
          have HS : Hid (∀ w', Below W5.heap.size W5 w' → w'.cell? ⟨wr.heap.size, 0, none⟩ = some (.bool d) ∧ w'.cell? ⟨wr.heap.size, 1, none⟩ = some (.slice q n cq) ∧ w'.cell? ⟨wr.heap.size, 2, none⟩ = some (.int .i64 t) ∧ w'.cell? ⟨w.heap.size, 0, none⟩ = some (.slice (some ⟨b, o, none⟩) L cp) ∧ w'.cell? ⟨b, o + k1 * 3 + 2, none⟩ = some (.int .i64 t')) := hid fun w' hb' => by
            obtain ⟨t0, t1, t2, t3, -⟩ := HS0.out w' hb'
            exact ⟨t0, t1, t2, t3, ((lnGo hb' HBw5.out).cell (p := ⟨b, o + k1 * 3 + 2, none⟩) hb).trans hp1'⟩
          have hk1L : (k1 : Int) < (L : Int) := by omega
          clear HS0 hp1 hp1' Hpre HSg0 hs0 ht' hk1 hk0
          by_cases htt : t ≤ t'
          · have htt' : decide (t ≤ t') = true := by simpa using htt
            have Hno : Hid (¬ lnIs l) := hid fun hI => by
              have := ((Hstep.out).1 (lnIs_take hI _)).2.2 (by omega) hk1t
              rw [et'] at this
              omega
            clear hc0 Hstep htt HI et'
            go_upto_region 4 with fail
            rw [← hW5]
            clear hW5 y0 y1 y2
            refine wp_region_facts (w0 := W5) 20 0 [13, 14, 15, 16, 17, 18, 19, 20, 21, 22, 23, 24, 25, 26, 27, 28, 29, 30, 31, 32] [u13, u14, u15, u16, u17, u18, u19, u20, u21, u22, u23, u24, u25, u26, u27, u28, u29, u30, u31, u32]
              (fun i => match i with | 0 => lnE (.pointer (some ⟨wr.heap.size, 0, none⟩)) | 1 => lnE (.agg #[.bool d, .slice q n cq]) | 2 => lnE (.int .i64 c.sign) | 3 => lnE (.bool false) | 4 => lnE (.bool false) | 5 => lnE (.int .i64 (k : Nat)) | 6 => lnE (.bool true) | 7 => lnE (.bool true) | 8 => lnE (.pointer (some ⟨wr.heap.size, 2, none⟩)) | 9 => lnE (.int .i64 t) | 10 => lnE (.pointer (some ⟨w.heap.size, 0, none⟩)) | 11 => lnE (.slice (some ⟨b, o, none⟩) L cp) | 12 => lnE (.int .i64 (k : Nat)) | 13 => lnE (.int .i64 (k1 : Nat)) | 14 => lnE (.pointer (some ⟨b, o + k1 * 3, none⟩)) | 15 => lnE (.pointer (some ⟨b, o + k1 * 3 + 2, none⟩)) | 16 => lnE (.int .i64 t') | 17 => lnE (.bool true) | 18 => lnE (.bool true) | _ => lnE (.bool true)) [] (by kernel_rfl) (by kernel_rfl) (by kernel_rfl) (by kernel_rfl) (by decide) rfl (by kernel_rfl) rfl (by simp) ?he3 ?_ ?_ ?_
            case he3 => simp only [putAll, Act.put, List.setIfInBounds_toArray, List.set_cons_zero, List.set_cons_succ]
            · intro i hi; simp at hi
            · intro i o hi ho vs wx hvl hb hdep K hK
              have hvs := vlen20 hvl
              obtain ⟨s13, s14, s15, s16, s17, s18, s19, s20, s21, s22, s23, s24, s25, s26, s27, s28, s29, s30, s31, s32, rfl⟩ := hvs
              clear hvl
              have hk5 := HS.out wx hb
              obtain ⟨y3, y4, y5, y6, y7⟩ := hk5
              rcases i with _ | _ | _ | _ | _ | _ | _ | _ | _ | _ | _ | _ | _ | _ | _ | _ | _ | _ | _ | _ | i
              all_goals (simp only [List.getElem?_toArray, List.getElem?_cons_zero, List.getElem?_cons_succ, Option.some.injEq] at ho)
              all_goals try (subst ho)
              all_goals try simp only [putAll, Act.put, List.setIfInBounds_toArray, List.set_cons_zero, List.set_cons_succ]
              · go_simp
                have hK' := hK.out
                simp only [putAll, Act.put, List.setIfInBounds_toArray, List.set_cons_zero, List.set_cons_succ] at hK'
                exact hK' _ _ rfl (Below.refl _ _) (by simp)
              · have e0 : s13 = _ := hdep ⟨0, .data⟩ (by simp) rfl
                have e0 := e0.symm
                subst e0
                go_simp
                have hK' := hK.out
                simp only [putAll, Act.put, List.setIfInBounds_toArray, List.set_cons_zero, List.set_cons_succ] at hK'
                exact hK' _ _ rfl (Below.refl _ _) (by simp)
              · have e1 : s14 = _ := hdep ⟨1, .data⟩ (by simp) rfl
                have e1 := e1.symm
                subst e1
                go_simp
                go_simp
                refine (HSg.out wx hb).mono ?_
                rintro e wy ⟨rfl, hby⟩
                go_wp2_with fail
                have hK' := hK.out
                simp only [putAll, Act.put, List.setIfInBounds_toArray, List.set_cons_zero, List.set_cons_succ] at hK'
                exact hK' _ _ rfl hby (by simp)
              · have e2 : s15 = _ := hdep ⟨2, .data⟩ (by simp) rfl
                have e2 := e2.symm
                subst e2
                go_simp
                have hK' := hK.out
                simp only [putAll, Act.put, List.setIfInBounds_toArray, List.set_cons_zero, List.set_cons_succ] at hK'
                exact hK' _ _ (show Value.bool (c.sign == 0) = .bool false by rw [HsE.out]) (Below.refl _ _) (by simp)
              · have e3 : s16 = _ := hdep ⟨3, .data⟩ (by simp) rfl
                have e3 := e3.symm
                subst e3
                go_simp
                have hK' := hK.out
                simp only [putAll, Act.put, List.setIfInBounds_toArray, List.set_cons_zero, List.set_cons_succ] at hK'
                exact hK' _ _ rfl (Below.refl _ _) (by simp)
              · have eg : s17 = _ := hdep ⟨4, .guard⟩ (by simp) rfl
                have eg := eg.symm
                subst eg
                go_simp
                have hK' := hK.out
                simp only [putAll, Act.put, List.setIfInBounds_toArray, List.set_cons_zero, List.set_cons_succ] at hK'
                exact hK' _ _ rfl (Below.refl _ _) (by simp)
              · have e5 : s18 = _ := hdep ⟨5, .data⟩ (by simp) rfl
                have e5 := e5.symm
                subst e5
                have eg : s17 = _ := hdep ⟨4, .guard⟩ (by simp) rfl
                have eg := eg.symm
                subst eg
                go_simp
                have hK' := hK.out
                simp only [putAll, Act.put, List.setIfInBounds_toArray, List.set_cons_zero, List.set_cons_succ] at hK'
                exact hK' _ _ (show _ = Value.bool true by first | rfl | (have := HK0.out; simp [this])) (Below.refl _ _) (by simp)
              · have e6 : s19 = _ := hdep ⟨6, .data⟩ (by simp) rfl
                have e6 := e6.symm
                subst e6
                have eg : s17 = _ := hdep ⟨4, .guard⟩ (by simp) rfl
                have eg := eg.symm
                subst eg
                go_simp
                have hK' := hK.out
                simp only [putAll, Act.put, List.setIfInBounds_toArray, List.set_cons_zero, List.set_cons_succ] at hK'
                exact hK' _ _ rfl (Below.refl _ _) (by simp)
              · have eg : s20 = _ := hdep ⟨7, .guard⟩ (by simp) rfl
                have eg := eg.symm
                subst eg
                go_simp
                have hK' := hK.out
                simp only [putAll, Act.put, List.setIfInBounds_toArray, List.set_cons_zero, List.set_cons_succ] at hK'
                exact hK' _ _ rfl (Below.refl _ _) (by simp)
              · have e8 : s21 = _ := hdep ⟨8, .data⟩ (by simp) rfl
                have e8 := e8.symm
                subst e8
                have eg : s20 = _ := hdep ⟨7, .guard⟩ (by simp) rfl
                have eg := eg.symm
                subst eg
                go_simp
                have hK' := hK.out
                simp only [putAll, Act.put, List.setIfInBounds_toArray, List.set_cons_zero, List.set_cons_succ] at hK'
                exact hK' _ _ rfl (Below.refl _ _) (by simp)
              · have eg : s20 = _ := hdep ⟨7, .guard⟩ (by simp) rfl
                have eg := eg.symm
                subst eg
                go_simp
                have hK' := hK.out
                simp only [putAll, Act.put, List.setIfInBounds_toArray, List.set_cons_zero, List.set_cons_succ] at hK'
                exact hK' _ _ rfl (Below.refl _ _) (by simp)
              · have e10 : s23 = _ := hdep ⟨10, .data⟩ (by simp) rfl
                have e10 := e10.symm
                subst e10
                have eg : s20 = _ := hdep ⟨7, .guard⟩ (by simp) rfl
                have eg := eg.symm
                subst eg
                go_simp
                have hK' := hK.out
                simp only [putAll, Act.put, List.setIfInBounds_toArray, List.set_cons_zero, List.set_cons_succ] at hK'
                exact hK' _ _ rfl (Below.refl _ _) (by simp)
              · have eg : s20 = _ := hdep ⟨7, .guard⟩ (by simp) rfl
                have eg := eg.symm
                subst eg
                go_simp
                have hK' := hK.out
                simp only [putAll, Act.put, List.setIfInBounds_toArray, List.set_cons_zero, List.set_cons_succ] at hK'
                exact hK' _ _ rfl (Below.refl _ _) (by simp)
              · have e12 : s25 = _ := hdep ⟨12, .data⟩ (by simp) rfl
                have e12 := e12.symm
                subst e12
                have eg : s20 = _ := hdep ⟨7, .guard⟩ (by simp) rfl
                have eg := eg.symm
                subst eg
                go_simp
                have hK' := hK.out
                simp only [putAll, Act.put, List.setIfInBounds_toArray, List.set_cons_zero, List.set_cons_succ] at hK'
                exact hK' _ _ (show _ = Value.int .i64 (k1 : Nat) by first | rfl | (congr 1; omega) | (rw [IntWalk.i64_in _ (by omega)]; congr 1; omega)) (Below.refl _ _) (by simp)
              · have e11 : s24 = _ := hdep ⟨11, .data⟩ (by simp) rfl
                have e11 := e11.symm
                subst e11
                have e13 : s26 = _ := hdep ⟨13, .data⟩ (by simp) rfl
                have e13 := e13.symm
                subst e13
                have eg : s20 = _ := hdep ⟨7, .guard⟩ (by simp) rfl
                have eg := eg.symm
                subst eg
                go_simp
                have hK' := hK.out
                simp only [putAll, Act.put, List.setIfInBounds_toArray, List.set_cons_zero, List.set_cons_succ] at hK'
                exact hK' _ _ rfl (Below.refl _ _) (by simp)
              · have e14 : s27 = _ := hdep ⟨14, .data⟩ (by simp) rfl
                have e14 := e14.symm
                subst e14
                have eg : s20 = _ := hdep ⟨7, .guard⟩ (by simp) rfl
                have eg := eg.symm
                subst eg
                go_simp
                have hK' := hK.out
                simp only [putAll, Act.put, List.setIfInBounds_toArray, List.set_cons_zero, List.set_cons_succ] at hK'
                exact hK' _ _ rfl (Below.refl _ _) (by simp)
              · have e15 : s28 = _ := hdep ⟨15, .data⟩ (by simp) rfl
                have e15 := e15.symm
                subst e15
                have eg : s20 = _ := hdep ⟨7, .guard⟩ (by simp) rfl
                have eg := eg.symm
                subst eg
                go_simp
                have hK' := hK.out
                simp only [putAll, Act.put, List.setIfInBounds_toArray, List.set_cons_zero, List.set_cons_succ] at hK'
                exact hK' _ _ rfl (Below.refl _ _) (by simp)
              · have e9 : s22 = _ := hdep ⟨9, .data⟩ (by simp) rfl
                have e9 := e9.symm
                subst e9
                have e16 : s29 = _ := hdep ⟨16, .data⟩ (by simp) rfl
                have e16 := e16.symm
                subst e16
                have eg : s20 = _ := hdep ⟨7, .guard⟩ (by simp) rfl
                have eg := eg.symm
                subst eg
                go_simp
                have hK' := hK.out
                simp only [putAll, Act.put, List.setIfInBounds_toArray, List.set_cons_zero, List.set_cons_succ] at hK'
                exact hK' _ _ rfl (Below.refl _ _) (by simp)
              · have e7 : s20 = _ := hdep ⟨7, .data⟩ (by simp) rfl
                have e7 := e7.symm
                subst e7
                have e17 : s30 = _ := hdep ⟨17, .data⟩ (by simp) rfl
                have e17 := e17.symm
                subst e17
                have eg : s17 = _ := hdep ⟨4, .guard⟩ (by simp) rfl
                have eg := eg.symm
                subst eg
                go_simp
                have hK' := hK.out
                simp only [putAll, Act.put, List.setIfInBounds_toArray, List.set_cons_zero, List.set_cons_succ] at hK'
                exact hK' _ _ rfl (Below.refl _ _) (by simp)
              · have e4 : s17 = _ := hdep ⟨4, .data⟩ (by simp) rfl
                have e4 := e4.symm
                subst e4
                have e18 : s31 = _ := hdep ⟨18, .data⟩ (by simp) rfl
                have e18 := e18.symm
                subst e18
                go_simp
                have hK' := hK.out
                simp only [putAll, Act.put, List.setIfInBounds_toArray, List.set_cons_zero, List.set_cons_succ] at hK'
                exact hK' _ _ rfl (Below.refl _ _) (by simp)
              · omega
            · intro vs wx hvl hb hf hdist
              have hvs := vlen20 hvl
              obtain ⟨s13, s14, s15, s16, s17, s18, s19, s20, s21, s22, s23, s24, s25, s26, s27, s28, s29, s30, s31, s32, rfl⟩ := hvs
              have f19 : s32 = _ := hf 19 (by decide)
              have f19 := f19.symm
              subst f19
              have Hb9 := hid (lnGo hb HBw5.out)
              clear hf hvl hdist
              refine wpAny_done (by kernel_rfl) ?_ _
              try simp only [putAll, Act.put, List.setIfInBounds_toArray, List.set_cons_zero, List.set_cons_succ]
              have hd : decide (lnIs l) = false := by simpa using Hno.out
              go_wp2
              go_ret
              exact ⟨by rw [hd]; rfl, Hb9.out⟩
          · have htt' : decide (t ≤ t') = false := by simpa using htt
            have Hnx : Hid (lnIs (l.take (k + 1))) := hid ((Hstep.out).2 ⟨HI.out, hc0, fun _ _ => by rw [et']; omega⟩)
            clear hc0 Hstep htt HI et'
            go_upto_region 4 with fail
            rw [← hW5]
            clear hW5 y0 y1 y2
            refine wp_region_facts (w0 := W5) 20 0 [13, 14, 15, 16, 17, 18, 19, 20, 21, 22, 23, 24, 25, 26, 27, 28, 29, 30, 31, 32] [u13, u14, u15, u16, u17, u18, u19, u20, u21, u22, u23, u24, u25, u26, u27, u28, u29, u30, u31, u32]
              (fun i => match i with | 0 => lnE (.pointer (some ⟨wr.heap.size, 0, none⟩)) | 1 => lnE (.agg #[.bool d, .slice q n cq]) | 2 => lnE (.int .i64 c.sign) | 3 => lnE (.bool false) | 4 => lnE (.bool false) | 5 => lnE (.int .i64 (k : Nat)) | 6 => lnE (.bool true) | 7 => lnE (.bool true) | 8 => lnE (.pointer (some ⟨wr.heap.size, 2, none⟩)) | 9 => lnE (.int .i64 t) | 10 => lnE (.pointer (some ⟨w.heap.size, 0, none⟩)) | 11 => lnE (.slice (some ⟨b, o, none⟩) L cp) | 12 => lnE (.int .i64 (k : Nat)) | 13 => lnE (.int .i64 (k1 : Nat)) | 14 => lnE (.pointer (some ⟨b, o + k1 * 3, none⟩)) | 15 => lnE (.pointer (some ⟨b, o + k1 * 3 + 2, none⟩)) | 16 => lnE (.int .i64 t') | 17 => lnE (.bool false) | 18 => lnE (.bool false) | _ => lnE (.bool false)) [] (by kernel_rfl) (by kernel_rfl) (by kernel_rfl) (by kernel_rfl) (by decide) rfl (by kernel_rfl) rfl (by simp) ?he4 ?_ ?_ ?_
            case he4 => simp only [putAll, Act.put, List.setIfInBounds_toArray, List.set_cons_zero, List.set_cons_succ]
            · intro i hi; simp at hi
            · intro i o hi ho vs wx hvl hb hdep K hK
              have hvs := vlen20 hvl
              obtain ⟨s13, s14, s15, s16, s17, s18, s19, s20, s21, s22, s23, s24, s25, s26, s27, s28, s29, s30, s31, s32, rfl⟩ := hvs
              clear hvl
              have hk5 := HS.out wx hb
              obtain ⟨y3, y4, y5, y6, y7⟩ := hk5
              rcases i with _ | _ | _ | _ | _ | _ | _ | _ | _ | _ | _ | _ | _ | _ | _ | _ | _ | _ | _ | _ | i
              all_goals (simp only [List.getElem?_toArray, List.getElem?_cons_zero, List.getElem?_cons_succ, Option.some.injEq] at ho)
              all_goals try (subst ho)
              all_goals try simp only [putAll, Act.put, List.setIfInBounds_toArray, List.set_cons_zero, List.set_cons_succ]
              · go_simp
                have hK' := hK.out
                simp only [putAll, Act.put, List.setIfInBounds_toArray, List.set_cons_zero, List.set_cons_succ] at hK'
                exact hK' _ _ rfl (Below.refl _ _) (by simp)
              · have e0 : s13 = _ := hdep ⟨0, .data⟩ (by simp) rfl
                have e0 := e0.symm
                subst e0
                go_simp
                have hK' := hK.out
                simp only [putAll, Act.put, List.setIfInBounds_toArray, List.set_cons_zero, List.set_cons_succ] at hK'
                exact hK' _ _ rfl (Below.refl _ _) (by simp)
              · have e1 : s14 = _ := hdep ⟨1, .data⟩ (by simp) rfl
                have e1 := e1.symm
                subst e1
                go_simp
                go_simp
                refine (HSg.out wx hb).mono ?_
                rintro e wy ⟨rfl, hby⟩
                go_wp2_with fail
                have hK' := hK.out
                simp only [putAll, Act.put, List.setIfInBounds_toArray, List.set_cons_zero, List.set_cons_succ] at hK'
                exact hK' _ _ rfl hby (by simp)
              · have e2 : s15 = _ := hdep ⟨2, .data⟩ (by simp) rfl
                have e2 := e2.symm
                subst e2
                go_simp
                have hK' := hK.out
                simp only [putAll, Act.put, List.setIfInBounds_toArray, List.set_cons_zero, List.set_cons_succ] at hK'
                exact hK' _ _ (show Value.bool (c.sign == 0) = .bool false by rw [HsE.out]) (Below.refl _ _) (by simp)
              · have e3 : s16 = _ := hdep ⟨3, .data⟩ (by simp) rfl
                have e3 := e3.symm
                subst e3
                go_simp
                have hK' := hK.out
                simp only [putAll, Act.put, List.setIfInBounds_toArray, List.set_cons_zero, List.set_cons_succ] at hK'
                exact hK' _ _ rfl (Below.refl _ _) (by simp)
              · have eg : s17 = _ := hdep ⟨4, .guard⟩ (by simp) rfl
                have eg := eg.symm
                subst eg
                go_simp
                have hK' := hK.out
                simp only [putAll, Act.put, List.setIfInBounds_toArray, List.set_cons_zero, List.set_cons_succ] at hK'
                exact hK' _ _ rfl (Below.refl _ _) (by simp)
              · have e5 : s18 = _ := hdep ⟨5, .data⟩ (by simp) rfl
                have e5 := e5.symm
                subst e5
                have eg : s17 = _ := hdep ⟨4, .guard⟩ (by simp) rfl
                have eg := eg.symm
                subst eg
                go_simp
                have hK' := hK.out
                simp only [putAll, Act.put, List.setIfInBounds_toArray, List.set_cons_zero, List.set_cons_succ] at hK'
                exact hK' _ _ (show _ = Value.bool true by first | rfl | (have := HK0.out; simp [this])) (Below.refl _ _) (by simp)
              · have e6 : s19 = _ := hdep ⟨6, .data⟩ (by simp) rfl
                have e6 := e6.symm
                subst e6
                have eg : s17 = _ := hdep ⟨4, .guard⟩ (by simp) rfl
                have eg := eg.symm
                subst eg
                go_simp
                have hK' := hK.out
                simp only [putAll, Act.put, List.setIfInBounds_toArray, List.set_cons_zero, List.set_cons_succ] at hK'
                exact hK' _ _ rfl (Below.refl _ _) (by simp)
              · have eg : s20 = _ := hdep ⟨7, .guard⟩ (by simp) rfl
                have eg := eg.symm
                subst eg
                go_simp
                have hK' := hK.out
                simp only [putAll, Act.put, List.setIfInBounds_toArray, List.set_cons_zero, List.set_cons_succ] at hK'
                exact hK' _ _ rfl (Below.refl _ _) (by simp)
              · have e8 : s21 = _ := hdep ⟨8, .data⟩ (by simp) rfl
                have e8 := e8.symm
                subst e8
                have eg : s20 = _ := hdep ⟨7, .guard⟩ (by simp) rfl
                have eg := eg.symm
                subst eg
                go_simp
                have hK' := hK.out
                simp only [putAll, Act.put, List.setIfInBounds_toArray, List.set_cons_zero, List.set_cons_succ] at hK'
                exact hK' _ _ rfl (Below.refl _ _) (by simp)
              · have eg : s20 = _ := hdep ⟨7, .guard⟩ (by simp) rfl
                have eg := eg.symm
                subst eg
                go_simp
                have hK' := hK.out
                simp only [putAll, Act.put, List.setIfInBounds_toArray, List.set_cons_zero, List.set_cons_succ] at hK'
                exact hK' _ _ rfl (Below.refl _ _) (by simp)
              · have e10 : s23 = _ := hdep ⟨10, .data⟩ (by simp) rfl
                have e10 := e10.symm
                subst e10
                have eg : s20 = _ := hdep ⟨7, .guard⟩ (by simp) rfl
                have eg := eg.symm
                subst eg
                go_simp
                have hK' := hK.out
                simp only [putAll, Act.put, List.setIfInBounds_toArray, List.set_cons_zero, List.set_cons_succ] at hK'
                exact hK' _ _ rfl (Below.refl _ _) (by simp)
              · have eg : s20 = _ := hdep ⟨7, .guard⟩ (by simp) rfl
                have eg := eg.symm
                subst eg
                go_simp
                have hK' := hK.out
                simp only [putAll, Act.put, List.setIfInBounds_toArray, List.set_cons_zero, List.set_cons_succ] at hK'
                exact hK' _ _ rfl (Below.refl _ _) (by simp)
              · have e12 : s25 = _ := hdep ⟨12, .data⟩ (by simp) rfl
                have e12 := e12.symm
                subst e12
                have eg : s20 = _ := hdep ⟨7, .guard⟩ (by simp) rfl
                have eg := eg.symm
                subst eg
                go_simp
                have hK' := hK.out
                simp only [putAll, Act.put, List.setIfInBounds_toArray, List.set_cons_zero, List.set_cons_succ] at hK'
                exact hK' _ _ (show _ = Value.int .i64 (k1 : Nat) by first | rfl | (congr 1; omega) | (rw [IntWalk.i64_in _ (by omega)]; congr 1; omega)) (Below.refl _ _) (by simp)
              · have e11 : s24 = _ := hdep ⟨11, .data⟩ (by simp) rfl
                have e11 := e11.symm
                subst e11
                have e13 : s26 = _ := hdep ⟨13, .data⟩ (by simp) rfl
                have e13 := e13.symm
                subst e13
                have eg : s20 = _ := hdep ⟨7, .guard⟩ (by simp) rfl
                have eg := eg.symm
                subst eg
                go_simp
                have hK' := hK.out
                simp only [putAll, Act.put, List.setIfInBounds_toArray, List.set_cons_zero, List.set_cons_succ] at hK'
                exact hK' _ _ rfl (Below.refl _ _) (by simp)
              · have e14 : s27 = _ := hdep ⟨14, .data⟩ (by simp) rfl
                have e14 := e14.symm
                subst e14
                have eg : s20 = _ := hdep ⟨7, .guard⟩ (by simp) rfl
                have eg := eg.symm
                subst eg
                go_simp
                have hK' := hK.out
                simp only [putAll, Act.put, List.setIfInBounds_toArray, List.set_cons_zero, List.set_cons_succ] at hK'
                exact hK' _ _ rfl (Below.refl _ _) (by simp)
              · have e15 : s28 = _ := hdep ⟨15, .data⟩ (by simp) rfl
                have e15 := e15.symm
                subst e15
                have eg : s20 = _ := hdep ⟨7, .guard⟩ (by simp) rfl
                have eg := eg.symm
                subst eg
                go_simp
                have hK' := hK.out
                simp only [putAll, Act.put, List.setIfInBounds_toArray, List.set_cons_zero, List.set_cons_succ] at hK'
                exact hK' _ _ rfl (Below.refl _ _) (by simp)
              · have e9 : s22 = _ := hdep ⟨9, .data⟩ (by simp) rfl
                have e9 := e9.symm
                subst e9
                have e16 : s29 = _ := hdep ⟨16, .data⟩ (by simp) rfl
                have e16 := e16.symm
                subst e16
                have eg : s20 = _ := hdep ⟨7, .guard⟩ (by simp) rfl
                have eg := eg.symm
                subst eg
                go_simp
                have hK' := hK.out
                simp only [putAll, Act.put, List.setIfInBounds_toArray, List.set_cons_zero, List.set_cons_succ] at hK'
                exact hK' _ _ rfl (Below.refl _ _) (by simp)
              · have e7 : s20 = _ := hdep ⟨7, .data⟩ (by simp) rfl
                have e7 := e7.symm
                subst e7
                have e17 : s30 = _ := hdep ⟨17, .data⟩ (by simp) rfl
                have e17 := e17.symm
                subst e17
                have eg : s17 = _ := hdep ⟨4, .guard⟩ (by simp) rfl
                have eg := eg.symm
                subst eg
                go_simp
                have hK' := hK.out
                simp only [putAll, Act.put, List.setIfInBounds_toArray, List.set_cons_zero, List.set_cons_succ] at hK'
                exact hK' _ _ rfl (Below.refl _ _) (by simp)
              · have e4 : s17 = _ := hdep ⟨4, .data⟩ (by simp) rfl
                have e4 := e4.symm
                subst e4
                have e18 : s31 = _ := hdep ⟨18, .data⟩ (by simp) rfl
                have e18 := e18.symm
                subst e18
                go_simp
                have hK' := hK.out
                simp only [putAll, Act.put, List.setIfInBounds_toArray, List.set_cons_zero, List.set_cons_succ] at hK'
                exact hK' _ _ rfl (Below.refl _ _) (by simp)
              · omega
            · intro vs wx hvl hb hf hdist
              have hvs := vlen20 hvl
              obtain ⟨s13, s14, s15, s16, s17, s18, s19, s20, s21, s22, s23, s24, s25, s26, s27, s28, s29, s30, s31, s32, rfl⟩ := hvs
              have f19 : s32 = _ := hf 19 (by decide)
              have f19 := f19.symm
              subst f19
              have Hb9 := hid (lnGo hb HBw5.out)
              clear hf hvl hdist
              refine wpAny_done (by kernel_rfl) ?_ _
              try simp only [putAll, Act.put, List.setIfInBounds_toArray, List.set_cons_zero, List.set_cons_succ]
              have Hb9W := hid (lnGo hb HBW5.out)
              go_wp2_with fail
              go_roundw
              case rel => exact ⟨k + 1, by omega, by go_num, Hnx, Hb9W⟩
              case measure => simp [intOf] <;> omega
    · obtain rfl : k = L := by omega
      have hfin : l.take k = l := by rw [HLL.out, List.take_length]
      have HI' := HI.out
      rw [hfin] at HI'
      have hd : decide (lnIs l) = true := by simpa using HI'
      have HBf := hid (lnGo HB.out B0.out)
      clear HI HI' hfin HB
      go_wp2
      go_ret
      exact ⟨by rw [hd]; rfl, HBf.out⟩
end Go.Proofs.YtnfohbpgnbfmeaaGreatDoor
namespace Go.Proofs
open Go.Shelf
def Tryz.keysA_ren : Go.Shelf.Ren := ⟨fun | 7 => 71 | 10 => 88 | n => n, fun | 23 => 105 | 26 => 3 | 3 => 35 | 28 => 112 | 0 => 0 | 27 => 111 | 33 => 126 | 4 => 4 | n => n, fun | n => n⟩
theorem Tryz.keysA : Go.Proofs.SlLaysZI.n7 Tryz.prog Tryz.keysA_ren := {
  mixed := by kernel_rfl
  f7 := ⟨Tryz.f71.name, by decide, Tryz.func71.trans (congrArg some (by kernel_rfl))⟩
  f10 := ⟨Tryz.f88.name, by decide, Tryz.func88.trans (congrArg some (by kernel_rfl))⟩
  t0 := Tryz.underlying0
  a0 := Tryz.isAgg0
  z0 := Tryz.sizeOf0
  v0 := Tryz.zeroValue0
  t4 := Tryz.underlying4
  a4 := Tryz.isAgg4
  z4 := Tryz.sizeOf4
  v4 := Tryz.zeroValue4
  t23 := Tryz.underlying105
  a23 := Tryz.isAgg105
  z23 := Tryz.sizeOf105
  v23 := Tryz.zeroValue105
  t26 := Tryz.underlying3
  a26 := Tryz.isAgg3
  z26 := Tryz.sizeOf3
  v26 := Tryz.zeroValue3
  t27 := Tryz.underlying111
  a27 := Tryz.isAgg111
  z27 := Tryz.sizeOf111
  v27 := Tryz.zeroValue111
  t28 := Tryz.underlying112
  a28 := Tryz.isAgg112
  z28 := Tryz.sizeOf112
  v28 := Tryz.zeroValue112
  t33 := Tryz.underlying126
  a33 := Tryz.isAgg126
  z33 := Tryz.sizeOf126
  v33 := Tryz.zeroValue126 }
def Tryz.sortedA_ren : Go.Shelf.Ren := ⟨fun | 6 => 70 | 8 => 86 | 9 => 87 | 11 => 104 | 13 => 106 | 12 => 105 | 23 => 128 | 24 => 129 | 14 => 119 | 15 => 120 | 16 => 121 | 17 => 122 | 18 => 123 | 19 => 124 | 20 => 125 | 21 => 126 | 22 => 127 | 25 => 142 | 26 => 143 | 27 => 144 | 28 => 145 | 29 => 146 | 30 => 117 | 31 => 152 | n => n, fun | 26 => 3 | 28 => 112 | 24 => 99 | 0 => 0 | 3 => 3 | 37 => 119 | 48 => 157 | 50 => 84 | 4 => 4 | 40 => 164 | 39 => 163 | 45 => 42 | 5 => 5 | 9 => 9 | 51 => 182 | 55 => 186 | 57 => 191 | 58 => 192 | 33 => 126 | n => n, fun | n => n⟩
theorem Tryz.sortedA : Go.Proofs.SlLaysZI.n6 Tryz.prog Tryz.sortedA_ren := {
  mixed := by kernel_rfl
  f6 := ⟨Tryz.f70.name, by decide, Tryz.func70.trans (congrArg some (by kernel_rfl))⟩
  f8 := ⟨Tryz.f86.name, by decide, Tryz.func86.trans (congrArg some (by kernel_rfl))⟩
  f11 := ⟨Tryz.f104.name, by decide, Tryz.func104.trans (congrArg some (by kernel_rfl))⟩
  t0 := Tryz.underlying0
  a0 := Tryz.isAgg0
  z0 := Tryz.sizeOf0
  v0 := Tryz.zeroValue0
  t24 := Tryz.underlying99
  a24 := Tryz.isAgg99
  z24 := Tryz.sizeOf99
  v24 := Tryz.zeroValue99
  t26 := Tryz.underlying3
  a26 := Tryz.isAgg3
  z26 := Tryz.sizeOf3
  v26 := Tryz.zeroValue3
  t28 := Tryz.underlying112
  a28 := Tryz.isAgg112
  z28 := Tryz.sizeOf112
  v28 := Tryz.zeroValue112
  i26 := by kernel_rfl }
end Go.Proofs
/- slices.Sorted(maps.Keys(m)) of a gathering's map: its terms, each once, rising. -/
namespace Go.Proofs.YtnfohbpgnbfmeaaGreatDoor
open Go.RowKit Big Go.Maps Go.Sort Go.Shelf

theorem sortsL (m : Nat) : AnyZI.SortsIn Tryz.prog Tryz.sortedA_ren Fence.wide m :=
  ⟨fun blk off cap ss W hH hblk hsz => callsIn_wide.2 (AnyM.slices_Sort_int Tryz.laysSlM5_f87 blk off cap ss W hH hblk hsz),
   fun p cap W => callsIn_wide.2 (AnyM.slices_Sort_int_none Tryz.laysSlM5_f87 p cap W)⟩
theorem keysOf_any (b : Nat) (W : World) : Calls Tryz.prog 71 #[.map (some b)] W fun e w' => e = .returned (.func (.func 88) #[] #[.pointer (some ⟨W.heap.size, 0, none⟩)]) ∧ w' = W.alloc (.cells #[.map (some b)] 105) :=
  (callsIn_wide (n := 5)).1 (AnyZI.keys_in Tryz.keysA Fence.wide 5 trivial rfl (some b) W)
set_option maxRecDepth 100000 in
theorem sorted_any (b nn : Nat) (D0 : DataW Value) (w : World) (hown : w.ownsMap Tryz.prog 3 RV b nn D0) (hmax : Maps.size D0 ≤ 1000000000000) :
    Calls Tryz.prog 70 #[.func (.func 88) #[] #[.pointer (some ⟨w.heap.size, 0, none⟩)]] (w.alloc (.cells #[.map (some b)] 105)) fun e w' => ∃ (v : Value) (ss : List Int), e = .returned v ∧ ss.Perm (intKeys D0) ∧
      w'.ownsRow w.heap.size 3 1 v ss.length ((ss.mergeSort (fun x y => decide (x ≤ y))).map encZ) ∧ Below w.heap.size w w' := by
  refine (callsIn_wide (n := 5)).1 ?_
  have hbl := hown.lt
  have hseq : SeqGives Fence.wide 2 Tryz.prog 88 #[.pointer (some ⟨w.heap.size, 0, none⟩)] encZ (fun ss => ss.Perm (intKeys D0)) (Maps.size D0) (w.alloc (.cells #[.map (some b)] 105)) :=
    AnyZI.keys_gives (ρ := Tryz.keysA_ren) { Tryz.keysA with } Fence.wide _ trivial rfl (by omega) w.heap.size b nn D0 _ (by simp) (by simp) (by
      obtain ⟨es, clock, hb, Ft, hs, hD⟩ := hown
      exact ⟨es, clock, (Below.heap_alloc _ _ b hbl).trans hb, Ft, hs, hD⟩)
  have cS := AnyZI.sorted_in Tryz.sortedA Fence.wide 5 trivial trivial trivial trivial rfl (by omega) (sortsL _) (enters_of Tryz.func87 (by kernel_rfl) rfl) 88 #[.pointer (some ⟨w.heap.size, 0, none⟩)] trivial (enters_of Tryz.func88 (by kernel_rfl) rfl) _ _ (by unfold maxLen; omega) (by omega) _ hseq
  change CallsIn _ _ Tryz.prog 70 _ _ _ at cS
  refine cS.mono ?_
  rintro e w' ⟨v, ss, rfl, hS, hrow, hnil, hb⟩
  exact ⟨v, ss, rfl, hS, ownsRow_base_a hrow (by simp), ((Below.refl _ w).alloc (Nat.le_refl _) _).trans (hb.mono (by simp))⟩
/-- a row of ints, by its cells -/
def ZRow (B : Nat) (w : World) (v : Value) (l : List Int) : Prop := ∃ p cap, v = .slice p l.length cap ∧ l.length ≤ maxLen ∧ (0 < l.length → ∃ b, p = some ⟨b, 0, none⟩ ∧ B ≤ b ∧ b < w.heap.size ∧ ∀ i (h : i < l.length), w.cell? ⟨b, i, none⟩ = some (.int .i64 l[i]))
theorem ZRow.of {w : World} {B : Nat} {v : Value} {l : List Int} (h : w.ownsRow B 3 1 v l.length (l.map encZ)) : ZRow B w v l := by
  rcases id h.2 with ⟨rfl, h0⟩ | ⟨g, cap, cur, rfl, hb, hh, k1, k2, k3, k4⟩
  · exact ⟨none, 0, by rw [h0], by omega, fun h => absurd h (by omega)⟩
  · refine ⟨_, cap, rfl, by omega, fun h0 => ⟨g, rfl, hb, (Array.getElem?_eq_some_iff.1 hh).1, fun i hi => ?_⟩⟩
    have := World.ownsRow.cellAt h i (by omega)
    rw [this]
    simp [hi, encZ]
/-- the terms of a gathering's map -/
theorem lnSorted_any {w : World} {m : Nat} {ks : List Int} {cf : Int → Int} (h : MpN w m ks cf) (hk : ks.length ≤ 1000000000000) :
    Calls Tryz.prog 70 #[.func (.func 88) #[] #[.pointer (some ⟨w.heap.size, 0, none⟩)]] (w.alloc (.cells #[.map (some m)] 105)) fun e w' => ∃ v : Value, e = .returned v ∧ ZRow w.heap.size w' v (lnKeys ks) ∧ Below w.heap.size w w' := by
  obtain ⟨D, n, h1, h2, h3⟩ := h.keys
  refine (sorted_any m n D w h1 (Nat.le_trans h2 hk)).mono ?_
  rintro e w' ⟨v, ss, rfl, hS, hrow, hb⟩
  have e1 : ss.mergeSort (fun x y => decide (x ≤ y)) = lnKeys ks := mergeSort_of_perm_i (hS.trans h3.symm)
  have e2 : ss.length = (lnKeys ks).length := by rw [← e1, List.length_mergeSort]
  rw [e1, e2] at hrow
  exact ⟨v, rfl, ZRow.of hrow, hb⟩
end Go.Proofs.YtnfohbpgnbfmeaaGreatDoor
/- (*linear.gathering).sum: the parts that were put in, each term once, rising, those of nothing left out. -/
namespace Go.Proofs.YtnfohbpgnbfmeaaGreatDoor
open Go.RowKit Big

def lnRow {S : Nat → Prop} (c : List Value) (t : TypeId) : WFact S := ⟨fun v w => ∃ gg, v = .slice (some ⟨gg, 0, none⟩) 1 1 ∧ w.heap[gg]? = some (.cells c.toArray t (0, 0)) ∧ ¬ S gg,
  fun _ _ _ ⟨gg, h1, h2, h3⟩ hb => ⟨gg, h1, (hb.block gg (Array.getElem?_eq_some_iff.1 h2).1 h3).trans h2, h3⟩⟩
theorem lnCellsAt {w : World} {g : Nat} {t : TypeId} {c : List Value} (h : w.heap[g]? = some (.cells c.toArray t (0, 0))) : ∀ j u, c[j]? = some u → w.cell? ((⟨g, 0, none⟩ : Addr).add j) = some u := by
  intro j u hj
  rw [Go.WideShapes.add_plain, cell_of_row w g _ _ t (0, 0) h, Nat.zero_add]
  simpa using hj
theorem infoPart : (Tryz.prog.info? 63).map (fun i => (i.zero, i.size, i.bytes)) = some (some (.agg #[.bool false, .slice none 0 0, .int .i64 0]), 3, 40) := by kernel_rfl
theorem MpN.look_all {w : World} {m : Nat} {ks : List Int} {cf : Int → Int} (h : MpN w m ks cf) (t : Int) (ht : wfI t) :
    ∃ p n c, (∀ w' : World, w'.heap[m]? = w.heap[m]? → (Instr.lookup 105 (.map (some m)) (.int .i64 t) false).run Tryz.prog w' = .ok (.agg #[.bool (decide (cf t < 0)), .slice p n c]) w') ∧ IntAt w (.agg #[.bool (decide (cf t < 0)), .slice p n c]) (cf t) := by
  obtain ⟨D, n, h1, h2, h3, h4, h5⟩ := h
  obtain ⟨u, e, hi⟩ := h5 t
  obtain ⟨p, k, c, rfl, hi⟩ := hi.shape
  refine ⟨p, k, c, fun w' hw => ?_, hi⟩
  obtain ⟨es, cl, hb, r⟩ := h2
  have h2' : w'.ownsMap Tryz.prog 3 RV m n D := ⟨es, cl, hw.trans hb, r⟩
  obtain ⟨v, ps, hrun, hv⟩ := h2'.lookup (Maps.int_keyed undI) Tryz.underlying105 (zeroInt_run w') (zd := .held zeroI) (zp := []) rfl (key_i t ht)
  rw [e] at hv
  unfold RV at hv
  simp only [Option.some.injEq, Prod.mk.injEq, DataW.held.injEq] at hv
  obtain ⟨rfl, -⟩ := hv
  exact hrun
theorem MpN.wf {w : World} {m : Nat} {ks : List Int} {cf : Int → Int} (h : MpN w m ks cf) : ∀ t ∈ ks, wfI t := by
  obtain ⟨D, n, h1, h2, h3, h4, h5⟩ := h
  exact h4
theorem lnOf_snoc (l : List Int) (t : Int) (f : Int → Int) : lnOf (l ++ [t]) f = lnOf l f ++ (if f t = 0 then [] else [(f t, t)]) := by
  unfold lnOf
  rw [List.filter_append, List.map_append]
  by_cases h : f t = 0
  · simp [h]
  · simp [h]
set_option maxRecDepth 100000 in
set_option maxHeartbeats 6400000 in
theorem sum_anyF (g m : Nat) (ks : List Int) (cf : Int → Int) (r : Int) (w : World) (h : GaAt w g m ks cf r) (hk : ks.length ≤ 1000000000000) (hz : ∀ t, sz W (cf t).natAbs ≤ 1099511627776) :
    Calls Tryz.prog 51 #[.pointer (some ⟨g, 0, none⟩)] w (RLinF (lnOf (lnKeys ks) cf, r) w) := by
  obtain ⟨i0, hij, hz0, hz1, hz2⟩ := info_parts infoPart
  obtain ⟨hne, ⟨pr, nr, cr, hgb, hgi⟩, hM⟩ := h
  have glt : g < w.heap.size := (Array.getElem?_eq_some_iff.1 hgb).1
  have mlt : m < w.heap.size := hM.lt
  have Hgi := hid hgi; have Hgb := hid hgb; have HM := hid hM; have Hz := hid hz
  have hkl := lnKeys_len ks
  have Hmem := hid (fun t => lnKeys_mem ks t)
  have Hwf := hid hM.wf
  obtain ⟨W2, hW⟩ : ∃ W2, W2 = (w.alloc (.cells #[.slice none 0 0, .bool false, .slice none 0 0] 37)).alloc (.cells #[.slice none 0 0, .bool (decide (r < 0)), .slice pr nr cr] 37) := ⟨_, rfl⟩
  have b2 : Below w.heap.size w W2 := by rw [hW]; exact (below1 w _).alloc (by simp) _
  have z2 : W2.heap.size = w.heap.size + 2 := by rw [hW, size_alloc, size_alloc]
  have eR : W2.heap[w.heap.size]? = some (.cells #[.slice none 0 0, .bool false, .slice none 0 0] 37 (0, 0)) := by rw [hW, heap_alloc_old _ _ (by simp)]; exact heap_alloc_new w _
  have eO : W2.heap[w.heap.size + 1]? = some (.cells #[.slice none 0 0, .bool (decide (r < 0)), .slice pr nr cr] 37 (0, 0)) := by
    have := heap_alloc_new (w.alloc (.cells #[.slice none 0 0, .bool false, .slice none 0 0] 37)) (.cells #[.slice none 0 0, .bool (decide (r < 0)), .slice pr nr cr] 37)
    rw [size_alloc] at this
    rw [hW]; exact this
  have B2 := hid b2; have ER := hid eR; have EO := hid eO; have Z2 := hid z2
  have HS2 := hid (lnSorted_any (hM.below b2) hk)
  obtain ⟨x0, x1, x2⟩ := lnCells3 hgb
  have y0 := (lnCells3 ((b2.block g glt).trans hgb)).1
  clear hgi hz hM eR eO z2 hgb
  go_enter Tryz.func51, Tryz.ntmps51
  go_upto_region 2 with fail
  rw [← hW]
  clear hW x0 x1 x2
  go_wp2_with fail
  refine (keysOf_any m W2).mono ?_
  rintro e w' ⟨rfl, rfl⟩
  go_wp2_with fail
  refine HS2.out.mono ?_
  rintro e w3 ⟨vk, rfl, hrow, b3⟩
  obtain ⟨pk, ck, rfl, hkm, hkr⟩ := hrow
  have Hkr := hid hkr
  obtain ⟨L, hLL⟩ : ∃ L, L = (lnKeys ks).length := ⟨_, rfl⟩
  have HLL := hid hLL
  rw [← hLL] at hkl hkm ⊢
  obtain ⟨B, hBB⟩ : ∃ B, B = w3.heap.size := ⟨_, rfl⟩
  have z3 := b3.size
  have HOlt : Hid ((w.heap.size + 1) < B) := hid (by have := Z2.out; omega)
  have Hglt : Hid (g < B) := hid (by have := Z2.out; omega)
  have Hmlt : Hid (m < B) := hid (by have := Z2.out; omega)
  have HwB : Hid (w.heap.size < B) := hid (by have := Z2.out; omega)
  have HOge : Hid (w.heap.size ≤ (w.heap.size + 1)) := hid (by omega)
  have HO3 : Hid (w3.heap[w.heap.size + 1]? = some (.cells #[.slice none 0 0, .bool (decide (r < 0)), .slice pr nr cr] 37 (0, 0))) := hid ((b3.block (w.heap.size + 1) (by have := Z2.out; omega)).trans EO.out)
  have HR3 : Hid (w3.heap[w.heap.size]? = some (.cells #[.slice none 0 0, .bool false, .slice none 0 0] 37 (0, 0))) := hid ((b3.block w.heap.size (by have := Z2.out; omega)).trans ER.out)
  have HB3 := hid (lnGo b3 B2.out)
  clear hkr hLL b3 y0 z3
  go_wp2_with fail
  go_loopw [18] (fun i wr => ∃ (k : Nat) (vp : Value), k ≤ L ∧ i = .int .i64 (k : Nat) ∧ Hid (wr.heap[w.heap.size + 1]? = some (.cells #[vp, .bool (decide (r < 0)), .slice pr nr cr] 37 (0, 0))) ∧
    Hid (OwnLs 63 3 (fun _ c p => PtT w c p) B wr vp (lnOf ((lnKeys ks).take k) cf)) ∧ Hid (Apart (fun k => k = (w.heap.size + 1)) w3 wr)) (fun i _ => L - (intOf i).toNat)
  case atStart => exact ⟨0, _, Nat.zero_le _, rfl, HO3, hid (OwnLs.nil ..), hid (Apart.refl _ _)⟩
  case round =>
    obtain ⟨k, vp, hk2, rfl, HO, HL, HA⟩ := hrel
    have HBs : Hid (B ≤ wr.heap.size) := hid (by rw [hBB]; exact HA.out.size)
    have HBr : Hid (Below w.heap.size w wr) := hid (apart_below (g := (w.heap.size + 1)) (m := (w.heap.size + 1)) HB3.out (HA.out.mono (fun k hk => .inl hk)) HOge.out HOge.out)
    have hsB := HBs.out
    by_cases hlt : k < L
    · have hkt : k < (lnKeys ks).length := by rw [← HLL.out]; exact hlt
      have hlt' : (k : Int) < (L : Int) := by omega
      have htk : (lnKeys ks)[k] ∈ ks := (Hmem.out _).1 (List.getElem_mem hkt)
      obtain ⟨b, rfl, hbo, hbl, hcell⟩ := Hkr.out (by omega)
      have y0 := hcell k hkt
      have y0 := (World.cell?_of_block (w := w3) (a := ⟨b, k, none⟩) (HA.out.block b hbl (by have := Z2.out; omega))).trans y0
      have Hnext : Hid (lnOf ((lnKeys ks).take (k + 1)) cf = lnOf ((lnKeys ks).take k) cf ++ (if cf (lnKeys ks)[k] = 0 then [] else [(cf (lnKeys ks)[k], (lnKeys ks)[k])])) := hid (by rw [List.take_succ_eq_append_getElem hkt, lnOf_snoc])
      have hll : (lnOf ((lnKeys ks).take k) cf).length ≤ k := by
        unfold lnOf
        rw [List.length_map]
        exact Nat.le_trans (List.length_filter_le _ _) (by rw [List.length_take]; omega)
      have hwt := Hwf.out _ htk
      generalize lnOf ((lnKeys ks).take k) cf = qs at *
      generalize (lnKeys ks)[k] = t at *
      obtain ⟨pt, nt, ct, hlook, hit⟩ := HM.out.look_all t hwt
      have hmr := HBr.out.block m (by omega)
      have hgr := (HBr.out.block g (by omega)).trans Hgb.out
      have hrun := hlook wr hmr
      obtain ⟨x0, x1, x2⟩ := lnCells3 hgr
      have Hlook := hid hlook; have Hmr := hid hmr; have Hgr := hid hgr
      have Hpt : Hid (PtT w [.bool (decide (cf t < 0)), .slice pt nt ct, .int .i64 t] (cf t, t)) := hid ⟨_, rfl, hit, hwt⟩
      have HSg := hid (Sign_any _ _ wr ((hit.below HBr.out).rawL (Hz.out t)))
      clear hcell htk hwt hlook hmr hgr hit hbo hbl
      go_wp2_with fail
      refine HSg.out.mono ?_
      rintro e w6 ⟨rfl, b6⟩
      have HO6 : Hid (w6.heap[w.heap.size + 1]? = some (.cells #[vp, .bool (decide (r < 0)), .slice pr nr cr] 37 (0, 0))) := hid ((b6.block (w.heap.size + 1) (by have := HOlt.out; omega)).trans HO.out)
      have HL6 : Hid (OwnLs 63 3 (fun _ c p => PtT w c p) B w6 vp qs) := hid (HL.out.kept (fun gg hg => b6.block gg (by obtain ⟨css, _, h2, _⟩ := HL.out; exact (World.ownsRow.lt h2 gg hg).2)) (fun _ _ h => h))
      have HA6 : Hid (Apart (fun k => k = (w.heap.size + 1)) w3 w6) := hid (HA.out.go (Apart.of_below b6))
      have hs6 := b6.size
      clear x0 x1 x2 y0 hrun HSg
      by_cases hz0 : cf t = 0
      · have hs0 : (cf t).sign = 0 := by rw [hz0]; rfl
        rw [hs0]
        have hq := hid (show lnOf ((lnKeys ks).take (k + 1)) cf = qs by rw [Hnext.out, if_pos hz0, List.append_nil])
        clear hz0 hs0 Hlook Hpt
        go_wp2_with fail
        go_roundw
        case rel => exact ⟨k + 1, _, by omega, by go_num, HO6, hid (by rw [hq.out]; exact HL6.out), HA6⟩
        case measure => simp [intOf] <;> omega
      · have hs0 : ((cf t).sign == 0) = false := by
          rw [beq_eq_false_iff_ne]
          exact fun h => hz0 (Int.sign_eq_zero_iff_zero.1 h)
        have hq : Hid (lnOf ((lnKeys ks).take (k + 1)) cf = qs ++ [(cf t, t)]) := hid (by rw [Hnext.out, if_neg hz0])
        clear Hnext HO HL HBr HA Hmr Hgr HBs
        have HO := HO6; have HL := HL6; have HA := HA6; have Hnext := hq
        have HBs : Hid (B ≤ w6.heap.size) := hid (by omega)
        have HBr : Hid (Below w.heap.size w w6) := hid (apart_below (g := (w.heap.size + 1)) (m := (w.heap.size + 1)) HB3.out (HA.out.mono (fun k hk => .inl hk)) HOge.out HOge.out)
        have Hmr := hid (HBr.out.block m (by omega))
        have Hgr := hid ((HBr.out.block g (by omega)).trans Hgb.out)
        clear HO6 HL6 HA6 hq hz0 b6 hs6
        clear hsB
        have hsB := HBs.out
        generalize w6 = wr at *
        obtain ⟨xs, hrow, hgo⟩ := HL.out.row
        have Hgo := hid hgo; have Hrow := hid hrow
        have Hvlt := hid (fun gg hg => (World.ownsRow.lt hrow gg hg).2)
        have Hns : Hid (∀ x, x < B → ¬ (vp.ownBlock = some x)) := hid (fun x hx he => by have := (World.ownsRow.lt hrow x he).1; omega)
        have hshv := HL.out.shape
        obtain ⟨pvp, cvp, evp⟩ := hshv
        obtain ⟨n, hn⟩ : ∃ n, n = qs.length := ⟨_, rfl⟩
        rw [← hn] at Hrow evp hll
        have Hgo : Hid (∀ (w' : World) (v' : Value) (c : List Value) (x : Int × Int), w'.ownsRow B 63 3 v' (n + 1) (xs ++ c) → c.length = 3 → (∀ (c : List Value) (x : Int × Int), PtT w c x → PtT w c x) → PtT w c x → OwnLs 63 3 (fun _ c p => PtT w c p) B w' v' (qs ++ [x])) := hid (by rw [hn]; exact Hgo.out)
        clear hrow hgo hn HL
        subst evp
        have hOlt := HOlt.out; have hglt := Hglt.out; have hmlt := Hmlt.out
        have hs1 : ((cf t).sign != 0) = true := by simp only [bne, hs0, Bool.not_false]
        go_upto_region 6 with fail
        clear hs0 hs1
        refine wp_region_write (w0 := wr) 13 1 [30, 31, 32, 33, 34, 35, 36, 37, 38, 39, 40, 41, 42] [u30, u31, u32, u33, u34, u35, u36, u37, u38, u39, u40, u41, u42] (S := (fun k => (Value.slice pvp n cvp).ownBlock = some k))
          (fun i => match i with | 0 => wEq (.pointer (some ⟨w.heap.size + 1, 0, none⟩)) | 1 => wEq (.slice pvp n cvp) | 2 => wEq (.pointer (some ⟨g, 0, none⟩)) | 3 => wEq (.pointer (some ⟨g, 0, none⟩)) | 4 => wEq (.pointer (some ⟨g, 0, none⟩)) | 5 => wEq (.map (some m)) | 6 => wEq (.int .i64 t) | 7 => wEq (.agg #[.bool (decide (cf t < 0)), .slice pt nt ct]) | 8 => wEq (.int .i64 t) | 9 => wEq (.agg #[.bool (decide (cf t < 0)), .slice pt nt ct, .int .i64 t]) | 10 => lnRow [.bool (decide (cf t < 0)), .slice pt nt ct, .int .i64 t] 63 | 11 => wAny | _ => wEq (.pointer (some ⟨w.heap.size + 1, 0, none⟩))) 11 (fun v w => w.ownsRow B 63 3 v (n + 1) (xs ++ [.bool (decide (cf t < 0)), .slice pt nt ct, .int .i64 t])) (fun _ _ _ h hb => ownsRow_later h hb) (by kernel_rfl) (by kernel_rfl) (by kernel_rfl) (by kernel_rfl) (by decide) rfl (by kernel_rfl) rfl (by decide) ?he1 ?_ ?_
        case he1 => simp only [putAll, Act.put, List.setIfInBounds_toArray, List.set_cons_zero, List.set_cons_succ]
        · intro i o hi ho vs wx hvl hb hB hdep K hK
          have hvs := vlen13 hvl
          obtain ⟨s30, s31, s32, s33, s34, s35, s36, s37, s38, s39, s40, s41, s42, rfl⟩ := hvs
          clear hvl
          obtain ⟨q0, q1, q2⟩ := lnCells3 ((hb.block (w.heap.size + 1) (by omega) (Hns.out (w.heap.size + 1) HOlt.out)).trans HO.out)
          obtain ⟨x0, x1, x2⟩ := lnCells3 ((hb.block g (by omega) (Hns.out g Hglt.out)).trans Hgr.out)
          rcases i with _ | _ | _ | _ | _ | _ | _ | _ | _ | _ | _ | _ | _ | i
          all_goals (simp only [List.getElem?_toArray, List.getElem?_cons_zero, List.getElem?_cons_succ, Option.some.injEq] at ho)
          all_goals try (subst ho)
          all_goals try simp only [putAll, Act.put, List.setIfInBounds_toArray, List.set_cons_zero, List.set_cons_succ]
          · go_simp
            have hK' := hK.out
            simp only [putAll, Act.put, List.setIfInBounds_toArray, List.set_cons_zero, List.set_cons_succ] at hK'
            exact hK' _ _ rfl (fun _ => Below.refl _ _) (fun h => absurd h (by decide))
          · have e0 : s30 = _ := hdep ⟨0, .data⟩ (by simp) rfl
            have e0 := e0.symm
            subst e0
            go_simp
            have hK' := hK.out
            simp only [putAll, Act.put, List.setIfInBounds_toArray, List.set_cons_zero, List.set_cons_succ] at hK'
            exact hK' _ _ rfl (fun _ => Below.refl _ _) (fun h => absurd h (by decide))
          · go_simp
            have hK' := hK.out
            simp only [putAll, Act.put, List.setIfInBounds_toArray, List.set_cons_zero, List.set_cons_succ] at hK'
            exact hK' _ _ rfl (fun _ => Below.refl _ _) (fun h => absurd h (by decide))
          · have e2 : s32 = _ := hdep ⟨2, .data⟩ (by simp) rfl
            have e2 := e2.symm
            subst e2
            go_simp
            have hK' := hK.out
            simp only [putAll, Act.put, List.setIfInBounds_toArray, List.set_cons_zero, List.set_cons_succ] at hK'
            exact hK' _ _ rfl (fun _ => Below.refl _ _) (fun h => absurd h (by decide))
          · have e3 : s33 = _ := hdep ⟨3, .data⟩ (by simp) rfl
            have e3 := e3.symm
            subst e3
            go_simp
            have hK' := hK.out
            simp only [putAll, Act.put, List.setIfInBounds_toArray, List.set_cons_zero, List.set_cons_succ] at hK'
            exact hK' _ _ rfl (fun _ => Below.refl _ _) (fun h => absurd h (by decide))
          · have e4 : s34 = _ := hdep ⟨4, .data⟩ (by simp) rfl
            have e4 := e4.symm
            subst e4
            go_simp
            have hK' := hK.out
            simp only [putAll, Act.put, List.setIfInBounds_toArray, List.set_cons_zero, List.set_cons_succ] at hK'
            exact hK' _ _ rfl (fun _ => Below.refl _ _) (fun h => absurd h (by decide))
          · go_simp
            have hK' := hK.out
            simp only [putAll, Act.put, List.setIfInBounds_toArray, List.set_cons_zero, List.set_cons_succ] at hK'
            exact hK' _ _ rfl (fun _ => Below.refl _ _) (fun h => absurd h (by decide))
          · have e5 : s35 = _ := hdep ⟨5, .data⟩ (by simp) rfl
            have e5 := e5.symm
            subst e5
            have e6 : s36 = _ := hdep ⟨6, .data⟩ (by simp) rfl
            have e6 := e6.symm
            subst e6
            have hrun := Hlook.out wx ((hb.block m (by omega) (Hns.out m Hmlt.out)).trans Hmr.out)
            go_simp
            have hK' := hK.out
            simp only [putAll, Act.put, List.setIfInBounds_toArray, List.set_cons_zero, List.set_cons_succ] at hK'
            exact hK' _ _ rfl (fun _ => Below.refl _ _) (fun h => absurd h (by decide))
          · go_simp
            have hK' := hK.out
            simp only [putAll, Act.put, List.setIfInBounds_toArray, List.set_cons_zero, List.set_cons_succ] at hK'
            exact hK' _ _ rfl (fun _ => Below.refl _ _) (fun h => absurd h (by decide))
          · have e7 : s37 = _ := hdep ⟨7, .data⟩ (by simp) rfl
            have e7 := e7.symm
            subst e7
            have e8 : s38 = _ := hdep ⟨8, .data⟩ (by simp) rfl
            have e8 := e8.symm
            subst e8
            go_simp
            have hK' := hK.out
            simp only [putAll, Act.put, List.setIfInBounds_toArray, List.set_cons_zero, List.set_cons_succ] at hK'
            exact hK' _ _ rfl (fun _ => Below.refl _ _) (fun h => absurd h (by decide))
          · have e9 : s39 = _ := hdep ⟨9, .data⟩ (by simp) rfl
            have e9 := e9.symm
            subst e9
            go_simp
            have hK' := hK.out
            simp only [putAll, Act.put, List.setIfInBounds_toArray, List.set_cons_zero, List.set_cons_succ] at hK'
            exact hK' _ _ ⟨_, rfl, heap_alloc_new _ _, fun e => by have := Hvlt.out _ e; have := hb.size; omega⟩ (fun _ => below1 _ _) (fun h => absurd h (by decide))
          · have e1 : s31 = _ := hdep ⟨1, .data⟩ (by simp) rfl
            have e1 := e1.symm
            subst e1
            have e10 : (lnRow [.bool (decide (cf t < 0)), .slice pt nt ct, .int .i64 t] 63).P s40 wx := hdep ⟨10, .data⟩ (by simp) rfl
            have hbB := hB (Or.inl rfl)
            obtain ⟨gg, e8, hg8, -⟩ := e10
            subst e8
            have hrow : wx.ownsRow B 63 3 (.slice pvp n cvp) n xs := row_stays Hrow.out fun k hk => hbB.block k (Hvlt.out k hk)
            have hK' := hK.out
            simp only [putAll, Act.put, List.setIfInBounds_toArray, List.set_cons_zero, List.set_cons_succ] at hK'
            rw [if_pos (by rfl)]
            refine step_append (.tmp 31) (.tmp 40) 31 ?ho B 63 i0 _ 3 40 Tryz.underlying31 hij hz0 hz1 hz2 rfl (by decide) (.slice pvp n cvp) n xs ?hs hrow ⟨gg, 0, none⟩ 1 1 [.bool (decide (cf t < 0)), .slice pt nt ct, .int .i64 t] ?hx rfl ?c1 ?c2 ?c3 ?c4 ?c5 ?_
            case ho => rfl
            case hs => rfl
            case hx => rfl
            case c1 => exact lnCellsAt hg8
            case c2 => intro u hu; simp at hu; (rcases hu with rfl | rfl | rfl <;> rfl)
            case c3 => simp [maxLen]; omega
            case c4 => omega
            case c5 => exact Nat.le_trans HBs.out hbB.size
            intro v' w' hown' hgrow hat
            exact hK' _ _ trivial (fun h => absurd rfl h) (fun _ => ⟨(Apart.refl _ _).grown hgrow (fun k e => e), hown'⟩)
          · go_simp
            have hK' := hK.out
            simp only [putAll, Act.put, List.setIfInBounds_toArray, List.set_cons_zero, List.set_cons_succ] at hK'
            exact hK' _ _ rfl (fun _ => Below.refl _ _) (fun h => absurd h (by decide))
          · omega
        · intro vs wx hvl hb hf hJw
          have hvs := vlen13 hvl
          obtain ⟨s30, s31, s32, s33, s34, s35, s36, s37, s38, s39, s40, s41, s42, rfl⟩ := hvs
          have f1 : s30 = .pointer (some ⟨w.heap.size + 1, 0, none⟩) := hf 0 (by decide)
          have f12 : s42 = .pointer (some ⟨w.heap.size + 1, 0, none⟩) := hf 12 (by decide)
          subst f12
          have hJw : wx.ownsRow B 63 3 s41 (n + 1) (xs ++ [.bool (decide (cf t < 0)), .slice pt nt ct, .int .i64 t]) := hJw
          have hsh := ownsRow_shape hJw
          obtain ⟨pv, cv, ev⟩ := hsh
          subst ev
          have hOx := (hb.block (w.heap.size + 1) (by omega) (Hns.out (w.heap.size + 1) HOlt.out)).trans HO.out
          obtain ⟨q0, q1, q2⟩ := lnCells3 hOx
          have fz := frozen_of_row wx (w.heap.size + 1) 0 _ _ hOx
          have hO9 := heap_setCell_same wx (w.heap.size + 1) 0 _ _ (.slice pv (n + 1) cv) hOx
          have hrow9 : (wx.setCell ⟨w.heap.size + 1, 0, none⟩ (.slice pv (n + 1) cv)).ownsRow B 63 3 (.slice pv (n + 1) cv) (n + 1) (xs ++ [.bool (decide (cf t < 0)), .slice pt nt ct, .int .i64 t]) := row_stays hJw fun k hk => Below.heap_setCell _ _ _ _ (by have h1 := (World.ownsRow.lt hJw k hk).1; have := HOlt.out; show k ≠ (w.heap.size + 1); omega)
          have Hnew := hid (Hgo.out _ _ [.bool (decide (cf t < 0)), .slice pt nt ct, .int .i64 t] (cf t, t) hrow9 rfl (fun _ _ h => h) Hpt.out)
          have HA9 : Hid (Apart (fun k => k = (w.heap.size + 1)) w3 (wx.setCell ⟨w.heap.size + 1, 0, none⟩ (.slice pv (n + 1) cv))) := hid ((HA.out.trans hb (fun i hi => .inr (Nat.le_of_not_lt fun hlt2 => absurd hi (Hns.out i (by omega))))).go (apart_set _ _ _ _))
          have HO9 := hid hO9
          clear hf hvl hJw hrow9 hOx hO9
          refine wpAny_one (i := 13) (by kernel_rfl) rfl ?_
          intro K hK
          simp only [putAll, Act.put, List.setIfInBounds_toArray, List.set_cons_zero, List.set_cons_succ]
          have hK' := hK.out
          go_simp
          apply hK'
          clear hK hK' q0 q1 q2 fz
          refine wpAny_done (by kernel_rfl) ?_ _
          go_wp2_with fail
          go_roundw
          case rel => exact ⟨k + 1, _, by omega, by go_num, HO9, hid (by rw [Hnext.out]; exact Hnew.out), HA9⟩
          case measure => simp [intOf] <;> omega
    · obtain rfl : k = L := by omega
      have hfin : (lnKeys ks).take k = lnKeys ks := by rw [HLL.out, List.take_length]
      have HLf := HL.out
      rw [hfin] at HLf
      have hshv := HLf.shape
      obtain ⟨pvp, cvp, evp⟩ := hshv
      subst evp
      generalize (lnOf (lnKeys ks) cf).length = n at *
      have hRr := (HA.out.block w.heap.size (by have := HwB.out; omega) (by omega)).trans HR3.out
      obtain ⟨q0, q1, q2⟩ := lnCells3 HO.out
      obtain ⟨x0, x1, x2⟩ := lnCells3 hRr
      have fz0 := frozen_of_row wr w.heap.size 0 _ _ hRr
      have fz1 := frozen_of_row wr w.heap.size 1 _ _ hRr
      have fz2 := frozen_of_row wr w.heap.size 2 _ _ hRr
      have HLF := hid HLf
      clear hfin HLf hRr HL HO
      go_wp2_with fail
      obtain ⟨wF, hwF⟩ : ∃ wF, wF = ((wr.setCell ⟨w.heap.size, 0, none⟩ (.slice pvp n cvp)).setCell ⟨w.heap.size, 1, none⟩ (.bool (decide (r < 0)))).setCell ⟨w.heap.size, 2, none⟩ (.slice pr nr cr) := ⟨_, rfl⟩
      have bF : Below w.heap.size w wF := by rw [hwF]; exact Below.setCell (p := ⟨w.heap.size, 2, none⟩) (Below.setCell (p := ⟨w.heap.size, 1, none⟩) (Below.setCell (p := ⟨w.heap.size, 0, none⟩) HBr.out (Nat.le_refl _) _) (Nat.le_refl _) _) (Nat.le_refl _) _
      have hT : PtsT wF (.slice pvp n cvp) (lnOf (lnKeys ks) cf) := by
        obtain ⟨css, a1, a2, a3, a4⟩ := HLF.out
        refine OwnLs.in (e := 63) (B := B) (⟨css, a1, row_stays a2 fun gg hg => ?_, a3, fun i h h' => (a4 i h h').below bF⟩)
        have h1 := (World.ownsRow.lt a2 gg hg).1
        have hne : gg ≠ w.heap.size := by have := HwB.out; omega
        rw [hwF]
        exact ((Below.heap_setCell _ _ _ _ hne).trans (Below.heap_setCell _ _ _ _ hne)).trans (Below.heap_setCell _ _ _ _ hne)
      rw [← hwF]
      exact bodyPost_ret (v := .agg #[.slice pvp n cvp, .bool (decide (r < 0)), .slice pr nr cr]) (by rw [hwF]; simp [results, Tryz.results51, go_sem, x0, x1, x2]) rfl ⟨_, rfl, ⟨_, _, rfl, hT, Hgi.out.below bF⟩, bF, _, _, _, rfl, fun gg hg => by
        obtain ⟨css, a1, a2, a3, a4⟩ := HLF.out
        have h1 := (World.ownsRow.lt a2 gg hg).1
        have := HwB.out
        omega⟩
end Go.Proofs.YtnfohbpgnbfmeaaGreatDoor
/- linear.Add and linear.Scale. -/
namespace Go.Proofs.YtnfohbpgnbfmeaaGreatDoor
open Go.RowKit Big

theorem lnMade_is (qs : List (Int × Int)) (r : Int) : (lnOf (lnKeys (qs.map (·.2))) (lnCf qs), r) = (lnSum qs, r) := by
  rw [lnOf_sum _ (lnKeys_up _) qs (fun p hp => (lnKeys_mem _ _).2 (List.mem_map.2 ⟨p, hp, rfl⟩))]
/-- a gathering's sum -/
theorem Gn.sumF {w : World} {g m : Nat} {qs : List (Int × Int)} {r : Int} (h : Gn w g m qs r) {N : Nat} (hN : 1 ≤ N) (hq : ∀ p ∈ qs, sz W p.1.natAbs ≤ N) (hl : N + qs.length ≤ 549755813888) :
    Calls Tryz.prog 51 #[.pointer (some ⟨g, 0, none⟩)] w (RLinF (lnSum qs, r) w) := by
  have := sum_anyF g m _ _ r w h (by rw [List.length_map]; omega) (fun t => Nat.le_trans (lnCf_sz hN t qs hq) (by omega))
  rw [lnMade_is] at this
  exact this
theorem Gn.sum {w : World} {g m : Nat} {qs : List (Int × Int)} {r : Int} (h : Gn w g m qs r) {N : Nat} (hN : 1 ≤ N) (hq : ∀ p ∈ qs, sz W p.1.natAbs ≤ N) (hl : N + qs.length ≤ 549755813888) :
    Calls Tryz.prog 51 #[.pointer (some ⟨g, 0, none⟩)] w (RLin (lnSum qs, r) w) := (h.sumF hN hq hl).mono fun _ _ h => h.lin
theorem lnBelow {w0 w w' : World} (hb : Below w0.heap.size w0 w) (hb2 : Below w.heap.size w w') : Below w0.heap.size w0 w' := hb.trans (hb2.mono hb.size)
theorem LnR.agg3 {w : World} {v : Value} {a : List (Int × Int) × Int} (h : LnR w v a) : ∃ p n c b q k d, v = .agg #[.slice p n c, .bool b, .slice q k d] := by
  obtain ⟨pv, n, s, rfl, ⟨p, c, rfl, -⟩, h2⟩ := h
  obtain ⟨d, q, k, e, e2⟩ := h2.agg2
  injection e2 with e2
  simp only [Array.mk.injEq, List.cons.injEq, and_true] at e2
  obtain ⟨-, rfl⟩ := e2
  exact ⟨_, _, _, _, _, _, _, rfl⟩
theorem LnT.agg3 {w : World} {v : Value} {a : List (Int × Int) × Int} (h : LnT w v a) : ∃ p n c q k d, v = .agg #[.slice p n c, .bool (decide (a.2 < 0)), .slice q k d] := by
  obtain ⟨pv, s, rfl, ⟨p, c, rfl, -⟩, s', e, ⟨q, d, rfl, -⟩⟩ := h
  injection e with e
  simp only [Array.mk.injEq, List.cons.injEq, and_true, true_and] at e
  subst e
  exact ⟨_, _, _, _, _, _, rfl⟩
/-- a block without whole numbers -/
def NoInt (w : World) (b : Nat) : Prop := ∀ j k n, w.cell? ⟨b, j, none⟩ ≠ some (.int k n)
theorem NoInt.wd {w : World} {b : Nat} (h : NoInt w b) : NoWd w b := fun j n => h j .u64 n
theorem NoInt.cells {w : World} {b : Nat} {cs : Array Value} {T : TypeId} (h : w.heap[b]? = some (.cells cs T (0, 0))) (hc : ∀ k n, .int k n ∉ cs) : NoInt w b := by
  intro j k n e
  rw [cell_of_row w b j cs T (0, 0) h] at e
  exact hc k n (Array.mem_of_getElem? e)
theorem PtsT.quiet {w w' : World} {v : Value} {l : List (Int × Int)} {S : Nat → Prop} (h : PtsT w v l) (ha : Apart S w w') (hS : ∀ b, S b → NoInt w b) : PtsT w' v l := by
  obtain ⟨p, cap, rfl, h1, h2, h3, h4⟩ := h
  refine ⟨p, cap, rfl, h1, h2, h3, fun hp => ?_⟩
  obtain ⟨b, off, h5, h6, h7⟩ := h4 hp
  have hn : ¬ S b := fun hs => by
    obtain ⟨c, k1, s, rfl, -⟩ := h7 0 hp
    exact hS b hs _ _ _ (k1 2 _ rfl)
  refine ⟨b, off, h5, Nat.lt_of_lt_of_le h6 ha.size, fun i hi => ?_⟩
  obtain ⟨c, k1, s, e, k2, k3⟩ := h7 i hi
  exact ⟨c, fun j u hj => (World.cell?_of_block (w := w) (ha.block b h6 hn)).trans (k1 j u hj), s, e, k2.quiet ha (fun b hb => (hS b hb).wd), k3⟩
theorem LnT.quiet {w w' : World} {v : Value} {a : List (Int × Int) × Int} {S : Nat → Prop} (h : LnT w v a) (ha : Apart S w w') (hS : ∀ b, S b → NoInt w b) : LnT w' v a := by
  obtain ⟨pv, s, e, h1, h2⟩ := h
  exact ⟨pv, s, e, h1.quiet ha hS, h2.quiet ha (fun b hb => (hS b hb).wd)⟩
def st3 (W1 : World) (g : Nat) (v0 v1 v2 : Value) : World := ((W1.setCell ⟨g, 0, none⟩ v0).setCell ⟨g, 1, none⟩ v1).setCell ⟨g, 2, none⟩ v2
theorem st3_apart (W1 : World) (g : Nat) (v0 v1 v2 : Value) : Apart (fun k => k = g) W1 (st3 W1 g v0 v1 v2) := ((apart_set _ _ _ _).go (apart_set _ _ _ _)).go (apart_set _ _ _ _)
theorem st3_below {B : Nat} {w W1 : World} {g : Nat} (hb : Below B w W1) (hB : B ≤ g) (v0 v1 v2 : Value) : Below B w (st3 W1 g v0 v1 v2) :=
  Below.setCell (p := ⟨g, 2, none⟩) (Below.setCell (p := ⟨g, 1, none⟩) (Below.setCell (p := ⟨g, 0, none⟩) hb hB _) hB _) hB _
set_option maxRecDepth 100000 in
set_option maxHeartbeats 3200000 in
theorem Scale_linF (va vk : Value) (a : List (Int × Int) × Int) (k : Int) (w : World) {N : Nat} (hN : 1 ≤ N) (ha : LnR w va a) (hk : RawAt w vk k) (sa : LnSz N a) (sk : sz W k.natAbs ≤ N) (hl : N + N + a.1.length ≤ 549755813000) :
    Calls Tryz.prog 56 #[va, vk] w (RLinF (lnSum (lnTimes k a.1), a.2 * k) w) := by
  obtain ⟨p0, n0, c0, b0, q0, k0, d0, rfl⟩ := ha.agg3
  obtain ⟨dk, pk, nk, ck, rfl⟩ := hk.agg2
  have HA := hid ha; have HK := hid hk; have SA := hid sa; have SK := hid sk; have HL := hid hl
  clear ha hk sa sk hl
  go_enter Tryz.func56, Tryz.ntmps56
  go_wp2_with fail
  obtain ⟨W3, hW⟩ : ∃ W3, W3 = ((w.alloc (.cells #[.slice p0 n0 c0, .bool b0, .slice q0 k0 d0] 37)).alloc (.cells #[.bool dk, .slice pk nk ck] 35)).alloc (.cells #[.slice none 0 0, .bool false, .slice none 0 0] 37) := ⟨_, rfl⟩
  rw [← hW]
  have hb3 : Below w.heap.size w W3 := by rw [hW]; exact ((below1 _ _).alloc (by simp) _).alloc (by simp; omega) _
  have z3 : W3.heap.size = w.heap.size + 3 := by rw [hW]; simp
  have e0 : W3.heap[w.heap.size]? = some (.cells #[.slice p0 n0 c0, .bool b0, .slice q0 k0 d0] 37 (0, 0)) := by rw [hW, heap_alloc_old _ _ (by simp; omega), heap_alloc_old _ _ (by simp)]; exact heap_alloc_new _ _
  have e1 : W3.heap[w.heap.size + 1]? = some (.cells #[.bool dk, .slice pk nk ck] 35 (0, 0)) := by
    rw [hW, heap_alloc_old _ _ (by simp)]
    have := heap_alloc_new (w.alloc (.cells #[.slice p0 n0 c0, .bool b0, .slice q0 k0 d0] 37)) (.cells #[.bool dk, .slice pk nk ck] 35)
    rwa [size_alloc] at this
  have e2 : W3.heap[w.heap.size + 1 + 1]? = some (.cells #[.slice none 0 0, .bool false, .slice none 0 0] 37 (0, 0)) := by
    have := heap_alloc_new ((w.alloc (.cells #[.slice p0 n0 c0, .bool b0, .slice q0 k0 d0] 37)).alloc (.cells #[.bool dk, .slice pk nk ck] 35)) (.cells #[.slice none 0 0, .bool false, .slice none 0 0] 37)
    rw [size_alloc, size_alloc] at this
    rw [hW]; exact this
  clear hW
  have H3 := hid hb3; have E0 := hid e0; have E1 := hid e1; have E2 := hid e2; have Z3 := hid z3
  clear e0 e1 e2
  refine (gather_any W3).mono ?_
  rintro e w4 ⟨g, m, rfl, hG, b4, hg, hm⟩
  have B4 := hid (lnBelow hb3 b4)
  obtain ⟨x0, x1, x2⟩ := lnCells3 ((b4.block w.heap.size (by omega)).trans E0.out)
  obtain ⟨x3, x4, -, -⟩ := two_cells ((b4.block (w.heap.size + 1) (by omega)).trans E1.out)
  have T1 := hid (take_product w _ a g m [] 0 w4 HK.out SK.out hN HA.out SA.out.1 SA.out.2 nofun (by simp [sz_zero]) (by have := HL.out; simp; omega) B4.out (by omega) (by omega) hG)
  have hg4 := hG.lt
  have hm4 := hG.map.lt
  have Hb4 := hid b4
  clear hG b4 hb3
  go_wp2_with fail
  refine T1.out.mono ?_
  rintro e w5 ⟨rfl, hG6, hA6⟩
  have z4 := Hb4.out.size
  have z6 := hA6.size
  have B6 := hid (apart_below (g := g) (m := m) B4.out hA6 (by omega) (by omega))
  rw [List.nil_append, Int.zero_add] at hG6
  have T3 := hid (Gn.sumF hG6 (N := N + N) (by omega) (fun p hp => by
    obtain ⟨y, hy, rfl⟩ := List.mem_map.1 hp
    show sz W (y.1 * k).natAbs ≤ N + N
    rw [Int.natAbs_mul]
    exact Nat.le_trans (sz_mul W2 _ _) (by have := SA.out.1 y hy; have := SK.out; omega)) (by rw [List.length_map]; have := HL.out; omega))
  have E6 := hid ((hA6.block (w.heap.size + 1 + 1) (by omega) (by omega)).trans ((Hb4.out.block (w.heap.size + 1 + 1) (by omega)).trans E2.out))
  clear hG6 hA6 T1 x0 x1 x2 x3 x4
  go_wp2_with fail
  refine T3.out.mono ?_
  rintro e w7 ⟨v7, rfl, hT7, b7, fr7⟩
  obtain ⟨p7, n7, c7, q7, k7, d7, rfl⟩ := hT7.agg3
  have Hfr := hid (fr7.mono B6.out.size)
  clear fr7
  have e7 := (b7.block (w.heap.size + 1 + 1) (by omega)).trans E6.out
  obtain ⟨y0, y1, y2⟩ := lnCells3 e7
  have fz0 := frozen_of_row w7 (w.heap.size + 1 + 1) 0 _ _ e7
  have fz1 := frozen_of_row w7 (w.heap.size + 1 + 1) 1 _ _ e7
  have fz2 := frozen_of_row w7 (w.heap.size + 1 + 1) 2 _ _ e7
  have B7 := hid (lnBelow B6.out b7)
  have HT7 := hid (hT7.quiet (st3_apart w7 (w.heap.size + 1 + 1) (.slice p7 n7 c7) (.bool (decide (a.2 * k < 0))) (.slice q7 k7 d7)) (fun b hb => by rw [hb]; exact NoInt.cells e7 (by simp)))
  clear hT7 b7 e7 T3
  go_wp2
  exact bodyPost_ret (v := .agg #[.slice p7 n7 c7, .bool (decide (a.2 * k < 0)), .slice q7 k7 d7]) (by simp [results, Tryz.results56, go_sem, y0, y1, y2]) rfl
    ⟨_, rfl, HT7.out, st3_below B7.out (by omega) _ _ _, Hfr.out.of⟩
end Go.Proofs.YtnfohbpgnbfmeaaGreatDoor
/- linear.common: the greatest number that goes into all coefficients. -/
namespace Go.Proofs.YtnfohbpgnbfmeaaGreatDoor
open Go.RowKit Big

/-- a variable that holds a whole number -/
def LnCell (w : World) (g : Nat) (z : Int) : Prop := ∃ p n c, w.heap[g]? = some (.cells #[.bool (decide (z < 0)), .slice p n c] 35 (0, 0)) ∧ IntAt w (.agg #[.bool (decide (z < 0)), .slice p n c]) z
theorem LnCell.pair {w : World} {g : Nat} {z : Int} (h : LnCell w g z) : Pair w g 35 := by
  obtain ⟨p, n, c, h, _⟩ := h
  exact ⟨_, p, n, c, h⟩
theorem LnCell.below {w w' : World} {g : Nat} {z : Int} (h : LnCell w g z) (hb : Below w.heap.size w w') : LnCell w' g z := by
  obtain ⟨p, n, c, h, hi⟩ := h
  exact ⟨p, n, c, (hb.block g (Array.getElem?_eq_some_iff.1 h).1).trans h, hi.below hb⟩
theorem LnCell.put {w : World} {g : Nat} {z : Int} {p : Option Addr} {n c : Nat} (hp : Pair w g 35) (hi : IntAt w (.agg #[.bool (decide (z < 0)), .slice p n c]) z) :
    LnCell ((w.setCell ⟨g, 0, none⟩ (.bool (decide (z < 0)))).setCell ⟨g, 1, none⟩ (.slice p n c)) g z := by
  have h2 := hi.stored hp (decide (z < 0)) p n c
  obtain ⟨x, p', n', c', h⟩ := hp
  exact ⟨p, n, c, heap_setCell_same _ g 1 _ _ (.slice p n c) (heap_setCell_same w g 0 _ _ (.bool (decide (z < 0))) h), h2⟩
set_option maxRecDepth 100000 in
set_option maxHeartbeats 3200000 in
theorem common_lin (v : Value) (l : List (Int × Int)) (w : World) {N : Nat} (h : PtsR w v l) (hs : ∀ p ∈ l, sz W p.1.natAbs ≤ N) (hN : N ≤ 1099511627776) (hl : l.length ≤ 1000000000000) :
    Calls Tryz.prog 47 #[v] w (RInt (lnGcd l : Nat) w) := by
  obtain ⟨p, cp, rfl, j1, j2, -, j4⟩ := h
  have J4 := hid j4; have HS := hid hs
  obtain ⟨W1, hW⟩ : ∃ W1, W1 = w.alloc (.cells #[.bool false, .slice none 0 0] 35) := ⟨_, rfl⟩
  have b1 : Below w.heap.size w W1 := by rw [hW]; exact below1 w _
  have z1 : W1.heap.size = w.heap.size + 1 := by rw [hW, size_alloc]
  have hpr : Pair W1 w.heap.size 35 := by rw [hW]; exact Pair.new ..
  have B1 := hid b1; have Z1 := hid z1; have HP := hid hpr
  obtain ⟨L, hLL⟩ : ∃ L, L = l.length := ⟨_, rfl⟩
  have HLL := hid hLL
  rw [← hLL] at j1 hl ⊢
  clear j4 hs b1 z1 hpr hLL
  go_enter Tryz.func47, Tryz.ntmps47
  go_wp2_with fail
  rw [← hW]
  clear hW
  refine (Of_any 0 W1 (by decide) (by decide)).mono ?_
  rintro e w2 ⟨v2, rfl, i2, b2⟩
  obtain ⟨p2, n2, c2, rfl, i2⟩ := i2.shape
  have z2 := b2.size
  obtain ⟨W3, hW3⟩ : ∃ W3, W3 = w2.alloc (.cells #[.bool false, .slice p2 n2 c2] 35) := ⟨_, rfl⟩
  have b3 : Below w2.heap.size w2 W3 := by rw [hW3]; exact below1 _ _
  have hc3 : LnCell W3 w2.heap.size 0 := ⟨p2, n2, c2, by rw [hW3]; exact heap_alloc_new _ _, i2.below b3⟩
  have z3 : W3.heap.size = w2.heap.size + 1 := by rw [hW3, size_alloc]
  have HP3 := hid ((HP.out.below b2).below b3)
  have HB3 := hid (lnGo b3 (lnGo b2 B1.out))
  have HC3 := hid hc3
  have Hz2 : Hid (w.heap.size < w2.heap.size) := hid (by have := Z1.out; omega)
  clear i2 b3 hc3
  go_upto_region 2 with fail
  rw [← hW3]
  clear hW3
  go_wp2_with fail
  go_loopw [9] (fun i wr => ∃ (k : Nat), k ≤ L ∧ i = .int .i64 (k : Nat) ∧ Hid (LnCell wr w2.heap.size (lnGcd (l.take k) : Nat)) ∧ Hid (Pair wr w.heap.size 35) ∧ Hid (Below w.heap.size w wr)) (fun i _ => L - (intOf i).toNat)
  case atStart => exact ⟨0, Nat.zero_le _, rfl, HC3, HP3, HB3⟩
  case round =>
    obtain ⟨k, hk, rfl, HC, HPr, HBr⟩ := hrel
    by_cases hlt : k < L
    · have hkt : k < l.length := by rw [← HLL.out]; exact hlt
      have hlt' : (k : Int) < (L : Int) := by omega
      obtain ⟨b, o, rfl, hb, hc⟩ := J4.out (by omega)
      obtain ⟨cs, k0, d, s, ecs, hraw, hwf⟩ := hc k hkt
      have hsh := hraw.agg2
      obtain ⟨d', q, n, cq, e2⟩ := hsh
      obtain ⟨rfl, rfl⟩ : s = .slice q n cq ∧ d = d' := by
        injection e2 with e2
        simpa [and_comm] using e2
      clear e2
      subst ecs
      have y0 := (HBr.out.cell (p := ⟨b, o + k * 3, none⟩) hb).trans (k0 0 _ rfl)
      have y1 := (HBr.out.cell (p := ⟨b, o + k * 3 + 1, none⟩) hb).trans (k0 1 _ rfl)
      have y2 := (HBr.out.cell (p := ⟨b, o + k * 3 + 2, none⟩) hb).trans (k0 2 _ rfl)
      have Hnext : Hid (lnGcd (l.take (k + 1)) = Nat.gcd (lnGcd (l.take k)) l[k].1.natAbs) := hid (by rw [List.take_succ_eq_append_getElem hkt, lnGcd_snoc])
      have Hsz := hid (lnGcd_sz l HS.out k)
      have hraw := hraw.below HBr.out
      generalize lnGcd (l.take k) = gg at *
      generalize l[k].1 = c at *
      generalize l[k].2 = t at *
      clear k0
      have HCo := HC.out
      obtain ⟨pc, nc, cc, hcb, hci⟩ := HCo
      have hlw2 : w2.heap.size < wr.heap.size := (Array.getElem?_eq_some_iff.1 hcb).1
      obtain ⟨W5, hW5⟩ : ∃ W5, W5 = wr.alloc (.cells #[.bool d, .slice q n cq, .int .i64 t] 63) := ⟨_, rfl⟩
      have b5 : Below wr.heap.size wr W5 := by rw [hW5]; exact below1 wr _
      have e5 : W5.heap[wr.heap.size]? = some (.cells #[.bool d, .slice q n cq, .int .i64 t] 63 (0, 0)) := by rw [hW5]; exact heap_alloc_new wr _
      obtain ⟨t0, t1, t2⟩ := lnCells3 e5
      obtain ⟨u0, u1, -, -⟩ := two_cells ((b5.block w2.heap.size hlw2).trans hcb)
      have HGc := hid (Gcd_any _ _ _ _ W5 ((hci.below b5).rawL (by have := Hsz.out; rw [Int.natAbs_natCast]; omega)) (hraw.below b5))
      have HB5 := hid b5
      have HC5 := hid (HC.out.below b5)
      have HP5 := hid (HPr.out.below b5)
      clear hcb hci hraw hwf hc HC b5 e5
      go_upto_region 5 with fail
      rw [← hW5]
      clear hW5
      go_wp2_with fail
      refine HGc.out.mono ?_
      rintro e w6 ⟨v6, rfl, i6, b6⟩
      rw [Int.natAbs_natCast] at i6
      obtain ⟨p6, n6, c6, rfl, i6⟩ := i6.shape
      have hp6 := (HC5.out.below b6).pair
      obtain ⟨_, _, q0, q1, q2, q3⟩ := hp6.cells
      have HC6 := hid (LnCell.put hp6 i6)
      have HP6 := hid ((HP5.out.below b6).other (g' := w2.heap.size) (by have := Hz2.out; omega) 0 (.bool (decide (((gg.gcd c.natAbs : Nat) : Int) < 0))))
      have HP7 := hid (HP6.out.other (g' := w2.heap.size) (by have := Hz2.out; omega) 1 (.slice p6 n6 c6))
      have HB7 := hid (Below.stored (lnGo b6 (lnGo HB5.out HBr.out)) (g := w2.heap.size) (by have := Hz2.out; omega) (.bool (decide (((gg.gcd c.natAbs : Nat) : Int) < 0))) (.slice p6 n6 c6))
      clear i6 hp6 b6 t0 t1 t2 u0 u1 y0 y1 y2
      go_wp2_with fail
      go_roundw
      case rel => exact ⟨k + 1, by omega, by go_num, hid (by rw [Hnext.out]; exact HC6.out), HP7, HB7⟩
      case measure => simp [intOf] <;> omega
    · obtain rfl : k = L := by omega
      have hfin : l.take k = l := by rw [HLL.out, List.take_length]
      rw [hfin] at HC
      have HCo := HC.out
      obtain ⟨pc, nc, cc, hcb, hci⟩ := HCo
      obtain ⟨u0, u1, -, -⟩ := two_cells hcb
      have hpr := HPr.out
      obtain ⟨_, _, q0, q1, q2, q3⟩ := hpr.cells
      have Hci := hid hci
      clear hcb hfin HC hci
      go_wp2
      exact bodyPost_ret (v := .agg #[.bool (decide (((lnGcd l : Nat) : Int) < 0)), .slice pc nc cc]) (by simp [results, Tryz.results47, go_sem, q0, q1]) rfl
        ⟨_, rfl, Hci.out.stored hpr _ _ _ _, Below.stored HBr.out (Nat.le_refl _) _ _⟩
end Go.Proofs.YtnfohbpgnbfmeaaGreatDoor
/- linear.Tight. -/
namespace Go.Proofs.YtnfohbpgnbfmeaaGreatDoor
open Go.RowKit Big

/-- a sum that lasts -/
def lnS (a : List (Int × Int) × Int) : SFact := ⟨fun v w => ∃ p n c q k d, v = .agg #[.slice p n c, .bool (decide (a.2 < 0)), .slice q k d] ∧ LnT w v a, fun _ _ _ ⟨p, n, c, q, k, d, h1, h2⟩ hb => ⟨p, n, c, q, k, d, h1, h2.below hb⟩⟩
theorem LnT.zero (w : World) : LnT w (.agg #[.slice none 0 0, .bool false, .slice none 0 0]) ([], 0) :=
  ⟨_, _, rfl, ⟨none, 0, rfl, by simp, by simp [maxLen], fun _ => rfl, fun h => absurd h (by simp)⟩, IntAt.zero w⟩
theorem PtsR.lin {w : World} {v : Value} {l : List (Int × Int)} (h : PtsR w v l) : LnR w (.agg #[v, .bool false, .slice none 0 0]) (l, 0) :=
  ⟨_, _, _, rfl, h, _, _, [], rfl, At.nil w .u64, (fun x hx => by cases hx), by simp, by simp [sg, val]⟩
def lnSF (B : Nat) (a : List (Int × Int) × Int) : SFact := ⟨fun v w => ∃ p n c q k d, v = .agg #[.slice p n c, .bool (decide (a.2 < 0)), .slice q k d] ∧ LnT w v a ∧ LnFr B v, fun _ _ _ ⟨p, n, c, q, k, d, h1, h2, h3⟩ hb => ⟨p, n, c, q, k, d, h1, h2.below hb, h3⟩⟩
def RTightF (a : List (Int × Int) × Int) (z c : Int) (w : World) (e : Ending) (w' : World) : Prop := ∃ v1 v2, e = .returned (.tuple #[v1, v2, .int .i64 c]) ∧ LnT w' v1 a ∧ IntAt w' v2 z ∧ Below w.heap.size w w' ∧ LnFr w.heap.size v1
def RTight (a : List (Int × Int) × Int) (z c : Int) (w : World) (e : Ending) (w' : World) : Prop := ∃ v1 v2, e = .returned (.tuple #[v1, v2, .int .i64 c]) ∧ LnT w' v1 a ∧ IntAt w' v2 z ∧ Below w.heap.size w w'
/-- what Tight answers: the sum, the number, the error -/
def lnTight (a : List (Int × Int) × Int) : (List (Int × Int) × Int) × Int × Int :=
  if lnIs a.1 then (if a.1 = [] then (([], 0), 0, 1) else ((lnOver (lnGcd a.1 : Nat) a.1, 0), (-a.2) / (lnGcd a.1 : Nat), 0)) else (([], 0), 0, 6)
set_option maxRecDepth 100000 in
set_option maxHeartbeats 6400000 in
theorem Tight_linF (v : Value) (l : List (Int × Int)) (x : Int) (w : World) {N : Nat} (hN : 1 ≤ N) (h : LnR w v (l, x)) (hs : LnSz N (l, x)) (hl : N + N + l.length ≤ 549755813000) :
    Calls Tryz.prog 31 #[v] w (fun e w' => RTightF (lnTight (l, x)).1 (lnTight (l, x)).2.1 (lnTight (l, x)).2.2 w e w') := by
  obtain ⟨p0, n0, c0, b0, q0, k0, d0, rfl⟩ := h.agg3
  have HH := hid h; have HS := hid hs; have HL := hid hl
  obtain ⟨pv, n1, s1, ev, hp, hx⟩ := h
  injection ev with ev
  simp only [Array.mk.injEq, List.cons.injEq, and_true] at ev
  obtain ⟨rfl, e2, rfl⟩ := ev
  injection e2 with e2
  subst e2
  have HP := hid hp; have HX0 := hid hx
  have hn0 : n0 = l.length := by
    obtain ⟨p, c, e, -⟩ := hp
    injection e
  have Hn0 := hid hn0
  clear hn0
  obtain ⟨W3, hW⟩ : ∃ W3, W3 = ((w.alloc (.cells #[.slice p0 n0 c0, .bool b0, .slice q0 k0 d0] 37)).alloc (.cells #[.slice none 0 0, .bool false, .slice none 0 0] 37)).alloc (.cells #[.bool false, .slice none 0 0] 35) := ⟨_, rfl⟩
  have hb3 : Below w.heap.size w W3 := by rw [hW]; exact ((below1 _ _).alloc (by simp) _).alloc (by simp; omega) _
  have z3 : W3.heap.size = w.heap.size + 3 := by rw [hW]; simp
  have e0 : W3.heap[w.heap.size]? = some (.cells #[.slice p0 n0 c0, .bool b0, .slice q0 k0 d0] 37 (0, 0)) := by rw [hW, heap_alloc_old _ _ (by simp; omega), heap_alloc_old _ _ (by simp)]; exact heap_alloc_new _ _
  have e1 : W3.heap[w.heap.size + 1]? = some (.cells #[.slice none 0 0, .bool false, .slice none 0 0] 37 (0, 0)) := by
    rw [hW, heap_alloc_old _ _ (by simp)]
    have := heap_alloc_new (w.alloc (.cells #[.slice p0 n0 c0, .bool b0, .slice q0 k0 d0] 37)) (.cells #[.slice none 0 0, .bool false, .slice none 0 0] 37)
    rwa [size_alloc] at this
  have e2 : W3.heap[w.heap.size + 1 + 1]? = some (.cells #[.bool false, .slice none 0 0] 35 (0, 0)) := by
    have := heap_alloc_new ((w.alloc (.cells #[.slice p0 n0 c0, .bool b0, .slice q0 k0 d0] 37)).alloc (.cells #[.slice none 0 0, .bool false, .slice none 0 0] 37)) (.cells #[.bool false, .slice none 0 0] 35)
    rw [size_alloc, size_alloc] at this
    rw [hW]; exact this
  have H3 := hid hb3; have E0 := hid e0; have E1 := hid e1; have E2 := hid e2; have Z3 := hid z3
  obtain ⟨y0, y1, y2⟩ := lnCells3 e0
  have HIs := hid (Is_lin _ (l, x) W3 (HH.out.below hb3) (by show l.length ≤ _; omega))
  clear e0 e1 e2 hp hx hs hl
  go_enter Tryz.func31, Tryz.ntmps31
  go_upto_region 1 with fail
  rw [← hW]
  clear hW
  go_wp2_with fail
  refine HIs.out.mono ?_
  rintro e w4 ⟨rfl, b4⟩
  have z4 := b4.size
  have H4 := hid (lnGo b4 H3.out)
  have E04 := hid ((b4.block w.heap.size (by omega)).trans E0.out)
  have E14 := hid ((b4.block (w.heap.size + 1) (by omega)).trans E1.out)
  have E24 := hid ((b4.block (w.heap.size + 1 + 1) (by omega)).trans E2.out)
  clear y0 y1 y2 b4 HIs E0 E1 E2
  have E14' := E14.out; have E24' := E24.out
  obtain ⟨x0, x1, x2⟩ := lnCells3 E14'
  have fz0 := frozen_of_row w4 (w.heap.size + 1) 0 _ _ E14'
  have fz1 := frozen_of_row w4 (w.heap.size + 1) 1 _ _ E14'
  have fz2 := frozen_of_row w4 (w.heap.size + 1) 2 _ _ E14'
  obtain ⟨x3, x4, fz3, fz4⟩ := two_cells E24'
  clear E14' E24'
  by_cases hI : lnIs l
  · have hd : decide (lnIs (l, x).1) = true := by simpa using hI
    rw [hd]
    by_cases hl0 : l = []
    · have hr : lnTight (l, x) = (([], 0), 0, 1) := by unfold lnTight; rw [if_pos hI, if_pos hl0]
      have Hr := hid hr
      have hn : n0 = 0 := by rw [Hn0.out, hl0]; rfl
      subst hn
      have HBF := hid (Below.stored (st3_below H4.out (g := w.heap.size + 1) (by omega) (.slice none 0 0) (.bool false) (.slice none 0 0)) (g := w.heap.size + 1 + 1) (by omega) (.bool false) (.slice none 0 0))
      have y0 := (lnCells3 E04.out).1
      clear hd hr hI HS HL HP HX0 HH E04 E14 E24 Hn0 hl0
      go_wp2
      exact bodyPost_ret (v := .tuple #[.agg #[.slice none 0 0, .bool false, .slice none 0 0], .agg #[.bool false, .slice none 0 0], .int .i64 1]) (by simp [results, Tryz.results31, go_sem, x0, x1, x2, x3, x4]) rfl
        (by rw [Hr.out]; exact ⟨_, _, rfl, LnT.zero _, IntAt.zero _, HBF.out, LnFr.nil _ _ _⟩)
    · have hr : lnTight (l, x) = ((lnOver (lnGcd l : Nat) l, 0), (-x) / (lnGcd l : Nat), 0) := by unfold lnTight; rw [if_pos hI, if_neg hl0]
      have Hr := hid hr
      have hnp : 0 < l.length := List.length_pos_iff.2 hl0
      have hne : (n0 == 0) = false := by rw [beq_eq_false_iff_ne, Hn0.out]; omega
      have hgp := lnGcd_pos hl0 hI.2
      have HOv := hid (lnOver_is (g := (lnGcd l : Nat)) (fun p hp => lnGcd_dvd hp) hI)
      have HCm := hid (fun w' (hb : Below w.heap.size w w') => common_lin _ l w' (HP.out.below hb) HS.out.1 (by have := HL.out; omega) (by have := HL.out; omega))
      have hgs := lnGcd_sz l HS.out.1 l.length
      rw [List.take_length] at hgs
      obtain ⟨G, hG⟩ : ∃ G : Int, G = (lnGcd l : Nat) := ⟨_, rfl⟩
      rw [← hG] at HOv HCm Hr
      have HG0 : Hid (G ≠ 0) := hid (by rw [hG]; omega)
      have HGs : Hid (sz W G.natAbs ≤ N) := hid (by rw [hG, Int.natAbs_natCast]; exact hgs)
      have hov : lnOver G l = l.map (fun p => (p.1 / G, p.2)) := rfl
      have HOs : Hid (lnSum (lnOver G l) = lnOver G l) := hid (lnSum_self HOv.out)
      obtain ⟨qs, hqs⟩ : ∃ qs, qs = lnOver G l := ⟨_, rfl⟩
      have Hqs := hid (hqs.trans hov)
      rw [← hqs] at HOs Hr
      have y0 := (lnCells3 E04.out).1
      clear hd hr hgp hgs hG hov hqs HOv
      go_wp2_with fail
      refine (HCm.out w4 H4.out).mono ?_
      rintro e w5 ⟨v5, rfl, i5, b5⟩
      obtain ⟨pk, nk, ck, rfl, i5⟩ := i5.shape
      obtain ⟨dk, hdk⟩ : ∃ dk, dk = decide (G < 0) := ⟨_, rfl⟩
      rw [← hdk] at i5 ⊢
      clear hdk
      have z5 := b5.size
      obtain ⟨w6, hw6⟩ : ∃ w6, w6 = w5.alloc (.cells #[.bool dk, .slice pk nk ck] 88) := ⟨_, rfl⟩
      have b6 : Below w5.heap.size w5 w6 := by rw [hw6]; exact below1 _ _
      have z6 : w6.heap.size = w5.heap.size + 1 := by rw [hw6, size_alloc]
      have ed6 : w6.heap[w5.heap.size]? = some (.cells #[.bool dk, .slice pk nk ck] 88 (0, 0)) := by rw [hw6]; exact heap_alloc_new _ _
      have HB6 := hid (lnGo b6 (lnGo b5 H4.out))
      have E06 := hid ((b6.block w.heap.size (by omega)).trans ((b5.block w.heap.size (by omega)).trans E04.out))
      have E16 := hid ((b6.block (w.heap.size + 1) (by omega)).trans ((b5.block (w.heap.size + 1) (by omega)).trans E14.out))
      have E26 := hid ((b6.block (w.heap.size + 1 + 1) (by omega)).trans ((b5.block (w.heap.size + 1 + 1) (by omega)).trans E24.out))
      have HK6 := hid ((i5.rawL (Nat.le_trans HGs.out (by have := HL.out; omega))).below b6)
      have ED6 := hid ed6
      clear i5 b5 b6 ed6 y0 x0 x1 x2 fz0 fz1 fz2 x3 x4 fz3 fz4 E04 E14 E24
      go_upto_region 6 with fail
      rw [← hw6]
      clear hw6
      go_wp2_with fail
      refine (gather_any w6).mono ?_
      rintro e w7 ⟨g, m, rfl, hG7, b7, hg, hm⟩
      have z7 := b7.size
      have hlw := HL.out
      have HT := hid (take_quotient w6 _ (l, 0) g m [] 0 w7 (x := G) HK6.out HG0.out hN (HP.out.below HB6.out).lin HS.out.1 (by simp [sz_zero]) nofun (by simp [sz_zero]) (by simp; omega) b7 (by omega) (by omega) hG7)
      have hgl := hG7.lt
      have hml := hG7.map.lt
      have B7 := hid b7
      have E07 := hid ((b7.block w.heap.size (by omega)).trans E06.out)
      have ED7 := hid ((b7.block w5.heap.size (by omega)).trans ED6.out)
      obtain ⟨y0, y1, y2⟩ := lnCells3 E07.out
      obtain ⟨y3, y4, -, -⟩ := two_cells ED7.out
      clear hG7 b7
      go_wp2_with fail
      refine HT.out.mono ?_
      rintro e w9 ⟨rfl, hG9, hA9⟩
      have z9 := hA9.size
      rw [List.nil_append] at hG9
      have hG9' : Gn w9 g m qs 0 := by
        have h0 : (0 : Int) + (0 / G) = 0 := by simp
        have := hG9
        rw [h0] at this
        rw [Hqs.out]; exact this
      have HqsS : Hid (∀ p ∈ qs, sz W p.1.natAbs ≤ N) := hid (fun p hp => by
        rw [Hqs.out] at hp
        obtain ⟨y, hy, rfl⟩ := List.mem_map.1 hp
        exact Nat.le_trans (sz_mono W2 (Int.natAbs_ediv_le_natAbs _ _)) (HS.out.1 y hy))
      have HqsL : Hid (qs.length = l.length) := hid (by rw [Hqs.out, List.length_map])
      have HSum : Hid (∀ w', Below w9.heap.size w9 w' → Calls Tryz.prog 51 #[.pointer (some ⟨g, 0, none⟩)] w' (RLinF (qs, 0) w')) := hid (fun w' hb => by
        have := Gn.sumF (show Gn w' g m qs 0 from hG9'.below hb) hN HqsS.out (by rw [HqsL.out]; omega)
        rw [HOs.out] at this
        exact this)
      have ER0 := hid ((hA9.block w.heap.size (by omega) (by omega)).trans E07.out)
      have ER1 := hid ((hA9.block (w.heap.size + 1) (by omega) (by omega)).trans ((B7.out.block (w.heap.size + 1) (by omega)).trans E16.out))
      have ER2 := hid ((hA9.block (w.heap.size + 1 + 1) (by omega) (by omega)).trans ((B7.out.block (w.heap.size + 1 + 1) (by omega)).trans E26.out))
      obtain ⟨gd, hgd⟩ : ∃ gd, gd = w5.heap.size := ⟨_, rfl⟩
      have ERd := hid ((hA9.block w5.heap.size (by omega) (by omega)).trans ED7.out)
      have HB9 : Hid (Below w.heap.size w w9) := hid (apart_below (g := g) (m := m) (lnGo B7.out HB6.out) hA9 (by omega) (by omega))
      have HK9 := hid (HK6.out.below (apart_below (g := g) (m := m) B7.out hA9 (by omega) (by omega)))
      have HX := hid (HX0.out.below HB9.out)
      obtain ⟨nx, hnx⟩ : ∃ nx, nx = -x := ⟨_, rfl⟩
      have HNeg : Hid (∀ w', Below w9.heap.size w9 w' → Calls Tryz.prog 52 #[.agg #[.bool b0, .slice q0 k0 d0]] w' (RInt nx w')) := hid (fun w' hb => by rw [hnx]; exact Neg_any _ x w' (HX.out.below hb))
      have HXs : Hid (sz W nx.natAbs ≤ 1099511627776) := hid (by rw [hnx, Int.natAbs_neg]; have := HS.out.2; exact Nat.le_trans this (by omega))
      rw [← hnx] at Hr
      clear hnx
      have Hgd : Hid (w5.heap.size < w9.heap.size) := hid (by omega)
      have z9w : w.heap.size + 3 ≤ w9.heap.size := by omega
      clear hG9 hG9' hA9 HT y0 y1 y2 y3 y4 hgd hgl hml
      go_upto_region 8 with fail
      refine wp_region_facts (w0 := w9) 7 3 [31, 32, 33, 34, 35, 36, 37] [undef, undef, undef, undef, undef, undef, undef]
        (fun i => match i with | 0 => lnE (.pointer (some ⟨g, 0, none⟩)) | 1 => lnSF w.heap.size (qs, 0) | 2 => lnE (.agg #[.bool dk, .slice pk nk ck]) | 3 => lnE (.pointer (some ⟨w.heap.size, 1, none⟩)) | 4 => lnE (.agg #[.bool b0, .slice q0 k0 d0]) | 5 => lnI nx | _ => lnI (nx / G)) [] (by kernel_rfl) (by kernel_rfl) (by kernel_rfl) (by kernel_rfl) (by decide) rfl (by kernel_rfl) rfl (by simp) ?he1 ?_ ?_ ?_
      case he1 => simp only [putAll, Act.put, List.setIfInBounds_toArray, List.set_cons_zero, List.set_cons_succ]
      · intro i hi; simp at hi
      · intro i o hi ho vs wx hvl hb hdep K hK
        have hvs := vlen7 hvl
        obtain ⟨s31, s32, s33, s34, s35, s36, s37, rfl⟩ := hvs
        clear hvl
        obtain ⟨y0, y1, y2⟩ := lnCells3 ((hb.block w.heap.size (by omega)).trans ER0.out)
        obtain ⟨y3, y4, -, -⟩ := two_cells ((hb.block w5.heap.size Hgd.out).trans ERd.out)
        rcases i with _ | _ | _ | _ | _ | _ | _ | i
        all_goals (simp only [List.getElem?_toArray, List.getElem?_cons_zero, List.getElem?_cons_succ, Option.some.injEq] at ho)
        all_goals try (subst ho)
        all_goals try simp only [putAll, Act.put, List.setIfInBounds_toArray, List.set_cons_zero, List.set_cons_succ]
        · go_simp
          have hK' := hK.out
          simp only [putAll, Act.put, List.setIfInBounds_toArray, List.set_cons_zero, List.set_cons_succ] at hK'
          exact hK' _ _ rfl (Below.refl _ _) (by simp)
        · have e0 : s31 = _ := hdep ⟨0, .data⟩ (by simp) rfl
          have e0 := e0.symm
          subst e0
          go_simp
          refine (HSum.out wx hb).mono ?_
          rintro e wy ⟨vy, rfl, iy, hby, fry⟩
          obtain ⟨p5, n5, c5, q5, k5, d5, rfl⟩ := iy.agg3
          have fry := fry.mono (lnGo hb HB9.out).size
          go_wp2_with fail
          have hK' := hK.out
          simp only [putAll, Act.put, List.setIfInBounds_toArray, List.set_cons_zero, List.set_cons_succ] at hK'
          exact hK' _ _ ⟨_, _, _, _, _, _, rfl, iy, fry⟩ hby (by simp)
        · go_simp
          have hK' := hK.out
          simp only [putAll, Act.put, List.setIfInBounds_toArray, List.set_cons_zero, List.set_cons_succ] at hK'
          exact hK' _ _ rfl (Below.refl _ _) (by simp)
        · go_simp
          have hK' := hK.out
          simp only [putAll, Act.put, List.setIfInBounds_toArray, List.set_cons_zero, List.set_cons_succ] at hK'
          exact hK' _ _ rfl (Below.refl _ _) (by simp)
        · have e3 : s34 = _ := hdep ⟨3, .data⟩ (by simp) rfl
          have e3 := e3.symm
          subst e3
          go_simp
          have hK' := hK.out
          simp only [putAll, Act.put, List.setIfInBounds_toArray, List.set_cons_zero, List.set_cons_succ] at hK'
          exact hK' _ _ rfl (Below.refl _ _) (by simp)
        · have e4 : s35 = _ := hdep ⟨4, .data⟩ (by simp) rfl
          have e4 := e4.symm
          subst e4
          go_simp
          refine (HNeg.out wx hb).mono ?_
          rintro e wy ⟨vy, rfl, iy, hby⟩
          have hsh := iy.shape
          obtain ⟨p5, n5, c5, rfl, iy⟩ := hsh
          go_wp2_with fail
          have hK' := hK.out
          simp only [putAll, Act.put, List.setIfInBounds_toArray, List.set_cons_zero, List.set_cons_succ] at hK'
          exact hK' _ _ ⟨_, _, _, _, rfl, iy⟩ hby (by simp)
        · have e2 : s33 = _ := hdep ⟨2, .data⟩ (by simp) rfl
          have e2 := e2.symm
          subst e2
          have e5 : (lnI nx).P s36 wx := hdep ⟨5, .data⟩ (by simp) rfl
          obtain ⟨da5, pa5, na5, ca5, rfl, ia5⟩ := e5
          go_simp
          refine (quotient_any _ _ nx G wx (ia5.rawL HXs.out) (HK9.out.below hb) HG0.out).mono ?_
          rintro e wy ⟨vy, rfl, iy, hby⟩
          have hsh := iy.shape
          obtain ⟨p5, n5, c5, rfl, iy⟩ := hsh
          go_wp2_with fail
          have hK' := hK.out
          simp only [putAll, Act.put, List.setIfInBounds_toArray, List.set_cons_zero, List.set_cons_succ] at hK'
          exact hK' _ _ ⟨_, _, _, _, rfl, iy⟩ hby (by simp)
        · omega
      · intro vs wx hvl hb hf hdist
        have hvs := vlen7 hvl
        obtain ⟨s31, s32, s33, s34, s35, s36, s37, rfl⟩ := hvs
        have f1 : (lnSF w.heap.size (qs, 0)).P s32 wx := hf 1 (by decide)
        have f6 : (lnI (nx / G)).P s37 wx := hf 6 (by decide)
        obtain ⟨p7, n7, c7, q7, k7, d7, e7, T7, fr7⟩ := f1
        have Fr7 := hid fr7
        clear fr7
        obtain ⟨b8, p8, n8, c8, e8, i8⟩ := f6
        subst e7 e8
        have hsh := i8.shape
        obtain ⟨p9, n9, c9, e9, i9⟩ := hsh
        injection e9 with e9
        obtain ⟨rfl, rfl, rfl, rfl⟩ : b8 = decide (nx / G < 0) ∧ p8 = p9 ∧ n8 = n9 ∧ c8 = c9 := by simpa using e9
        clear hf hvl hdist i8
        have e1 := (hb.block (w.heap.size + 1) (by omega)).trans ER1.out
        have e2 := (hb.block (w.heap.size + 1 + 1) (by omega)).trans ER2.out
        obtain ⟨x0, x1, x2⟩ := lnCells3 e1
        have fz0 := frozen_of_row wx (w.heap.size + 1) 0 _ _ e1
        have fz1 := frozen_of_row wx (w.heap.size + 1) 1 _ _ e1
        have fz2 := frozen_of_row wx (w.heap.size + 1) 2 _ _ e1
        obtain ⟨x3, x4, fz3, fz4⟩ := two_cells e2
        have HBx := hid (lnGo hb HB9.out)
        have hsx := hb.size
        obtain ⟨wF, hwF⟩ : ∃ wF, wF = ((st3 wx (w.heap.size + 1) (.slice p7 n7 c7) (.bool (decide ((0 : Int) < 0))) (.slice q7 k7 d7)).setCell ⟨w.heap.size + 1 + 1, 0, none⟩ (.bool (decide (nx / G < 0)))).setCell ⟨w.heap.size + 1 + 1, 1, none⟩ (.slice p8 n8 c8) := ⟨_, rfl⟩
        have hA : Apart (fun k => k = w.heap.size + 1 ∨ k = w.heap.size + 1 + 1) wx wF := by
          rw [hwF]
          exact ((st3_apart _ _ _ _ _).mono (fun k h => Or.inl h)).go (((apart_set _ _ _ _).go (apart_set _ _ _ _)).mono (fun k h => Or.inr h))
        have hni : ∀ b, (b = w.heap.size + 1 ∨ b = w.heap.size + 1 + 1) → NoInt wx b := by
          intro b hb'
          rcases hb' with rfl | rfl
          · exact NoInt.cells e1 (by simp)
          · exact NoInt.cells e2 (by simp)
        have HTF := hid (T7.quiet hA hni)
        have HIF := hid (i9.quiet hA (fun b hb' => (hni b hb').wd))
        have HBF : Hid (Below w.heap.size w wF) := hid (by rw [hwF]; exact Below.stored (st3_below HBx.out (by omega) _ _ _) (by omega) _ _)
        clear T7 i9 hA hni e1 e2
        refine wpAny_one (i := 7) (by kernel_rfl) rfl ?_
        intro K hK
        simp only [putAll, Act.put, List.setIfInBounds_toArray, List.set_cons_zero, List.set_cons_succ]
        have hK' := hK.out
        go_simp
        apply hK'
        clear hK hK'
        refine wpAny_one (i := 8) (by kernel_rfl) rfl ?_
        intro K hK
        have hK' := hK.out
        go_simp
        apply hK'
        clear hK hK'
        refine wpAny_one (i := 9) (by kernel_rfl) rfl ?_
        intro K hK
        have hK' := hK.out
        go_simp
        apply hK'
        clear hK hK'
        refine wpAny_done (by kernel_rfl) ?_ _
        go_wp2
        exact bodyPost_ret (v := .tuple #[.agg #[.slice p7 n7 c7, .bool false, .slice q7 k7 d7], .agg #[.bool (decide (nx / G < 0)), .slice p8 n8 c8], .int .i64 0]) (by simp [results, Tryz.results31, go_sem, x0, x1, x2, x3, x4]) rfl
          (by rw [Hr.out]; have h1 := HTF.out; have h2 := HIF.out; have h3 := HBF.out; rw [hwF] at h1 h2 h3; exact ⟨_, _, rfl, h1, h2, h3, Fr7.out.of⟩)

  · have hd : decide (lnIs (l, x).1) = false := by simpa using hI
    rw [hd]
    have hr : lnTight (l, x) = (([], 0), 0, 6) := by unfold lnTight; rw [if_neg hI]
    have Hr := hid hr
    have HBF := hid (Below.stored (st3_below H4.out (g := w.heap.size + 1) (by omega) (.slice none 0 0) (.bool false) (.slice none 0 0)) (g := w.heap.size + 1 + 1) (by omega) (.bool false) (.slice none 0 0))
    clear hd hr hI HS HL HP HX0 HH E04 E14 E24
    go_wp2
    exact bodyPost_ret (v := .tuple #[.agg #[.slice none 0 0, .bool false, .slice none 0 0], .agg #[.bool false, .slice none 0 0], .int .i64 6]) (by simp [results, Tryz.results31, go_sem, x0, x1, x2, x3, x4]) rfl
      (by rw [Hr.out]; exact ⟨_, _, rfl, LnT.zero _, IntAt.zero _, HBF.out, LnFr.nil _ _ _⟩)
end Go.Proofs.YtnfohbpgnbfmeaaGreatDoor
/- An append to a row of one's own whose block holds no word: it holds none then, either. -/
namespace Go.Proofs.YtnfohbpgnbfmeaaGreatDoor
open Go.RowKit Big

/-- a row of one's own whose block holds no word -/
def RowW (w : World) (base : Nat) (e : TypeId) (size : Nat) (v : Value) (n : Nat) (xs : List Value) : Prop := w.ownsRow base e size v n xs ∧ ∀ g, v.ownBlock = some g → NoWd w g
theorem RowW.nil (w : World) (base : Nat) (e : TypeId) (size : Nat) : RowW w base e size (.slice none 0 0) 0 [] := ⟨World.ownsRow_nil w base e size, fun g h => by cases h⟩
theorem NoWd.keep {w w' : World} {g : Nat} (h : NoWd w g) (e : w'.heap[g]? = w.heap[g]?) : NoWd w' g := fun j n hc => h j n ((World.cell?_of_block (w := w) (a := ⟨g, j, none⟩) e).symm.trans hc)
theorem RowW.stays {w w' : World} {base : Nat} {e : TypeId} {size : Nat} {v : Value} {n : Nat} {xs : List Value} (h : RowW w base e size v n xs) (hb : ∀ g, v.ownBlock = some g → w'.heap[g]? = w.heap[g]?) : RowW w' base e size v n xs :=
  ⟨row_stays h.1 hb, fun g hg => (h.2 g hg).keep (hb g hg)⟩
theorem zeroCells_mem (z : Array Value) : ∀ (k : Nat) (x : Value), x ∈ Builtin.zeroCells z k → x ∈ z := by
  intro k x hx
  unfold Builtin.zeroCells at hx
  obtain ⟨i, hi, rfl⟩ := Array.mem_map.1 hx
  have h0 : 0 < z.size := by
    rcases Nat.eq_zero_or_pos z.size with h | h
    · rw [h] at hi; simp at hi
    · exact h
  have h1 := Nat.mod_lt i h0
  rw [getElem!_pos z _ h1]
  exact Array.getElem_mem h1
/-- parts in a row of one's own that holds no word -/
def LsW (B : Nat) (w : World) (v : Value) (l : List (Int × Int)) : Prop :=
  ∃ css : List (List Value), css.length = l.length ∧ RowW w B 63 3 v l.length css.flatten ∧ (∀ c ∈ css, c.length = 3) ∧ ∀ i (h : i < l.length) (h' : i < css.length), PtT w css[i] l[i]
theorem LsW.nil (B : Nat) (w : World) : LsW B w (.slice none 0 0) [] := ⟨[], rfl, RowW.nil w B _ _, nofun, fun i h => absurd h (by simp)⟩
theorem LsW.shape {B : Nat} {w : World} {v : Value} {l : List (Int × Int)} (h : LsW B w v l) : ∃ p c, v = .slice p l.length c := by
  obtain ⟨css, h1, h2, h3, h4⟩ := h
  exact ownsRow_shape h2.1
theorem PtT.quiet {w w' : World} {c : List Value} {p : Int × Int} {S : Nat → Prop} (h : PtT w c p) (ha : Apart S w w') (hS : ∀ b, S b → NoWd w b) : PtT w' c p := by
  obtain ⟨s, e, h, k⟩ := h
  exact ⟨s, e, h.quiet ha hS, k⟩
theorem LsW.apart {B : Nat} {w w' : World} {v : Value} {l : List (Int × Int)} {S : Nat → Prop} (h : LsW B w v l) (ha : Apart S w w') (hS : ∀ b, S b → NoWd w b) (hv : ∀ g, v.ownBlock = some g → ¬ S g) : LsW B w' v l := by
  obtain ⟨css, h1, h2, h3, h4⟩ := h
  exact ⟨css, h1, h2.stays (fun g hg => ha.block g (World.ownsRow.lt h2.1 g hg).2 (hv g hg)), h3, fun i hi hi' => (h4 i hi hi').quiet ha hS⟩
theorem LsW.below {B : Nat} {w w' : World} {v : Value} {l : List (Int × Int)} (h : LsW B w v l) (hb : Below w.heap.size w w') : LsW B w' v l := h.apart (S := fun _ => False) (Apart.of_below hb) (fun _ hf => hf.elim) (fun _ _ hf => hf)
theorem LsW.base {B : Nat} {w : World} {v : Value} {l : List (Int × Int)} (h : LsW B w v l) : ∀ g, v.ownBlock = some g → B ≤ g ∧ g < w.heap.size ∧ NoWd w g := by
  obtain ⟨css, h1, h2, h3, h4⟩ := h
  exact fun g hg => ⟨(World.ownsRow.lt h2.1 g hg).1, (World.ownsRow.lt h2.1 g hg).2, h2.2 g hg⟩
theorem LsW.row {B : Nat} {w : World} {v : Value} {l : List (Int × Int)} (h : LsW B w v l) : ∃ xs, RowW w B 63 3 v l.length xs ∧
    ∀ w' v' c x, RowW w' B 63 3 v' (l.length + 1) (xs ++ c) → w.grownBy w' v.ownBlock → c.length = 3 → PtT w c x → LsW B w' v' (l ++ [x]) := by
  obtain ⟨css, h1, h2, h3, h4⟩ := h
  refine ⟨css.flatten, h2, fun w' v' c x hr hg hc hx => ?_⟩
  have ha : Apart (fun k => v.ownBlock = some k) w w' := (Apart.refl _ w).grown hg (fun k e => e)
  refine ⟨css ++ [c], by simp [h1], by simpa using hr, fun d hd => ?_, fun i hi hi' => ?_⟩
  · rcases List.mem_append.1 hd with hd | hd
    · exact h3 d hd
    · rw [List.mem_singleton.1 hd]; exact hc
  · by_cases hlt : i < l.length
    · rw [List.getElem_append_left hlt, List.getElem_append_left (by omega)]
      exact (h4 i hlt (by omega)).quiet ha (fun b hb => h2.2 b hb)
    · have e1 : i = l.length := by simp at hi; omega
      subst e1
      rw [List.getElem_append_right (Nat.le_refl _), List.getElem_append_right (by omega)]
      simpa [h1] using hx.quiet ha (fun b hb => h2.2 b hb)
theorem LsW.pts {B : Nat} {w : World} {v : Value} {l : List (Int × Int)} (h : LsW B w v l) : PtsT w v l := by
  obtain ⟨css, h1, h2, h3, h4⟩ := h
  exact OwnLs.in (e := 63) (B := B) ⟨css, h1, h2.1, h3, h4⟩
end Go.Proofs.YtnfohbpgnbfmeaaGreatDoor
/- A table of rows and atoms (layer 10) in memory: its four fields, the rows, the atoms, the two maps from texts. -/
namespace Go.Proofs.YtnfohbpgnbfmeaaGreatDoor
open Go.RowKit Big Go.WideMaps

/-! ### rows of one's own whose block holds no word -/
def LsG {α : Type} (e : TypeId) (k : Nat) (Q : World → List Value → α → Prop) (B : Nat) (w : World) (v : Value) (l : List α) : Prop := OwnLs e k Q B w v l ∧ ∀ g, v.ownBlock = some g → NoWd w g
theorem LsG.nil {α : Type} (e : TypeId) (k : Nat) (Q : World → List Value → α → Prop) (B : Nat) (w : World) : LsG e k Q B w (.slice none 0 0) ([] : List α) := ⟨OwnLs.nil .., fun g hg => by simp [Value.ownBlock] at hg⟩
theorem LsG.base {α : Type} {e : TypeId} {k : Nat} {Q : World → List Value → α → Prop} {B : Nat} {w : World} {v : Value} {l : List α} (h : LsG e k Q B w v l) : ∀ g, v.ownBlock = some g → B ≤ g ∧ g < w.heap.size ∧ NoWd w g := by
  obtain ⟨⟨css, h1, h2, h3, h4⟩, h5⟩ := h
  exact fun g hg => ⟨(World.ownsRow.lt h2 g hg).1, (World.ownsRow.lt h2 g hg).2, h5 g hg⟩
theorem LsG.kept {α : Type} {e : TypeId} {k : Nat} {Q Q' : World → List Value → α → Prop} {B : Nat} {w w' : World} {v : Value} {l : List α} (h : LsG e k Q B w v l) (hb : ∀ g, v.ownBlock = some g → w'.heap[g]? = w.heap[g]?) (hQ : ∀ c x, Q w c x → Q' w' c x) : LsG e k Q' B w' v l := by
  obtain ⟨⟨css, h1, h2, h3, h4⟩, h5⟩ := h
  exact ⟨⟨css, h1, row_stays h2 hb, h3, fun i hi hi' => hQ _ _ (h4 i hi hi')⟩, fun g hg => (h5 g hg).keep (hb g hg)⟩
theorem LsG.tag {α : Type} {e : TypeId} {k : Nat} {Q : World → List Value → α → Prop} {B : Nat} {w : World} {v : Value} {l : List α} (h : LsG e k Q B w v l) : ∀ g, v.ownBlock = some g → ∃ c, w.heap[g]? = some (.cells c e (0, 0)) := by
  obtain ⟨⟨css, h1, h2, h3, h4⟩, h5⟩ := h
  exact row_tag h2
theorem LsG.shape {α : Type} {e : TypeId} {k : Nat} {Q : World → List Value → α → Prop} {B : Nat} {w : World} {v : Value} {l : List α} (h : LsG e k Q B w v l) : ∃ p c, v = .slice p l.length c := h.1.shape
theorem LsG.row {α : Type} {e : TypeId} {k : Nat} {Q : World → List Value → α → Prop} {B : Nat} {w : World} {v : Value} {l : List α} (h : LsG e k Q B w v l) : ∃ xs, RowW w B e k v l.length xs ∧
    ∀ {Q' : World → List Value → α → Prop} (w' v' c x), RowW w' B e k v' (l.length + 1) (xs ++ c) → c.length = k → (∀ c x, Q w c x → Q' w' c x) → Q' w' c x → LsG e k Q' B w' v' (l ++ [x]) := by
  obtain ⟨⟨css, h1, h2, h3, h4⟩, h5⟩ := h
  refine ⟨css.flatten, ⟨h2, h5⟩, fun w' v' c x hr hc hQ hx => ⟨⟨css ++ [c], by simp [h1], by simpa using hr.1, fun d hd => ?_, fun i hi hi' => ?_⟩, hr.2⟩⟩
  · rcases List.mem_append.1 hd with hd | hd
    · exact h3 d hd
    · rw [List.mem_singleton.1 hd]; exact hc
  · by_cases hlt : i < l.length
    · rw [List.getElem_append_left hlt, List.getElem_append_left (by omega)]
      exact hQ _ _ (h4 i hlt (by omega))
    · have e1 : i = l.length := by simp at hi; omega
      subst e1
      rw [List.getElem_append_right (Nat.le_refl _), List.getElem_append_right (by omega)]
      simpa [h1] using hx

/-! ### parts that stay -/
theorem PtsT.apart {w w' : World} {v : Value} {l : List (Int × Int)} {S : Nat → Prop} (h : PtsT w v l) (ha : Apart S w w') (hS : ∀ b, S b → NoWd w b) (hv : ∀ g, v.ownBlock = some g → ¬ S g) : PtsT w' v l := by
  obtain ⟨p, cap, rfl, h1, h2, h3, h4⟩ := h
  refine ⟨p, cap, rfl, h1, h2, h3, fun hp => ?_⟩
  obtain ⟨b, off, rfl, h6, h7⟩ := h4 hp
  have hn : ¬ S b := hv b rfl
  refine ⟨b, off, rfl, Nat.lt_of_lt_of_le h6 ha.size, fun i hi => ?_⟩
  obtain ⟨c, k1, k2⟩ := h7 i hi
  exact ⟨c, fun j u hj => (World.cell?_of_block (w := w) (ha.block b h6 hn)).trans (k1 j u hj), k2.quiet ha hS⟩
/-- a row of a table: its three cells; its parts lie in blocks of P -/
def RwQ (P : Nat → Prop) (w : World) (c : List Value) (r : AtRow) : Prop := ∃ pv s, c = [pv, .bool false, s] ∧ PtsT w pv r ∧ IntAt w (.agg #[.bool false, s]) 0 ∧ (∀ g, pv.ownBlock = some g → g < w.heap.size ∧ P g) ∧ r ≠ []
theorem RwQ.go {P P' : Nat → Prop} {S : Nat → Prop} {w w' : World} {c : List Value} {r : AtRow} (h : RwQ P w c r) (ha : Apart S w w') (hS : ∀ b, S b → NoWd w b) (hP : ∀ g, P g → ¬ S g) (hP' : ∀ g, g < w.heap.size → P g → P' g) : RwQ P' w' c r := by
  obtain ⟨pv, s, e, h1, h2, h3, h4⟩ := h
  exact ⟨pv, s, e, h1.apart ha hS (fun g hg => hP g (h3 g hg).2), h2.quiet ha hS, fun g hg => ⟨Nat.lt_of_lt_of_le (h3 g hg).1 ha.size, hP' g (h3 g hg).1 (h3 g hg).2⟩, h4⟩
theorem RwQ.lin {P : Nat → Prop} {w : World} {c : List Value} {r : AtRow} (h : RwQ P w c r) : ∃ a b d, c = [a, b, d] ∧ LnT w (.agg #[a, b, d]) (r, 0) := by
  obtain ⟨pv, s, e, h1, h2, -⟩ := h
  exact ⟨_, _, _, e, _, _, rfl, h1, h2⟩
/-- an atom: its three cells -/
def AmQ (w : World) (c : List Value) (a : Nat × Int) : Prop := ∃ s, c = [.int .i64 (a.1 : Nat), .bool (decide (a.2 < 0)), s] ∧ IntAt w (.agg #[.bool (decide (a.2 < 0)), s]) a.2
theorem AmQ.go {S : Nat → Prop} {w w' : World} {c : List Value} {a : Nat × Int} (h : AmQ w c a) (ha : Apart S w w') (hS : ∀ b, S b → NoWd w b) : AmQ w' c a := by
  obtain ⟨s, e, h⟩ := h
  exact ⟨s, e, h.quiet ha hS⟩

/-! ### the maps -/
theorem lawBound : KeyLaw Tryz.prog 97 := deep_law_laid (by kernel_rfl) (m := 2) (by omega) (of_decide_eq_true (by kernel_rfl)) (by kernel_rfl) (by rw [Tryz.underlying97])
theorem keyedBound : Maps.Keyed Tryz.prog 97 := Maps.Keyed.of_law lawBound
theorem keyedText : Maps.Keyed Tryz.prog 9 := Maps.string_keyed Tryz.underlying9
def PlAt (k : TypeId) (w : World) (m : Nat) (l : List (List UInt8)) : Prop := ∃ (D : DataW Unit) (n : Nat), w.ownsMap Tryz.prog k (plainElem Tryz.prog 3) m n D ∧ n ≤ l.length ∧ PlIs D l
theorem PlAt.made (k : TypeId) (w : World) : PlAt k (w.alloc (.map #[] 0)) w.heap.size [] := ⟨.map [], 0, World.ownsMap_made (H := Unit) w Tryz.prog k (plainElem Tryz.prog 3), by simp, PlIs.nil⟩
theorem PlAt.lt {k : TypeId} {w : World} {m : Nat} {l : List (List UInt8)} (h : PlAt k w m l) : m < w.heap.size := by
  obtain ⟨D, n, h, -⟩ := h
  exact h.lt
theorem PlAt.keep {k : TypeId} {w w' : World} {m : Nat} {l : List (List UInt8)} (h : PlAt k w m l) (he : w'.heap[m]? = w.heap[m]?) : PlAt k w' m l := by
  obtain ⟨D, n, ⟨es, c, hb, r⟩, h2⟩ := h
  exact ⟨D, n, ⟨es, c, he.trans hb, r⟩, h2⟩
theorem PlAt.isMap {k : TypeId} {w : World} {m : Nat} {l : List (List UInt8)} (h : PlAt k w m l) : ∃ es c, w.heap[m]? = some (.map es c) := by
  obtain ⟨D, n, ⟨es, c, hb, r⟩, h2⟩ := h
  exact ⟨es, c, hb⟩
theorem PlAt.noWd {k : TypeId} {w : World} {m : Nat} {l : List (List UInt8)} (h : PlAt k w m l) : NoWd w m := by
  obtain ⟨es, c, h⟩ := h.isMap
  exact NoWd.map h
theorem zeroIntA (w : World) : (zeroValue 3).run Tryz.prog w = .ok (.int .i64 0) w := by kernel_rfl
theorem key_textA (l : List UInt8) (h : l.length ≤ maxLen) : keyOf Tryz.prog 9 (.string ⟨l.toArray⟩) = some (.string l) := by
  simpa using keyOf_string_mk (P := Tryz.prog) Tryz.underlying9 (s := ⟨l.toArray⟩) (by simpa [ByteArray.size] using h)
theorem wf_natA (n : Nat) (h : n < 1000000) : (Lit.int .i64 (n : Nat)).wf = true := by
  have e : IntKind.min .i64 = -9223372036854775808 := by decide
  have e' : IntKind.max .i64 = 9223372036854775807 := by decide
  simp only [Lit.wf, e, e', Bool.and_eq_true, decide_eq_true_eq]
  omega
def boundV (a : Nat × Int) : Value := .agg #[.int .i64 (a.1 : Nat), .bool (decide (a.2 < 0)), .string ⟨(atSize a.2).toArray⟩]
set_option maxRecDepth 100000 in
theorem key_bound (a : Nat × Int) (h1 : (Lit.int .i64 (a.1 : Nat)).wf = true) (h : (atSize a.2).length ≤ maxLen) : keyOf Tryz.prog 97 (boundV a) = some (.string (atKey a)) := by
  have hk : Tryz.prog.keyType 97 = true := by kernel_rfl
  have c0 : Tryz.prog.cellsOf 97 = 3 := by kernel_rfl
  have c1 : Tryz.prog.cellsOf 3 = 1 := by kernel_rfl
  have c2 : Tryz.prog.cellsOf 4 = 1 := by kernel_rfl
  have c3 : Tryz.prog.cellsOf 9 = 1 := by kernel_rfl
  have hf : (boundV a).formed Tryz.prog 97 = true := by simp [boundV, Value.formed, Tryz.underlying97, c0]
  have k1 : ∀ d, Tryz.prog.keyLits (d + 1) 3 [.int .i64 (a.1 : Nat)] = some [.int .i64 (a.1 : Nat)] := fun d => by
    unfold Program.keyLits; rw [Tryz.underlying3]; simp [h1]
  have k2 : ∀ d, Tryz.prog.keyLits (d + 1) 4 [.bool (decide (a.2 < 0))] = some [.bool (decide (a.2 < 0))] := fun d => by
    unfold Program.keyLits; rw [Tryz.underlying4]
  have k3 : ∀ d, Tryz.prog.keyLits (d + 1) 9 [.string ⟨(atSize a.2).toArray⟩] = some [.string (atSize a.2)] := fun d => by
    unfold Program.keyLits; rw [Tryz.underlying9]; simp [ByteArray.size, h]
  obtain ⟨f0, f1, f2, hfs, t0, t1, t2, o0, o1, o2, n0, n1, n2⟩ : ∃ f0 f1 f2 : Field, Tryz.prog.underlying 97 = some (.struct #[f0, f1, f2]) ∧ f0.type = 3 ∧ f1.type = 4 ∧ f2.type = 9 ∧ f0.offset = 0 ∧ f1.offset = 1 ∧ f2.offset = 2 ∧ (f0.name != "_") = true ∧ (f1.name != "_") = true ∧ (f2.name != "_") = true := ⟨_, _, _, Tryz.underlying97, rfl, rfl, rfl, rfl, rfl, rfl, by decide, by decide, by decide⟩
  have hl : ∀ d, Tryz.prog.keyLits (d + 2) 97 (boundV a).cells.toList = some [.int .i64 (a.1 : Nat), .bool (decide (a.2 < 0)), .string (atSize a.2)] := fun d => by
    unfold Program.keyLits
    rw [hfs]
    have e : (boundV a).cells.toList = [.int .i64 (a.1 : Nat), .bool (decide (a.2 < 0)), .string ⟨(atSize a.2).toArray⟩] := rfl
    rw [e]
    simp [c0, c1, c2, c3, t0, t1, t2, o0, o1, o2, n0, n1, n2, k1, k2, k3]
  obtain ⟨d, hd⟩ : ∃ d, Tryz.prog.types.size + 1 = d + 2 := ⟨Tryz.prog.types.size - 1, by have : 0 < Tryz.prog.types.size := of_decide_eq_true (by kernel_rfl); omega⟩
  unfold keyOf
  rw [hfs]
  show (if (Tryz.prog.keyType 97 && (boundV a).formed Tryz.prog 97) = true then _ else none) = _
  rw [hk, hf, hd, hl]
  rfl
set_option maxRecDepth 100000 in
theorem atKey_inj {a b : Nat × Int} (ha : a.1 < 1000000) (hb : b.1 < 1000000) (ha2 : (atSize a.2).length ≤ maxLen) (hb2 : (atSize b.2).length ≤ maxLen) (h : atKey a = atKey b) : a = b := by
  have h1 := key_bound a (wf_natA _ ha) ha2
  have h2 := key_bound b (wf_natA _ hb) hb2
  rw [h] at h1
  have h3 := keyedBound.inj h1 h2
  unfold boundV at h3
  injection h3 with h3
  simp only [Array.mk.injEq, List.cons.injEq, and_true, Value.int.injEq, Value.bool.injEq, Value.string.injEq, true_and, ByteArray.mk.injEq] at h3
  obtain ⟨h4, h5, h6⟩ := h3
  have h7 := atSize_inj _ _ h6
  have h8 : (a.2 < 0) ↔ (b.2 < 0) := by simpa using h5
  exact Prod.ext (by omega) (by omega)

/-! ### a table -/
def atS (g : Nat) (vr va : Value) (m1 m2 : Option Nat) (b : Nat) : Prop := b = g ∨ vr.ownBlock = some b ∨ va.ownBlock = some b ∨ m1 = some b ∨ m2 = some b
structure AtIn (B : Nat) (w : World) (g : Nat) (vr va : Value) (m1 m2 : Option Nat) (s : AtS) : Prop where
  base : B ≤ g
  cells : w.heap[g]? = some (.cells #[vr, va, .map m1, .map m2] 70 (0, 0))
  rows : LsG 37 3 (RwQ fun b => ¬ atS g vr va m1 m2 b) B w vr s.rows
  atoms : LsG 48 3 AmQ B w va s.atoms
  maps : (m1 = none ∧ m2 = none ∧ s.rows = [] ∧ s.atoms = []) ∨ ∃ b1 b2, m1 = some b1 ∧ m2 = some b2 ∧ B ≤ b1 ∧ B ≤ b2 ∧ b1 ≠ b2 ∧ PlAt 9 w b1 (s.rows.map atText) ∧ PlAt 97 w b2 (s.atoms.map atKey)
theorem AtIn.own {B : Nat} {w : World} {g : Nat} {vr va : Value} {m1 m2 : Option Nat} {s : AtS} (h : AtIn B w g vr va m1 m2 s) : ∀ b, atS g vr va m1 m2 b → B ≤ b ∧ b < w.heap.size ∧ NoWd w b := by
  rintro b (rfl | hb | hb | hb | hb)
  · obtain ⟨p1, c1, rfl⟩ := h.rows.shape
    obtain ⟨p2, c2, rfl⟩ := h.atoms.shape
    exact ⟨h.base, (Array.getElem?_eq_some_iff.1 h.cells).1, NoWd.cells h.cells (by simp)⟩
  · exact h.rows.base b hb
  · exact h.atoms.base b hb
  · rcases h.maps with ⟨rfl, -⟩ | ⟨b1, b2, rfl, rfl, k1, k2, k3, k4, k5⟩
    · cases hb
    · injection hb with hb; subst hb; exact ⟨k1, k4.lt, k4.noWd⟩
  · rcases h.maps with ⟨-, rfl, -⟩ | ⟨b1, b2, rfl, rfl, k1, k2, k3, k4, k5⟩
    · cases hb
    · injection hb with hb; subst hb; exact ⟨k2, k5.lt, k5.noWd⟩
theorem AtIn.below {B : Nat} {w w' : World} {g : Nat} {vr va : Value} {m1 m2 : Option Nat} {s : AtS} (h : AtIn B w g vr va m1 m2 s) (hb : Below w.heap.size w w') : AtIn B w' g vr va m1 m2 s := by
  have ha := Apart.of_below (S := fun _ => False) hb
  refine ⟨h.base, (hb.block g (h.own g (.inl rfl)).2.1).trans h.cells, h.rows.kept (fun b hb' => hb.block b (h.rows.base b hb').2.1) (fun c x hx => hx.go ha (fun _ hf => hf.elim) (fun _ _ hf => hf) (fun _ _ hp => hp)), h.atoms.kept (fun b hb' => hb.block b (h.atoms.base b hb').2.1) (fun c x hx => hx.go ha (fun _ hf => hf.elim)), ?_⟩
  rcases h.maps with k | ⟨b1, b2, rfl, rfl, k1, k2, k3, k4, k5⟩
  · exact .inl k
  · exact .inr ⟨b1, b2, rfl, rfl, k1, k2, k3, k4.keep (hb.block b1 k4.lt), k5.keep (hb.block b2 k5.lt)⟩
/-- the table block isn't one of the others -/
theorem AtIn.apart4 {B : Nat} {w : World} {g : Nat} {vr va : Value} {m1 m2 : Option Nat} {s : AtS} (h : AtIn B w g vr va m1 m2 s) : vr.ownBlock ≠ some g ∧ va.ownBlock ≠ some g ∧ m1 ≠ some g ∧ m2 ≠ some g ∧ (∀ b, vr.ownBlock = some b → va.ownBlock ≠ some b ∧ m1 ≠ some b ∧ m2 ≠ some b) ∧ ∀ b, va.ownBlock = some b → m1 ≠ some b ∧ m2 ≠ some b := by
  have hm : ∀ b, (m1 = some b ∨ m2 = some b) → ∃ es c, w.heap[b]? = some (.map es c) := by
    intro b hb
    rcases h.maps with ⟨rfl, rfl, -⟩ | ⟨b1, b2, rfl, rfl, k1, k2, k3, k4, k5⟩
    · simp at hb
    · rcases hb with hb | hb
      · injection hb with hb; subst hb; exact k4.isMap
      · injection hb with hb; subst hb; exact k5.isMap
  have hT := h.cells
  refine ⟨fun e => ?_, fun e => ?_, fun e => ?_, fun e => ?_, fun b e => ⟨fun e2 => ?_, fun e2 => ?_, fun e2 => ?_⟩, fun b e => ⟨fun e2 => ?_, fun e2 => ?_⟩⟩
  · obtain ⟨c, hc⟩ := h.rows.tag g e
    rw [hT] at hc; injection hc with hc; injection hc with _ hc; exact absurd hc (by decide)
  · obtain ⟨c, hc⟩ := h.atoms.tag g e
    rw [hT] at hc; injection hc with hc; injection hc with _ hc; exact absurd hc (by decide)
  · obtain ⟨es, c, hc⟩ := hm g (.inl e)
    rw [hT] at hc; injection hc with hc; cases hc
  · obtain ⟨es, c, hc⟩ := hm g (.inr e)
    rw [hT] at hc; injection hc with hc; cases hc
  · obtain ⟨c, hc⟩ := h.rows.tag b e
    obtain ⟨c2, hc2⟩ := h.atoms.tag b e2
    rw [hc] at hc2; injection hc2 with hc2; injection hc2 with _ hc2; exact absurd hc2 (by decide)
  · obtain ⟨c, hc⟩ := h.rows.tag b e
    obtain ⟨es, c2, hc2⟩ := hm b (.inl e2)
    rw [hc] at hc2; injection hc2 with hc2; cases hc2
  · obtain ⟨c, hc⟩ := h.rows.tag b e
    obtain ⟨es, c2, hc2⟩ := hm b (.inr e2)
    rw [hc] at hc2; injection hc2 with hc2; cases hc2
  · obtain ⟨c, hc⟩ := h.atoms.tag b e
    obtain ⟨es, c2, hc2⟩ := hm b (.inl e2)
    rw [hc] at hc2; injection hc2 with hc2; cases hc2
  · obtain ⟨c, hc⟩ := h.atoms.tag b e
    obtain ⟨es, c2, hc2⟩ := hm b (.inr e2)
    rw [hc] at hc2; injection hc2 with hc2; cases hc2
def AtAt (B : Nat) (w : World) (g : Nat) (s : AtS) : Prop := ∃ vr va m1 m2, AtIn B w g vr va m1 m2 s
theorem AtAt.below {B : Nat} {w w' : World} {g : Nat} {s : AtS} (h : AtAt B w g s) (hb : Below w.heap.size w w') : AtAt B w' g s := by
  obtain ⟨vr, va, m1, m2, h⟩ := h
  exact ⟨vr, va, m1, m2, h.below hb⟩
theorem PtsT.first {w : World} {v : Value} {l : List (Int × Int)} (h : PtsT w v l) (h0 : l ≠ []) : ∃ b off n s t, v.ownBlock = some b ∧ w.cell? ⟨b, off, none⟩ = some (.bool n) ∧ w.cell? ⟨b, off + 1, none⟩ = some s ∧ w.cell? ⟨b, off + 2, none⟩ = some (.int .i64 t) ∧ b < w.heap.size := by
  obtain ⟨p, cap, rfl, h1, h2, h3, h4⟩ := h
  have hp := List.length_pos_iff.2 h0
  obtain ⟨b, off, rfl, h6, h7⟩ := h4 hp
  obtain ⟨c, k1, s, rfl, -⟩ := h7 0 hp
  have := k1 0 _ rfl
  have h8 := k1 1 _ rfl
  have h9 := k1 2 _ rfl
  simp only [Nat.zero_mul, Nat.add_zero] at this h8 h9
  exact ⟨b, off, _, _, _, rfl, this, h8, h9, h6⟩
/-- a box that begins with a number holds no parts -/
theorem PtsT.noBox {w : World} {v : Value} {l : List (Int × Int)} (h : PtsT w v l) (h0 : l ≠ []) {gg : Nat} {a : Int} {y z : Value} {T : TypeId} (hg : w.heap[gg]? = some (.cells #[.int .i64 a, y, z] T (0, 0))) : v.ownBlock ≠ some gg := by
  obtain ⟨b, off, n, s, t, e, c0, c1, c2, -⟩ := h.first h0
  intro e2
  rw [e] at e2
  injection e2 with e2
  subst e2
  rw [cell_of_row w b _ _ _ (0, 0) hg] at c0 c1 c2
  match off, c0, c1, c2 with
  | 0, c0, _, _ => simp at c0
  | 1, _, _, c2 => simp at c2
  | 2, _, c1, _ => simp at c1
  | _ + 3, c0, _, _ => simp at c0
theorem AtIn.box {B : Nat} {w w' : World} {g : Nat} {vr va : Value} {m1 m2 : Option Nat} {s : AtS} (h : AtIn B w g vr va m1 m2 s) {gg : Nat} {a : Int} {y z : Value} {T : TypeId} (hg : w.heap[gg]? = some (.cells #[.int .i64 a, y, z] T (0, 0)))
    (hT1 : T ≠ 37) (hT2 : T ≠ 70) (hva : va.ownBlock ≠ some gg) (hy : ∀ n, .int .u64 n ≠ y ∧ .int .u64 n ≠ z) (ha : Apart (fun b => b = gg) w w') : AtIn B w' g vr va m1 m2 s ∧ ¬ atS g vr va m1 m2 gg := by
  have hn : ¬ atS g vr va m1 m2 gg := by
    rintro (e | e | e | e | e)
    · have := h.cells
      rw [← e, hg] at this
      injection this with this; injection this with _ this; exact hT2 this
    · obtain ⟨c, hc⟩ := h.rows.tag gg e
      rw [hg] at hc; injection hc with hc; injection hc with _ hc; exact hT1 hc
    · exact hva e
    · rcases h.maps with ⟨k1, -⟩ | ⟨b1, b2, k1, k2, -, -, -, k4, k5⟩
      · rw [k1] at e; cases e
      · rw [k1] at e; injection e with e; subst e
        obtain ⟨es, c, hc⟩ := k4.isMap
        rw [hg] at hc; injection hc with hc; cases hc
    · rcases h.maps with ⟨-, k1, -⟩ | ⟨b1, b2, k1, k2, -, -, -, k4, k5⟩
      · rw [k1] at e; cases e
      · rw [k2] at e; injection e with e; subst e
        obtain ⟨es, c, hc⟩ := k5.isMap
        rw [hg] at hc; injection hc with hc; cases hc
  have hNw : ∀ b, b = gg → NoWd w b := fun b e => by
    rw [e]
    refine NoWd.cells hg (fun n hn => ?_)
    simp only [List.mem_toArray, List.mem_cons, List.not_mem_nil, or_false] at hn
    rcases hn with hn | hn | hn
    · injection hn with hn _; cases hn
    · exact (hy n).1 hn
    · exact (hy n).2 hn
  refine ⟨⟨h.base, (ha.block g (h.own g (.inl rfl)).2.1 (fun e => hn (.inl e.symm))).trans h.cells, ?_, h.atoms.kept (fun b hb => ha.block b (h.atoms.base b hb).2.1 (fun e => hva (e ▸ hb))) (fun c x hx => hx.go ha hNw), ?_⟩, hn⟩
  · refine h.rows.kept (fun b hb => ha.block b (h.rows.base b hb).2.1 (fun e => hn (.inr (.inl (e ▸ hb))))) (fun c x hx => ?_)
    obtain ⟨pv, s, e, h1, h2, h3, h4⟩ := hx
    have hnb := h1.noBox h4 hg
    exact ⟨pv, s, e, h1.apart ha hNw (fun b hb e => hnb (by rw [← e]; exact hb)), h2.quiet ha hNw, fun b hb => ⟨Nat.lt_of_lt_of_le (h3 b hb).1 ha.size, (h3 b hb).2⟩, h4⟩
  · rcases h.maps with k | ⟨b1, b2, k1, k2, l1, l2, l3, l4, l5⟩
    · exact .inl k
    · exact .inr ⟨b1, b2, k1, k2, l1, l2, l3, l4.keep (ha.block b1 l4.lt (fun e => hn (.inr (.inr (.inr (.inl (by rw [k1, e]))))))), l5.keep (ha.block b2 l5.lt (fun e => hn (.inr (.inr (.inr (.inr (by rw [k2, e])))))))⟩
set_option maxRecDepth 100000 in
/-- what is asked of a map -/
theorem PlAt.look {k t : TypeId} (K : Maps.Keyed Tryz.prog k) (ht : Tryz.prog.underlying t = some (.map k 3)) {w : World} {m : Nat} {l : List (List UInt8)} (h : PlAt k w m l) {key : Value} {x : List UInt8} (hk : keyOf Tryz.prog k key = some (.string x)) :
    ∃ n : Int, (∀ w' : World, w'.heap[m]? = w.heap[m]? → (Instr.lookup t (.map (some m)) key true).run Tryz.prog w' = .ok (.tuple #[.int .i64 n, .bool (decide (x ∈ l))]) w') ∧ (x ∈ l → n = (atIdx l x : Nat)) := by
  obtain ⟨D, n, hm, hnl, hD⟩ := h
  obtain ⟨v0, pls, hrun, hv0⟩ := hm.look_ok K ht (zeroIntA w) (plainElem_int Tryz.underlying3 (by decide)) hk
  obtain ⟨n0, rfl, hn0, -⟩ := plainElem_int_inv Tryz.underlying3 hv0
  have hat := congrArg Prod.fst hn0
  refine ⟨n0, fun w' he => ?_, fun hx => ?_⟩
  · obtain ⟨es, c, hb, r⟩ := hm
    have hm' : w'.ownsMap Tryz.prog k (plainElem Tryz.prog 3) m n D := ⟨es, c, he.trans hb, r⟩
    obtain ⟨v1, pls1, hrun1, hv1⟩ := hm'.look_ok K ht (zeroIntA w') (plainElem_int Tryz.underlying3 (by decide)) hk
    obtain ⟨n1, rfl, hn1, -⟩ := plainElem_int_inv Tryz.underlying3 hv1
    have hat1 := congrArg Prod.fst hn1
    rw [hD.has] at hrun1
    have : n1 = n0 := by
      have e : (DataW.lit (.int .i64 n1) : DataW Unit) = .lit (.int .i64 n0) := hat1.symm.trans hat
      injection e with e
      injection e
    rw [this] at hrun1
    exact hrun1
  · have hat : D.atKey (.string x) _ = .lit (.int .i64 n0) := hat
    rw [hD.idx x hx _] at hat
    injection hat with hat
    injection hat with _ hat
    exact hat.symm
set_option maxRecDepth 100000 in
theorem PlAt.put {k t : TypeId} (K : Maps.Keyed Tryz.prog k) (ht : Tryz.prog.underlying t = some (.map k 3)) {w : World} {m : Nat} {l : List (List UInt8)} (h : PlAt k w m l) {key : Value} {x : List UInt8} (hk : keyOf Tryz.prog k key = some (.string x)) (hx : x ∉ l) (hl : l.length < 1000000) :
    ∃ w', (Instr.mapUpdate t (.map (some m)) key (.int .i64 (l.length : Nat))).run Tryz.prog w = .ok () w' ∧ PlAt k w' m (l ++ [x]) ∧ Apart (fun b => b = m) w w' := by
  obtain ⟨D, n, hm, hnl, hD⟩ := h
  obtain ⟨w', hrun, h6, hg⟩ := hm.update K ht (by simp [maxLen]; omega) hk (val := .int .i64 (l.length : Nat)) (d := .lit (.int .i64 (l.length : Nat))) (ps := []) (plainElem_int Tryz.underlying3 (wf_natA _ hl))
  exact ⟨w', hrun, ⟨_, n + 1, h6, by simp; omega, hD.new hx⟩, ⟨hg.os, hg.tape, hg.output, hg.size, fun i hi hn => hg.block i hi (by intro e; injection e with e; exact hn e)⟩⟩
end Go.Proofs.YtnfohbpgnbfmeaaGreatDoor
/- (*atoms.Table).makeReady, atoms.New. -/
namespace Go.Proofs.YtnfohbpgnbfmeaaGreatDoor
open Go.RowKit Big Go.WideMaps

theorem atCells4 {w : World} {g : Nat} {a b c d : Value} {t : TypeId} (h : w.heap[g]? = some (.cells #[a, b, c, d] t (0, 0))) : w.cell? ⟨g, 0, none⟩ = some a ∧ w.cell? ⟨g, 1, none⟩ = some b ∧ w.cell? ⟨g, 2, none⟩ = some c ∧ w.cell? ⟨g, 3, none⟩ = some d := by
  simp [World.cell?, h]
theorem PlAt.stay {k : TypeId} {w w' : World} {m : Nat} {l : List (List UInt8)} {S : Nat → Prop} (h : PlAt k w m l) (ha : Apart S w w') (hS : ¬ S m) : PlAt k w' m l := h.keep (ha.block m h.lt hS)
set_option maxRecDepth 100000 in
set_option maxHeartbeats 3200000 in
theorem ready_any (B g : Nat) (vr va : Value) (m1 m2 : Option Nat) (s : AtS) (w : World) (h : AtIn B w g vr va m1 m2 s) (hB : B ≤ w.heap.size) :
    Calls Tryz.prog 53 #[.pointer (some ⟨g, 0, none⟩)] w fun e w' => e = .returned (.tuple #[]) ∧ ∃ b1 b2, AtIn B w' g vr va (some b1) (some b2) s ∧ Apart (fun b => b = g) w w' ∧ ∀ b, (b = b1 ∨ b = b2) → m1 = some b ∨ m2 = some b ∨ w.heap.size ≤ b := by
  have qT : ∀ (w : World) (r : Option Nat), (binOp .eql 67 (.map r) (.map none)).run Tryz.prog w = .ok (.bool r.isNone) w := fun w r => run_eql_map_nil w _ _ _ r Tryz.underlying67
  have hmm := @run_makeMap Tryz.prog
  have hb := h.cells
  have hown := (h.own g (.inl rfl)).2
  obtain ⟨x0, x1, x2, x3⟩ := atCells4 hb
  rcases h.maps with ⟨rfl, rfl, k1, k2⟩ | ⟨b1, b2, rfl, rfl, -⟩
  · have fz2 := frozen_of_row w g 2 _ _ hb
    have fz3 := frozen_of_row w g 3 _ _ hb
    have HH := hid h
    have hgl := hown.1
    clear h hb
    go_enter Tryz.func53, Tryz.ntmps53
    go_wp2_with fail
    obtain ⟨W2, hW2⟩ : ∃ W2, W2 = (w.setCell ⟨g, 2, none⟩ (.map (some w.heap.size))).setCell ⟨g, 3, none⟩ (.map (some (w.heap.size + 1))) := ⟨_, rfl⟩
    rw [← hW2]
    have a2 : Apart (fun b => b = g) w W2 := by rw [hW2]; exact (apart_set _ _ _ _).go (apart_set _ _ _ _)
    have z2 : W2.heap.size = w.heap.size := by rw [hW2]; simp [World.setCell]
    have e2 : W2.heap[g]? = some (.cells #[vr, va, .map (some w.heap.size), .map (some (w.heap.size + 1))] 70 (0, 0)) := by
      rw [hW2]
      exact heap_setCell_same _ g 3 _ _ _ (heap_setCell_same w g 2 _ _ (.map (some w.heap.size)) HH.out.cells)
    clear hW2
    go_end0
    have hI := HH.out
    have ap := hI.apart4
    obtain ⟨W3, hW3⟩ : ∃ W3, W3 = W2.alloc (.map #[] 0) := ⟨_, rfl⟩
    obtain ⟨W4, hW4⟩ : ∃ W4, W4 = W3.alloc (.map #[] 0) := ⟨_, rfl⟩
    have z3 : W3.heap.size = w.heap.size + 1 := by rw [hW3, size_alloc, z2]
    have b3 : Below W2.heap.size W2 W3 := by rw [hW3]; exact below1 _ _
    have b4 : Below W3.heap.size W3 W4 := by rw [hW4]; exact below1 _ _
    have a4 : Apart (fun b => b = g) w W4 := (a2.go (Apart.of_below b3)).go (Apart.of_below b4)
    have p1 : PlAt 9 W4 w.heap.size [] := by
      have := PlAt.made 9 W2
      rw [← hW3, z2] at this
      exact this.keep (b4.block _ (by omega))
    have p2 : PlAt 97 W4 (w.heap.size + 1) [] := by
      have := PlAt.made 97 W3
      rw [← hW4, z3] at this
      exact this
    have e4 : W4.heap[g]? = some (.cells #[vr, va, .map (some w.heap.size), .map (some (w.heap.size + 1))] 70 (0, 0)) := (b4.block g (by omega)).trans ((b3.block g (by omega)).trans e2)
    rw [← hW3, ← hW4]
    have hNw := hI.own g (.inl rfl)
    refine ⟨rfl, w.heap.size, w.heap.size + 1, ⟨hI.base, e4, ?_, ?_, .inr ⟨_, _, rfl, rfl, hB, by omega, by omega, ?_, ?_⟩⟩, a4, fun b hb => .inr (.inr (by omega))⟩
    · refine hI.rows.kept (fun b hb => a4.block b (hI.rows.base b hb).2.1 (fun e => ap.1 (e ▸ hb))) (fun c x hx => hx.go a4 (fun b hb => by rw [hb]; exact hNw.2.2) (fun b hb e => hb (.inl e)) (fun b hlt hb hS => hb ?_))
      rcases hS with h1 | h1 | h1 | h1 | h1
      · exact .inl h1
      · exact .inr (.inl h1)
      · exact .inr (.inr (.inl h1))
      · injection h1 with h1; omega
      · injection h1 with h1; omega
    · exact hI.atoms.kept (fun b hb => a4.block b (hI.atoms.base b hb).2.1 (fun e => ap.2.1 (e ▸ hb))) (fun c x hx => hx.go a4 (fun b hb => by rw [hb]; exact hNw.2.2))
    · rw [k1]; exact p1
    · rw [k2]; exact p2
  · have HH := hid h
    clear h hb
    go_enter Tryz.func53, Tryz.ntmps53
    go_wp2_with fail
    go_end0
    exact ⟨rfl, _, _, HH.out, Apart.refl _ _, fun b hb => by rcases hb with rfl | rfl; exact .inl rfl; exact .inr (.inl rfl)⟩
set_option maxRecDepth 100000 in
theorem New_any (w : World) : Calls Tryz.prog 11 #[] w fun e w' => e = .returned (.pointer (some ⟨w.heap.size, 0, none⟩)) ∧ AtAt w.heap.size w' w.heap.size ⟨[], []⟩ ∧ Below w.heap.size w w' := by
  go_enter Tryz.func11, Tryz.ntmps11
  go_wp2
  go_ret
  exact ⟨rfl, ⟨.slice none 0 0, .slice none 0 0, none, none, Nat.le_refl _, heap_alloc_new w _, LsG.nil .., LsG.nil .., .inl ⟨rfl, rfl, rfl, rfl⟩⟩, below1 _ _⟩
end Go.Proofs.YtnfohbpgnbfmeaaGreatDoor
/- An append to a row that was there and whose block holds no word, as a step of a drawn region. Made by gen_atpush.py. -/
namespace Go.Proofs.YtnfohbpgnbfmeaaGreatDoor
open Go.RowKit Big Go.WideMaps

theorem run_append_f {P : Program} {w : World} (base : Nat) (t ty e : TypeId) (i : TypeInfo) (z : Value) (size bytes : Nat) (ht : P.underlying t = some (.slice e)) (hi : P.info? e = some i) (hz : i.zero = some z)
    (hsize : i.size = size) (hby : i.bytes = bytes) (hzs : z.cells.size = size) (hsz : 0 < size) (hz0 : ∀ n, .int .u64 n ∉ z.cells)
    (v : Value) (n : Nat) (xs : List Value) (hown : RowW w base e size v n xs)
    (a : Addr) (m c : Nat) (news : List Value) (hl : news.length = m * size) (hnews : ∀ j u, news[j]? = some u → w.cell? (a.add j) = some u) (h1 : ∀ u ∈ news, u.oneCell' = true) (hn0 : ∀ n, .int .u64 n ∉ news)
    (h63 : n + m ≤ maxLen) (hbytes : (n + m) * bytes ≤ 140737488355328) (hbase : base ≤ w.heap.size) :
    ∃ v' w', (Builtin.append_ #[t, t] ty #[v, .slice (some a) m c]).run P w = .ok v' w' ∧ RowW w' base e size v' (n + m) (xs ++ news) ∧ w.grownBy w' v.ownBlock ∧ (∀ k, v'.ownBlock = some k → v.ownBlock = some k ∨ w.heap.size ≤ k) := by
  subst hsize
  subst hby
  obtain ⟨hown, hw⟩ := hown
  have hsmall : n + m ≤ 9223372036854775807 := by simp only [maxLen] at h63; omega
  have hlen : (xs ++ news).length = (n + m) * i.size := by rw [List.length_append, hown.1, hl, Nat.add_mul]
  have hx0 : ∀ q, .int .u64 q ∉ xs := by
    intro q hq
    rcases hown.2 with ⟨rfl, rfl⟩ | ⟨g, cap, cur, rfl, hbg, hg, hnc, hcm, hcs, htake⟩
    · have hx : xs = [] := List.eq_nil_of_length_eq_zero (by simpa using hown.1)
      rw [hx] at hq; cases hq
    · obtain ⟨j, hj, hjq⟩ := List.mem_iff_getElem.1 hq
      have hc := hown.cells (g := g) rfl j (.int .u64 q) (by rw [List.getElem?_eq_getElem hj, hjq])
      rw [Go.WideShapes.add_plain] at hc
      exact hw g rfl _ _ hc
  have grown : ∀ (old : Nat), old < n + m → ∀ (row : Option Nat),
      RowW (w.drew.alloc (.cells (xs.toArray ++ news.toArray ++ Builtin.zeroCells z.cells (grownCap w (n + m) old e - (n + m))) e)) base e i.size
        (.slice (some ⟨w.heap.size, 0, none⟩) (n + m) (grownCap w (n + m) old e)) (n + m) (xs ++ news) ∧
      w.grownBy (w.drew.alloc (.cells (xs.toArray ++ news.toArray ++ Builtin.zeroCells z.cells (grownCap w (n + m) old e - (n + m))) e)) row := by
    intro old ho row
    have hge := grownCap_ge w (n + m) old e
    have hcm : grownCap w (n + m) old e ≤ maxLen := grownCap_le_maxLen w (n + m) old e h63
    refine ⟨⟨⟨hlen, .inr ⟨w.heap.size, _, _, rfl, hbase, heap_alloc_new w.drew _, hge, hcm, ?_, ?_⟩⟩, ?_⟩, ⟨rfl, rfl, rfl, by simp, fun k hk _ => heap_alloc_old w.drew _ hk⟩⟩
    · simp only [Array.size_append, List.size_toArray, size_zeroCells, hzs, hown.1, hl, ← Nat.add_mul]
      congr 1
      omega
    · simp only [Array.toList_append, List.append_assoc]
      rw [← List.append_assoc, ← hlen]
      exact List.take_left
    · intro g hg
      obtain rfl : w.heap.size = g := by simpa [Value.ownBlock] using hg
      refine NoWd.cells (heap_alloc_new w.drew _) (fun q hq => ?_)
      rcases Array.mem_append.1 hq with hq | hq
      · rcases Array.mem_append.1 hq with hq | hq
        · exact hx0 q (by simpa using hq)
        · exact hn0 q (by simpa using hq)
      · exact hz0 q (zeroCells_mem _ _ _ hq)
  rcases hown.2 with ⟨rfl, rfl⟩ | ⟨g, cap, cur, rfl, hbg, hg, hnc, hcm, hcs, htake⟩
  · have hx : xs = [] := List.eq_nil_of_length_eq_zero (by simpa using hown.1)
    subst hx
    by_cases hm : m = 0
    · subst hm
      have hn : news = [] := List.eq_nil_of_length_eq_zero (by simpa using hl)
      subst hn
      refine ⟨.slice none 0 0, w, ?_, RowW.nil w base e i.size, ⟨rfl, rfl, rfl, Nat.le_refl _, fun _ _ _ => rfl⟩, fun k hk => by cases hk⟩
      simp [Builtin.append_, run_underlying ht, sizeOf, typeInfo, hi, Builtin.lenOf, Builtin.firstCells, loadCells, loadCellsFrom]
    · have hr := run_append_nil (P := P) w t ty e i z ht hi hz a m c news hl hnews (by omega) (by omega) (by have hb := hbytes; simp only [Nat.zero_add] at hb; omega)
      have hgr := grown 0 (by omega) (Value.ownBlock (.slice none 0 0))
      simp only [Nat.zero_add, List.nil_append, Array.empty_append] at hgr ⊢
      exact ⟨_, _, hr, hgr.1, hgr.2, fun k hk => .inr (by obtain rfl : w.heap.size = k := (by simpa [Value.ownBlock] using hk); exact Nat.le_refl _)⟩
  · by_cases hroom : n + m ≤ cap
    · have hfit : n * i.size + news.length ≤ cur.size := by rw [hl, hcs, ← Nat.add_mul]; exact Nat.mul_le_mul_right _ hroom
      have hr := run_append_room (P := P) w t ty e i ht hi g n cap cur hg a m c news hl hnews h1 hroom hfit
      refine ⟨_, _, hr, ⟨⟨hlen, .inr ⟨g, cap, _, rfl, hbg, setRow_heap w g cur _ e _ hg, hroom, hcm, ?_, ?_⟩⟩, ?_⟩, ⟨rfl, rfl, rfl, by simp, fun k _ hk => setRow_other w g k _ (fun e => hk (by simp [Value.ownBlock, e]))⟩, fun k hk => .inl (by simpa [Value.ownBlock] using hk)⟩
      · simp only [List.size_toArray, List.length_append, List.length_take, List.length_drop, Array.length_toList]
        omega
      · rw [htake, ← hlen]
        exact List.take_left
      · intro g' hg'
        obtain rfl : g = g' := by simpa [Value.ownBlock] using hg'
        have hcur : ∀ q, .int .u64 q ∉ cur.toList := by
          intro q hq
          obtain ⟨j, hj, hjq⟩ := List.mem_iff_getElem.1 hq
          refine hw g rfl j q ?_
          rw [cell_of_row w g j cur e (0, 0) hg]
          simp at hj hjq
          rw [Array.getElem?_eq_getElem hj, hjq]
        refine NoWd.cells (setRow_heap w g cur _ e _ hg) (fun q hq => ?_)
        simp only [List.mem_toArray, List.mem_append] at hq
        rcases hq with hq | hq
        · rcases hq with hq | hq
          · exact hcur q (List.mem_of_mem_take hq)
          · exact hn0 q hq
        · exact hcur q (List.mem_of_mem_drop hq)
    · have holds : ∀ j u, xs[j]? = some u → w.cell? ((⟨g, 0, none⟩ : Addr).add j) = some u := hown.cells (g := g) rfl
      have hr := run_append_grow (P := P) w t ty e i z ht hi hz ⟨g, 0, none⟩ n cap xs hown.1 holds a m c news hl hnews (by omega) (by omega) (growslice_fits (by omega) hbytes)
      have hgr := grown cap (by omega) (Value.ownBlock (.slice (some ⟨g, 0, none⟩) n cap))
      exact ⟨_, _, hr, hgr.1, hgr.2, fun k hk => .inr (by obtain rfl : w.heap.size = k := (by simpa [Value.ownBlock] using hk); exact Nat.le_refl _)⟩
theorem step_append_w {P : Program} {w : World} {o : Oper} {a : Act} {K : Act → World → Prop} {Q : Exit → Act → World → Prop} (s x : Operand) (t : TypeId)
    (ho : o.op = .call { callee := .builtin .append, args := #[s, x], argTypes := #[t, t] })
    (base : Nat) (e : TypeId) (i : TypeInfo) (z : Value) (size bytes : Nat) (ht : P.underlying t = some (.slice e)) (hi : P.info? e = some i) (hz : i.zero = some z)
    (hsize : i.size = size) (hby : i.bytes = bytes) (hzs : z.cells.size = size) (hsz : 0 < size) (hz0 : ∀ n, .int .u64 n ∉ z.cells)
    (v : Value) (n : Nat) (xs : List Value) (hs : a.eval s = v) (hown : RowW w base e size v n xs)
    (ad : Addr) (m c : Nat) (news : List Value) (hx : a.eval x = .slice (some ad) m c) (hl : news.length = m * size) (hnews : ∀ j u, news[j]? = some u → w.cell? (ad.add j) = some u) (h1 : ∀ u ∈ news, u.oneCell' = true) (hn0 : ∀ n, .int .u64 n ∉ news)
    (h63 : n + m ≤ maxLen) (hbytes : (n + m) * bytes ≤ 140737488355328) (hbase : base ≤ w.heap.size)
    (h : ∀ v' w', RowW w' base e size v' (n + m) (xs ++ news) → w.grownBy w' v.ownBlock → (∀ k, v'.ownBlock = some k → v.ownBlock = some k ∨ w.heap.size ≤ k) → K (a.put o.dst v') w') : Oper.wp P o a w K Q := by
  obtain ⟨v', w', hr, h2, h3, h4⟩ := run_append_f (P := P) base t o.type e i z size bytes ht hi hz hsize hby hzs hsz hz0 v n xs hown ad m c news hl hnews h1 hn0 h63 hbytes hbase
  unfold Oper.wp
  simp [execOp, ho, resolve, invoke, builtin, hs, hx, hr, Result.andThen]
  exact h v' w' h2 h3 h4
theorem wpList_append_f {P : Program} {w : World} {ops : Array Oper} {rest : List Oper} {o : Oper} {a : Act} {Q : Exit → Act → World → Prop} (hgd : o.guard = none) (s x : Operand) (t : TypeId)
    (ho : o.op = .call { callee := .builtin .append, args := #[s, x], argTypes := #[t, t] })
    (base : Nat) (e : TypeId) (i : TypeInfo) (z : Value) (size bytes : Nat) (ht : P.underlying t = some (.slice e)) (hi : P.info? e = some i) (hz : i.zero = some z)
    (hsize : i.size = size) (hby : i.bytes = bytes) (hzs : z.cells.size = size) (hsz : 0 < size) (hz0 : ∀ n, .int .u64 n ∉ z.cells)
    (v : Value) (n : Nat) (xs : List Value) (hs : a.eval s = v) (hown : RowW w base e size v n xs)
    (ad : Addr) (m c : Nat) (news : List Value) (hx : a.eval x = .slice (some ad) m c) (hl : news.length = m * size) (hnews : ∀ j u, news[j]? = some u → w.cell? (ad.add j) = some u) (h1 : ∀ u ∈ news, u.oneCell' = true) (hn0 : ∀ n, .int .u64 n ∉ news)
    (h63 : n + m ≤ maxLen) (hbytes : (n + m) * bytes ≤ 140737488355328) (hbase : base ≤ w.heap.size)
    (h : ∀ v' w', RowW w' base e size v' (n + m) (xs ++ news) → w.grownBy w' v.ownBlock → (∀ k, v'.ownBlock = some k → v.ownBlock = some k ∨ w.heap.size ≤ k) → wpList P ops Q rest (a.put o.dst v') w') : wpList P ops Q (o :: rest) a w := by
  refine wpList_plain hgd fun K' hK' => ?_
  obtain ⟨v', w', hr, h2, h3, h4⟩ := run_append_f (P := P) base t o.type e i z size bytes ht hi hz hsize hby hzs hsz hz0 v n xs hown ad m c news hl hnews h1 hn0 h63 hbytes hbase
  unfold Oper.wp
  simp [execOp, ho, resolve, invoke, builtin, hs, hx, hr, Result.andThen]
  exact hK' _ _ (h v' w' h2 h3 h4)
def RowJW (e : TypeId) (size n : Nat) (xs : List Value) (vo : Value) (N : Nat) (v : Value) (w : World) : Prop := RowW w 0 e size v n xs ∧ ∀ k, v.ownBlock = some k → vo.ownBlock = some k ∨ N ≤ k
theorem RowJW.below {e : TypeId} {size n N : Nat} {xs : List Value} {vo v : Value} {w w' : World} (h : RowJW e size n xs vo N v w) (hb : Below w.heap.size w w') : RowJW e size n xs vo N v w' :=
  ⟨h.1.stays fun k hk => hb.block k (World.ownsRow.lt h.1.1 k hk).2, h.2⟩
theorem infoLin : (Tryz.prog.info? 37).map (fun i => (i.zero, i.size, i.bytes)) = some (some (.agg #[.slice none 0 0, .bool false, .slice none 0 0]), 3, 56) := by kernel_rfl
theorem infoAtom : (Tryz.prog.info? 48).map (fun i => (i.zero, i.size, i.bytes)) = some (some (.agg #[.int .i64 0, .bool false, .slice none 0 0]), 3, 40) := by kernel_rfl
theorem RowW.base0 {w : World} {B : Nat} {e : TypeId} {k : Nat} {v : Value} {n : Nat} {xs : List Value} (h : RowW w B e k v n xs) : RowW w 0 e k v n xs := ⟨ownsRow_mono h.1 (Nat.zero_le _), h.2⟩
theorem RowW.up {w : World} {B : Nat} {e : TypeId} {k : Nat} {v : Value} {n : Nat} {xs : List Value} (h : RowW w 0 e k v n xs) (hb : ∀ g, v.ownBlock = some g → B ≤ g) : RowW w B e k v n xs := by
  obtain ⟨⟨hl, h0 | ⟨g, cap, cur, hv, hg, r⟩⟩, hw⟩ := h
  · exact ⟨⟨hl, .inl h0⟩, hw⟩
  · exact ⟨⟨hl, .inr ⟨g, cap, cur, hv, hb g (by rw [hv]; rfl), r⟩⟩, hw⟩
end Go.Proofs.YtnfohbpgnbfmeaaGreatDoor
