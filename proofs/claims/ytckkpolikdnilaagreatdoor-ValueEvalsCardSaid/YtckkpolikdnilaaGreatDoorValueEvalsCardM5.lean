/- Texts put together: VlHolds, VlHolds2, VlSteps, VlRSmall, VlFixed, VlIn, VlRFew, VlPure, VlRTell, PlOpen2, VlOpen, VlTells, RefTimes, RefMul, VlOne0, VlOne_true, VlOne_false, VlOne_num, VlOne_not, VlOne_ite, VlOne_eq, VlOne_le, VlOne_iff, VlOne_mul, VlOne_app, VlOne_and. -/
import Derived.Test.YtckkpolikdnilaaGreatDoorValueEvalsCardM4
import Derived.Deep.DeepCutAuto
import Derived.Deep.RegionHeld3
import Derived.SizedLaws
/- value.Holds. -/
namespace Go.Proofs.YtckkpolikdnilaaGreatDoor
open Go.RowKit Big Go.WideMaps

def RHolds (b : Bool) (c : Int) (w : World) (e : Ending) (w' : World) : Prop := e = .returned (.tuple #[.bool b, .int .i64 c]) ∧ Below w.heap.size w w'
set_option maxRecDepth 100000 in
set_option maxHeartbeats 3200000 in
theorem Holds_err (vs vt vm : Value) (hv : ∃ p n c p' n' c' p2 n2 c2, vs = .slice p n c ∧ vt = .slice p' n' c' ∧ vm = .slice p2 n2 c2) (t c : Int) (w : World) (hc : c ≠ 0) (h : ∀ w', Below w.heap.size w w' → Calls Tryz.prog 11 #[.agg #[vs, vt], .agg #[vm]] w' (RVlErr c w')) :
    Calls Tryz.prog 19 #[.agg #[vs, vt], .agg #[vm], .int .i64 t] w (RHolds false c w) := by
  obtain ⟨p, n, cc, p', n', c', p2, n2, c2, rfl, rfl, rfl⟩ := hv
  have b0 : Below w.heap.size w ((w.alloc (.cells #[.slice p n cc, .slice p' n' c'] 25)).alloc (.cells #[.slice p2 n2 c2] 28)) := (below1 w _).alloc (by simp) _
  have H := hid (h _ b0)
  have B0 := hid b0
  have t1 : (c != 0) = true := by simpa using hc
  clear h b0 hc
  go_enter Tryz.func19, Tryz.ntmps19
  go_wp2_with fail
  refine H.out.mono ?_
  rintro e w1 ⟨rfl, b1⟩
  have B1 := hid (bel_go b1 B0.out)
  clear H b1
  go_wp2
  go_ret2
  exact ⟨rfl, B1.out⟩
set_option maxRecDepth 100000 in
set_option maxHeartbeats 3200000 in
theorem Holds_out (vs vt vm : Value) (hv : ∃ p n c p' n' c' p2 n2 c2, vs = .slice p n c ∧ vt = .slice p' n' c' ∧ vm = .slice p2 n2 c2) (t : Int) (l : List Int) (w : World) (ht : t < 0 ∨ (l.length : Int) ≤ t) (h : ∀ w', Below w.heap.size w w' → Calls Tryz.prog 11 #[.agg #[vs, vt], .agg #[vm]] w' (RVals l w')) :
    Calls Tryz.prog 19 #[.agg #[vs, vt], .agg #[vm], .int .i64 t] w (RHolds false 1 w) := by
  obtain ⟨p, n, cc, p', n', c', p2, n2, c2, rfl, rfl, rfl⟩ := hv
  have b0 : Below w.heap.size w ((w.alloc (.cells #[.slice p n cc, .slice p' n' c'] 25)).alloc (.cells #[.slice p2 n2 c2] 28)) := (below1 w _).alloc (by simp) _
  have H := hid (h _ b0)
  have B0 := hid b0
  clear h b0
  by_cases h0 : t < 0
  · have t1 : decide (t < 0) = true := by simpa using h0
    go_enter Tryz.func19, Tryz.ntmps19
    go_wp2_with fail
    refine H.out.mono ?_
    rintro e w1 ⟨v1, rfl, hi, -, b1⟩
    obtain ⟨q, c, rfl, -⟩ := hi
    have B1 := hid (bel_go b1 B0.out)
    clear H b1
    go_wp2
    go_ret2
    exact ⟨rfl, B1.out⟩
  · have t1 : decide (t < 0) = false := by simpa using h0
    have t2 : (l.length : Int) ≤ t := by omega
    go_enter Tryz.func19, Tryz.ntmps19
    go_wp2_with fail
    refine H.out.mono ?_
    rintro e w1 ⟨v1, rfl, hi, -, b1⟩
    obtain ⟨q, c, rfl, -⟩ := hi
    have B1 := hid (bel_go b1 B0.out)
    clear H b1
    go_wp2
    go_ret2
    exact ⟨rfl, B1.out⟩
end Go.Proofs.YtckkpolikdnilaaGreatDoor
/- value.Holds of a term that is there. -/
namespace Go.Proofs.YtckkpolikdnilaaGreatDoor
open Go.RowKit Big Go.WideMaps

set_option maxRecDepth 100000 in
set_option maxHeartbeats 3200000 in
theorem Holds_in (vs vt vm : Value) (hvm : ∃ p2 n2 c2, vm = .slice p2 n2 c2) (syms : List Sy) (terms : List Tm) (σ : Nat → Int) (l : List Int) (k : Nat) (w : World) (hs : SyIn w vs syms) (ht : TmsIn w vt terms) (hσ : VlSorts syms terms σ) (hk : k < terms.length) (hl : l.length = terms.length)
    (h : ∀ w', Below w.heap.size w w' → Calls Tryz.prog 11 #[.agg #[vs, vt], .agg #[vm]] w' (RVals l w')) :
    Calls Tryz.prog 19 #[.agg #[vs, vt], .agg #[vm], .int .i64 (k : Nat)] w (RHolds (σ k == 1 && l[k] != 0) (if σ k = 1 then 0 else 8) w) := by
  have Hs := hid hs; have Ht := hid ht; have Hσ := hid hσ; have Hk := hid hk
  obtain ⟨ps, cps, rfl, -, -, -, -⟩ := hs
  obtain ⟨pt, cpt, rfl, -, -, -, -⟩ := ht
  obtain ⟨pm, nm, cpm, rfl⟩ := hvm
  have b0 : Below w.heap.size w ((w.alloc (.cells #[.slice ps syms.length cps, .slice pt terms.length cpt] 25)).alloc (.cells #[.slice pm nm cpm] 28)) := (below1 w _).alloc (by simp) _
  have e0 : ((w.alloc (.cells #[.slice ps syms.length cps, .slice pt terms.length cpt] 25)).alloc (.cells #[.slice pm nm cpm] 28)).heap[w.heap.size]? = some (.cells #[.slice ps syms.length cps, .slice pt terms.length cpt] 25 (0, 0)) := alloc_keep (alloc_at _ _ _ rfl)
  have z0 : w.heap.size < ((w.alloc (.cells #[.slice ps syms.length cps, .slice pt terms.length cpt] 25)).alloc (.cells #[.slice pm nm cpm] 28)).heap.size := by rw [size_alloc, size_alloc]; omega
  have H := hid (h _ b0)
  have B0 := hid b0; have E0 := hid e0; have Z0 := hid z0
  have t1 : ¬ ((k : Int) < 0) := by omega
  have t2 : (k : Int) < (l.length : Int) := by omega
  have t3 : k < l.length := by omega
  obtain ⟨L, hL⟩ : ∃ L, L = l.length := ⟨_, rfl⟩
  have HL := hid hL
  have hb : ∀ w', Below w.heap.size w w' → Calls Tryz.prog 43 #[.agg #[.slice ps syms.length cps, .slice pt terms.length cpt], .int .i64 (k : Nat)] w' (RBool (σ k == 1) w') := fun w' hb => isCondition_any _ _ syms terms σ k w' (Hs.out.below hb) (Ht.out.below hb) Hσ.out Hk.out
  have HI := hid hb
  obtain ⟨x, hx⟩ : ∃ x, x = l[k] := ⟨_, rfl⟩
  have Hx := hid hx
  rw [← hx]
  generalize hq : (σ k == 1) = q at *
  have hif : (if σ k = 1 then (0 : Int) else 8) = if q then 0 else 8 := by rw [← hq]; by_cases e : σ k = 1 <;> simp [e]
  rw [hif]
  clear h b0 e0 z0 hk hl hb hσ hx hq hif
  generalize syms.length = L0 at *
  generalize terms.length = L1 at *
  cases q
  · show Calls _ _ _ _ (RHolds false 8 w)
    go_enter Tryz.func19, Tryz.ntmps19
    go_wp2_with fail
    refine H.out.mono ?_
    rintro e w1 ⟨v1, rfl, hi, -, b1⟩
    obtain ⟨q, c, rfl, -⟩ := hi
    have b2 := bel_go b1 B0.out
    have x0 := two_cells ((b1.block w.heap.size Z0.out).trans E0.out)
    obtain ⟨x0, x1, -, -⟩ := x0
    have B2 := hid b2
    clear H b1 b2
    go_wp2_with fail
    refine (HI.out _ B2.out).mono ?_
    rintro e w2 ⟨rfl, b3⟩
    have B3 := hid (bel_go b3 B2.out)
    clear HI b3
    go_wp2
    go_ret2
    exact ⟨rfl, B3.out⟩
  · show Calls _ _ _ _ (RHolds (true && x != 0) 0 w)
    rw [Bool.true_and]
    go_enter Tryz.func19, Tryz.ntmps19
    go_wp2_with fail
    refine H.out.mono ?_
    rintro e w1 ⟨v1, rfl, hi, -, b1⟩
    obtain ⟨qb, qo, qc, qx, q1, q2, q3, rfl, hqb, m0, m1, hr⟩ := hi.at k t3
    have b2 := bel_go b1 B0.out
    have x0 := two_cells ((b1.block w.heap.size Z0.out).trans E0.out)
    obtain ⟨x0, x1, -, -⟩ := x0
    have B2 := hid b2
    rw [← Hx.out] at hr
    have Hr := hid hr; have Hqb := hid hqb
    clear H b1 b2 hi hr hqb
    go_wp2_with fail
    refine (HI.out _ B2.out).mono ?_
    rintro e w2 ⟨rfl, b3⟩
    have m0 := (b3.cell (p := ⟨qb, qo + k * 2, none⟩) Hqb.out).trans m0
    have m1 := (b3.cell (p := ⟨qb, qo + k * 2 + 1, none⟩) Hqb.out).trans m1
    have B3 := hid (bel_go b3 B2.out)
    have HT := hid (isTrue_any _ x w2 (Hr.out.below b3))
    clear HI b3 Hr
    generalize (x != 0) = r at *
    go_wp2_with fail
    refine HT.out.mono ?_
    rintro e w3 ⟨rfl, b4⟩
    have B4 := hid (bel_go b4 B3.out)
    clear HT b4
    go_wp2
    go_ret2
    exact ⟨rfl, B4.out⟩
end Go.Proofs.YtckkpolikdnilaaGreatDoor
/- Of rows that may be: each term's parts stand ahead of it, the terms have their sorts, and the values' sizes are bounded. -/
namespace Go.Proofs.YtckkpolikdnilaaGreatDoor
open Big

/-- the pool behind so many terms more -/
def stepPo : Po → List Tm → Po
  | p, [] => p
  | p, t :: l => stepPo ⟨p.syms, p.terms ++ [t], p.sorts ++ [plSort p t]⟩ l
theorem stepPo_syms : ∀ (l : List Tm) (p : Po), (stepPo p l).syms = p.syms
  | [], _ => rfl
  | _ :: l, _ => by unfold stepPo; rw [stepPo_syms l]
theorem stepPo_terms : ∀ (l : List Tm) (p : Po), (stepPo p l).terms = p.terms ++ l
  | [], _ => by simp [stepPo]
  | _ :: l, _ => by unfold stepPo; rw [stepPo_terms l]; simp
theorem stepPo_append : ∀ (l m : List Tm) (p : Po), stepPo p (l ++ m) = stepPo (stepPo p l) m
  | [], _, _ => rfl
  | t :: l, m, p => stepPo_append l m ⟨p.syms, p.terms ++ [t], p.sorts ++ [plSort p t]⟩
theorem stepPo_sorts : ∀ (l : List Tm) (p : Po), ∃ r, (stepPo p l).sorts = p.sorts ++ r ∧ r.length = l.length
  | [], _ => ⟨[], by simp [stepPo], rfl⟩
  | t :: l, p => by
    obtain ⟨r, h, hr⟩ := stepPo_sorts l ⟨p.syms, p.terms ++ [t], p.sorts ++ [plSort p t]⟩
    exact ⟨plSort p t :: r, by unfold stepPo; rw [h]; simp, by simp [hr]⟩
theorem steps_at : ∀ (l : List Tm) (p : Po), Steps p l → ∀ k (h : k < l.length), plWrong (stepPo p (l.take k)) l[k] = 0
  | _ :: _, _, h, 0, _ => h.1
  | _ :: l, _, h, k + 1, hk => steps_at l _ h.2 k (by simpa using hk)
theorem steps_take : ∀ (l : List Tm) (p : Po) (k : Nat), Steps p l → Steps p (l.take k)
  | [], _, k, _ => by simp [Steps]
  | _ :: _, _, 0, _ => trivial
  | _ :: l, _, k + 1, h => ⟨h.1, steps_take l _ k h.2⟩
theorem known_steps (ts : List Tb5) : ∀ (l : List Tm) (p : Po) (known : List Int), Known p known → Steps p l → Known (stepPo p l) (vlEval p.syms ts l known)
  | [], _, _, hk, _ => hk
  | _ :: l, p, _, hk, h => known_steps ts l ⟨p.syms, _, _⟩ _ (hk.snoc ts (right_of h.1)) h.2
theorem known_none (syms : List Sy) : Known ⟨syms, [], []⟩ [] := ⟨rfl, rfl, fun a h0 h1 => by simp at h1; omega⟩
/-- rows that may be -/
def poAt (syms : List Sy) (terms : List Tm) (k : Nat) : Po := stepPo ⟨syms, [], []⟩ (terms.take k)
theorem poAt_syms (syms : List Sy) (terms : List Tm) (k : Nat) : (poAt syms terms k).syms = syms := stepPo_syms _ _
theorem poAt_terms (syms : List Sy) (terms : List Tm) (k : Nat) : (poAt syms terms k).terms = terms.take k := by unfold poAt; rw [stepPo_terms]; simp
theorem poAt_succ (syms : List Sy) (terms : List Tm) (k : Nat) (h : k < terms.length) : poAt syms terms (k + 1) = ⟨syms, terms.take k ++ [terms[k]], (poAt syms terms k).sorts ++ [plSort (poAt syms terms k) terms[k]]⟩ := by
  have h1 : terms.take (k + 1) = terms.take k ++ [terms[k]] := List.take_succ_eq_append_getElem h
  have h2 := poAt_syms syms terms k
  have h3 := poAt_terms syms terms k
  unfold poAt at *
  rw [h1, stepPo_append]
  show (⟨(stepPo _ _).syms, (stepPo _ _).terms ++ [terms[k]], _⟩ : Po) = _
  rw [h2, h3]
theorem poAt_len (syms : List Sy) (terms : List Tm) (k : Nat) (h : k ≤ terms.length) : (poAt syms terms k).sorts.length = k := by
  obtain ⟨r, h1, h2⟩ := stepPo_sorts (terms.take k) ⟨syms, [], []⟩
  unfold poAt
  rw [h1]
  simp [h2]; omega
/-- the sort of the term at a place -/
def sortAt (syms : List Sy) (terms : List Tm) (k : Nat) : Int := plSortAt (poAt syms terms terms.length) (k : Nat)
theorem sorts_pre (syms : List Sy) (terms : List Tm) (k : Nat) (hk : k ≤ terms.length) (a : Nat) (ha : a < k) : plSortAt (poAt syms terms k) (a : Nat) = sortAt syms terms a := by
  unfold sortAt plSortAt
  have h1 : terms.take terms.length = terms.take k ++ terms.drop k := by simp
  obtain ⟨r, h2, -⟩ := stepPo_sorts (terms.drop k) (poAt syms terms k)
  have h3 : (poAt syms terms terms.length).sorts = (poAt syms terms k).sorts ++ r := by
    rw [← h2]
    unfold poAt
    rw [h1, stepPo_append]
  rw [h3, List.getElem?_append_left (by rw [poAt_len syms terms k hk]; simpa using ha)]
variable {syms : List Sy} {terms : List Tm}
theorem right_at (h : Steps ⟨syms, [], []⟩ terms) (k : Nat) (hk : k < terms.length) : Right (poAt syms terms k) terms[k] := right_of (steps_at terms _ h k hk)
theorem part_at (h : Steps ⟨syms, [], []⟩ terms) (k : Nat) (hk : k < terms.length) : ∀ a ∈ terms[k].args, 0 ≤ a ∧ a < (k : Int) := by
  intro a ha
  have h1 := (right_at h k hk).part a ha
  rw [poAt_terms, List.length_take] at h1
  omega
theorem sort_at (k : Nat) (hk : k < terms.length) : sortAt syms terms k = plSort (poAt syms terms k) terms[k] := by
  rw [← sorts_pre syms terms (k + 1) (by omega) k (by omega), poAt_succ syms terms k hk]
  unfold plSortAt
  simp [poAt_len syms terms k (by omega)]
theorem known_at (ts : List Tb5) (h : Steps ⟨syms, [], []⟩ terms) (k : Nat) : Known (poAt syms terms k) (vlEval syms ts (terms.take k) []) := by
  exact known_steps ts (terms.take k) ⟨syms, [], []⟩ [] (known_none syms) (steps_take terms _ k h)
theorem sorts_of (h : Steps ⟨syms, [], []⟩ terms) : VlSorts syms terms (sortAt syms terms) := by
  refine ⟨fun k hk e => ?_, fun k hk e => ?_, fun k hk e => ?_, fun k hk e1 e2 e3 e4 e5 => ?_⟩
  · have hr := right_at h k hk
    have hc := hr.count (by omega)
    have h1 : 1 < terms[k].args.length := by
      rw [e] at hc
      have h3 : (plRu 9).least = 3 := by decide
      omega
    have h2 := part_at h k hk _ (List.getElem_mem h1)
    refine ⟨(terms[k].args[1]).toNat, h1, by omega, by omega, ?_⟩
    rw [sort_at k hk, ← sorts_pre syms terms k (by omega) _ (by omega)]
    unfold plSort
    rw [if_neg (by omega), if_pos e, List.getElem?_eq_getElem h1]
    show plSortAt _ (terms[k].args[1]) = _
    congr 1; omega
  · rw [sort_at k hk]
    unfold plSort
    rcases e with e | e | e <;> rw [e, if_neg (by decide), if_neg (by decide)] <;> decide
  · have hs := (right_at h k hk).sym e
    rw [poAt_syms] at hs
    refine ⟨terms[k].sym.toNat, by omega, by omega, ?_⟩
    rw [sort_at k hk]
    unfold plSort plSymAt
    rw [if_pos e, poAt_syms, List.getElem?_eq_getElem (by omega)]
    rfl
  · obtain ⟨r, hr⟩ := (right_at h k hk).rule
    rw [sort_at k hk]
    unfold plSort
    rw [if_neg e5, if_neg e1]
    rcases rule_ops hr with e | e | e | e | e | e | e | e | e | e | e | e | e <;> first | omega | (rw [e]; decide)
theorem op_at (ts : List Tb5) (h : Steps ⟨syms, [], []⟩ terms) (k : Nat) (hk : k < terms.length) :
    vlRefOp syms ts terms[k] (vlParts terms[k] (vlEval syms ts (terms.take k) [])) = vlOp syms ts terms[k] (vlParts terms[k] (vlEval syms ts (terms.take k) [])) := by
  have := op_ref (p := poAt syms terms k) ts (known_at ts h k) (right_at h k hk)
  rwa [poAt_syms] at this
/-! ### sizes -/
def Sized (N : Nat) (ts : List Tb5) : Prop := ∀ t ∈ ts, sz Big.W t.els.natAbs ≤ N ∧ ∀ r ∈ t.rows, sz Big.W r.2.natAbs ≤ N
theorem sz_small {N : Nat} {z : Int} (h : sz Big.W z.natAbs ≤ N) : z.natAbs < Big.W ^ N :=
  Nat.lt_of_lt_of_le (lt_pow_sz W2 _) (Nat.pow_le_pow_right (by decide) h)
theorem truth_size (b : Bool) : sz Big.W (vlTruth b).natAbs ≤ 1 := by cases b <;> decide +kernel
theorem sum_lt (B : Nat) : ∀ (l : List Int), (∀ z ∈ l, z.natAbs < B) → (vlSum l).natAbs ≤ l.length * B
  | [], _ => by simp [vlSum]
  | x :: l, h => by
    have h1 := h x (by simp)
    have h2 := sum_lt B l (fun z hz => h z (by simp [hz]))
    have h3 : (vlSum (x :: l)).natAbs ≤ x.natAbs + (vlSum l).natAbs := Int.natAbs_add_le _ _
    rw [List.length_cons, Nat.succ_mul]
    omega
theorem sum_size {N : Nat} {l : List Int} (h : ∀ z ∈ l, sz Big.W z.natAbs ≤ N) (hl : l.length ≤ 64) : sz Big.W (vlSum l).natAbs ≤ N + 1 := by
  refine sz_le_of_lt W2 ?_
  have h1 := sum_lt (Big.W ^ N) l (fun z hz => sz_small (h z hz))
  have h2 : l.length * Big.W ^ N ≤ 64 * Big.W ^ N := Nat.mul_le_mul_right _ hl
  have h3 : 64 * Big.W ^ N < Big.W * Big.W ^ N := Nat.mul_lt_mul_of_pos_right (by decide) (Nat.pow_pos (by decide))
  rw [Nat.pow_succ, Nat.mul_comm]
  omega
theorem tell_size {N : Nat} (hN : 1 ≤ N) {ts : List Tb5} (hts : Sized N ts) (so k : Int) (l : List Int) : sz Big.W (vlTell so (vlTabAt ts k) l).natAbs ≤ N := by
  unfold vlTell
  split
  · exact Nat.le_trans (truth_size _) hN
  · unfold vlTabAt
    rcases hk : ts[k.toNat]? with _ | t
    · show sz Big.W (vlVal ⟨[], 0⟩ l).natAbs ≤ N
      have : vlVal ⟨[], 0⟩ l = 0 := rfl
      rw [this]
      show sz Big.W 0 ≤ N
      rw [sz_zero]; omega
    · show sz Big.W (vlVal t l).natAbs ≤ N
      have hm := hts t (List.mem_of_getElem? hk)
      unfold vlVal
      split
      · next i hi =>
        rcases hr : t.rows[i]? with _ | r
        · show sz Big.W (0 : Int).natAbs ≤ N
          rw [show (0 : Int).natAbs = 0 from rfl, sz_zero]; omega
        · exact hm.2 r (List.mem_of_getElem? hr)
      · exact hm.1
theorem at_size {N : Nat} {l : List Int} (h : ∀ z ∈ l, sz Big.W z.natAbs ≤ N) (k : Int) : sz Big.W (vlAt l k).natAbs ≤ N := by
  unfold vlAt
  rcases hk : l[k.toNat]? with _ | z
  · show sz Big.W (0 : Int).natAbs ≤ N
    rw [show (0 : Int).natAbs = 0 from rfl, sz_zero]; omega
  · exact h z (List.mem_of_getElem? hk)
theorem parts_size {N : Nat} {t : Tm} {known : List Int} (h : ∀ z ∈ known, sz Big.W z.natAbs ≤ N) : ∀ z ∈ vlParts t known, sz Big.W z.natAbs ≤ N := by
  intro z hz
  unfold vlParts at hz
  obtain ⟨a, -, rfl⟩ := List.mem_map.1 hz
  exact at_size h a
theorem op_size {N M : Nat} (hN : 1 ≤ N) {ts : List Tb5} (hts : Sized N ts) {t : Tm} (ht : sz Big.W t.num.natAbs ≤ N) {l : List Int} (hl : ∀ z ∈ l, sz Big.W z.natAbs ≤ M) (hc : t.op = 12 → l.length ≤ 64) :
    sz Big.W (vlOp syms ts t l).natAbs ≤ M + N := by
  unfold vlOp
  have hb : ∀ b, sz Big.W (vlTruth b).natAbs ≤ M + N := fun b => Nat.le_trans (truth_size b) (by omega)
  repeat' split
  all_goals first
    | exact hb _
    | omega
    | exact Nat.le_trans (tell_size hN hts _ _ _) (by omega)
    | exact Nat.le_trans (at_size hl _) (by omega)
    | exact Nat.le_trans (sum_size hl (hc (by assumption))) (by omega)
    | skip
  rw [Int.natAbs_mul]
  have h1 := sz_mul W2 t.num.natAbs (vlAt l 0).natAbs
  have h2 := at_size hl 0
  omega
theorem count_at (h : Steps ⟨syms, [], []⟩ terms) (k : Nat) (hk : k < terms.length) : terms[k].op = 12 → terms[k].args.length ≤ 64 := by
  intro e
  have hc := (right_at h k hk).count (by omega)
  rw [e] at hc
  have h3 : (plRu 12).most = 64 := by decide
  omega
theorem eval_size {N : Nat} (hN : 1 ≤ N) {ts : List Tb5} (hts : Sized N ts) (h : Steps ⟨syms, [], []⟩ terms) (hn : ∀ t ∈ terms, sz Big.W t.num.natAbs ≤ N) : ∀ k, k ≤ terms.length → ∀ z ∈ vlEval syms ts (terms.take k) [], sz Big.W z.natAbs ≤ k * N := by
  intro k
  induction k with
  | zero => intro _ z hz; simp [vlEval] at hz
  | succ k ih =>
    intro hk z hz
    have ih := ih (by omega)
    have hk' : k < terms.length := by omega
    rw [List.take_succ_eq_append_getElem hk', vlEval_snoc] at hz
    rcases List.mem_append.1 hz with hz | hz
    · exact Nat.le_trans (ih z hz) (Nat.mul_le_mul_right _ (by omega))
    · have e : z = _ := List.mem_singleton.1 hz
      rw [e, Nat.succ_mul]
      exact op_size hN hts (hn _ (List.getElem_mem hk')) (parts_size ih) (fun e => by simp only [vlParts, List.length_map]; exact count_at h k hk' e)
/-- all that Eval asks of sizes -/
theorem fit_at {N : Nat} (hN : 1 ≤ N) {ts : List Tb5} (hts : Sized N ts) (h : Steps ⟨syms, [], []⟩ terms) (hn : ∀ t ∈ terms, sz Big.W t.num.natAbs ≤ N) (hl : syms.length ≤ ts.length) (hL : terms.length * N ≤ 268435456) :
    ∀ k (hk : k < terms.length), VlFit syms ts terms[k] (vlParts terms[k] (vlEval syms ts (terms.take k) [])) ∧ (∀ a ∈ terms[k].args, 0 ≤ a ∧ a < k) ∧ sz Big.W (vlOp syms ts terms[k] (vlParts terms[k] (vlEval syms ts (terms.take k) []))).natAbs ≤ 1099511627776 := by
  intro k hk
  have hr := right_at h k hk
  have hs := eval_size hN hts h hn k (by omega)
  have hp := parts_size (t := terms[k]) hs
  have hm : (k + 1) * N ≤ 268435456 := Nat.le_trans (Nat.mul_le_mul_right _ (by omega)) hL
  rw [Nat.succ_mul] at hm
  have hpl : (vlParts terms[k] (vlEval syms ts (terms.take k) [])).length = terms[k].args.length := by simp [vlParts]
  obtain ⟨r, hru⟩ := hr.rule
  have hnum := hn _ (List.getElem_mem hk)
  refine ⟨⟨?_, fun e => ?_, fun e => ?_, fun e => ?_, fun e => ?_, fun e j hj => ?_, ?_, fun z hz => ?_⟩, part_at h k hk, ?_⟩
  · have := rule_ops hru; omega
  · have := hr.sym e
    rw [poAt_syms] at this
    omega
  · have hc := hr.count (by omega)
    rw [hpl]
    rcases e with e | e <;> rw [e] at hc
    · have h3 : (plRu 5).least = 1 := by decide
      omega
    · have h3 : (plRu 13).least = 1 := by decide
      omega
  · have hc := hr.count (by omega)
    rw [hpl]
    rcases e with e | e | e <;> rw [e] at hc
    · have h3 : (plRu 8).least = 2 := by decide
      omega
    · have h3 : (plRu 10).least = 2 := by decide
      omega
    · have h3 : (plRu 11).least = 2 := by decide
      omega
  · have hc := hr.count (by omega)
    rw [hpl]
    rw [e] at hc
    have h3 : (plRu 9).least = 3 := by decide
    omega
  · have h64 := count_at h k hk e
    have := sum_size (N := k * N) (l := (vlParts terms[k] (vlEval syms ts (terms.take k) [])).take j) (fun z hz => hp z (List.mem_of_mem_take hz)) (by rw [List.length_take, hpl]; omega)
    omega
  · have : N ≤ k * N + N := by omega
    omega
  · have := hp z hz; omega
  · have := op_size (syms := syms) hN hts hnum hp (fun e => by rw [hpl]; exact count_at h k hk e)
    omega
end Go.Proofs.YtckkpolikdnilaaGreatDoor
/- elenchusref05's truth and sure. -/
namespace Go.Proofs.YtckkpolikdnilaaGreatDoor
open Go.RowKit Big Go.WideMaps

set_option maxRecDepth 100000 in
set_option maxHeartbeats 1600000 in
theorem rtruth_any (b : Bool) (w : World) : Calls Tryz.prog 39 #[.bool b] w (RInt (vlTruth b) w) := by
  have HP : Hid (Pair (w.alloc (.cells #[.bool false, .slice none 0 0] 44)) w.heap.size 44) := hid (Pair.new w false none 0 0 44)
  have H1 := hid (ROf_any 1 (w.alloc (.cells #[.bool false, .slice none 0 0] 44)) (by decide) (by decide))
  have H0 := hid (ROf_any 0 (w.alloc (.cells #[.bool false, .slice none 0 0] 44)) (by decide) (by decide))
  have b0 := hid (below1 w (.cells #[.bool false, .slice none 0 0] 44))
  cases b
  case false =>
    show Calls _ _ _ _ (RInt 0 w)
    go_enter Tryz.func39, Tryz.ntmps39
    go_wp2
    exact bodyPost_ret (v := .agg #[.bool false, .slice none 0 0]) (by simp [results, Tryz.results39, go_sem]) rfl ⟨_, rfl, IntAt.zero _, b0.out⟩
  case true =>
    show Calls _ _ _ _ (RInt 1 w)
    go_enter Tryz.func39, Tryz.ntmps39
    go_wp2_with fail
    refine H1.out.mono ?_
    rintro e w1 ⟨v, rfl, hi, hb⟩
    obtain ⟨p, n, c, rfl, hi⟩ := hi.shape
    have hpr := hid (HP.out.below hb)
    have hq := hpr.out.cells
    obtain ⟨_, _, q0, q1, q2, q3⟩ := hq
    have Hi := hid hi; have Hb := hid (bel_go hb b0.out)
    clear hi hb
    go_wp2
    exact bodyPost_ret (v := .agg #[.bool (decide ((1 : Int) < 0)), .slice p n c]) (by simp [results, Tryz.results39, go_sem, q0, q1]) rfl ⟨_, rfl, Hi.out.stored hpr.out _ _ _ _, Below.stored Hb.out (Nat.le_refl _) _ _⟩
set_option maxRecDepth 100000 in
set_option maxHeartbeats 1600000 in
theorem sure_any (v : Value) (z : Int) (w : World) (h : RawAt w v z) : Calls Tryz.prog 84 #[v] w (RBool (z != 0) w) := by
  obtain ⟨n, p, k, c, rfl⟩ := h.agg
  have b0 := below1 w (.cells #[.bool n, .slice p k c] 44)
  have H := hid (RSign_any _ z _ (h.below b0))
  have hs : Hid ((z.sign != 0) = (z != 0)) := hid (by unfold bne; rw [sign_zero])
  have b0 := hid b0
  generalize z.sign = s at *
  generalize hr : (z != 0) = r at *
  clear hr h
  go_enter Tryz.func84, Tryz.ntmps84
  go_wp2_with fail
  refine H.out.mono ?_
  rintro e w1 ⟨rfl, b1⟩
  have b1 := hid (bel_go b1 b0.out)
  clear H
  go_wp2
  go_ret
  exact ⟨by rw [← hs.out]; rfl, b1.out⟩
end Go.Proofs.YtckkpolikdnilaaGreatDoor
/- elenchuslaw05.fixed answers true. -/
namespace Go.Proofs.YtckkpolikdnilaaGreatDoor
open Go.RowKit Big Go.WideMaps

theorem IntAt.parts5 {w : World} {v : Value} {z : Int} (h : IntAt w v z) : ∃ b p n c, v = .agg #[.bool b, .slice p n c] ∧ IntAt w (.agg #[.bool b, .slice p n c]) z := by
  obtain ⟨p, n, c, e, h⟩ := h.shape
  exact ⟨_, p, n, c, e, h⟩
theorem NumsIn.one {w : World} {d : Bool} {s : Value} {z : Int} {t : TypeId} (h : RawAt w (.agg #[.bool d, s]) z) : NumsIn (w.alloc (.cells #[.bool d, s] t)) (.slice (some ⟨w.heap.size, 0, none⟩) 1 1) [z] := by
  have hn := heap_alloc_new w (.cells #[.bool d, s] t)
  refine ⟨_, 1, rfl, by simp, by simp [maxLen], by simp, fun _ => ⟨w.heap.size, 0, rfl, by rw [size_alloc]; omega, fun i hi => ?_⟩⟩
  obtain rfl : i = 0 := by simp at hi; omega
  refine ⟨d, s, ?_, ?_, h.below (below1 _ _)⟩
  · rw [cell_of_row _ _ _ _ _ _ hn]; rfl
  · rw [cell_of_row _ _ _ _ _ _ hn]; rfl
theorem RowsIn.one {w : World} {a s : Value} {d : Bool} {x : List Int × Int} {t : TypeId} (h : RowIs w a d s x) : RowsIn (w.alloc (.cells #[a, .bool d, s] t)) (.slice (some ⟨w.heap.size, 0, none⟩) 1 1) [x] := by
  have hn := heap_alloc_new w (.cells #[a, .bool d, s] t)
  refine ⟨_, 1, rfl, by simp, by simp [maxLen], by simp, fun _ => ⟨w.heap.size, 0, rfl, by rw [size_alloc]; omega, fun i hi => ?_⟩⟩
  obtain rfl : i = 0 := by simp at hi; omega
  refine ⟨a, d, s, ?_, ?_, ?_, h.1.below (below1 _ _), h.2.below (below1 _ _)⟩
  · rw [cell_of_row _ _ _ _ _ _ hn]; rfl
  · rw [cell_of_row _ _ _ _ _ _ hn]; rfl
  · rw [cell_of_row _ _ _ _ _ _ hn]; rfl
theorem IAt.one5 (w : World) (z : Int) (t : TypeId) : IAt (w.alloc (.cells #[.int .i64 z] t)) (.slice (some ⟨w.heap.size, 0, none⟩) 1 1) [z] := by
  have hn := heap_alloc_new w (.cells #[.int .i64 z] t)
  refine ⟨_, 1, rfl, by simp, by simp [maxLen], by simp, fun _ => ⟨w.heap.size, 0, rfl, by rw [size_alloc]; omega, fun i hi => ?_⟩⟩
  obtain rfl : i = 0 := by simp at hi; omega
  rw [cell_of_row _ _ _ _ _ _ hn]; rfl
def fixTms : List Tm := [⟨2, [], 0, 0⟩, ⟨5, [0], 0, 0⟩]
theorem fixTms_in (w : World) (t t' : TypeId) : TmsIn ((w.alloc (.cells #[.int .i64 0] t)).alloc (.cells #[.int .i64 2, .slice none 0 0, .bool false, .slice none 0 0, .int .i64 0, .int .i64 5, .slice (some ⟨w.heap.size, 0, none⟩) 1 1, .bool false, .slice none 0 0, .int .i64 0] t')) (.slice (some ⟨w.heap.size + 1, 0, none⟩) 2 2) fixTms := by
  have hz := size_alloc w (.cells #[.int .i64 0] t)
  have hn := heap_alloc_new (w.alloc (.cells #[.int .i64 0] t)) (.cells #[.int .i64 2, .slice none 0 0, .bool false, .slice none 0 0, .int .i64 0, .int .i64 5, .slice (some ⟨w.heap.size, 0, none⟩) 1 1, .bool false, .slice none 0 0, .int .i64 0] t')
  rw [hz] at hn
  have hi := (IAt.one5 w 0 t).below (below1 _ (.cells #[.int .i64 2, .slice none 0 0, .bool false, .slice none 0 0, .int .i64 0, .int .i64 5, .slice (some ⟨w.heap.size, 0, none⟩) 1 1, .bool false, .slice none 0 0, .int .i64 0] t'))
  refine ⟨_, 2, rfl, by decide, by simp [maxLen], by simp, fun _ => ⟨w.heap.size + 1, 0, rfl, by rw [size_alloc, hz]; omega, fun i hi' => ?_⟩⟩
  have hz0 : ∀ W, RawAt W (.agg #[.bool false, .slice none 0 0]) 0 := fun W => (IntAt.zero W).raw (by show sz Big.W 0 ≤ _; rw [sz_zero]; omega)
  rcases i with _ | _ | i
  · refine ⟨_, _, _, _, _, by rw [cell_of_row _ _ _ _ _ _ hn]; rfl, by rw [cell_of_row _ _ _ _ _ _ hn]; rfl, by rw [cell_of_row _ _ _ _ _ _ hn]; rfl, by rw [cell_of_row _ _ _ _ _ _ hn]; rfl, by rw [cell_of_row _ _ _ _ _ _ hn]; rfl, none, 0, false, none, 0, 0, rfl, ⟨none, 0, rfl, by simp [fixTms], by simp [maxLen], fun _ => rfl, fun h => absurd h (by simp [fixTms])⟩, hz0 _⟩
  · refine ⟨_, _, _, _, _, by rw [cell_of_row _ _ _ _ _ _ hn]; rfl, by rw [cell_of_row _ _ _ _ _ _ hn]; rfl, by rw [cell_of_row _ _ _ _ _ _ hn]; rfl, by rw [cell_of_row _ _ _ _ _ _ hn]; rfl, by rw [cell_of_row _ _ _ _ _ _ hn]; rfl, _, 1, false, none, 0, 0, rfl, hi, hz0 _⟩
  · exact absurd hi' (by simp [fixTms])
theorem fixTms_check : plCheck [] fixTms = 0 := by kernel_rfl
theorem TabsIn.nil (w : World) : TabsIn w (.slice none 0 0) [] := ⟨none, 0, rfl, by simp, by simp [maxLen], fun _ => rfl, fun h => absurd h (by simp)⟩
set_option maxRecDepth 100000 in
set_option maxHeartbeats 6400000 in
theorem fixed5_any (w : World) (htab : Tb w.heap.size w) : Calls Tryz.prog 8 #[] w (RBool true w) := by
  have Htab := hid htab
  clear htab
  go_enter Tryz.func8, Tryz.ntmps8
  go_wp2_with fail
  refine (ROf_any 3 _ (by decide) (by decide)).mono ?_
  rintro e w1 ⟨v1, rfl, i1, b1⟩
  obtain ⟨d1, p1, n1, c1, rfl, i1⟩ := i1.parts5
  have h1 := NumsIn.one (t := 44) (i1.raw (by decide +kernel))
  have b2 := bel_go (below1 w1 (.cells #[.bool d1, .slice p1 n1 c1] 44)) b1
  have hgs := size_alloc w1 (.cells #[.bool d1, .slice p1 n1 c1] 44)
  generalize hW : w1.alloc (.cells #[.bool d1, .slice p1 n1 c1] 44) = w2 at *
  have H1 := hid h1; have B2 := hid b2
  clear h1 b2 b1 i1
  go_wp2_with fail
  refine (ROf_any 7 _ (by decide) (by decide)).mono ?_
  rintro e w3 ⟨v3, rfl, i3, b3⟩
  obtain ⟨d3, p3, n3, c3, rfl, i3⟩ := i3.parts5
  have h3 := RowsIn.one (t := 63) (x := ([3], 7)) ⟨H1.out.below b3, i3.raw (by decide +kernel)⟩
  have b4 := bel_go (below1 w3 (.cells #[.slice (some ⟨w1.heap.size, 0, none⟩) 1 1, .bool d3, .slice p3 n3 c3] 63)) (bel_go b3 B2.out)
  generalize hW2 : w3.alloc (.cells #[.slice (some ⟨w1.heap.size, 0, none⟩) 1 1, .bool d3, .slice p3 n3 c3] 63) = w4 at *
  have H3 := hid h3; have B4 := hid b4
  clear h3 b4 b3 i3
  go_wp2_with fail
  refine (ROf_any 1 _ (by decide) (by decide)).mono ?_
  rintro e w5 ⟨v5, rfl, i5, b5⟩
  obtain ⟨d5, p5, n5, c5, rfl, i5⟩ := i5.parts5
  go_upto_region 2 with fail
  have b6 := below1 w5 (.cells #[.slice (some ⟨w3.heap.size, 0, none⟩) 1 1, .bool d5, .slice p5 n5 c5] 46)
  have x6 := heap_alloc_new w5 (.cells #[.slice (some ⟨w3.heap.size, 0, none⟩) 1 1, .bool d5, .slice p5 n5 c5] 46)
  have z6 := size_alloc w5 (.cells #[.slice (some ⟨w3.heap.size, 0, none⟩) 1 1, .bool d5, .slice p5 n5 c5] 46)
  generalize hW6 : World.alloc w5 _ = w6 at *
  have HT := hid (show TabIs w6 (.slice (some ⟨w3.heap.size, 0, none⟩) 1 1) d5 (.slice p5 n5 c5) ⟨[([3], 7)], 1⟩ from ⟨(H3.out.below b5).below b6, (i5.raw (by decide +kernel)).below b6⟩)
  have B6 := hid (bel_go b6 (bel_go b5 B4.out))
  obtain ⟨gt, hgt⟩ : ∃ gt, gt = w5.heap.size := ⟨_, rfl⟩
  rw [← hgt] at x6 z6 ⊢
  have X6 := hid x6; have Z6 := hid z6
  clear b5 b6 i5 x6 z6 hgt hW6 H1 H3 B2 B4
  go_upto_region 3 with fail
  have b7 := below1 w6 (.cells #[.string ⟨#[102]⟩, .int .i64 1, .int .i64 2] 39)
  have x7 := heap_alloc_new w6 (.cells #[.string ⟨#[102]⟩, .int .i64 1, .int .i64 2] 39)
  have z7 := size_alloc w6 (.cells #[.string ⟨#[102]⟩, .int .i64 1, .int .i64 2] 39)
  generalize hW7 : World.alloc w6 _ = w7 at *
  obtain ⟨gf, hgf⟩ : ∃ gf, gf = w6.heap.size := ⟨_, rfl⟩
  rw [← hgf] at x7 z7 ⊢
  have hgtf : gt < gf := by have := Z6.out; omega
  have HT7 := hid (HT.out.below b7)
  have B7 := hid (bel_go b7 B6.out)
  have X7 := hid x7; have Z7 := hid z7
  have XT := hid ((b7.block gt (by have := Z6.out; omega)).trans X6.out)
  clear b7 x7 z7 hgf HT B6 X6 hW7
  have htm := fixTms_in w7 3 71
  have b9 : Below w7.heap.size w7 ((w7.alloc (.cells #[.int .i64 0] 3)).alloc (.cells #[.int .i64 2, .slice none 0 0, .bool false, .slice none 0 0, .int .i64 0, .int .i64 5, .slice (some ⟨w7.heap.size, 0, none⟩) 1 1, .bool false, .slice none 0 0, .int .i64 0] 71)) := (below1 w7 _).alloc (by simp) _
  generalize hW9 : (w7.alloc (.cells #[.int .i64 0] 3)).alloc (.cells #[.int .i64 2, .slice none 0 0, .bool false, .slice none 0 0, .int .i64 0, .int .i64 5, .slice (some ⟨w7.heap.size, 0, none⟩) 1 1, .bool false, .slice none 0 0, .int .i64 0] 71) = w9 at *
  have hst : Steps ⟨[], [], []⟩ fixTms := steps_of_news fixTms ⟨[], [], []⟩ (by decide) (by kernel_rfl)
  have HE := hid (Eval_ok _ _ _ [] fixTms [] w9 (tab_later Htab.out (bel_go b9 B7.out)) (SyIn.nil w9) htm (TabsIn.nil w9) (by decide) (by decide) fixTms_check (by decide) (by decide) (fit_at (N := 1) (Nat.le_refl _) (fun t h => by cases h) hst (by decide +kernel) (by decide) (by decide)))
  rw [show vlEval [] [] fixTms [] = [0, 1] from by decide] at HE
  have B9 := hid b9
  have XF9 := hid ((b9.block gf (by have := Z7.out; omega)).trans X7.out)
  have XT9 := hid ((b9.block gt (by have := Z7.out; omega)).trans XT.out)
  have HT9 := hid (HT7.out.below b9)
  have hg9 : gf < w9.heap.size := by have := b9.size; have := Z7.out; omega
  clear htm hst b9
  go_wp2_with fail
  refine HE.out.mono ?_
  rintro e w10 ⟨vl, rfl, hin, -, b10⟩
  have hat := hin.at 1 (by decide)
  obtain ⟨b5, o5, c5', x5, q5, d5', g5, rfl, hb5, n0, n1, hr⟩ := hat
  have n0 : w10.cell? ⟨b5, o5 + 2, none⟩ = some (.bool x5) := n0
  have n1 : w10.cell? ⟨b5, o5 + 3, none⟩ = some (.slice q5 d5' g5) := n1
  have hr : RawAt w10 (.agg #[.bool x5, .slice q5 d5' g5]) 1 := hr
  have hxf := rec3_cells ((b10.block gf hg9).trans XF9.out)
  have hxt := rec3_cells ((b10.block gt (by omega)).trans XT9.out)
  have HT10 := hid (HT9.out.below b10)
  have HW10 := hid (bel_go b10 (bel_go B9.out B7.out))
  have hg10 : gf < w10.heap.size := by have := b10.size; omega
  have HR := hid hr
  have Htl := hid (fun (w' : World) (v : Value) (z y : Int) (hb : Below w10.heap.size w10 w') (hn : NumsIn w' v [z]) (hy : vlTell 2 ⟨[([3], 7)], 1⟩ [z] = y) => (by rw [← hy]; exact Tell_any (.string ⟨#[102]⟩) ⟨_, rfl⟩ 1 2 _ _ _ _ _ [z] w' (HT10.out.below hb) hn : Calls Tryz.prog 15 #[.agg #[.string ⟨#[102]⟩, .int .i64 1, .int .i64 2], .agg #[.slice (some ⟨w3.heap.size, 0, none⟩) 1 1, .bool d5, .slice p5 n5 c5], v] w' (RInt y w')))
  have Hsg := hid (fun (w' : World) (hb : Below w10.heap.size w10 w') => RSign_any _ 1 w' (HR.out.below hb))
  have HS : Hid (∀ w', Below w10.heap.size w10 w' → w'.cell? ⟨gf, 0, none⟩ = some (.string ⟨#[102]⟩) ∧ w'.cell? ⟨gf, 1, none⟩ = some (.int .i64 1) ∧ w'.cell? ⟨gf, 2, none⟩ = some (.int .i64 2) ∧ w'.cell? ⟨gt, 0, none⟩ = some (.slice (some ⟨w3.heap.size, 0, none⟩) 1 1) ∧ w'.cell? ⟨gt, 1, none⟩ = some (.bool d5) ∧ w'.cell? ⟨gt, 2, none⟩ = some (.slice p5 n5 c5) ∧ w'.cell? ⟨b5, o5 + 2, none⟩ = some (.bool x5) ∧ w'.cell? ⟨b5, o5 + 3, none⟩ = some (.slice q5 d5' g5) ∧ Below w10.heap.size w10 w') := hid fun w' hb =>
    ⟨(hb.cell (p := ⟨gf, 0, none⟩) hg10).trans hxf.1, (hb.cell (p := ⟨gf, 1, none⟩) hg10).trans hxf.2.1, (hb.cell (p := ⟨gf, 2, none⟩) hg10).trans hxf.2.2, (hb.cell (p := ⟨gt, 0, none⟩) (by show gt < _; omega)).trans hxt.1, (hb.cell (p := ⟨gt, 1, none⟩) (by show gt < _; omega)).trans hxt.2.1, (hb.cell (p := ⟨gt, 2, none⟩) (by show gt < _; omega)).trans hxt.2.2, (hb.cell (p := ⟨b5, o5 + 2, none⟩) hb5).trans n0, (hb.cell (p := ⟨b5, o5 + 3, none⟩) hb5).trans n1, hb⟩
  have m0 := hid True.intro
  clear n0 n1 hr hxf hxt hin b10 HT10 HT9 XF9 XT9 HE B9 B7 X7 XT HT7 HR Htab hW hW2 hW9 hgs
  go_upto_region 4 with fail
  go_region_held3 (fun w' => w'.cell? ⟨gf, 0, none⟩ = some (.string ⟨#[102]⟩) ∧ w'.cell? ⟨gf, 1, none⟩ = some (.int .i64 1) ∧ w'.cell? ⟨gf, 2, none⟩ = some (.int .i64 2) ∧ w'.cell? ⟨gt, 0, none⟩ = some (.slice (some ⟨w3.heap.size, 0, none⟩) 1 1) ∧ w'.cell? ⟨gt, 1, none⟩ = some (.bool d5) ∧ w'.cell? ⟨gt, 2, none⟩ = some (.slice p5 n5 c5) ∧ w'.cell? ⟨b5, o5 + 2, none⟩ = some (.bool x5) ∧ w'.cell? ⟨b5, o5 + 3, none⟩ = some (.slice q5 d5' g5) ∧ Below w10.heap.size w10 w')
    (first | exact HS.out _ (Below.drew (Below.refl _ _)) | (refine HS.out _ (bel_go hb ?_); go_split_ands; assumption) | (refine HS.out _ (bel_go (below1 _ _) ?_); go_split_ands; assumption))
    (first
      | (go_at_call 26; refine (Hsg.out _ (by go_split_ands; assumption)).mono ?_; rintro e wa ⟨rfl, hb⟩)
      | (go_at_call 22; (fail_if_success have _t := m1); refine (ROf_any 3 _ (by decide) (by decide)).mono ?_; rintro e wb ⟨u1, rfl, j1, hb⟩; have j1p := j1.parts5; obtain ⟨e1, s1, l1, k1, rfl, j1⟩ := j1p; have m1 := hid True.intro)
      | (go_at_call 15; have _t := m1; (fail_if_success have _t := m2); refine (Htl.out _ _ 3 7 (by go_split_ands; assumption) (NumsIn.one (j1.raw (by decide +kernel))) (by decide)).mono ?_; rintro e wc ⟨u2, rfl, j2, hb⟩; have m2 := hid True.intro)
      | (go_at_call 22; have _t := m2; (fail_if_success have _t := m3); refine (ROf_any 7 _ (by decide) (by decide)).mono ?_; rintro e wd ⟨u3, rfl, j3, hb⟩; have j2 := j2.below hb; have m3 := hid True.intro)
      | (go_at_call 14; have _t := m3; (fail_if_success have _t := m4); refine (SameInt_same _ _ 7 _ j2 j3).mono ?_; rintro e we ⟨rfl, hb⟩; have m4 := hid True.intro)
      | (go_at_call 22; have _t := m4; (fail_if_success have _t := m5); refine (ROf_any 4 _ (by decide) (by decide)).mono ?_; rintro e wf ⟨u5, rfl, j5, hb⟩; have j5p := j5.parts5; obtain ⟨e5, s5, l5, k5, rfl, j5⟩ := j5p; have m5 := hid True.intro)
      | (go_at_call 15; have _t := m5; (fail_if_success have _t := m6); refine (Htl.out _ _ 4 1 (by go_split_ands; assumption) (NumsIn.one (j5.raw (by decide +kernel))) (by decide)).mono ?_; rintro e wg ⟨u6, rfl, j6, hb⟩; have m6 := hid True.intro)
      | (go_at_call 22; have _t := m6; (fail_if_success have _t := m7); refine (ROf_any 1 _ (by decide) (by decide)).mono ?_; rintro e wh ⟨u7, rfl, j7, hb⟩; have j6 := j6.below hb; have m7 := hid True.intro)
      | (go_at_call 14; have _t := m7; refine (SameInt_same _ _ 1 _ j6 j7).mono ?_; rintro e wi ⟨rfl, hb⟩))
  all_goals
    rename_i hHeld
    go_split_ands
    have HBf := hid (show Below w10.heap.size w10 wi by assumption)
    clear hb
    go_wp2_with fail
    go_ret
    exact ⟨rfl, bel_go HBf.out HW10.out⟩
end Go.Proofs.YtckkpolikdnilaaGreatDoor
/- Numbers, rows, tables and models as they come in: by sign and words; how they read as numbers. -/
namespace Go.Proofs.YtckkpolikdnilaaGreatDoor
open Go.RowKit Big Go.WideMaps

/-- a row whose parts of k cells are told by Q -/
def LsIn {α : Type} (k : Nat) (Q : World → List Value → α → Prop) (w : World) (v : Value) (l : List α) : Prop :=
  ∃ p cap, v = .slice p l.length cap ∧ l.length ≤ cap ∧ cap ≤ maxLen ∧ (p = none → cap = 0) ∧
    (0 < l.length → ∃ b off, p = some ⟨b, off, none⟩ ∧ b < w.heap.size ∧ ∀ i (h : i < l.length), ∃ c : List Value, (∀ j u, c[j]? = some u → w.cell? ⟨b, off + i * k + j, none⟩ = some u) ∧ Q w c l[i])
theorem LsIn.below {α : Type} {k : Nat} {Q : World → List Value → α → Prop} (hQ : ∀ {w w' : World} {c : List Value} {x : α}, Q w c x → Below w.heap.size w w' → Q w' c x) {w w' : World} {v : Value} {l : List α} (h : LsIn k Q w v l) (hb : Below w.heap.size w w') : LsIn k Q w' v l := by
  obtain ⟨p, cap, rfl, h1, h2, h3, h4⟩ := h
  refine ⟨p, cap, rfl, h1, h2, h3, fun hp => ?_⟩
  obtain ⟨b, off, h5, h6, h7⟩ := h4 hp
  refine ⟨b, off, h5, Nat.lt_of_lt_of_le h6 hb.size, fun i hi => ?_⟩
  obtain ⟨c, k1, k2⟩ := h7 i hi
  exact ⟨c, fun j u hj => (hb.cell (p := ⟨b, off + i * k + j, none⟩) h6).trans (k1 j u hj), hQ k2 hb⟩
/-- a number as it comes in -/
structure Nx where
  neg : Bool
  words : List Nat
def Nx.z (x : Nx) : Int := sg x.neg (val W x.words)
def NxQ (w : World) (c : List Value) (x : Nx) : Prop := ∃ p cp, c = [.bool x.neg, .slice p x.words.length cp] ∧ At w .u64 (.slice p x.words.length cp) x.words ∧ Small W x.words
theorem NxQ.below {w w' : World} {c : List Value} {x : Nx} (h : NxQ w c x) (hb : Below w.heap.size w w') : NxQ w' c x := by
  obtain ⟨p, cp, e, h1, h2⟩ := h
  exact ⟨p, cp, e, h1.below hb, h2⟩
def Nx.fit (x : Nx) : Prop := x.words.length ≤ 6
theorem NxQ.raw {w : World} {n s : Value} {x : Nx} (h : NxQ w [n, s] x) (hf : x.fit) : RawAt w (.agg #[n, s]) x.z := by
  obtain ⟨p, cp, e, h1, h2⟩ := h
  injection e with e0 e
  injection e with e1 _
  subst e0 e1
  exact ⟨_, _, _, rfl, h1, h2, Nat.le_trans hf (by decide), rfl⟩
theorem NxQ.small {w : World} {c : List Value} {x : Nx} (h : NxQ w c x) (hf : x.fit) : sz W x.z.natAbs ≤ 6 := by
  obtain ⟨p, cp, e, h1, h2⟩ := h
  unfold Nx.z
  rw [sg_natAbs]
  exact Nat.le_trans (sz_val W2 h2) hf
abbrev NxsIn := LsIn 2 NxQ
theorem NxsIn.below {w w' : World} {v : Value} {l : List Nx} (h : NxsIn w v l) (hb : Below w.heap.size w w') : NxsIn w' v l := LsIn.below (Q := NxQ) (fun h hb => NxQ.below h hb) h hb
theorem NxsIn.nums {w : World} {v : Value} {l : List Nx} (h : NxsIn w v l) (hf : ∀ x ∈ l, x.fit) : NumsIn w v (l.map Nx.z) := by
  obtain ⟨p, cap, rfl, h1, h2, h3, h4⟩ := h
  refine ⟨p, cap, by rw [List.length_map], by rw [List.length_map]; exact h1, h2, h3, fun hp => ?_⟩
  rw [List.length_map] at hp
  obtain ⟨b, off, h5, h6, h7⟩ := h4 hp
  refine ⟨b, off, h5, h6, fun i hi => ?_⟩
  rw [List.length_map] at hi
  obtain ⟨c, k1, k2⟩ := h7 i hi
  obtain ⟨q, cq, e, k3, k4⟩ := id k2
  subst e
  refine ⟨_, _, k1 0 _ rfl, k1 1 _ rfl, ?_⟩
  rw [List.getElem_map]
  exact k2.raw (hf _ (List.getElem_mem hi))
theorem NxsIn.small {w : World} {v : Value} {l : List Nx} (h : NxsIn w v l) (hf : ∀ x ∈ l, x.fit) : ∀ z ∈ l.map Nx.z, sz W z.natAbs ≤ 6 := by
  intro z hz
  obtain ⟨x, hx, rfl⟩ := List.mem_map.1 hz
  obtain ⟨i, hi, rfl⟩ := List.mem_iff_getElem.1 hx
  obtain ⟨p, cap, -, -, -, -, h4⟩ := h
  obtain ⟨b, off, -, -, h7⟩ := h4 (by omega)
  obtain ⟨c, -, k2⟩ := h7 i hi
  exact k2.small (hf _ hx)
/-- a row of a table -/
structure Rx where
  args : List Nx
  val : Nx
def Rx.r (x : Rx) : List Int × Int := (x.args.map Nx.z, x.val.z)
def Rx.fit (x : Rx) : Prop := x.args.length ≤ 10 ∧ x.val.fit ∧ ∀ a ∈ x.args, a.fit
def RxQ (w : World) (c : List Value) (x : Rx) : Prop := ∃ a n s, c = [a, n, s] ∧ NxsIn w a x.args ∧ NxQ w [n, s] x.val
theorem RxQ.below {w w' : World} {c : List Value} {x : Rx} (h : RxQ w c x) (hb : Below w.heap.size w w') : RxQ w' c x := by
  obtain ⟨a, n, s, e, h1, h2⟩ := h
  exact ⟨a, n, s, e, h1.below hb, h2.below hb⟩
abbrev RxsIn := LsIn 3 RxQ
theorem RxsIn.below {w w' : World} {v : Value} {l : List Rx} (h : RxsIn w v l) (hb : Below w.heap.size w w') : RxsIn w' v l := LsIn.below (Q := RxQ) (fun h hb => RxQ.below h hb) h hb
theorem NxQ.two {w : World} {c : List Value} {x : Nx} (h : NxQ w c x) : ∃ s, c = [.bool x.neg, s] := by
  obtain ⟨p, cp, e, -⟩ := h
  exact ⟨_, e⟩
theorem RxsIn.rows {w : World} {v : Value} {l : List Rx} (h : RxsIn w v l) (hf : ∀ x ∈ l, x.fit) : RowsIn w v (l.map Rx.r) := by
  obtain ⟨p, cap, rfl, h1, h2, h3, h4⟩ := h
  refine ⟨p, cap, by rw [List.length_map], by rw [List.length_map]; exact h1, h2, h3, fun hp => ?_⟩
  rw [List.length_map] at hp
  obtain ⟨b, off, h5, h6, h7⟩ := h4 hp
  refine ⟨b, off, h5, h6, fun i hi => ?_⟩
  rw [List.length_map] at hi
  obtain ⟨c, k1, a, n, s, rfl, k2, k3⟩ := h7 i hi
  have hx := hf _ (List.getElem_mem hi)
  obtain ⟨s', e⟩ := k3.two
  injection e with e0 e
  injection e with e1 _
  subst e0 e1
  refine ⟨a, _, s, k1 0 _ rfl, k1 1 _ rfl, k1 2 _ rfl, ?_⟩
  rw [List.getElem_map]
  exact ⟨k2.nums hx.2.2, k3.raw hx.2.1⟩
/-- a table -/
structure Tbx where
  rows : List Rx
  els : Nx
def Tbx.t (x : Tbx) : Tb5 := ⟨x.rows.map Rx.r, x.els.z⟩
def Tbx.fit (x : Tbx) : Prop := x.rows.length ≤ 30 ∧ x.els.fit ∧ ∀ r ∈ x.rows, r.fit
def TbxQ (w : World) (c : List Value) (x : Tbx) : Prop := ∃ a n s, c = [a, n, s] ∧ RxsIn w a x.rows ∧ NxQ w [n, s] x.els
theorem TbxQ.below {w w' : World} {c : List Value} {x : Tbx} (h : TbxQ w c x) (hb : Below w.heap.size w w') : TbxQ w' c x := by
  obtain ⟨a, n, s, e, h1, h2⟩ := h
  exact ⟨a, n, s, e, h1.below hb, h2.below hb⟩
abbrev TbxsIn := LsIn 3 TbxQ
theorem TbxsIn.below {w w' : World} {v : Value} {l : List Tbx} (h : TbxsIn w v l) (hb : Below w.heap.size w w') : TbxsIn w' v l := LsIn.below (Q := TbxQ) (fun h hb => TbxQ.below h hb) h hb
theorem TbxQ.tab {w : World} {a n s : Value} {x : Tbx} (h : TbxQ w [a, n, s] x) (hf : x.fit) : n = .bool x.els.neg ∧ TabIs w a x.els.neg s x.t := by
  obtain ⟨a', n', s', e, h1, h2⟩ := h
  injection e with e0 e
  injection e with e1 e
  injection e with e2 _
  subst e0 e1 e2
  obtain ⟨s', e⟩ := h2.two
  injection e with e0 _
  refine ⟨e0, h1.rows hf.2.2, ?_⟩
  rw [← e0]
  exact h2.raw hf.2.1
theorem TbxsIn.tabs {w : World} {v : Value} {l : List Tbx} (h : TbxsIn w v l) (hf : ∀ x ∈ l, x.fit) : TabsIn w v (l.map Tbx.t) := by
  obtain ⟨p, cap, rfl, h1, h2, h3, h4⟩ := h
  refine ⟨p, cap, by rw [List.length_map], by rw [List.length_map]; exact h1, h2, h3, fun hp => ?_⟩
  rw [List.length_map] at hp
  obtain ⟨b, off, h5, h6, h7⟩ := h4 hp
  refine ⟨b, off, h5, h6, fun i hi => ?_⟩
  rw [List.length_map] at hi
  obtain ⟨c, k1, k2⟩ := h7 i hi
  obtain ⟨a, n, s, rfl, -⟩ := id k2
  obtain ⟨rfl, h8⟩ := k2.tab (hf _ (List.getElem_mem hi))
  refine ⟨a, _, s, k1 0 _ rfl, k1 1 _ rfl, k1 2 _ rfl, ?_⟩
  rw [List.getElem_map]
  exact h8
theorem RxQ.small {w : World} {c : List Value} {x : Rx} (h : RxQ w c x) (hf : x.fit) : sz W x.r.2.natAbs ≤ 6 := by
  obtain ⟨a, n, s, rfl, -, h2⟩ := h
  exact h2.small hf.2.1
theorem TbxsIn.small {w : World} {v : Value} {l : List Tbx} (h : TbxsIn w v l) (hf : ∀ x ∈ l, x.fit) : ∀ t ∈ l.map Tbx.t, sz Big.W t.els.natAbs ≤ 6 ∧ ∀ r ∈ t.rows, sz Big.W r.2.natAbs ≤ 6 := by
  intro t ht
  obtain ⟨x, hx, rfl⟩ := List.mem_map.1 ht
  obtain ⟨i, hi, rfl⟩ := List.mem_iff_getElem.1 hx
  obtain ⟨p, cap, -, -, -, -, h4⟩ := h
  obtain ⟨b, off, -, -, h7⟩ := h4 (by omega)
  obtain ⟨c, -, a, n, s, rfl, h1, h2⟩ := h7 i hi
  have hfx := hf _ hx
  refine ⟨h2.small hfx.2.1, fun r hr => ?_⟩
  obtain ⟨y, hy, rfl⟩ := List.mem_map.1 hr
  obtain ⟨j, hj, rfl⟩ := List.mem_iff_getElem.1 hy
  obtain ⟨p, cap, -, -, -, -, h4⟩ := h1
  obtain ⟨b, off, -, -, h7⟩ := h4 (by omega)
  obtain ⟨c, -, k2⟩ := h7 j hj
  exact k2.small (hfx.2.2 _ hy)
end Go.Proofs.YtckkpolikdnilaaGreatDoor
/- elenchusref05.Few: what it says of a model that it takes. -/
namespace Go.Proofs.YtckkpolikdnilaaGreatDoor
open Go.RowKit Big Go.WideMaps

def MFew (ts : List Tbx) : Prop := ts.length ≤ 300 ∧ ∀ t ∈ ts, t.fit
def RFewM (ts : List Tbx) (w : World) (e : Ending) (w' : World) : Prop := ∃ b, e = .returned (.bool b) ∧ (b = true → MFew ts) ∧ Below w.heap.size w w'
theorem LsIn.at {α : Type} {k : Nat} {Q : World → List Value → α → Prop} {w : World} {v : Value} {l : List α} (h : LsIn k Q w v l) (i : Nat) (hi : i < l.length) : ∃ b o c cs, v = .slice (some ⟨b, o, none⟩) l.length c ∧ b < w.heap.size ∧ (∀ j u, cs[j]? = some u → w.cell? ⟨b, o + i * k + j, none⟩ = some u) ∧ Q w cs l[i] := by
  obtain ⟨p, c, rfl, -, -, -, h4⟩ := h
  obtain ⟨b, o, rfl, hb, hc⟩ := h4 (by omega)
  obtain ⟨cs, k1, k2⟩ := hc i hi
  exact ⟨b, o, c, cs, rfl, hb, k1, k2⟩
theorem all_succ {α : Type} {P : α → Prop} {l : List α} {k : Nat} (hk : k < l.length) (h : ∀ x ∈ l.take k, P x) (hx : P l[k]) : ∀ x ∈ l.take (k + 1), P x := by
  intro x h1
  rw [List.take_succ_eq_append_getElem hk] at h1
  rcases List.mem_append.1 h1 with h2 | h2
  · exact h x h2
  · rw [List.mem_singleton.1 h2]; exact hx
set_option maxRecDepth 100000 in
set_option maxHeartbeats 12800000 in
theorem RFewM_any (vm : Value) (ts : List Tbx) (w : World) (hm : TbxsIn w vm ts) : Calls Tryz.prog 10 #[.agg #[vm]] w (RFewM ts w) := by
  have HM := hid hm
  obtain ⟨pm, cm, rfl, a1, a2, -, -⟩ := hm
  unfold maxLen at a2
  have b0 := below1 w (.cells #[.slice pm ts.length cm] 28)
  have n0 := heap_alloc_new w (.cells #[.slice pm ts.length cm] 28)
  obtain ⟨L, hL⟩ : ∃ L, L = ts.length := ⟨_, rfl⟩
  have HL := hid hL
  rw [← hL] at b0 n0 a1 HM ⊢
  have x0 : (w.alloc (.cells #[.slice pm L cm] 28)).cell? ⟨w.heap.size, 0, none⟩ = some (.slice pm L cm) := by rw [cell_of_row _ _ _ _ _ _ n0]; rfl
  have B0 := hid b0
  clear hL b0 n0
  cases h300 : decide ((300 : Int) < (L : Int))
  case true =>
    go_enter Tryz.func10, Tryz.ntmps10
    go_wp2
    go_ret
    exact ⟨false, rfl, nofun, B0.out⟩
  case false =>
  have h3 : Hid (ts.length ≤ 300) := hid (by have := of_decide_eq_false h300; have := HL.out; omega)
  go_enter Tryz.func10, Tryz.ntmps10
  go_wp2_with fail
  generalize hW : w.alloc (.cells #[.slice pm L cm] 28) = W1 at *
  clear h300 hW x0
  go_loopw [16] (fun i wr => ∃ k : Nat, k ≤ L ∧ i = .int .i64 (k : Nat) ∧ Hid (∀ t ∈ ts.take k, t.fit) ∧ Hid (Below w.heap.size w wr)) (fun i _ => L - (intOf i).toNat)
  case atStart => exact ⟨0, Nat.zero_le _, rfl, hid (by simp), B0⟩
  case round =>
    obtain ⟨k, hk, rfl, hF, hB⟩ := hrel
    by_cases hlt : k < L
    · have hkl : k < ts.length := by rw [← HL.out]; exact hlt
      have hlt' : (k : Int) < (L : Int) := by omega
      have hat := HM.out.at k hkl
      rw [← HL.out] at hat
      obtain ⟨b, o, c, cs, e, hb, hc, tr, tn, tsl, rfl, hrs, hel⟩ := hat
      injection e with e1 _ e3
      subst e1 e3
      have m0 := (hB.out.cell (p := ⟨b, o + k * 3, none⟩) hb).trans (hc 0 _ rfl)
      have m1 := (hB.out.cell (p := ⟨b, o + k * 3 + 1, none⟩) hb).trans (hc 1 _ rfl)
      have m2 := (hB.out.cell (p := ⟨b, o + k * 3 + 2, none⟩) hb).trans (hc 2 _ rfl)
      have HR := hid hrs
      obtain ⟨pr, cr, rfl, r1, r2, -, -⟩ := hrs
      obtain ⟨pe, ce, ee, ⟨_, _, e7, k1, k2, -, -⟩, -⟩ := id hel
      injection ee with f1 ee
      injection ee with f2 _
      subst f1 f2
      injection e7 with f1 _ f3
      subst f1 f3
      unfold maxLen at r2 k2
      have Hnx := hid (fun h => all_succ (P := Tbx.fit) hkl hF.out h)
      have hfit : Hid (ts[k].rows.length ≤ 30 → ts[k].els.words.length ≤ 6 → (∀ r ∈ ts[k].rows, r.fit) → ts[k].fit) := hid (fun h1 h2 h3 => ⟨h1, h2, h3⟩)
      generalize ts[k] = t at *
      have b5 := below1 wr (.cells #[.slice pr t.rows.length cr, .bool t.els.neg, .slice pe t.els.words.length ce] 46)
      have n5 := heap_alloc_new wr (.cells #[.slice pr t.rows.length cr, .bool t.els.neg, .slice pe t.els.words.length ce] 46)
      generalize hW5 : wr.alloc (.cells #[.slice pr t.rows.length cr, .bool t.els.neg, .slice pe t.els.words.length ce] 46) = W5 at *
      have z0 := (rec3_cells n5)
      obtain ⟨z0, z1, z2⟩ := z0
      have HB5 := hid (bel_go b5 hB.out)
      clear hc hel hF hb b5 n5
      cases h30 : decide ((30 : Int) < (t.rows.length : Int))
      case true =>
        go_wp2_with fail
        go_ret
        exact ⟨false, rfl, nofun, HB5.out⟩
      case false =>
      cases h6 : decide ((6 : Int) < (t.els.words.length : Int))
      case true =>
        go_wp2_with fail
        go_ret
        exact ⟨false, rfl, nofun, HB5.out⟩
      case false =>
      have Hfit2 : Hid ((∀ r ∈ t.rows, r.fit) → t.fit) := hid (hfit.out (by have := of_decide_eq_false h30; omega) (by have := of_decide_eq_false h6; omega))
      clear hfit
      obtain ⟨R, hR⟩ : ∃ R, R = t.rows.length := ⟨_, rfl⟩
      have HRl := hid hR
      rw [← hR] at HR h30 hW5 z0 r1 m0
      clear hR
      go_wp2_with fail
      clear z0 z1 z2 h30 h6 m0 m1 m2 hW5
      obtain ⟨wo, rfl⟩ : ∃ wo, wo = wr := ⟨_, rfl⟩
      go_loopw [34] (fun i wr => ∃ k : Nat, k ≤ R ∧ i = .int .i64 (k : Nat) ∧ Hid (∀ r ∈ t.rows.take k, r.fit) ∧ Hid (Below w.heap.size w wr)) (fun i _ => R - (intOf i).toNat)
      case atStart => exact ⟨0, Nat.zero_le _, rfl, hid (by simp), HB5⟩
      case round =>
        clear HB5 hB
        obtain ⟨k2, hk2, rfl, hF2, hB2⟩ := hrel
        by_cases hlt2 : k2 < R
        · have hkl2 : k2 < t.rows.length := by rw [← HRl.out]; exact hlt2
          have hlt2' : (k2 : Int) < (R : Int) := by omega
          have hat := HR.out.at k2 hkl2
          rw [← HRl.out] at hat
          obtain ⟨b, o, c, cs, e, hb, hc, ra, rn, rs, rfl, hra, hrv⟩ := hat
          injection e with e1 _ e3
          subst e1 e3
          have m0 := (hB2.out.cell (p := ⟨b, o + k2 * 3, none⟩) hb).trans (hc 0 _ rfl)
          have m1 := (hB2.out.cell (p := ⟨b, o + k2 * 3 + 1, none⟩) hb).trans (hc 1 _ rfl)
          have m2 := (hB2.out.cell (p := ⟨b, o + k2 * 3 + 2, none⟩) hb).trans (hc 2 _ rfl)
          have HA := hid hra
          obtain ⟨pa, ca, rfl, q1, q2, -, -⟩ := hra
          obtain ⟨pe, ce, ee, ⟨_, _, e7, k1, k3, -, -⟩, -⟩ := id hrv
          injection ee with f1 ee
          injection ee with f2 _
          subst f1 f2
          injection e7 with f1 _ f3
          subst f1 f3
          unfold maxLen at q2 k3
          have Hnx2 := hid (fun h => all_succ (P := Rx.fit) hkl2 hF2.out h)
          have hfit : Hid (t.rows[k2].args.length ≤ 10 → t.rows[k2].val.words.length ≤ 6 → (∀ r ∈ t.rows[k2].args, r.fit) → t.rows[k2].fit) := hid (fun h1 h2 h3 => ⟨h1, h2, h3⟩)
          generalize t.rows[k2] = x at *
          have b5 := below1 wr (.cells #[.slice pa x.args.length ca, .bool x.val.neg, .slice pe x.val.words.length ce] 63)
          have n5 := heap_alloc_new wr (.cells #[.slice pa x.args.length ca, .bool x.val.neg, .slice pe x.val.words.length ce] 63)
          generalize hW5 : wr.alloc (.cells #[.slice pa x.args.length ca, .bool x.val.neg, .slice pe x.val.words.length ce] 63) = W6 at *
          have z0 := (rec3_cells n5)
          obtain ⟨z0, z1, z2⟩ := z0
          have HB5 := hid (bel_go b5 hB2.out)
          clear hc hrv hF2 hb b5 n5
          cases h10 : decide ((10 : Int) < (x.args.length : Int))
          case true =>
            go_wp2_with fail
            go_ret
            exact ⟨false, rfl, nofun, HB5.out⟩
          case false =>
          cases h6 : decide ((6 : Int) < (x.val.words.length : Int))
          case true =>
            go_wp2_with fail
            go_ret
            exact ⟨false, rfl, nofun, HB5.out⟩
          case false =>
          have Hfit3 : Hid ((∀ r ∈ x.args, r.fit) → x.fit) := hid (hfit.out (by have := of_decide_eq_false h10; omega) (by have := of_decide_eq_false h6; omega))
          clear hfit
          obtain ⟨A, hA⟩ : ∃ A, A = x.args.length := ⟨_, rfl⟩
          have HAl := hid hA
          rw [← hA] at HA h10 hW5 z0 q1 m0
          clear hA
          go_wp2_with fail
          clear z0 z1 z2 h10 h6 m0 m1 m2 hW5
          obtain ⟨wp, rfl⟩ : ∃ wp, wp = wr := ⟨_, rfl⟩
          go_loopw [52] (fun i wr => ∃ k : Nat, k ≤ A ∧ i = .int .i64 (k : Nat) ∧ Hid (∀ r ∈ x.args.take k, r.fit) ∧ Hid (Below w.heap.size w wr)) (fun i _ => A - (intOf i).toNat)
          case atStart => exact ⟨0, Nat.zero_le _, rfl, hid (by simp), HB5⟩
          case round =>
            clear HB5 hB2
            obtain ⟨k3, hk3, rfl, hF3, hB3⟩ := hrel
            by_cases hlt3 : k3 < A
            · have hkl3 : k3 < x.args.length := by rw [← HAl.out]; exact hlt3
              have hlt3' : (k3 : Int) < (A : Int) := by omega
              have hat := HA.out.at k3 hkl3
              rw [← HAl.out] at hat
              obtain ⟨b, o, c, cs, e, hb, hc, pe, ce, rfl, ⟨_, _, e7, v1, v2, -, -⟩, -⟩ := hat
              injection e with e1 _ e3
              subst e1 e3
              injection e7 with f1 _ f3
              subst f1 f3
              have m0 := (hB3.out.cell (p := ⟨b, o + k3 * 2, none⟩) hb).trans (hc 0 _ rfl)
              have m1 := (hB3.out.cell (p := ⟨b, o + k3 * 2 + 1, none⟩) hb).trans (hc 1 _ rfl)
              unfold maxLen at v2
              have Hnx3 := hid (fun h => all_succ (P := Nx.fit) hkl3 hF3.out h)
              have hfit : Hid (x.args[k3].words.length ≤ 6 → x.args[k3].fit) := hid (fun h1 => h1)
              generalize x.args[k3] = y at *
              have b5 := below1 wr (.cells #[.bool y.neg, .slice pe y.words.length ce] 44)
              have HB5 := hid (bel_go b5 hB3.out)
              clear hc hF3 hb b5
              cases h6 : decide ((6 : Int) < (y.words.length : Int))
              case true =>
                go_wp2_with fail
                go_ret
                exact ⟨false, rfl, nofun, HB5.out⟩
              case false =>
              have hy := hid (hfit.out (by have := of_decide_eq_false h6; omega))
              go_wp2_with fail
              go_roundw
              case rel => exact ⟨k3 + 1, by omega, by go_num, hid (Hnx3.out hy.out), HB5⟩
              case measure => simp [intOf] <;> omega
            · obtain rfl : k3 = A := by omega
              have hx := hid (Hfit3.out (by have := hF3.out; rw [HAl.out, List.take_length] at this; exact this))
              go_wp2_with fail
              go_roundw
              case rel => exact ⟨k2 + 1, by omega, by go_num, hid (Hnx2.out hx.out), hB3⟩
              case measure => simp [intOf] <;> omega
        · obtain rfl : k2 = R := by omega
          have hx := hid (Hfit2.out (by have := hF2.out; rw [HRl.out, List.take_length] at this; exact this))
          go_wp2_with fail
          go_roundw
          case rel => exact ⟨k + 1, by omega, by go_num, hid (Hnx.out hx.out), hB2⟩
          case measure => simp [intOf] <;> omega
    · obtain rfl : k = L := by omega
      go_wp2_with fail
      go_ret
      exact ⟨true, rfl, fun _ => ⟨h3.out, by have := hF.out; rw [HL.out, List.take_length] at this; exact this⟩, hB.out⟩
end Go.Proofs.YtckkpolikdnilaaGreatDoor
/- Of values, in plain words: each term's value by all values; a table with a row more that repeats what is told; a condition, its Not, its And and Or. -/
namespace Go.Proofs.YtckkpolikdnilaaGreatDoor
open Big

theorem vlEval_append (syms : List Sy) (ts : List Tb5) : ∀ (l m : List Tm) (known : List Int), vlEval syms ts (l ++ m) known = vlEval syms ts m (vlEval syms ts l known)
  | [], _, _ => rfl
  | _ :: l, m, _ => vlEval_append syms ts l m _
theorem vlEval_pre (syms : List Sy) (ts : List Tb5) : ∀ (l : List Tm) (known : List Int), ∃ r, vlEval syms ts l known = known ++ r
  | [], known => ⟨[], by simp [vlEval]⟩
  | t :: l, known => by
    obtain ⟨r, h⟩ := vlEval_pre syms ts l (known ++ [vlOp syms ts t (vlParts t known)])
    exact ⟨_ :: r, by unfold vlEval; rw [h, List.append_assoc]; rfl⟩
theorem eval_take (syms : List Sy) (ts : List Tb5) (terms : List Tm) (k : Nat) : ∃ r, vlEval syms ts terms [] = vlEval syms ts (terms.take k) [] ++ r := by
  obtain ⟨r, h⟩ := vlEval_pre syms ts (terms.drop k) (vlEval syms ts (terms.take k) [])
  exact ⟨r, by rw [← h, ← vlEval_append, List.take_append_drop]⟩
theorem eval_len (syms : List Sy) (ts : List Tb5) (terms : List Tm) : (vlEval syms ts terms []).length = terms.length := by rw [vlEval_len]; simp
theorem at_pre (l r : List Int) (a : Int) (h : a.toNat < l.length) : vlAt (l ++ r) a = vlAt l a := by
  unfold vlAt
  rw [List.getElem?_append_left h]
variable {syms : List Sy} {terms : List Tm}
theorem parts_take (ts : List Tb5) (k : Nat) (hk : k < terms.length) (h : ∀ a ∈ terms[k].args, 0 ≤ a ∧ a < (k : Int)) : vlParts terms[k] (vlEval syms ts (terms.take k) []) = vlParts terms[k] (vlEval syms ts terms []) := by
  obtain ⟨r, e⟩ := eval_take syms ts terms k
  rw [e]
  unfold vlParts
  apply List.map_congr_left
  intro a ha
  have := h a ha
  rw [at_pre]
  rw [eval_len, List.length_take]
  omega
theorem eval_at (ts : List Tb5) (h : Steps ⟨syms, [], []⟩ terms) (k : Nat) (hk : k < terms.length) :
    vlAt (vlEval syms ts terms []) (k : Nat) = vlOp syms ts terms[k] (vlParts terms[k] (vlEval syms ts terms [])) := by
  rw [← parts_take ts k hk (part_at h k hk)]
  obtain ⟨r, e⟩ := eval_take syms ts terms (k + 1)
  rw [e, at_pre _ _ _ (by rw [eval_len, List.length_take]; simp; omega), List.take_succ_eq_append_getElem hk, vlEval_snoc]
  unfold vlAt
  have e2 : (vlEval syms ts (terms.take k) []).length = k := by rw [eval_len, List.length_take]; omega
  rw [List.getElem?_append_right (by rw [e2]; simp)]
  simp [e2]
theorem vlAt_get (l : List Int) (k : Nat) (h : k < l.length) : vlAt l (k : Nat) = l[k] := by unfold vlAt; simp [h]
/-! ### a row more that repeats what is told -/
theorem vlVal_cons (x : List Int × Int) (r : List (List Int × Int)) (e : Int) (args : List Int) : vlVal ⟨x :: r, e⟩ args = if args = x.1 then x.2 else vlVal ⟨r, e⟩ args := by
  unfold vlVal vlFind
  rw [List.findIdx?_cons]
  by_cases h : args = x.1
  · simp [h]
  · simp only [h, decide_false, if_false]
    cases hf : r.findIdx? (fun x => decide (args = x.1)) <;> simp
theorem truth_ne (b : Bool) : (vlTruth b != 0) = b := by cases b <;> decide
theorem tell_more (so : Int) (t : Tb5) (l args : List Int) : vlTell so ⟨(l, vlTell so t l) :: t.rows, t.els⟩ args = vlTell so t args := by
  unfold vlTell
  rw [vlVal_cons]
  by_cases h : args = l
  · subst h
    rw [if_pos rfl]
    split
    · rw [truth_ne]
    · rfl
  · rw [if_neg h]
/-- one table has a row more -/
theorem op_more (ts : List Tb5) (k : Nat) (hk : k < ts.length) (so : Int) (l : List Int) (hso : (syms[k]?.getD ⟨[], 0, 0⟩).sort = so) (t : Tm) (vs : List Int) :
    vlOp syms (ts.set k ⟨(l, vlTell so ts[k] l) :: ts[k].rows, ts[k].els⟩) t vs = vlOp syms ts t vs := by
  unfold vlOp
  congr 1
  congr 1
  congr 1
  by_cases h : t.op = 4
  · rw [if_pos h, if_pos h]
    unfold vlTabAt
    rw [List.getElem?_set]
    by_cases e : k = t.sym.toNat
    · rw [if_pos e]
      subst e
      rw [if_pos hk, hso, List.getElem?_eq_getElem hk]
      exact tell_more so _ l vs
    · rw [if_neg e]
  · rw [if_neg h, if_neg h]
theorem eval_more (ts : List Tb5) (k : Nat) (hk : k < ts.length) (so : Int) (l : List Int) (hso : (syms[k]?.getD ⟨[], 0, 0⟩).sort = so) : ∀ (terms : List Tm) (known : List Int),
    vlEval syms (ts.set k ⟨(l, vlTell so ts[k] l) :: ts[k].rows, ts[k].els⟩) terms known = vlEval syms ts terms known
  | [], _ => rfl
  | t :: terms, known => by
    unfold vlEval
    rw [op_more ts k hk so l hso, eval_more ts k hk so l hso terms]
/-! ### a condition, its Not, its And and Or -/
theorem not_at (ts : List Tb5) (h : Steps ⟨syms, [], []⟩ terms) (k t : Nat) (hk : k < terms.length) (e : terms[k] = ⟨5, [(t : Int)], 0, 0⟩) :
    (vlAt (vlEval syms ts terms []) (k : Nat) != 0) = !(vlAt (vlEval syms ts terms []) (t : Nat) != 0) := by
  rw [eval_at ts h k hk, e]
  show (vlTruth (vlAt [vlAt _ (t : Int)] 0 == 0) != 0) = _
  rw [truth_ne]
  show (vlAt _ (t : Int) == 0) = !(vlAt _ (t : Int) != 0)
  simp [bne]
theorem and_at (ts : List Tb5) (h : Steps ⟨syms, [], []⟩ terms) (k t : Nat) (hk : k < terms.length) (e : terms[k] = ⟨6, [(t : Int), t, t], 0, 0⟩) :
    (vlAt (vlEval syms ts terms []) (k : Nat) != 0) = (vlAt (vlEval syms ts terms []) (t : Nat) != 0) := by
  rw [eval_at ts h k hk, e]
  show (vlTruth ([vlAt _ (t : Int), vlAt _ (t : Int), vlAt _ (t : Int)].all (· != 0)) != 0) = _
  rw [truth_ne]
  simp
theorem or_at (ts : List Tb5) (h : Steps ⟨syms, [], []⟩ terms) (k t n : Nat) (hk : k < terms.length) (e : terms[k] = ⟨7, [(t : Int), n], 0, 0⟩) (hn : (vlAt (vlEval syms ts terms []) (n : Nat) != 0) = !(vlAt (vlEval syms ts terms []) (t : Nat) != 0)) :
    (vlAt (vlEval syms ts terms []) (k : Nat) != 0) = true := by
  rw [eval_at ts h k hk, e]
  show (vlTruth ([vlAt _ (t : Int), vlAt _ (n : Int)].any (· != 0)) != 0) = _
  rw [truth_ne]
  simp only [List.any_cons, List.any_nil, Bool.or_false]
  rw [hn]
  simp
end Go.Proofs.YtckkpolikdnilaaGreatDoor
/- elenchusref05.Tell. -/
namespace Go.Proofs.YtckkpolikdnilaaGreatDoor
open Go.RowKit Big Go.WideMaps

/-- a variable that holds a number, in any form -/
def VBox (w : World) (g : Nat) (z : Int) : Prop := ∃ d p n c, w.heap[g]? = some (.cells #[.bool d, .slice p n c] 44 (0, 0)) ∧ RawAt w (.agg #[.bool d, .slice p n c]) z
theorem VBox.pair {w : World} {g : Nat} {z : Int} (h : VBox w g z) : Pair w g 44 := by
  obtain ⟨d, p, n, c, h, -⟩ := h
  exact ⟨d, p, n, c, h⟩
theorem VBox.below {w w' : World} {g : Nat} {z : Int} (h : VBox w g z) (hb : Below w.heap.size w w') : VBox w' g z := by
  obtain ⟨d, p, n, c, h, hr⟩ := h
  exact ⟨d, p, n, c, (hb.block g (Array.getElem?_eq_some_iff.1 h).1).trans h, hr.below hb⟩
theorem VBox.put {w : World} {g : Nat} {z : Int} {d : Bool} {p : Option Addr} {n c : Nat} (hp : Pair w g 44) (hi : RawAt w (.agg #[.bool d, .slice p n c]) z) :
    VBox ((w.setCell ⟨g, 0, none⟩ (.bool d)).setCell ⟨g, 1, none⟩ (.slice p n c)) g z := ⟨d, p, n, c, hp.put .., hi.set2 hp _ _ _ _ _ _ rfl rfl⟩
theorem take_eq (a b : List Int) (k : Nat) (ha : k < a.length) (hb : k < b.length) : decide (a.take (k + 1) = b.take (k + 1)) = (decide (a.take k = b.take k) && decide (a[k] = b[k])) := by
  rw [List.take_succ_eq_append_getElem ha, List.take_succ_eq_append_getElem hb]
  rw [Bool.eq_iff_iff]
  simp only [Bool.and_eq_true, decide_eq_true_eq]
  constructor
  · intro h
    have := List.append_inj' h rfl
    exact ⟨this.1, by simpa using this.2⟩
  · rintro ⟨h1, h2⟩
    rw [h1, h2]
theorem RawAt.parts {w : World} {n : Bool} {s : Value} {z : Int} (h : RawAt w (.agg #[.bool n, s]) z) : ∃ p c l, s = .slice p l.length c ∧ At w .u64 (.slice p l.length c) l ∧ Small Big.W l ∧ l.length ≤ 1099511627776 ∧ z = sg n (val Big.W l) := by
  obtain ⟨neg, s', l, e, ha, hs, hl, hz⟩ := h
  injection e with e
  simp only [Array.mk.injEq, List.cons.injEq, and_true] at e
  obtain ⟨e1, e2⟩ := e
  subst e2
  injection e1 with e1
  subst e1
  obtain ⟨p, c, rfl, r⟩ := id ha
  exact ⟨p, c, l, rfl, ha, hs, hl, hz⟩
theorem RowsIn.at {w : World} {v : Value} {l : List (List Int × Int)} (h : RowsIn w v l) (i : Nat) (hi : i < l.length) : ∃ b o c pa ca x q d g, v = .slice (some ⟨b, o, none⟩) l.length c ∧ b < w.heap.size ∧ w.cell? ⟨b, o + i * 3, none⟩ = some (.slice pa l[i].1.length ca) ∧ w.cell? ⟨b, o + i * 3 + 1, none⟩ = some (.bool x) ∧ w.cell? ⟨b, o + i * 3 + 2, none⟩ = some (.slice q d g) ∧ NumsIn w (.slice pa l[i].1.length ca) l[i].1 ∧ RawAt w (.agg #[.bool x, .slice q d g]) l[i].2 := by
  obtain ⟨p, c, rfl, -, -, -, h4⟩ := h
  obtain ⟨b, o, rfl, hb, hc⟩ := h4 (by omega)
  obtain ⟨a, x, s, k0, k1, k2, hn, hr⟩ := hc i hi
  obtain ⟨q, d, g, rfl⟩ := hr.shape
  obtain ⟨pa, ca, rfl, r⟩ := id hn
  exact ⟨b, o, c, pa, ca, x, q, d, g, rfl, hb, k0, k1, k2, hn, hr⟩
set_option maxRecDepth 100000 in
set_option maxHeartbeats 12800000 in
theorem RTell_any (nm : Value) (hnm : ∃ x, nm = .string x) (ar so : Int) (a s v : Value) (n : Bool) (t : Tb5) (args : List Int) (w : World) (h0 : TabIs w a n s t) (h1 : NumsIn w v args) (hs : ∀ z ∈ args, sz Big.W z.natAbs ≤ 549755813888) (ht : ∀ r ∈ t.rows, ∀ z ∈ r.1, sz Big.W z.natAbs ≤ 549755813888) :
    Calls Tryz.prog 16 #[.agg #[nm, .int .i64 ar, .int .i64 so], .agg #[a, .bool n, s], v] w (RInt (vlTell so t args) w) := by
  obtain ⟨nm, rfl⟩ := hnm
  have HT := hid h0.1; have HA := hid h1; have Hs := hid hs; have Ht := hid ht
  have h0' := h0
  obtain ⟨⟨pr, cr, rfl, i0, i1, -, -⟩, hr⟩ := h0'
  obtain ⟨q0, d0, g0, rfl⟩ := hr.shape
  obtain ⟨pa, ca, rfl, j0, j1, -, -⟩ := h1
  unfold maxLen at i1 j1
  obtain ⟨W, hW⟩ : ∃ W, W = ((((w.alloc (.cells #[.string nm, .int .i64 ar, .int .i64 so] 39)).alloc (.cells #[.slice pr t.rows.length cr, .bool n, .slice q0 d0 g0] 46)).alloc (.cells #[.bool false, .slice none 0 0] 44)).alloc (.cells #[.bool n, .slice q0 d0 g0] 44)) := ⟨_, rfl⟩
  have hB : Below w.heap.size w W := by rw [hW]; exact (((below1 w _).alloc (by simp) _).alloc (by simp; omega) _).alloc (by simp; omega) _
  have e0 : W.heap[w.heap.size]? = some (.cells #[.string nm, .int .i64 ar, .int .i64 so] 39 (0, 0)) := by rw [hW]; exact alloc_keep (alloc_keep (alloc_keep (alloc_at _ _ _ rfl)))
  have e1 : W.heap[w.heap.size + 1]? = some (.cells #[.slice pr t.rows.length cr, .bool n, .slice q0 d0 g0] 46 (0, 0)) := by rw [hW]; exact alloc_keep (alloc_keep (alloc_at _ _ _ (by rw [size_alloc])))
  have e2 : W.heap[w.heap.size + 1 + 1]? = some (.cells #[.bool false, .slice none 0 0] 44 (0, 0)) := by rw [hW]; exact alloc_keep (alloc_at _ _ _ (by rw [size_alloc, size_alloc]))
  have e3 : W.heap[w.heap.size + 1 + 1 + 1]? = some (.cells #[.bool n, .slice q0 d0 g0] 44 (0, 0)) := by rw [hW]; exact alloc_at _ _ _ (by rw [size_alloc, size_alloc, size_alloc])
  have z3 : w.heap.size + 1 + 1 + 1 < W.heap.size := by rw [hW, size_alloc, size_alloc, size_alloc, size_alloc]; omega
  have HV0 : Hid (VBox W (w.heap.size + 1 + 1 + 1) t.els) := hid ⟨_, _, _, _, e3, h0.2.below hB⟩
  have HP0 : Hid (Pair W (w.heap.size + 1 + 1) 44) := hid ⟨_, _, _, _, e2⟩
  have HB := hid hB; have E0 := hid e0; have E1 := hid e1
  have Z3 := hid z3
  have hval : ∀ k (hk : k < t.rows.length), vlVal ⟨t.rows.drop k, t.els⟩ args = if args = t.rows[k].1 then t.rows[k].2 else vlVal ⟨t.rows.drop (k + 1), t.els⟩ args := fun k hk => by
    rw [List.drop_eq_getElem_cons hk, vlVal_cons]
  have Hval := hid hval
  have Hend : Hid (vlVal ⟨t.rows.drop t.rows.length, t.els⟩ args = t.els) := hid (by rw [List.drop_length]; rfl)
  obtain ⟨rr, hrr⟩ : ∃ rr, rr = vlTell so t args := ⟨_, rfl⟩
  have Hrr := hid (show rr = if so = 1 then vlTruth (vlVal ⟨t.rows.drop 0, t.els⟩ args != 0) else vlVal ⟨t.rows.drop 0, t.els⟩ args from hrr)
  rw [← hrr]
  obtain ⟨R, hR⟩ : ∃ R, R = t.rows.length := ⟨_, rfl⟩
  have HR := hid hR
  obtain ⟨A, hA⟩ : ∃ A, A = args.length := ⟨_, rfl⟩
  have HAl := hid hA
  rw [← hR] at i0 hW E1 HT Hend ⊢
  rw [← hA] at j0 HA ⊢
  clear hrr h0 hr hs ht hB e0 e1 e2 e3 z3 hval hR hA
  go_enter Tryz.func16, Tryz.ntmps16
  go_upto_region 2 with fail
  rw [← hW]
  clear hW
  have y0 := (rec3_cells E1.out).1
  go_wp2_with fail
  clear y0
  go_loopw [8] (fun i wr => ∃ j : Nat, j ≤ R ∧ i = .int .i64 ((j : Nat) - 1) ∧ Hid (VBox wr (w.heap.size + 1 + 1 + 1) (vlVal ⟨t.rows.drop j, t.els⟩ args)) ∧ Hid (Below w.heap.size w wr) ∧ Hid (wr.heap[w.heap.size]? = W.heap[w.heap.size]? ∧ wr.heap[w.heap.size + 1]? = W.heap[w.heap.size + 1]? ∧ Pair wr (w.heap.size + 1 + 1) 44 ∧ w.heap.size + 1 + 1 + 1 < wr.heap.size)) (fun i _ => (intOf i + 1).toNat)
  case atStart => exact ⟨R, Nat.le_refl _, by go_num, hid (by rw [Hend.out]; exact HV0.out), HB, hid ⟨rfl, rfl, HP0.out, Z3.out⟩⟩
  case round =>
    obtain ⟨j, hj, rfl, HV, HBw, HF⟩ := hrel
    by_cases hpos : 0 < j
    · obtain ⟨k, rfl⟩ : ∃ k, j = k + 1 := ⟨j - 1, by omega⟩
      have hdec : decide (0 ≤ (((k + 1 : Nat) : Int) - 1)) = true := by simp
      have hkk : (((k + 1 : Nat) : Int) - 1) = (k : Nat) := by omega
      rw [hkk] at hdec ⊢
      have hkl : k < t.rows.length := by rw [← HR.out]; omega
      have hklt : (k : Int) < (R : Int) := by omega
      have hrow := HT.out.at k hkl
      obtain ⟨b, o, c, pr', cr', x, q, d, g, e, hb, m0, m1, m2, hN, hRv⟩ := hrow
      rw [← HR.out] at e
      injection e with e1 _ e3
      subst e1 e3
      have hv1 := Hval.out k hkl
      have htk := Ht.out _ (List.getElem_mem hkl)
      generalize t.rows[k].1 = rl at *
      generalize t.rows[k].2 = rv at *
      have y0 : wr.cell? ⟨w.heap.size + 1, 0, none⟩ = some (.slice (some ⟨b, o, none⟩) R cr) := (rec3_cells (HF.out.2.1.trans E1.out)).1
      have m0' := (HBw.out.cell (p := ⟨b, o + k * 3, none⟩) hb).trans m0
      have Hm1 := hid ((HBw.out.cell (p := ⟨b, o + k * 3 + 1, none⟩) hb).trans m1)
      have Hm2 := hid ((HBw.out.cell (p := ⟨b, o + k * 3 + 2, none⟩) hb).trans m2)
      have Hm0 := hid m0'
      have Hy0 := hid y0
      have HN := hid (hN.below HBw.out); have HRv := hid (hRv.below HBw.out)
      have HAw := hid (HA.out.below HBw.out)
      have Hv1 := hid hv1; have Htk := hid htk
      have Hbw : Hid (b < wr.heap.size) := hid (by have := HBw.out.size; omega)
      have hlen1 : rl.length ≤ 9223372036854775807 := by
        obtain ⟨_, _, e, h5, h6, -⟩ := HN.out
        injection e with _ e _
        unfold maxLen at h6; omega
      clear m0 m1 m2 hN hRv hv1 htk hb
      go_wp2_with fail
      clear y0 m0'
      obtain ⟨wo, rfl⟩ : ∃ wo, wo = wr := ⟨_, rfl⟩
      go_loopw [9, 10] (fun s kk wr => ∃ (m : Nat) (b2 : Bool), m ≤ A ∧ s = .bool b2 ∧ kk = .int .i64 (m : Nat) ∧ Hid (b2 = (decide (rl.length = A) && decide (args.take m = rl.take m))) ∧ Hid (Below wo.heap.size wo wr)) (fun _ kk _ => A - (intOf kk).toNat)
      case atStart => exact ⟨0, _, Nat.zero_le _, rfl, rfl, hid (by simp; rw [Bool.eq_iff_iff]; simp; omega), hid (Below.refl _ _)⟩
      case round =>
        obtain ⟨m, b2, hm, rfl, rfl, Hb2, HBq⟩ := hrel
        cases b2
        · have hne : Hid (args ≠ rl) := hid fun e => by
            have h5 := Hb2.out
            rw [← e] at h5
            simp [HAl.out] at h5
          go_wp2_with fail
          go_roundw
          case rel => exact ⟨k, by omega, by go_num, hid (by rw [Hv1.out, if_neg hne.out]; exact HV.out.below HBq.out), hid (bel_go HBq.out HBw.out), hid ⟨(HBq.out.block w.heap.size (by have := HF.out.2.2.2; omega)).trans HF.out.1, (HBq.out.block (w.heap.size + 1) (by have := HF.out.2.2.2; omega)).trans HF.out.2.1, HF.out.2.2.1.below HBq.out, by have := HF.out.2.2.2; have := HBq.out.size; omega⟩⟩
          case measure => simp [intOf] <;> omega
        · by_cases hlt : m < A
          · have hll : rl.length = A := by
              have h5 := Hb2.out
              simp at h5
              exact h5.1
            have htt : args.take m = rl.take m := by
              have h5 := Hb2.out
              simp at h5
              exact h5.2
            have hlt' : (m : Int) < (A : Int) := by omega
            have hltr : (m : Int) < (rl.length : Int) := by omega
            have hla : m < args.length := by rw [← HAl.out]; exact hlt
            have hlr : m < rl.length := by omega
            have hAt := HAw.out.at m hla
            obtain ⟨b5, o5, c5, x5, q5, d5, g5, e5, hb5, n0, n1, n2⟩ := hAt
            have hRt := HN.out.at m hlr
            obtain ⟨b6, o6, c6, x6, q6, d6, g6, e6, hb6, l0, l1, l2⟩ := hRt
            rw [← HAl.out] at e5
            injection e5 with f1 _ f3
            injection e6 with f4 _ f6
            subst f1 f3 f4 f6
            have Hcmp := hid (fun W' (hw : Below wr.heap.size wr W') => RCmp_any _ _ args[m] rl[m] W' (n2.below (bel_go hw HBq.out)) (l2.below (bel_go hw HBq.out)) (Hs.out _ (List.getElem_mem hla)) (Htk.out _ (List.getElem_mem hlr)))
            have HS : Hid (∀ w', Below wr.heap.size wr w' → w'.cell? ⟨w.heap.size + 1, 0, none⟩ = some (.slice (some ⟨b, o, none⟩) R cr) ∧ w'.cell? ⟨b, o + k * 3, none⟩ = some (.slice (some ⟨b6, o6, none⟩) rl.length cr') ∧ w'.cell? ⟨b5, o5 + m * 2, none⟩ = some (.bool x5) ∧ w'.cell? ⟨b5, o5 + m * 2 + 1, none⟩ = some (.slice q5 d5 g5) ∧ w'.cell? ⟨b6, o6 + m * 2, none⟩ = some (.bool x6) ∧ w'.cell? ⟨b6, o6 + m * 2 + 1, none⟩ = some (.slice q6 d6 g6) ∧ Below wr.heap.size wr w') := hid fun w' hb => by
              have h1 := bel_go hb HBq.out
              exact ⟨(h1.cell (p := ⟨w.heap.size + 1, 0, none⟩) (by have := HF.out.2.2.2; show w.heap.size + 1 < _; omega)).trans Hy0.out, (h1.cell (p := ⟨b, o + k * 3, none⟩) Hbw.out).trans Hm0.out, (h1.cell (p := ⟨b5, o5 + m * 2, none⟩) hb5).trans n0, (h1.cell (p := ⟨b5, o5 + m * 2 + 1, none⟩) hb5).trans n1, (h1.cell (p := ⟨b6, o6 + m * 2, none⟩) hb6).trans l0, (h1.cell (p := ⟨b6, o6 + m * 2 + 1, none⟩) hb6).trans l1, hb⟩
            have Hnx := hid (show (ord args[m] rl[m] == 0) = (decide (rl.length = A) && decide (args.take (m + 1) = rl.take (m + 1))) by
              rw [take_eq args rl m hla hlr, ord_zero, hll, htt]; simp)
            generalize ord args[m] rl[m] = od at *
            clear n0 n1 n2 l0 l1 l2 hb5 hb6 htt hla hlr Hb2 hll
            go_upto_region 9 with fail
            go_region_held3 (fun w' => w'.cell? ⟨w.heap.size + 1, 0, none⟩ = some (.slice (some ⟨b, o, none⟩) R cr) ∧ w'.cell? ⟨b, o + k * 3, none⟩ = some (.slice (some ⟨b6, o6, none⟩) rl.length cr') ∧ w'.cell? ⟨b5, o5 + m * 2, none⟩ = some (.bool x5) ∧ w'.cell? ⟨b5, o5 + m * 2 + 1, none⟩ = some (.slice q5 d5 g5) ∧ w'.cell? ⟨b6, o6 + m * 2, none⟩ = some (.bool x6) ∧ w'.cell? ⟨b6, o6 + m * 2 + 1, none⟩ = some (.slice q6 d6 g6) ∧ Below wr.heap.size wr w')
              (first | exact HS.out _ (Below.drew (Below.refl _ _)) | (refine HS.out _ (bel_go hb1 ?_); go_split_ands; assumption))
              (first | (go_at_call 38; (with_reducible refine (Hcmp.out _ (by go_split_ands; assumption)).mono ?_); rintro e w1 ⟨rfl, hb1⟩))
            go_split_ands
            have HBb := hid (show Below wr.heap.size wr w1 by assumption)
            clear hb1
            go_wp2_with fail
            go_roundw
            case rel => exact ⟨m + 1, _, by omega, rfl, by go_num, Hnx, hid (bel_go HBb.out HBq.out)⟩
            case measure => simp [intOf] <;> omega
          · obtain rfl : m = A := by omega
            have heq : Hid (args = rl) := hid (by
              have h5 := Hb2.out
              simp at h5
              have h6 := h5.2
              rw [HAl.out, List.take_length, ← HAl.out, ← h5.1, List.take_length] at h6
              exact h6)
            have hy := (HBq.out.cell (p := ⟨w.heap.size + 1, 0, none⟩) (by have := HF.out.2.2.2; show w.heap.size + 1 < _; omega)).trans Hy0.out
            have h1 := (HBq.out.cell (p := ⟨b, o + k * 3 + 1, none⟩) Hbw.out).trans Hm1.out
            have h2 := (HBq.out.cell (p := ⟨b, o + k * 3 + 2, none⟩) Hbw.out).trans Hm2.out
            have hpt := hid (HV.out.pair.below HBq.out)
            have hq := hpt.out.cells
            obtain ⟨_, _, v0, v1, v2, v3⟩ := hq
            go_wp2_with fail
            go_roundw
            case rel =>
              have bs := Below.stored (Below.refl (w.heap.size + 1 + 1 + 1) wr) (g := w.heap.size + 1 + 1 + 1) (Nat.le_refl _) (.bool x) (.slice q d g)
              exact ⟨k, by omega, by go_num, hid (by rw [Hv1.out, if_pos heq.out]; exact VBox.put hpt.out (HRv.out.below HBq.out)), hid (Below.stored (bel_go HBq.out HBw.out) (by omega) _ _),
                hid ⟨(bs.block w.heap.size (by omega)).trans ((HBq.out.block w.heap.size (by have := HF.out.2.2.2; omega)).trans HF.out.1), (bs.block (w.heap.size + 1) (by omega)).trans ((HBq.out.block (w.heap.size + 1) (by have := HF.out.2.2.2; omega)).trans HF.out.2.1), (HF.out.2.2.1.below HBq.out).away (by omega) _ _, by have := HF.out.2.2.2; have := HBq.out.size; have := bs.size; omega⟩⟩
            case measure => simp [intOf] <;> omega
    · obtain rfl : j = 0 := by omega
      have hdec : decide (0 ≤ (((0 : Nat) : Int) - 1)) = false := by decide
      have s2 := (rec3_cells (HF.out.1.trans E0.out)).2.2
      obtain ⟨vd, vp, vn, vc, vh, vr⟩ := HV.out
      obtain ⟨u0, u1⟩ := pair_cells vh
      have hpr0 := hid HF.out.2.2.1
      generalize vlVal ⟨t.rows.drop 0, t.els⟩ args = z at *
      by_cases hso : so = 1
      · subst hso
        obtain rfl : rr = vlTruth (z != 0) := by rw [Hrr.out, if_pos rfl]
        have hsg : (z.sign != 0) = (z != 0) := by unfold bne; rw [sign_zero]
        have Hsg := hid (RSign_any _ z wr vr)
        have HQ := hid hsg
        have t1 : ((1 : Int) == 1) = true := rfl
        clear Hrr vr vh hsg Hend Hval
        generalize z.sign = sg at *
        go_wp2_with fail
        refine Hsg.out.mono ?_
        rintro e w2 ⟨rfl, b2⟩
        have B2 := hid b2
        have Hc := hid (rtruth_any (sg != 0) w2)
        clear b2
        go_wp2_with fail
        refine Hc.out.mono ?_
        rintro e w3 ⟨v3, rfl, hi, b3⟩
        obtain ⟨p, l, c, rfl, hi⟩ := hi.shape
        have b4 := bel_go b3 B2.out
        have hpr := hid (hpr0.out.below b4)
        have hq := hpr.out.cells
        obtain ⟨_, _, q0, q1, q2, q3⟩ := hq
        have Hi := hid hi; have Hb := hid (bel_go b4 HBw.out)
        clear hi b3 b4 Hc
        go_wp2
        exact bodyPost_ret (v := .agg #[.bool (decide (vlTruth (sg != 0) < 0)), .slice p l c]) (by simp [results, Tryz.results16, go_sem, q0, q1]) rfl ⟨_, rfl, by rw [← HQ.out]; exact Hi.out.stored hpr.out _ _ _ _, Below.stored Hb.out (by omega) _ _⟩
      · obtain rfl : z = rr := by rw [Hrr.out, if_neg hso]
        obtain ⟨p4, c4, l4, e4, hat, hsm, hln, hz⟩ := vr.parts
        injection e4 with f1 f2 f3
        subst f1 f2 f3
        have Hc := hid (Whole_any vd _ l4 wr hat hsm (by omega))
        rw [← hz] at Hc
        have t1 : (so == 1) = false := by simpa using hso
        clear Hrr vr vh hat hsm hln hz Hend Hval
        go_wp2_with fail
        refine Hc.out.mono ?_
        rintro e w3 ⟨v3, rfl, hi, b3⟩
        obtain ⟨p, l, c, rfl, hi⟩ := hi.shape
        have hpr := hid (hpr0.out.below b3)
        have hq := hpr.out.cells
        obtain ⟨_, _, q0, q1, q2, q3⟩ := hq
        have Hi := hid hi; have Hb := hid (bel_go b3 HBw.out)
        clear hi b3 Hc
        go_wp2
        exact bodyPost_ret (v := .agg #[.bool (decide (z < 0)), .slice p l c]) (by simp [results, Tryz.results16, go_sem, q0, q1]) rfl ⟨_, rfl, Hi.out.stored hpr.out _ _ _ _, Below.stored Hb.out (by omega) _ _⟩
end Go.Proofs.YtckkpolikdnilaaGreatDoor
/- Symbols, terms, rows and bytes that come in as data, by value; how long names may be; PoolNil of what comes in. -/
namespace Go.Proofs.YtckkpolikdnilaaGreatDoor
open Go.ChangeShapes Go.WideShapes Go.ChangeAt Go.RowKit Go.Deep Go.Joins Big

theorem cellsU8 : Tryz.prog.cellsOf 5 = 1 := by kernel_rfl
theorem fieldsTerms : ∃ f0 f1 : Field, Tryz.prog.underlying 25 = some (.struct #[f0, f1]) ∧ f0.type = 22 ∧ f1.type = 23 ∧ f0.offset = 0 ∧ f1.offset = 1 := ⟨_, _, Tryz.underlying25, rfl, rfl, rfl, rfl⟩
theorem cellsTermsP : Tryz.prog.cellsOf 25 = 2 := by kernel_rfl
theorem cellsSysP : Tryz.prog.cellsOf 22 = 1 := by kernel_rfl
theorem cellsTmsP : Tryz.prog.cellsOf 23 = 1 := by kernel_rfl
section
variable {H : Type} {enc : TypeId × Value → H} {w : World} {base : Nat} {spare : Nat → Bool} {held : Bool}
theorem weightsAll_mem {P : Program} {e : TypeId} : ∀ {ds : List (DataW H)} {d : DataW H}, d ∈ ds → ∀ n ∈ d.weights P e, n ∈ DataW.weightsAll P e ds
  | d0 :: ds, d, hd, n, hn => by
    simp only [DataW.weightsAll, List.mem_append]
    rcases List.mem_cons.1 hd with rfl | hd
    · exact .inl hn
    · exact .inr (weightsAll_mem hd n hn)
theorem name_weight {d : DataW H} {b : List UInt8} {r : List (DataW H)} (hm : DataW.agg (.lit (.string b) :: r) ∈ dataOf d) : b.length ∈ d.weights Tryz.prog 22 := by
  cases d with
  | slice e s =>
    obtain ⟨f0, f1, f2, hs, e0, -⟩ := fieldsSym
    unfold DataW.weights
    rw [Tryz.underlying22]
    refine List.mem_cons_of_mem _ (List.mem_append.2 (.inl (weightsAll_mem hm _ ?_)))
    unfold DataW.weights
    rw [hs]
    simp only [List.map_cons, DataW.weightsEach, List.mem_append]
    exact .inl (by simp [DataW.weights])
  | _ => simp [dataOf] at hm
theorem reach_small : reachBytes ≤ 281474976710656 := by decide
set_option maxRecDepth 100000 in
theorem open_syms {r : Reach} {b0 j : Nat} {v : Value} {d : DataW H} {p : List MemPlace} {ts : List TypeId} {ds : List (DataW H)} (hv : Value.okWide Tryz.prog w r b0 22 v) (h : DataW.Trod enc Tryz.prog w base spare held 22 v d p)
    (hsz : (DataW.weightsEach Tryz.prog ts ds).all (· ≤ reachBytes) = true) (ht : ts[j]? = some 22) (hd : ds[j]? = some d) : ∃ l, SyIn w v l ∧ ∀ s ∈ l, s.name.length ≤ 281474976710656 := by
  obtain ⟨a, len, cap, rfl⟩ := okWide_slice Tryz.underlying22 hv
  obtain ⟨fuel, hf⟩ := h
  obtain ⟨v', l, he, h1, h2⟩ := open_sys hf
  have hv' : v' = .slice a len cap := by simpa [Value.cells] using he.symm
  rw [hv'] at h1
  refine ⟨l, h1, fun s hs => ?_⟩
  obtain ⟨r, hm⟩ := h2 s hs
  have := List.all_eq_true.1 hsz _ (DataW.weights_mem_each ht hd _ (name_weight hm))
  have := reach_small
  simp at *
  omega
set_option maxRecDepth 100000 in
theorem open_terms {r : Reach} {b0 : Nat} {v : Value} {d : DataW H} {p : List MemPlace} (hv : Value.okWide Tryz.prog w r b0 23 v) (h : DataW.Trod enc Tryz.prog w base spare held 23 v d p) : ∃ l, TxsIn w v l := by
  obtain ⟨a, len, cap, rfl⟩ := okWide_slice Tryz.underlying23 hv
  obtain ⟨fuel, hf⟩ := h
  obtain ⟨v', l, he, h1⟩ := open_txs hf
  have hv' : v' = .slice a len cap := by simpa [Value.cells] using he.symm
  rw [hv'] at h1
  exact ⟨l, h1⟩
set_option maxRecDepth 100000 in
theorem open_rws {r : Reach} {b0 j : Nat} {v : Value} {d : DataW H} {p : List MemPlace} {ts : List TypeId} {ds : List (DataW H)} (hv : Value.okWide Tryz.prog w r b0 25 v) (h : DataW.Trod enc Tryz.prog w base spare held 25 v d p)
    (hsz : (DataW.weightsEach Tryz.prog ts ds).all (· ≤ reachBytes) = true) (ht : ts[j]? = some 25) (hd : ds[j]? = some d) : ∃ va vb sy tx, v = .agg #[va, vb] ∧ SyIn w va sy ∧ TxsIn w vb tx ∧ ∀ s ∈ sy, s.name.length ≤ 281474976710656 := by
  obtain ⟨f0, f1, hs, e0, e1, o0, o1⟩ := fieldsTerms
  obtain ⟨cs, rfl, -⟩ := okWide_struct hs hv
  obtain ⟨fuel, hf⟩ := h
  obtain ⟨xs, n, -, hx, hl, hlen, hfi⟩ := DataW.trod_struct hs hf
  rw [cellsTermsP] at hl
  obtain ⟨va, vb, hcs⟩ : ∃ a b, cs = #[a, b] := by
    obtain ⟨l⟩ := cs
    have hl' : l.length = 2 := by simpa [Value.cells] using hl
    match l, hl' with
    | [a, b], _ => exact ⟨a, b, rfl⟩
  subst hcs
  match xs, hlen with
  | [y0, y1], _ =>
    have h0 := hfi 0 f0 rfl
    have h1 := hfi 1 f1 rfl
    rw [e0, o0, cellsSysP] at h0
    rw [e1, o1, cellsTmsP] at h1
    obtain ⟨v0, sy, g0, k0, n0⟩ := open_sys (show DataW.trod enc Tryz.prog w base spare held n 22 [va] = some y0 from h0)
    obtain ⟨v1, tx, g1, k1⟩ := open_txs (show DataW.trod enc Tryz.prog w base spare held n 23 [vb] = some y1 from h1)
    injection g0 with g0 _; injection g1 with g1 _
    subst g0 g1
    refine ⟨va, vb, sy, tx, rfl, k0, k1, fun s hs' => ?_⟩
    obtain ⟨r, hm⟩ := n0 s hs'
    have hdd : d = .agg [y0.1, y1.1] := by injection hx
    have hwt : s.name.length ∈ d.weights Tryz.prog 25 := by
      rw [hdd]
      unfold DataW.weights
      rw [hs]
      simp only [List.map_cons, DataW.weightsEach, List.mem_append, e0]
      exact .inl (name_weight hm)
    have := List.all_eq_true.1 hsz _ (DataW.weights_mem_each ht hd _ hwt)
    have := reach_small
    simp at *
    omega
theorem wf_u8 {n : Int} (h : (Lit.int .u8 n).wf = true) : 0 ≤ n ∧ n < 256 := by
  have h' : (decide (IntKind.u8.min ≤ n) && decide (n ≤ IntKind.u8.max)) = true := h
  have e1 : IntKind.u8.min = 0 := by decide
  have e2 : IntKind.u8.max = 255 := by decide
  rw [e1, e2] at h'
  simp only [Bool.and_eq_true, decide_eq_true_eq] at h'
  omega
set_option maxRecDepth 100000 in
theorem open_bytes {r : Reach} {b0 : Nat} {v : Value} {d : DataW H} {p : List MemPlace} (hv : Value.okWide Tryz.prog w r b0 50 v) (h : DataW.Trod enc Tryz.prog w base spare held 50 v d p) :
    ∃ l, At w .u8 v l := by
  obtain ⟨a, len, cap, rfl⟩ := okWide_slice Tryz.underlying50 hv
  obtain ⟨fuel, hf⟩ := h
  rcases open_ints Tryz.underlying50 Tryz.underlying5 cellsU8 hf with ⟨he, -⟩ | ⟨a', len', cap', zs, he, hb, hl, hm, hz, -, hc, hwf⟩
  · have he : Value.slice a len cap = .slice none 0 0 := by simpa [Value.cells] using he
    rw [he]
    exact ⟨[], At.nil w .u8⟩
  · have he : Value.slice a len cap = .slice (some a') len' cap' := by simpa [Value.cells] using he
    rw [he]
    have hlz : len' ≤ zs.length := by rw [hz]; split <;> omega
    refine ⟨(zs.take len').map Int.toNat, ?_⟩
    have e : ((zs.take len').map Int.toNat).length = len' := by simp [Nat.min_eq_left hlz]
    refine ⟨some a', cap', by rw [e], by rw [e]; exact hl, hm, nofun, fun h0 => ?_⟩
    rw [e] at h0
    have hs := hc 0 (by omega)
    obtain ⟨b, off, spot⟩ := a'
    cases spot with
    | some x =>
      exfalso
      revert hs
      unfold World.cell? Addr.add
      split <;> simp
    | none =>
      refine ⟨b, off, rfl, World.block_lt_of_cell? w _ hs, fun i hi => ?_⟩
      rw [e] at hi
      have hci := hc i (by omega)
      have hw := wf_u8 (hwf _ (List.getElem_mem (n := i) (l := zs) (by omega)))
      rw [add_plain] at hci
      rw [hci]
      have hg : zs.getD i 0 = zs[i]'(by omega) := by simp [List.getD, show i < zs.length by omega]
      rw [hg]
      simp only [List.getElem_map, List.getElem_take]
      congr 2
      omega
end
end Go.Proofs.YtckkpolikdnilaaGreatDoor
/- Numbers, rows, tables and models that come in as data. -/
namespace Go.Proofs.YtckkpolikdnilaaGreatDoor
open Go.ChangeShapes Go.WideShapes Go.ChangeAt Go.RowKit Go.Deep Go.Joins Big

theorem fieldsRow : ∃ f0 f1 : Field, Tryz.prog.underlying 63 = some (.struct #[f0, f1]) ∧ f0.type = 32 ∧ f1.type = 44 ∧ f0.offset = 0 ∧ f1.offset = 1 := ⟨_, _, Tryz.underlying63, rfl, rfl, rfl, rfl⟩
theorem fieldsTable : ∃ f0 f1 : Field, Tryz.prog.underlying 46 = some (.struct #[f0, f1]) ∧ f0.type = 40 ∧ f1.type = 44 ∧ f0.offset = 0 ∧ f1.offset = 1 := ⟨_, _, Tryz.underlying46, rfl, rfl, rfl, rfl⟩
theorem fieldsModel : ∃ f0 : Field, Tryz.prog.underlying 28 = some (.struct #[f0]) ∧ f0.type = 26 ∧ f0.offset = 0 := ⟨_, Tryz.underlying28, rfl, rfl⟩
theorem cellsRowP : Tryz.prog.cellsOf 63 = 3 := by kernel_rfl
theorem cellsTableP : Tryz.prog.cellsOf 46 = 3 := by kernel_rfl
theorem cellsModelP : Tryz.prog.cellsOf 28 = 1 := by kernel_rfl
theorem cellsIntsP : Tryz.prog.cellsOf 32 = 1 := by kernel_rfl
theorem cellsRowsP : Tryz.prog.cellsOf 40 = 1 := by kernel_rfl
theorem cellsTablesP : Tryz.prog.cellsOf 26 = 1 := by kernel_rfl
section
variable {H : Type} {enc : TypeId × Value → H} {w : World} {base : Nat} {spare : Nat → Bool} {held : Bool}
theorem open_ls {α : Type} {t e : TypeId} (size : Nat) (ht : Tryz.prog.underlying t = some (.slice e)) (hsz : Tryz.prog.cellsOf e = size) (hpos : 0 < size) {Q : World → List Value → α → Prop}
    (each : ∀ m cs y, DataW.trod enc Tryz.prog w base spare held m e cs = some y → ∃ x : α, Q w cs x) {fuel : Nat} {cs : List Value} {y : DataW H × List MemPlace} (h : DataW.trod enc Tryz.prog w base spare held fuel t cs = some y) :
    ∃ v l, cs = [v] ∧ LsIn size Q w v l := by
  obtain ⟨p, cap, l, hcs, h1, h2, h3, h4⟩ := open_rows (α := α) (Q := fun cs x _ => Q w cs x) size ht hsz hpos each h
  refine ⟨_, l, hcs, p, cap, rfl, h1, h2, h3, fun h0 => ?_⟩
  obtain ⟨b, off, e, hb, hc⟩ := h4 h0
  refine ⟨b, off, e, hb, fun i hi => ?_⟩
  obtain ⟨c, d, -, k, hq, -⟩ := hc i hi
  exact ⟨c, k, hq⟩
set_option maxRecDepth 100000 in
theorem open_nx {fuel : Nat} {cs : List Value} {y : DataW H × List MemPlace} (h : DataW.trod enc Tryz.prog w base spare held fuel 44 cs = some y) : ∃ x : Nx, NxQ w cs x := by
  obtain ⟨i0, i1, hsi, ei0, ei1, oi0, oi1⟩ := fieldsIntP
  obtain ⟨zs, m, rfl, -, hl, hzl, hzf⟩ := DataW.trod_struct hsi h
  rw [cellsIntP] at hl
  match cs, hl, zs, hzl with
  | [c0, c1], _, [z0, z1], _ =>
    have k0 := hzf 0 i0 rfl
    have k1 := hzf 1 i1 rfl
    rw [ei0, oi0, cellsBoolP] at k0
    rw [ei1, oi1, cellsNatP] at k1
    obtain ⟨b, gb, -⟩ := DataW.trod_bool Tryz.underlying4 (show DataW.trod enc Tryz.prog w base spare held m 4 [c0] = some z0 from k0)
    obtain ⟨ws, hw, hsm⟩ := open_nat (show DataW.trod enc Tryz.prog w base spare held m 42 [c1] = some z1 from k1)
    injection gb with gb _
    subst gb
    obtain ⟨pm, cm, rfl, r⟩ := hw
    exact ⟨⟨b, ws⟩, pm, cm, rfl, ⟨pm, cm, rfl, r⟩, hsm⟩
theorem open_nxs {fuel : Nat} {cs : List Value} {y : DataW H × List MemPlace} (h : DataW.trod enc Tryz.prog w base spare held fuel 32 cs = some y) : ∃ v l, cs = [v] ∧ NxsIn w v l :=
  open_ls 2 Tryz.underlying32 cellsIntP (by decide) (fun _ _ _ h => open_nx h) h
set_option maxRecDepth 100000 in
theorem open_rx {fuel : Nat} {cs : List Value} {y : DataW H × List MemPlace} (h : DataW.trod enc Tryz.prog w base spare held fuel 63 cs = some y) : ∃ x : Rx, RxQ w cs x := by
  obtain ⟨f0, f1, hs, e0, e1, o0, o1⟩ := fieldsRow
  obtain ⟨xs, n, rfl, -, hl, hlen, hf⟩ := DataW.trod_struct hs h
  rw [cellsRowP] at hl
  match cs, hl, xs, hlen with
  | [c0, c1, c2], _, [y0, y1], _ =>
    have h0 := hf 0 f0 rfl
    have h1 := hf 1 f1 rfl
    rw [e0, o0, cellsIntsP] at h0
    rw [e1, o1, cellsIntP] at h1
    obtain ⟨v, l, g, k⟩ := open_nxs (show DataW.trod enc Tryz.prog w base spare held n 32 [c0] = some y0 from h0)
    obtain ⟨x, k'⟩ := open_nx (show DataW.trod enc Tryz.prog w base spare held n 44 [c1, c2] = some y1 from h1)
    injection g with g _
    subst g
    exact ⟨⟨l, x⟩, _, _, _, rfl, k, k'⟩
theorem open_rxs {fuel : Nat} {cs : List Value} {y : DataW H × List MemPlace} (h : DataW.trod enc Tryz.prog w base spare held fuel 40 cs = some y) : ∃ v l, cs = [v] ∧ RxsIn w v l :=
  open_ls 3 Tryz.underlying40 cellsRowP (by decide) (fun _ _ _ h => open_rx h) h
set_option maxRecDepth 100000 in
theorem open_tbx {fuel : Nat} {cs : List Value} {y : DataW H × List MemPlace} (h : DataW.trod enc Tryz.prog w base spare held fuel 46 cs = some y) : ∃ x : Tbx, TbxQ w cs x := by
  obtain ⟨f0, f1, hs, e0, e1, o0, o1⟩ := fieldsTable
  obtain ⟨xs, n, rfl, -, hl, hlen, hf⟩ := DataW.trod_struct hs h
  rw [cellsTableP] at hl
  match cs, hl, xs, hlen with
  | [c0, c1, c2], _, [y0, y1], _ =>
    have h0 := hf 0 f0 rfl
    have h1 := hf 1 f1 rfl
    rw [e0, o0, cellsRowsP] at h0
    rw [e1, o1, cellsIntP] at h1
    obtain ⟨v, l, g, k⟩ := open_rxs (show DataW.trod enc Tryz.prog w base spare held n 40 [c0] = some y0 from h0)
    obtain ⟨x, k'⟩ := open_nx (show DataW.trod enc Tryz.prog w base spare held n 44 [c1, c2] = some y1 from h1)
    injection g with g _
    subst g
    exact ⟨⟨l, x⟩, _, _, _, rfl, k, k'⟩
theorem open_tbxs {fuel : Nat} {cs : List Value} {y : DataW H × List MemPlace} (h : DataW.trod enc Tryz.prog w base spare held fuel 26 cs = some y) : ∃ v l, cs = [v] ∧ TbxsIn w v l :=
  open_ls 3 Tryz.underlying26 cellsTableP (by decide) (fun _ _ _ h => open_tbx h) h
set_option maxRecDepth 100000 in
/-- numbers by value -/
theorem open_nums {r : Reach} {b0 : Nat} {v : Value} {d : DataW H} {p : List MemPlace} (hv : Value.okWide Tryz.prog w r b0 32 v) (h : DataW.Trod enc Tryz.prog w base spare held 32 v d p) : ∃ l, NxsIn w v l := by
  obtain ⟨a, len, cap, rfl⟩ := okWide_slice Tryz.underlying32 hv
  obtain ⟨fuel, hf⟩ := h
  obtain ⟨v', l, he, h1⟩ := open_nxs hf
  have hv' : v' = .slice a len cap := by simpa [Value.cells] using he.symm
  rw [hv'] at h1
  exact ⟨l, h1⟩
set_option maxRecDepth 100000 in
/-- a table by value -/
theorem open_table {r : Reach} {b0 : Nat} {v : Value} {d : DataW H} {p : List MemPlace} (hv : Value.okWide Tryz.prog w r b0 46 v) (h : DataW.Trod enc Tryz.prog w base spare held 46 v d p) : ∃ x a n s, v = .agg #[a, n, s] ∧ TbxQ w [a, n, s] x := by
  obtain ⟨f0, f1, hs, -⟩ := fieldsTable
  obtain ⟨cs, rfl, hsz⟩ := okWide_struct hs hv
  obtain ⟨fuel, hf⟩ := h
  obtain ⟨x, hx⟩ := open_tbx hf
  obtain ⟨a, n, s, hcs, h1, h2⟩ := id hx
  obtain ⟨l⟩ := cs
  have : l = [a, n, s] := by simpa [Value.cells] using hcs
  subst this
  exact ⟨x, a, n, s, rfl, hx⟩
set_option maxRecDepth 100000 in
/-- a model by value -/
theorem open_model {r : Reach} {b0 : Nat} {v : Value} {d : DataW H} {p : List MemPlace} (hv : Value.okWide Tryz.prog w r b0 28 v) (h : DataW.Trod enc Tryz.prog w base spare held 28 v d p) : ∃ vm l, v = .agg #[vm] ∧ TbxsIn w vm l := by
  obtain ⟨f0, hs, e0, o0⟩ := fieldsModel
  obtain ⟨cs, rfl, hsz⟩ := okWide_struct hs hv
  obtain ⟨fuel, hf⟩ := h
  obtain ⟨xs, n, -, -, hl, hlen, hfi⟩ := DataW.trod_struct hs hf
  rw [cellsModelP] at hl
  obtain ⟨va, hcs⟩ : ∃ a, cs = #[a] := by
    obtain ⟨l⟩ := cs
    have hl' : l.length = 1 := by simpa [Value.cells] using hl
    match l, hl' with
    | [a], _ => exact ⟨a, rfl⟩
  subst hcs
  match xs, hlen with
  | [y0], _ =>
    have h0 := hfi 0 f0 rfl
    rw [e0, o0, cellsTablesP] at h0
    obtain ⟨v0, l, g0, k0⟩ := open_tbxs (show DataW.trod enc Tryz.prog w base spare held n 26 [va] = some y0 from h0)
    injection g0 with g0 _
    subst g0
    exact ⟨va, l, rfl, k0⟩
end
end Go.Proofs.YtckkpolikdnilaaGreatDoor
/- ValueTells answers true. -/
namespace Go.Proofs.YtckkpolikdnilaaGreatDoor
open Go.RowKit Big Go.WideMaps

theorem NxQ.shape {w : World} {n s : Value} {x : Nx} (h : NxQ w [n, s] x) : ∃ p c, n = .bool x.neg ∧ s = .slice p x.words.length c := by
  obtain ⟨p, c, e, -⟩ := h
  injection e with e1 e
  injection e with e2 _
  exact ⟨p, c, e1, e2⟩
theorem TbxQ.shape {w : World} {a n s : Value} {x : Tbx} (h : TbxQ w [a, n, s] x) : ∃ p c q d, a = .slice p x.rows.length c ∧ n = .bool x.els.neg ∧ s = .slice q x.els.words.length d := by
  obtain ⟨a', n', s', e, hr, he⟩ := h
  injection e with e0 e
  injection e with e1 e
  injection e with e2 _
  subst e0 e1 e2
  obtain ⟨p, c, rfl, -⟩ := hr
  obtain ⟨q, d, h1, h2⟩ := he.shape
  exact ⟨p, c, q, d, rfl, h1, h2⟩
theorem TbxQ.rows9 {w : World} {c : List Value} {x : Tbx} (h : TbxQ w c x) (hf : x.fit) : ∀ r ∈ x.t.rows, ∀ z ∈ r.1, sz Big.W z.natAbs ≤ 549755813888 := by
  intro r hr z hz
  obtain ⟨y, hy, rfl⟩ := List.mem_map.1 hr
  obtain ⟨a, n, s, rfl, hrs, -⟩ := h
  obtain ⟨i, hi, rfl⟩ := List.mem_iff_getElem.1 hy
  obtain ⟨b, o, c, cs, -, -, -, ra, rn, rs, -, hra, -⟩ := hrs.at i hi
  exact Nat.le_trans (hra.small (hf.2.2 _ hy).2.2 z hz) (by decide)
theorem TbxsIn.one {w : World} {a n s : Value} {x : Tbx} {t : TypeId} (h : TbxQ w [a, n, s] x) : TbxsIn (w.alloc (.cells #[a, n, s] t)) (.slice (some ⟨w.heap.size, 0, none⟩) 1 1) [x] := by
  have hn := heap_alloc_new w (.cells #[a, n, s] t)
  refine ⟨_, 1, rfl, by simp, by simp [maxLen], by simp, fun _ => ⟨w.heap.size, 0, rfl, by rw [size_alloc]; omega, fun i hi => ?_⟩⟩
  obtain rfl : i = 0 := by simp at hi; omega
  refine ⟨[a, n, s], fun j u hj => ?_, h.below (below1 _ _)⟩
  rw [cell_of_row _ _ _ _ _ _ hn]
  simpa using hj
set_option maxRecDepth 100000 in
set_option maxHeartbeats 12800000 in
theorem lawTells_any (sy : Sy) (x : Tbx) (a n s v : Value) (l : List Nx) (w : World) (htab : Tb w.heap.size w) (ht : TbxQ w [a, n, s] x) (hl : NxsIn w v l) :
    Calls Tryz.prog 4 #[sy.val, .agg #[a, n, s], v] w (RBool true w) := by
  have HT := hid ht; have HL := hid hl
  obtain ⟨pr, cr, pe, ce, rfl, rfl, rfl⟩ := ht.shape
  obtain ⟨pl, cl, rfl, l1, l2, -, -⟩ := hl
  unfold maxLen at l2
  obtain ⟨A, hA⟩ : ∃ A, A = l.length := ⟨_, rfl⟩
  have HAl := hid hA
  rw [← hA] at HL l1 ⊢
  clear hA
  obtain ⟨W, hW⟩ : ∃ W, W = (w.alloc (.cells #[.string ⟨sy.name.toArray⟩, .int .i64 sy.arity, .int .i64 sy.sort] 39)).alloc (.cells #[.slice pr x.rows.length cr, .bool x.els.neg, .slice pe x.els.words.length ce] 46) := ⟨_, rfl⟩
  have b0 : Below w.heap.size w W := by rw [hW]; exact (below1 w _).alloc (by simp) _
  have e0 : W.heap[w.heap.size]? = some (.cells #[.string ⟨sy.name.toArray⟩, .int .i64 sy.arity, .int .i64 sy.sort] 39 (0, 0)) := by rw [hW]; exact alloc_keep (alloc_at _ _ _ rfl)
  have e1 : W.heap[w.heap.size + 1]? = some (.cells #[.slice pr x.rows.length cr, .bool x.els.neg, .slice pe x.els.words.length ce] 46 (0, 0)) := by rw [hW]; exact alloc_at _ _ _ (by rw [size_alloc])
  have z0 : W.heap.size = w.heap.size + 1 + 1 := by rw [hW, size_alloc, size_alloc]
  have HF := hid (fixed5_any W (tab_later htab b0))
  have B0 := hid b0; have E0 := hid e0; have E1 := hid e1; have Z0 := hid z0
  clear b0 e0 e1 z0 htab
  show Calls _ _ #[.agg #[.string ⟨sy.name.toArray⟩, .int .i64 sy.arity, .int .i64 sy.sort], _, _] _ _
  generalize (⟨sy.name.toArray⟩ : ByteArray) = nm at *
  generalize sy.arity = ar at *
  generalize sy.sort = so at *
  go_enter Tryz.func4, Tryz.ntmps4
  go_upto_region 1 with fail
  rw [← hW]
  clear hW
  go_wp2_with fail
  refine HF.out.mono ?_
  rintro e w1 ⟨rfl, b1⟩
  have B1 := hid (bel_go b1 B0.out)
  have F0 := hid ((b1.block w.heap.size (by have := Z0.out; omega)).trans E0.out)
  have F1 := hid ((b1.block (w.heap.size + 1) (by have := Z0.out; omega)).trans E1.out)
  have hz1 : w.heap.size + 1 < w1.heap.size := by have := b1.size; have := Z0.out; omega
  have y := rec3_cells F1.out
  obtain ⟨y0, y1, y2⟩ := y
  clear b1 E0 E1 HF B0 Z0
  have b2 := below1 w1 (.cells #[.slice pr x.rows.length cr, .bool x.els.neg, .slice pe x.els.words.length ce] 46)
  have HFew := hid (RFewM_any _ [x] _ (TbxsIn.one (t := 46) (HT.out.below B1.out)))
  generalize hW2 : w1.alloc (.cells #[.slice pr x.rows.length cr, .bool x.els.neg, .slice pe x.els.words.length ce] 46) = W2 at *
  have B2 := hid b2
  clear b2
  go_wp2_with fail
  clear y0 y1 y2
  refine HFew.out.mono ?_
  rintro e w3 ⟨bf, rfl, hbf, b3⟩
  have b13 := bel_go b3 B2.out
  have G0 := hid ((b13.block w.heap.size (by omega)).trans F0.out)
  have G1 := hid ((b13.block (w.heap.size + 1) (by omega)).trans F1.out)
  have B3 := hid (bel_go b13 B1.out)
  have Hbf := hid hbf
  have hz3 : w.heap.size + 1 < w3.heap.size := by have := b13.size; omega
  clear hbf b3 b13 F0 F1 HFew hW2 B2 B1
  cases bf
  case false =>
    go_wp2_with fail
    go_ret
    exact ⟨rfl, B3.out⟩
  case true =>
  have hfx := (Hbf.out rfl).2 x (by simp)
  cases h10 : decide ((10 : Int) < (A : Int))
  case true =>
    go_wp2_with fail
    go_ret
    exact ⟨rfl, B3.out⟩
  case false =>
  have h10' : A ≤ 10 := by have := of_decide_eq_false h10; omega
  have Hfx := hid hfx
  clear hfx Hbf
  go_wp2_with fail
  clear h10
  go_loopw [23] (fun i wr => ∃ k : Nat, k ≤ A ∧ i = .int .i64 (k : Nat) ∧ Hid (∀ y ∈ l.take k, y.fit) ∧ Hid (Below w3.heap.size w3 wr)) (fun i _ => A - (intOf i).toNat)
  case atStart => exact ⟨0, Nat.zero_le _, rfl, hid (by simp), hid (Below.refl _ _)⟩
  case round =>
    obtain ⟨k, hk, rfl, hF, hB⟩ := hrel
    have hBw := hid (bel_go hB.out B3.out)
    by_cases hlt : k < A
    · have hkl : k < l.length := by rw [← HAl.out]; exact hlt
      have hlt' : (k : Int) < (A : Int) := by omega
      have hat := HL.out.at k hkl
      rw [← HAl.out] at hat
      obtain ⟨b, o, c, cs, e, hb, hc, qe, de, rfl, ⟨_, _, e7, v1, v2, -, -⟩, -⟩ := hat
      injection e with e1 _ e3
      subst e1 e3
      injection e7 with f1 _ f3
      subst f1 f3
      have m0 := (hBw.out.cell (p := ⟨b, o + k * 2, none⟩) hb).trans (hc 0 _ rfl)
      have m1 := (hBw.out.cell (p := ⟨b, o + k * 2 + 1, none⟩) hb).trans (hc 1 _ rfl)
      unfold maxLen at v2
      have Hnx3 := hid (fun h => all_succ (P := Nx.fit) hkl hF.out h)
      have hfit : Hid (l[k].words.length ≤ 6 → l[k].fit) := hid (fun h1 => h1)
      generalize l[k] = y at *
      have b5 := below1 wr (.cells #[.bool y.neg, .slice qe y.words.length de] 44)
      have HB5 := hid (bel_go b5 hB.out)
      clear hc hF hb b5
      cases h6 : decide ((6 : Int) < (y.words.length : Int))
      case true =>
        go_wp2_with fail
        go_ret
        exact ⟨rfl, bel_go HB5.out B3.out⟩
      case false =>
      have hy := hid (hfit.out (by have := of_decide_eq_false h6; omega))
      go_wp2_with fail
      go_roundw
      case rel => exact ⟨k + 1, by omega, by go_num, hid (Hnx3.out hy.out), HB5⟩
      case measure => simp [intOf] <;> omega
    · obtain rfl : k = A := by omega
      have hfl : ∀ y ∈ l, y.fit := by have := hF.out; rw [HAl.out, List.take_length] at this; exact this
      have hnums := HL.out.nums hfl
      have hsm : ∀ z ∈ l.map Nx.z, sz Big.W z.natAbs ≤ 549755813888 := fun z hz => Nat.le_trans (HL.out.small hfl z hz) (by decide)
      have htb := (HT.out.tab Hfx.out).2
      have h9 := HT.out.rows9 Hfx.out
      have Htl := hid (fun (w' : World) (hb : Below wr.heap.size wr w') => Tell_any (.string nm) ⟨_, rfl⟩ ar so _ _ _ _ x.t (l.map Nx.z) w' (htb.below (bel_go hb hBw.out)) (hnums.below (bel_go hb hBw.out)))
      have Hrt := hid (fun (w' : World) (hb : Below wr.heap.size wr w') => RTell_any (.string nm) ⟨_, rfl⟩ ar so _ _ _ _ x.t (l.map Nx.z) w' (htb.below (bel_go hb hBw.out)) (hnums.below (bel_go hb hBw.out)) hsm h9)
      have hg0 := rec3_cells ((hB.out.block w.heap.size (by omega)).trans G0.out)
      have hg1 := rec3_cells ((hB.out.block (w.heap.size + 1) (by omega)).trans G1.out)
      have hzr : w.heap.size + 1 < wr.heap.size := by have := hB.out.size; omega
      have HS : Hid (∀ w', Below wr.heap.size wr w' → w'.cell? ⟨w.heap.size, 0, none⟩ = some (.string nm) ∧ w'.cell? ⟨w.heap.size, 1, none⟩ = some (.int .i64 ar) ∧ w'.cell? ⟨w.heap.size, 2, none⟩ = some (.int .i64 so) ∧ w'.cell? ⟨w.heap.size + 1, 0, none⟩ = some (.slice pr x.rows.length cr) ∧ w'.cell? ⟨w.heap.size + 1, 1, none⟩ = some (.bool x.els.neg) ∧ w'.cell? ⟨w.heap.size + 1, 2, none⟩ = some (.slice pe x.els.words.length ce) ∧ Below wr.heap.size wr w') := hid fun w' hb =>
        ⟨(hb.cell (p := ⟨w.heap.size, 0, none⟩) (by show w.heap.size < _; omega)).trans hg0.1, (hb.cell (p := ⟨w.heap.size, 1, none⟩) (by show w.heap.size < _; omega)).trans hg0.2.1, (hb.cell (p := ⟨w.heap.size, 2, none⟩) (by show w.heap.size < _; omega)).trans hg0.2.2, (hb.cell (p := ⟨w.heap.size + 1, 0, none⟩) hzr).trans hg1.1, (hb.cell (p := ⟨w.heap.size + 1, 1, none⟩) hzr).trans hg1.2.1, (hb.cell (p := ⟨w.heap.size + 1, 2, none⟩) hzr).trans hg1.2.2, hb⟩
      clear hfl hnums hsm htb h9 hg0 hg1
      generalize vlTell so x.t (l.map Nx.z) = r at *
      go_upto_region 11 with fail
      go_region_held3 (fun w' => w'.cell? ⟨w.heap.size, 0, none⟩ = some (.string nm) ∧ w'.cell? ⟨w.heap.size, 1, none⟩ = some (.int .i64 ar) ∧ w'.cell? ⟨w.heap.size, 2, none⟩ = some (.int .i64 so) ∧ w'.cell? ⟨w.heap.size + 1, 0, none⟩ = some (.slice pr x.rows.length cr) ∧ w'.cell? ⟨w.heap.size + 1, 1, none⟩ = some (.bool x.els.neg) ∧ w'.cell? ⟨w.heap.size + 1, 2, none⟩ = some (.slice pe x.els.words.length ce) ∧ Below wr.heap.size wr w')
        (first | exact HS.out _ (Below.drew (Below.refl _ _)) | (refine HS.out _ (bel_go hb ?_); go_split_ands; assumption))
        (first
          | (go_at_call 15; (with_reducible refine (Htl.out _ (by go_split_ands; assumption)).mono ?_); rintro e wa ⟨u1, rfl, j1, hb⟩)
          | (go_at_call 16; (with_reducible refine (Hrt.out _ (by go_split_ands; assumption)).mono ?_); rintro e wb ⟨u2, rfl, j2, hb⟩; have j1 := j1.below hb)
          | (go_at_call 14; refine (SameInt_same _ _ r _ j1 j2).mono ?_; rintro e wc ⟨rfl, hb⟩))
      all_goals
        rename_i hHeld
        go_split_ands
        have HBf := hid (show Below wr.heap.size wr wc by assumption)
        clear hb
        go_wp2_with fail
        go_ret
        exact ⟨rfl, bel_go HBf.out hBw.out⟩
end Go.Proofs.YtckkpolikdnilaaGreatDoor
/- elenchusref01.times: products of digits. -/
namespace Go.Proofs.YtckkpolikdnilaaGreatDoor
open Go.RowKit Big

theorem rtimes_step {O : List Nat} {k x y c P Va Vb DI DJ : Nat} (hk : k < O.length) (hP : P = c + O[k] + x * y) (hDk : D ^ k = DI * DJ)
    (hv : val D O + c * D ^ k = Va + DI * (x * Vb)) : val D (O.set k (P % 65536)) + P / 65536 * D ^ (k + 1) = Va + DI * (x * (Vb + DJ * y)) := by
  have h1 := val_set D O k (P % 65536) hk
  have e2 : P % 65536 + D * (P / 65536) = c + O[k] + x * y := by rw [← hP]; unfold D; omega
  rw [Nat.pow_succ]
  generalize val D (O.set k (P % 65536)) = V' at *
  generalize O[k] = o at *
  generalize P % 65536 = r at *
  generalize P / 65536 = q at *
  have e3 : D ^ k * (r + D * q) = D ^ k * (c + o + x * y) := by rw [e2]
  rw [hDk] at e3 h1 hv ⊢
  have g1 : q * (DI * DJ * D) = DI * DJ * (D * q) := by rw [Nat.mul_left_comm, Nat.mul_comm q D]
  have g2 : DI * (x * (Vb + DJ * y)) = DI * (x * Vb) + DI * DJ * (x * y) := by rw [Nat.mul_add, Nat.mul_add, Nat.mul_assoc DI DJ, Nat.mul_left_comm x DJ y]
  have g3 : c * (DI * DJ) = DI * DJ * c := Nat.mul_comm ..
  simp only [Nat.mul_add] at e3
  rw [g1, g2]
  rw [g3] at hv
  omega
theorem dsum_lt {x y o c : Nat} (hx : x < 65536) (hy : y < 65536) (ho : o < 65536) (hc : c < 65536) : x * y ≤ 4294836225 ∧ c + o + x * y ≤ 4294967295 ∧ (c + o + x * y) / 65536 < 65536 := by
  have h : x * y ≤ 65535 * 65535 := Nat.mul_le_mul (by omega) (by omega)
  omega

set_option maxRecDepth 100000 in
set_option maxHeartbeats 3200000 in
theorem rtimes_any (v0 v1 : Value) (l0 l1 : List Nat) (w : World) (h0 : At w .i64 v0 l0) (h1 : At w .i64 v1 l1) (s0 : Small D l0) (s1 : Small D l1)
    (hl0 : l0.length ≤ 4398046511104) (hl1 : l1.length ≤ 4398046511104) : Calls Tryz.prog 107 #[v0, v1] w (RAt .i64 (dig D (val D l0 * val D l1)) w) := by
  have g1 : ∀ (k : Nat) W, Below w.heap.size w W → Calls Tryz.prog 110 #[v1, .int .i64 (k : Nat)] W fun e w' => e = .returned (.int .i64 (l1[k]?.getD 0 : Nat)) ∧ w' = W := fun k W hb => at_any v1 l1 k W (h1.below hb)
  have G1 := hid g1
  clear g1
  obtain ⟨p0, c0, rfl, a1, a2, a3, a4⟩ := h0
  obtain ⟨p1, c1, rfl, b1, b2, b3, -⟩ := h1
  unfold maxLen at a2 b2
  go_enter Tryz.func107, Tryz.ntmps107
  go_wp2_with (first
    | (at_make; refine wpList_full_at rfl _ _ 69 rfl elemInts w.heap.size _ _ _ _ (l0.length + l1.length + 1) rfl rfl (by first | rfl | omega | (simp; done)) (by first | rfl | omega | (simp; done)) (by omega) (by simp [maxLen]; omega) (Nat.le_refl _) ?_; intro vo w1 ho hb1 hs1 hvo; subst hvo))
  go_loopw [18] (fun i wr => ∃ (k : Nat) (O : List Nat), k ≤ l0.length ∧ i = .int .i64 (k : Nat) ∧ Own wr w.heap.size 3 .i64 (.slice (some ⟨w.heap.size, 0, none⟩) (l0.length + l1.length + 1) (l0.length + l1.length + 1)) O ∧ Hid (O.length = l0.length + l1.length + 1) ∧ Small D O ∧
      Hid (∀ j, k + l1.length ≤ j → O[j]?.getD 0 = 0) ∧ Hid (val D O = val D (l0.take k) * val D l1) ∧ Below w.heap.size w wr ∧ w.heap.size ≤ wr.heap.size) (fun i _ => l0.length - (intOf i).toNat)
  case atStart => exact ⟨0, List.replicate (l0.length + l1.length + 1) 0, Nat.zero_le _, rfl, ho, by simp [Hid], small_zeros (by decide) _, by unfold Hid; intro j _; simp [List.getElem?_replicate]; split <;> rfl, by unfold Hid; simp [val_zeros, val], hb1, hs1⟩
  case round =>
    obtain ⟨k, O, hk, rfl, hown, hO, hsO, hz, hv, hbel, hsz⟩ := hrel
    by_cases hkl : k < l0.length
    · obtain ⟨b, off, rfl, hbb, hcell⟩ := a4 (by omega)
      have x0 := small_get s0 k hkl
      obtain ⟨x, hx⟩ : ∃ x, x = l0[k] := ⟨_, rfl⟩
      have hcx := hcell k hkl
      rw [← hx] at x0 hcx
      have Hx := hid hx; have Hcx := hid hcx; clear hx hcell a4 hcx
      unfold D at x0
      go_wp2_with fail
      go_loopw [7, 8] (fun c j wq => ∃ (i c' : Nat) (Q : List Nat), (i ≤ l1.length ∨ (i = l1.length + 1 ∧ c' = 0)) ∧ j = .int .i64 (i : Nat) ∧ c = .int .i64 (c' : Nat) ∧ c' < 65536 ∧ Own wq w.heap.size 3 .i64 (.slice (some ⟨w.heap.size, 0, none⟩) (l0.length + l1.length + 1) (l0.length + l1.length + 1)) Q ∧ Hid (Q.length = l0.length + l1.length + 1) ∧ Small D Q ∧
        Hid (∀ j, k + 1 + l1.length ≤ j → Q[j]?.getD 0 = 0) ∧ Hid (i ≤ l1.length → Q[k + l1.length]?.getD 0 = 0) ∧ Hid (val D Q + c' * D ^ (k + i) = val D (l0.take k) * val D l1 + D ^ k * (x * val D (l1.take i))) ∧ Below w.heap.size w wq ∧ w.heap.size ≤ wq.heap.size) (fun _ j _ => l1.length + 2 - (intOf j).toNat)
      case atStart => exact ⟨0, 0, O, Or.inl (Nat.zero_le _), rfl, rfl, by omega, hown, hO, hsO, by intro j hj; exact hz.out j (by omega), by intro _; exact hz.out _ (Nat.le_refl _), by have := hv.out; unfold Hid; simp [val, this], hbel, hsz⟩
      case round =>
        obtain ⟨i, c', Q, hi, rfl, rfl, hc', hown', hQ, hsQ, hzQ, hzK, hvQ, hbel', hsz'⟩ := hrel
        by_cases hgo : i < l1.length ∨ 0 < c'
        · have hil : i ≤ l1.length := by omega
          have e0 : wr.cell? ⟨b, off + k, none⟩ = some (.int .i64 (x : Nat)) := (hbel'.cell (p := ⟨b, off + k, none⟩) hbb).trans Hcx.out
          obtain ⟨y, hy⟩ : ∃ y, y = l1[i]?.getD 0 := ⟨_, rfl⟩
          have y0 : y < 65536 := by rw [hy]; exact small_getD s1 (by decide) i
          have t1 := fun n => G1.out i (wr.drewN n) (below_drewN hbel' n)
          rw [← hy] at t1
          have T1 := hid t1; have Hy := hid hy; clear t1 hy
          have hkq : k + i < Q.length := by rw [hQ.out]; omega
          obtain ⟨cc0, f0⟩ := hown'.cell (k + i) hkq
          have o0 := small_get hsQ (k + i) hkq
          obtain ⟨o, ho'⟩ : ∃ o, o = Q[k + i] := ⟨_, rfl⟩
          rw [← ho'] at cc0 o0
          have Ho := hid ho'; clear ho'
          unfold D at o0
          obtain ⟨m1, m2, m3⟩ := dsum_lt x0 y0 o0 hc'
          obtain ⟨P, hP⟩ : ∃ P, P = c' + o + x * y := ⟨_, rfl⟩
          rw [← hP] at m2 m3
          have q1 : (x : Int) * (y : Int) ≤ 4294836225 := by
            have : ((x * y : Nat) : Int) ≤ 4294836225 := by omega
            rwa [Int.natCast_mul] at this
          have q2 : 0 ≤ (x : Int) * (y : Int) := by rw [← Int.natCast_mul]; omega
          have q3 : (c' : Int) + (o : Int) + (x : Int) * (y : Int) = (P : Int) := by rw [hP]; simp
          have HP := hid hP; have Q3 := hid q3
          clear hP q3
          have hset := hown'.set (k + i) (P % 65536)
          have hv' : val D (Q.set (k + i) (P % 65536)) + P / 65536 * D ^ (k + (i + 1)) = val D (l0.take k) * val D l1 + D ^ k * (x * val D (l1.take (i + 1))) := by
            have := rtimes_step (DI := D ^ k) (DJ := D ^ i) (x := x) (y := y) hkq (show P = c' + Q[k + i] + x * y by rw [← Ho.out]; exact HP.out) (Nat.pow_add ..) hvQ.out
            rw [val_take_getD D l1 i, ← Hy.out]
            exact this
          have hz' : ∀ j, k + 1 + l1.length ≤ j → (Q.set (k + i) (P % 65536))[j]?.getD 0 = 0 := fun j hj => by
            rw [List.getElem?_set_ne (by omega)]; exact hzQ.out j hj
          have hzk' : i + 1 ≤ l1.length → (Q.set (k + i) (P % 65536))[k + l1.length]?.getD 0 = 0 := fun h => by
            rw [List.getElem?_set_ne (by omega)]; exact hzK.out (by omega)
          have hn : i + 1 ≤ l1.length ∨ (i + 1 = l1.length + 1 ∧ P / 65536 = 0) := by
            by_cases h : i < l1.length
            · exact Or.inl (by omega)
            · right
              have e : i = l1.length := by omega
              refine ⟨by omega, ?_⟩
              have y00 : y = 0 := by rw [Hy.out, List.getElem?_eq_none (by omega)]; rfl
              have o00 : o = 0 := by
                have := hzK.out hil
                rw [Ho.out]
                rw [← e] at this
                simpa [hkq] using this
              rw [HP.out, y00, o00]; omega
          have Hv' := hid hv'; have Hz' := hid hz'; have Hzk' := hid hzk'; have Hn := hid hn
          clear hv' hz' hzk' hn hi
          rcases (by omega : i < l1.length ∨ (¬ i < l1.length ∧ 0 < c')) with h | ⟨h, h'⟩
          all_goals
            go_wp2_with fail
            go_quiet ((go_at_call 110; exact Calls.quiet_of_same (T1.out _)))
            go_wp2_with fail
            have r1 : ((c' : Int) + (o : Int) + (x : Int) * (y : Int)) / 65536 = ((P / 65536 : Nat) : Int) := by rw [Q3.out]; omega
            have r2 : ((c' : Int) + (o : Int) + (x : Int) * (y : Int)) % 65536 = ((P % 65536 : Nat) : Int) := by rw [Q3.out]; omega
            rw [r1, r2]
            have hset := (hown'.kept (below_drewN (Below.refl _ _) nq)).set (k + i) (P % 65536)
            go_roundw
            case rel => exact ⟨i + 1, P / 65536, Q.set (k + i) (P % 65536), Hn.out, by go_num, rfl, m3, hset.1, by unfold Hid; rw [List.length_set]; exact hQ.out, small_set hsQ _ (Nat.mod_lt _ (by decide)), Hz'.out, Hzk'.out, Hv'.out,
              (below_drewN hbel' nq).setCell (p := ⟨w.heap.size, k + i, none⟩) (Nat.le_refl _) _, by simpa [World.setCell] using hsz'⟩
            case measure => (simp [intOf] <;> omega)
        · have hc0 : c' = 0 := by omega
          subst hc0
          have h : ¬ i < l1.length := by omega
          have hv' : Hid (val D Q = val D (l0.take (k + 1)) * val D l1) := by
            have := hvQ.out
            rw [Nat.zero_mul, Nat.add_zero, val_take_ge D l1 i (by omega)] at this
            unfold Hid
            rw [this, val_take_succ D l0 k hkl, ← Hx.out, Nat.add_mul, Nat.mul_assoc]
          clear hgo hi hvQ
          go_wp2_with fail
          go_roundw
          case rel => exact ⟨k + 1, Q, by omega, by go_num, hown', hQ, hsQ, hzQ.out, hv'.out, hbel', hsz'⟩
          case measure => (simp [intOf] <;> omega)
    · obtain rfl : k = l0.length := by omega
      have hv' : Hid (strip O = dig D (val D l0 * val D l1)) := by
        have := hv.out
        rw [List.take_length] at this
        unfold Hid
        rw [← this, strip_dig D2 hsO]
      clear a4
      go_wp2_with (go_at_call 89; refine (rtrim_any _ O _ hown.at).mono ?_; rintro e w' ⟨v', rfl, hv'', rfl⟩)
      go_ret
      exact ⟨_, rfl, by rw [← hv'.out]; exact hv'', hbel⟩
end Go.Proofs.YtckkpolikdnilaaGreatDoor
/- elenchusref01.Mul. -/
namespace Go.Proofs.YtckkpolikdnilaaGreatDoor
open Go.RowKit Big

theorem sz_D_W (n : Nat) : sz D n ≤ 4 * sz W n := by
  refine sz_le_of_lt D2 ?_
  rw [Nat.pow_mul, show D ^ 4 = W from rfl]
  exact lt_pow_sz W2 n

set_option maxRecDepth 100000 in
set_option maxHeartbeats 1600000 in
theorem RMul_any (v0 v1 : Value) (a b : Int) (w : World) (h0 : RawAt w v0 a) (h1 : RawAt w v1 b) (ha : sz W a.natAbs ≤ 549755813888) (hb : sz W b.natAbs ≤ 549755813888) :
    Calls Tryz.prog 85 #[v0, v1] w (RInt (a * b) w) := by
  obtain ⟨n0, s0, l0, rfl, a0, b0, c0, rfl⟩ := h0
  obtain ⟨n1, s1, l1, rfl, a1, b1, c1, rfl⟩ := h1
  rw [sg_natAbs] at ha hb
  have g0 : ∀ W', Below w.heap.size w W' → Calls Tryz.prog 61 #[s0] W' (RAt .i64 (dig D (val W l0)) W') := fun W' hb => Digits_any s0 l0 W' (a0.below hb) b0 (by omega)
  have g1 : ∀ W', Below w.heap.size w W' → Calls Tryz.prog 61 #[s1] W' (RAt .i64 (dig D (val W l1)) W') := fun W' hb => Digits_any s1 l1 W' (a1.below hb) b1 (by omega)
  obtain ⟨r, hr⟩ : ∃ r, r = sg n0 (val W l0) * sg n1 (val W l1) := ⟨_, rfl⟩
  rw [← hr]
  have Hr : Hid (sg (n0 != n1) (val W l0 * val W l1) = r) := by unfold Hid; rw [sg_mul, hr]
  clear hr
  generalize val W l0 = x at *
  generalize val W l1 = y at *
  have d0 : sz D x ≤ 2199023255552 := Nat.le_trans (sz_D_W x) (by omega)
  have d1 : sz D y ≤ 2199023255552 := Nat.le_trans (sz_D_W y) (by omega)
  have dxy : sz D (x * y) ≤ 8796093022208 := Nat.le_trans (sz_mul D2 x y) (by omega)
  have wxy : sz W (x * y) ≤ 2199023255552 := Nat.le_trans (sz_mul W2 x y) (by omega)
  have ht : ∀ W' u u', At W' .i64 u (dig D x) → At W' .i64 u' (dig D y) → Calls Tryz.prog 107 #[u, u'] W' (RAt .i64 (dig D (x * y)) W') := fun W' u u' hu hu' => by
    have := rtimes_any u u' _ _ W' hu hu' (small_dig D2 x) (small_dig D2 y) (by show sz D x ≤ _; omega) (by show sz D y ≤ _; omega)
    rwa [val_dig D2, val_dig D2] at this
  have hf : ∀ W' u, At W' .i64 u (dig D (x * y)) → Calls Tryz.prog 60 #[u] W' (RAt .u64 (dig W (x * y)) W') := fun W' u hu => by
    have := From_any u _ W' hu (small_dig D2 _) dxy
    rwa [val_dig D2] at this
  have hw : ∀ W' u, At W' .u64 u (dig W (x * y)) → Calls Tryz.prog 40 #[.bool (n0 != n1), u] W' (RInt r W') := fun W' u hu => by
    have := Whole_any (n0 != n1) u _ W' hu (small_dig W2 _) wxy
    rw [val_dig W2, Hr.out] at this
    exact this
  have G0 := hid g0; have G1 := hid g1; have HT := hid ht; have HF := hid hf; have HW := hid hw
  clear g0 g1 ht hf hw a0 a1 b0 b1 c0 c1 ha hb Hr
  go_enter Tryz.func85, Tryz.ntmps85
  go_wp2_with fail
  generalize hW : World.alloc (World.alloc (World.alloc w _) _) _ = W3
  have bw : Below w.heap.size w W3 := by rw [← hW]; exact ((below1 _ _).alloc (by simp) _).alloc (by simp; omega) _
  have hp : Pair W3 (w.heap.size + 1 + 1) 44 := by rw [← hW]; exact Pair.new2 ..
  obtain ⟨c00, c01, c10, c11, -⟩ : Two W3 w.heap.size (.bool n0) s0 (.bool n1) s1 := by rw [← hW]; exact (Two.new w _ _ _ _ _).below (below1 _ _)
  have z3 : w.heap.size + 3 ≤ W3.heap.size := by rw [← hW]; simp
  have bw' := hid bw
  clear hW
  go_region_held3 (fun w' => w'.cell? ⟨w.heap.size, 0, none⟩ = some (.bool n0) ∧ w'.cell? ⟨w.heap.size, 1, none⟩ = some s0 ∧ w'.cell? ⟨w.heap.size + 1, 0, none⟩ = some (.bool n1) ∧ w'.cell? ⟨w.heap.size + 1, 1, none⟩ = some s1 ∧ Pair w' (w.heap.size + 1 + 1) 44)
    (first | (go_split_ands; (try dsimp only); (repeat' apply And.intro) <;> first | assumption | exact Pair.drew ‹_› | exact Pair.below ‹_› hb9 | exact Pair.below ‹_› hb8 | exact Pair.below ‹_› hb7 | exact Pair.below ‹_› hb6 | exact Pair.below ‹_› hb5 | exact Pair.below ‹_› hb4 | exact Pair.below ‹_› hb3 | exact Pair.below ‹_› hb2 | exact Pair.below ‹_› hb1 | exact (hb9.cell (by first | omega | (simp; omega) | (simp; done))).trans ‹_› | exact (hb8.cell (by first | omega | (simp; omega) | (simp; done))).trans ‹_› | exact (hb7.cell (by first | omega | (simp; omega) | (simp; done))).trans ‹_› | exact (hb6.cell (by first | omega | (simp; omega) | (simp; done))).trans ‹_› | exact (hb5.cell (by first | omega | (simp; omega) | (simp; done))).trans ‹_› | exact (hb4.cell (by first | omega | (simp; omega) | (simp; done))).trans ‹_› | exact (hb3.cell (by first | omega | (simp; omega) | (simp; done))).trans ‹_› | exact (hb2.cell (by first | omega | (simp; omega) | (simp; done))).trans ‹_› | exact (hb1.cell (by first | omega | (simp; omega) | (simp; done))).trans ‹_› | exact Pair.set1 (Pair.set0 ‹_› _) _ _ _ | exact (cell_stored _ (by first | (dsimp only; omega) | (simp; done) | (simp; omega)) _ _).trans ‹_› | exact Pair.drew (Pair.below ‹_› (below1 _ _)) | exact Pair.below ‹_› (below1 _ _) | exact Pair.far ‹_› (by omega) hb1 | exact Pair.new .. | exact Pair.new1 .. | exact Pair.new2 .. | (go_keep; done)) | (go_keep; done))
    (first
      | (go_at_call_of 61 (s0); (fail_if_success have _t := i1); refine (G0.out _ (Below.drew bw'.out)).mono ?_; rintro e w1 ⟨v1, rfl, i1, hb1⟩; have hz1 : w.heap.size + 3 ≤ w1.heap.size := (by have := hb1.size; simp at this; omega); have bw1 := hid (bw'.out.drew.trans (hb1.mono (B' := w.heap.size) (by simp; omega))))
      | (go_at_call_of 61 (s1); refine (G1.out _ bw1.out).mono ?_; rintro e w2 ⟨v2, rfl, i2, hb2⟩; have i1' := i1.below hb2; have hz2 : w.heap.size + 3 ≤ w2.heap.size := (by have := hb2.size; omega); have bw2 := hid (bw1.out.trans (hb2.mono (B' := w.heap.size) (by omega))))
      | (go_at_call 107; refine (HT.out _ _ _ i1' i2).mono ?_; rintro e w3 ⟨v3, rfl, i3, hb3⟩; have hz3 : w.heap.size + 3 ≤ w3.heap.size := (by have := hb3.size; omega); have bw3 := hid (bw2.out.trans (hb3.mono (B' := w.heap.size) (by omega))))
      | (go_at_call 60; refine (HF.out _ _ i3).mono ?_; rintro e w4 ⟨v4, rfl, i4, hb4⟩; have hz4 : w.heap.size + 3 ≤ w4.heap.size := (by have := hb4.size; omega); have bw4 := hid (bw3.out.trans (hb4.mono (B' := w.heap.size) (by omega))))
      | (go_at_call 40; refine (HW.out _ _ i4).mono ?_; rintro e w5 ⟨v5, rfl, hi5, hb5⟩; have hz5 : w.heap.size + 3 ≤ w5.heap.size := (by have := hb5.size; omega); have bw5 := hid (bw4.out.trans (hb5.mono (B' := w.heap.size) (by omega))); obtain ⟨p5, n5, c5, rfl, hi5⟩ := hi5.shape; have hpr := Pair.below (by go_split_ands; assumption) hb5; obtain ⟨_, _, q0, q1, q2, q3⟩ := hpr.cells))
  go_wp2
  exact bodyPost_ret (v := .agg #[.bool (decide (r < 0)), .slice p5 n5 c5]) (by simp [results, Tryz.results85, go_sem, q0, q1]) rfl
    ⟨_, rfl, hi5.stored hpr _ _ _ _, Below.stored bw5.out (by omega) _ _⟩
end Go.Proofs.YtckkpolikdnilaaGreatDoor
/- What One answers. -/
namespace Go.Proofs.YtckkpolikdnilaaGreatDoor
open Go.RowKit Big Go.WideMaps

theorem truth_fit (b : Bool) : sz Big.W (vlTruth b).natAbs ≤ 1099511627776 := Nat.le_trans (truth_size b) (by decide)
def RRaw (z : Int) (w : World) (e : Ending) (w' : World) : Prop := ∃ v, e = .returned v ∧ RawAt w' v z ∧ Below w.heap.size w w'
end Go.Proofs.YtckkpolikdnilaaGreatDoor
/- elenchusref05.One of Op 1. -/
namespace Go.Proofs.YtckkpolikdnilaaGreatDoor
open Go.RowKit Big Go.WideMaps

set_option maxRecDepth 100000 in
set_option maxHeartbeats 12800000 in
theorem One_true (vs v0 vm vt vk : Value) (syms : List Sy) (ts : List Tb5) (t : Tm) (known : List Int) (w : World) (hs : SyIn w vs syms) (hv : ∃ p n c, v0 = .slice p n c) (hm : TabsIn w vm ts) (h0 : TmRaw w vt t) (h1 : NumsIn w vk known) (ha : ∀ a ∈ t.args, 0 ≤ a ∧ a < known.length) (hn : t.args.length ≤ 1048576)
    (hop : t.op = 1) (rr : Int) (hrr : rr = vlTruth true) :
    Calls Tryz.prog 53 #[.agg #[vs, v0], .agg #[vm], vt, vk] w (RRaw rr w) := by
  have Hrr := hid hrr
  clear hrr
  obtain ⟨i0, hi, hz0, hz1, hz2⟩ := info_parts infoNum
  obtain ⟨p9, n9, c9, rfl⟩ := hv
  obtain ⟨pa, ca, bb, pm, nm, cm, rfl, hA, hN⟩ := h0
  obtain ⟨pa', ca', e, j1, j2, -, j4⟩ := hA
  injection e with e1 e2 e3
  subst e1 e3
  clear e2
  have J4 := hid j4
  have H1 := hid h1
  have Ha := hid ha
  have HS := hid hs; have HM := hid hm; have HN := hid hN
  obtain ⟨pk, ck, rfl, k1, k2, -, k4⟩ := h1
  obtain ⟨ps, cps, rfl, s1, s2, -, -⟩ := hs
  obtain ⟨pq, cpq, rfl, q1, q2, -, -⟩ := hm
  have K4 := hid k4
  unfold maxLen at j2 k2 s2 q2
  obtain ⟨W, hW⟩ : ∃ W, W = ((((w.alloc (.cells #[.slice ps syms.length cps, .slice p9 n9 c9] 25)).alloc (.cells #[.slice pq ts.length cpq] 28)).alloc (.cells #[.int .i64 t.op, .slice pa t.args.length ca, .bool bb, .slice pm nm cm, .int .i64 t.sym] 71)).alloc (.cells #[.bool false, .slice none 0 0] 44)) := ⟨_, rfl⟩
  have b0 : Below w.heap.size w W := by rw [hW]; exact (((below1 w _).alloc (by simp) _).alloc (by simp; omega) _).alloc (by simp; omega) _
  have e0 : W.heap[w.heap.size]? = some (.cells #[.slice ps syms.length cps, .slice p9 n9 c9] 25 (0, 0)) := by rw [hW]; exact alloc_keep (alloc_keep (alloc_keep (alloc_at _ _ _ rfl)))
  have e1 : W.heap[w.heap.size + 1]? = some (.cells #[.slice pq ts.length cpq] 28 (0, 0)) := by rw [hW]; exact alloc_keep (alloc_keep (alloc_at _ _ _ (by rw [size_alloc])))
  have e2 : W.heap[w.heap.size + 1 + 1]? = some (.cells #[.int .i64 t.op, .slice pa t.args.length ca, .bool bb, .slice pm nm cm, .int .i64 t.sym] 71 (0, 0)) := by rw [hW]; exact alloc_keep (alloc_at _ _ _ (by rw [size_alloc, size_alloc]))
  have e3 : W.heap[w.heap.size + 1 + 1 + 1]? = some (.cells #[.bool false, .slice none 0 0] 44 (0, 0)) := by rw [hW]; exact alloc_at _ _ _ (by rw [size_alloc, size_alloc, size_alloc])
  have z3 : W.heap.size = w.heap.size + 1 + 1 + 1 + 1 := by rw [hW, size_alloc, size_alloc, size_alloc, size_alloc]
  have x1 : W.cell? ⟨w.heap.size + 1 + 1, 1, none⟩ = some (.slice pa t.args.length ca) := rec5_cell e2
  have B0 := hid b0; have E0 := hid e0; have E1 := hid e1; have E2 := hid e2; have E3 := hid e3; have Z3 := hid z3
  have Hlp : Hid ((vlParts t known).length = t.args.length) := hid (by simp [vlParts])
  unfold vlParts at *
  clear j4 k4 ha b0 e0 e1 e2 e3 z3 hN s1 s2 q1 q2
  obtain ⟨op, al, num, sym⟩ := t
  dsimp only at *
  subst hop
  go_enter Tryz.func53, Tryz.ntmps53
  go_upto_region 2 with fail
  rw [← hW]
  clear hW
  go_wp2_with fail
  have hzw : w.heap.size < W.heap.size := by have := Z3.out; omega
  go_loopw [9, 20] (fun o i wr => ∃ (k : Nat) (cs : List Value), k ≤ al.length ∧ i = .int .i64 (k : Nat) ∧ wr.ownsRow W.heap.size 44 2 o k cs ∧ Hid (VlCells w ((al.take k).map (vlAt known)) cs) ∧ Hid (Below W.heap.size W wr)) (fun _ i _ => al.length - (intOf i).toNat)
  case atStart => exact ⟨0, [], Nat.zero_le _, rfl, World.ownsRow_nil .., hid rfl, hid (Below.refl _ _)⟩
  case round =>
    obtain ⟨k, cs, hk, rfl, ho, hC, hB⟩ := hrel
    by_cases hlt : k < al.length
    · have hbw := hid (bel_go hB.out B0.out)
      obtain ⟨ba, oa, rfl, hba, hca⟩ := J4.out (by omega)
      have ka := (hbw.out.cell (p := ⟨ba, oa + k, none⟩) hba).trans (hca k hlt)
      obtain ⟨hj0, hj1⟩ := Ha.out al[k] (List.getElem_mem hlt)
      obtain ⟨j, hj⟩ : ∃ j : Nat, al[k] = (j : Nat) := ⟨al[k].toNat, by omega⟩
      have hjk : j < known.length := by omega
      have hjk' : (j : Int) < (known.length : Int) := by omega
      obtain ⟨bk, ok, rfl, hbk, hck⟩ := K4.out (by omega)
      obtain ⟨n, s, c0, c1, hr⟩ := hck j hjk
      obtain ⟨q, d, g, rfl⟩ := hr.shape
      have m0 := (hbw.out.cell (p := ⟨bk, ok + j * 2, none⟩) hbk).trans c0
      have m1 := (hbw.out.cell (p := ⟨bk, ok + j * 2 + 1, none⟩) hbk).trans c1
      rw [hj] at ka
      have Htk := hid (show (al.take (k+1)).map (vlAt known) = (al.take k).map (vlAt known) ++ [known[j]] from by rw [List.take_succ_eq_append_getElem hlt, List.map_append, List.map_singleton, hj, vlAt_nat known j hjk])
      have Hr := hid hr
      have bn := below1 wr (.cells #[.bool n, .slice q d g] 44)
      have ho4 := ownsRow_later ho bn
      have hz4 := size_alloc wr (.cells #[.bool n, .slice q d g] 44)
      have hnew := heap_alloc_new wr (.cells #[.bool n, .slice q d g] 44)
      have hnews : ∀ j u, ([.bool n, .slice q d g] : List Value)[j]? = some u → (wr.alloc (.cells #[.bool n, .slice q d g] 44)).cell? ((⟨wr.heap.size, 0, none⟩ : Addr).add j) = some u := by
        intro j u hj
        rw [Go.WideShapes.add_plain, Nat.zero_add, cell_of_row _ _ _ _ _ _ hnew]
        simpa using hj
      have hlw := hB.out.size
      have Bn := hid bn
      clear hck hca c0 c1 hr hj0 hj1 hj hba hbk bn ho hnew
      go_wp2_with (at_builtin; refine wpList_append_own _ rfl _ _ 32 rfl W.heap.size 44 i0 _ 2 32 Tryz.underlying32 hi hz0 hz1 hz2 rfl (by decide) _ k _ rfl ho4 ⟨wr.heap.size, 0, none⟩ 1 1 [.bool n, .slice q d g] rfl rfl hnews (by intro u hu; simp at hu; rcases hu with rfl | rfl <;> rfl) (by simp [maxLen]; omega) (by omega) (by omega) ?_; intro v5 w5 ho5 hg5 _)
      go_roundw
      case rel => exact ⟨k + 1, _, by omega, by go_num, ho5, hid (by rw [Htk.out]; exact hC.out.snoc Hr.out), hid ((hB.out.trans (Bn.out.mono hlw)).grown hg5 (by omega) (fun g hg => (World.ownsRow.lt ho4 g hg).1))⟩
      case measure => simp [intOf] <;> omega
    · obtain rfl : k = al.length := by omega
      have hbw := hid (bel_go hB.out B0.out)
      have hown : NumsOwn W.heap.size wr _ (al.map (vlAt known)) := ⟨cs, by rw [List.length_map]; exact ho, by have := hC.out; rw [List.take_length] at this; exact this.below hbw.out⟩
      obtain ⟨po, co, rfl⟩ := ownsRow_shape ho
      have HL := hid hown.in
      have HO := hid (fun k (h : (Value.slice po al.length co).ownBlock = some k) => (World.ownsRow.lt ho k h).1)
      have F0 := hid ((hB.out.block w.heap.size (by have := Z3.out; omega)).trans E0.out)
      have F1 := hid ((hB.out.block (w.heap.size + 1) (by have := Z3.out; omega)).trans E1.out)
      have F2 := hid ((hB.out.block (w.heap.size + 1 + 1) (by have := Z3.out; omega)).trans E2.out)
      have HP : Hid (Pair wr (w.heap.size + 1 + 1 + 1) 44) := hid ⟨_, _, _, _, (hB.out.block (w.heap.size + 1 + 1 + 1) (by have := Z3.out; omega)).trans E3.out⟩
      have hsz : w.heap.size + 1 + 1 + 1 < wr.heap.size := by have := Z3.out; have := hB.out.size; omega
      have hop : wr.cell? ⟨w.heap.size + 1 + 1, 0, none⟩ = some (.int .i64 1) := by have := F2.out; simp [World.cell?, this]
      generalize al.map (vlAt known) = l at *
      clear x1 hown ho hC B0 E0 E1 E2 E3 H1 K4 J4 Ha
      have Hlp2 : Hid (l.length = al.length) := Hlp
      rw [← Hlp2.out] at HL ⊢
      clear Hlp
      have Hc := hid (rtruth_any true wr)
      go_wp2_with fail
      refine Hc.out.mono ?_
      rintro e w2 ⟨v2, rfl, hi2, b2⟩
      obtain ⟨p2, n2, c2, rfl, hi2⟩ := hi2.shape
      have hpr := hid (HP.out.below b2)
      have hq := hpr.out.cells
      obtain ⟨_, _, q0, q1, q2, q3⟩ := hq
      have Hi := hid hi2; have Hb := hid (bel_go b2 hbw.out)
      clear hi2 b2 Hc
      go_wp2
      exact bodyPost_ret (v := .agg #[.bool (decide (vlTruth true < 0)), .slice p2 n2 c2]) (by simp [results, Tryz.results53, go_sem, q0, q1]) rfl ⟨_, rfl, by rw [Hrr.out]; exact (IntAt.raw (Hi.out.stored hpr.out _ _ _ _) (truth_fit _)), Below.stored Hb.out (by omega) _ _⟩
end Go.Proofs.YtckkpolikdnilaaGreatDoor
/- elenchusref05.One of Op 2. -/
namespace Go.Proofs.YtckkpolikdnilaaGreatDoor
open Go.RowKit Big Go.WideMaps

set_option maxRecDepth 100000 in
set_option maxHeartbeats 12800000 in
theorem One_false (vs v0 vm vt vk : Value) (syms : List Sy) (ts : List Tb5) (t : Tm) (known : List Int) (w : World) (hs : SyIn w vs syms) (hv : ∃ p n c, v0 = .slice p n c) (hm : TabsIn w vm ts) (h0 : TmRaw w vt t) (h1 : NumsIn w vk known) (ha : ∀ a ∈ t.args, 0 ≤ a ∧ a < known.length) (hn : t.args.length ≤ 1048576)
    (hop : t.op = 2) (rr : Int) (hrr : rr = 0) :
    Calls Tryz.prog 53 #[.agg #[vs, v0], .agg #[vm], vt, vk] w (RRaw rr w) := by
  have Hrr := hid hrr
  clear hrr
  obtain ⟨i0, hi, hz0, hz1, hz2⟩ := info_parts infoNum
  obtain ⟨p9, n9, c9, rfl⟩ := hv
  obtain ⟨pa, ca, bb, pm, nm, cm, rfl, hA, hN⟩ := h0
  obtain ⟨pa', ca', e, j1, j2, -, j4⟩ := hA
  injection e with e1 e2 e3
  subst e1 e3
  clear e2
  have J4 := hid j4
  have H1 := hid h1
  have Ha := hid ha
  have HS := hid hs; have HM := hid hm; have HN := hid hN
  obtain ⟨pk, ck, rfl, k1, k2, -, k4⟩ := h1
  obtain ⟨ps, cps, rfl, s1, s2, -, -⟩ := hs
  obtain ⟨pq, cpq, rfl, q1, q2, -, -⟩ := hm
  have K4 := hid k4
  unfold maxLen at j2 k2 s2 q2
  obtain ⟨W, hW⟩ : ∃ W, W = ((((w.alloc (.cells #[.slice ps syms.length cps, .slice p9 n9 c9] 25)).alloc (.cells #[.slice pq ts.length cpq] 28)).alloc (.cells #[.int .i64 t.op, .slice pa t.args.length ca, .bool bb, .slice pm nm cm, .int .i64 t.sym] 71)).alloc (.cells #[.bool false, .slice none 0 0] 44)) := ⟨_, rfl⟩
  have b0 : Below w.heap.size w W := by rw [hW]; exact (((below1 w _).alloc (by simp) _).alloc (by simp; omega) _).alloc (by simp; omega) _
  have e0 : W.heap[w.heap.size]? = some (.cells #[.slice ps syms.length cps, .slice p9 n9 c9] 25 (0, 0)) := by rw [hW]; exact alloc_keep (alloc_keep (alloc_keep (alloc_at _ _ _ rfl)))
  have e1 : W.heap[w.heap.size + 1]? = some (.cells #[.slice pq ts.length cpq] 28 (0, 0)) := by rw [hW]; exact alloc_keep (alloc_keep (alloc_at _ _ _ (by rw [size_alloc])))
  have e2 : W.heap[w.heap.size + 1 + 1]? = some (.cells #[.int .i64 t.op, .slice pa t.args.length ca, .bool bb, .slice pm nm cm, .int .i64 t.sym] 71 (0, 0)) := by rw [hW]; exact alloc_keep (alloc_at _ _ _ (by rw [size_alloc, size_alloc]))
  have e3 : W.heap[w.heap.size + 1 + 1 + 1]? = some (.cells #[.bool false, .slice none 0 0] 44 (0, 0)) := by rw [hW]; exact alloc_at _ _ _ (by rw [size_alloc, size_alloc, size_alloc])
  have z3 : W.heap.size = w.heap.size + 1 + 1 + 1 + 1 := by rw [hW, size_alloc, size_alloc, size_alloc, size_alloc]
  have x1 : W.cell? ⟨w.heap.size + 1 + 1, 1, none⟩ = some (.slice pa t.args.length ca) := rec5_cell e2
  have B0 := hid b0; have E0 := hid e0; have E1 := hid e1; have E2 := hid e2; have E3 := hid e3; have Z3 := hid z3
  have Hlp : Hid ((vlParts t known).length = t.args.length) := hid (by simp [vlParts])
  unfold vlParts at *
  clear j4 k4 ha b0 e0 e1 e2 e3 z3 hN s1 s2 q1 q2
  obtain ⟨op, al, num, sym⟩ := t
  dsimp only at *
  subst hop
  go_enter Tryz.func53, Tryz.ntmps53
  go_upto_region 2 with fail
  rw [← hW]
  clear hW
  go_wp2_with fail
  have hzw : w.heap.size < W.heap.size := by have := Z3.out; omega
  go_loopw [9, 20] (fun o i wr => ∃ (k : Nat) (cs : List Value), k ≤ al.length ∧ i = .int .i64 (k : Nat) ∧ wr.ownsRow W.heap.size 44 2 o k cs ∧ Hid (VlCells w ((al.take k).map (vlAt known)) cs) ∧ Hid (Below W.heap.size W wr)) (fun _ i _ => al.length - (intOf i).toNat)
  case atStart => exact ⟨0, [], Nat.zero_le _, rfl, World.ownsRow_nil .., hid rfl, hid (Below.refl _ _)⟩
  case round =>
    obtain ⟨k, cs, hk, rfl, ho, hC, hB⟩ := hrel
    by_cases hlt : k < al.length
    · have hbw := hid (bel_go hB.out B0.out)
      obtain ⟨ba, oa, rfl, hba, hca⟩ := J4.out (by omega)
      have ka := (hbw.out.cell (p := ⟨ba, oa + k, none⟩) hba).trans (hca k hlt)
      obtain ⟨hj0, hj1⟩ := Ha.out al[k] (List.getElem_mem hlt)
      obtain ⟨j, hj⟩ : ∃ j : Nat, al[k] = (j : Nat) := ⟨al[k].toNat, by omega⟩
      have hjk : j < known.length := by omega
      have hjk' : (j : Int) < (known.length : Int) := by omega
      obtain ⟨bk, ok, rfl, hbk, hck⟩ := K4.out (by omega)
      obtain ⟨n, s, c0, c1, hr⟩ := hck j hjk
      obtain ⟨q, d, g, rfl⟩ := hr.shape
      have m0 := (hbw.out.cell (p := ⟨bk, ok + j * 2, none⟩) hbk).trans c0
      have m1 := (hbw.out.cell (p := ⟨bk, ok + j * 2 + 1, none⟩) hbk).trans c1
      rw [hj] at ka
      have Htk := hid (show (al.take (k+1)).map (vlAt known) = (al.take k).map (vlAt known) ++ [known[j]] from by rw [List.take_succ_eq_append_getElem hlt, List.map_append, List.map_singleton, hj, vlAt_nat known j hjk])
      have Hr := hid hr
      have bn := below1 wr (.cells #[.bool n, .slice q d g] 44)
      have ho4 := ownsRow_later ho bn
      have hz4 := size_alloc wr (.cells #[.bool n, .slice q d g] 44)
      have hnew := heap_alloc_new wr (.cells #[.bool n, .slice q d g] 44)
      have hnews : ∀ j u, ([.bool n, .slice q d g] : List Value)[j]? = some u → (wr.alloc (.cells #[.bool n, .slice q d g] 44)).cell? ((⟨wr.heap.size, 0, none⟩ : Addr).add j) = some u := by
        intro j u hj
        rw [Go.WideShapes.add_plain, Nat.zero_add, cell_of_row _ _ _ _ _ _ hnew]
        simpa using hj
      have hlw := hB.out.size
      have Bn := hid bn
      clear hck hca c0 c1 hr hj0 hj1 hj hba hbk bn ho hnew
      go_wp2_with (at_builtin; refine wpList_append_own _ rfl _ _ 32 rfl W.heap.size 44 i0 _ 2 32 Tryz.underlying32 hi hz0 hz1 hz2 rfl (by decide) _ k _ rfl ho4 ⟨wr.heap.size, 0, none⟩ 1 1 [.bool n, .slice q d g] rfl rfl hnews (by intro u hu; simp at hu; rcases hu with rfl | rfl <;> rfl) (by simp [maxLen]; omega) (by omega) (by omega) ?_; intro v5 w5 ho5 hg5 _)
      go_roundw
      case rel => exact ⟨k + 1, _, by omega, by go_num, ho5, hid (by rw [Htk.out]; exact hC.out.snoc Hr.out), hid ((hB.out.trans (Bn.out.mono hlw)).grown hg5 (by omega) (fun g hg => (World.ownsRow.lt ho4 g hg).1))⟩
      case measure => simp [intOf] <;> omega
    · obtain rfl : k = al.length := by omega
      have hbw := hid (bel_go hB.out B0.out)
      have hown : NumsOwn W.heap.size wr _ (al.map (vlAt known)) := ⟨cs, by rw [List.length_map]; exact ho, by have := hC.out; rw [List.take_length] at this; exact this.below hbw.out⟩
      obtain ⟨po, co, rfl⟩ := ownsRow_shape ho
      have HL := hid hown.in
      have HO := hid (fun k (h : (Value.slice po al.length co).ownBlock = some k) => (World.ownsRow.lt ho k h).1)
      have F0 := hid ((hB.out.block w.heap.size (by have := Z3.out; omega)).trans E0.out)
      have F1 := hid ((hB.out.block (w.heap.size + 1) (by have := Z3.out; omega)).trans E1.out)
      have F2 := hid ((hB.out.block (w.heap.size + 1 + 1) (by have := Z3.out; omega)).trans E2.out)
      have HP : Hid (Pair wr (w.heap.size + 1 + 1 + 1) 44) := hid ⟨_, _, _, _, (hB.out.block (w.heap.size + 1 + 1 + 1) (by have := Z3.out; omega)).trans E3.out⟩
      have hsz : w.heap.size + 1 + 1 + 1 < wr.heap.size := by have := Z3.out; have := hB.out.size; omega
      have hop : wr.cell? ⟨w.heap.size + 1 + 1, 0, none⟩ = some (.int .i64 2) := by have := F2.out; simp [World.cell?, this]
      generalize al.map (vlAt known) = l at *
      clear x1 hown ho hC B0 E0 E1 E2 E3 H1 K4 J4 Ha
      have Hlp2 : Hid (l.length = al.length) := Hlp
      rw [← Hlp2.out] at HL ⊢
      clear Hlp
      have hq := HP.out.cells
      obtain ⟨_, _, q0, q1, q2, q3⟩ := hq
      go_wp2
      exact bodyPost_ret (v := .agg #[.bool false, .slice none 0 0]) (by simp [results, Tryz.results53, go_sem, q0, q1]) rfl ⟨_, rfl, by rw [Hrr.out]; exact (IntAt.zero _).raw (by show sz Big.W 0 ≤ _; rw [sz_zero]; omega), Below.stored hbw.out (by omega) _ _⟩
end Go.Proofs.YtckkpolikdnilaaGreatDoor
/- elenchusref05.One of Op 3. -/
namespace Go.Proofs.YtckkpolikdnilaaGreatDoor
open Go.RowKit Big Go.WideMaps

set_option maxRecDepth 100000 in
set_option maxHeartbeats 12800000 in
theorem One_num (vs v0 vm vt vk : Value) (syms : List Sy) (ts : List Tb5) (t : Tm) (known : List Int) (w : World) (hs : SyIn w vs syms) (hv : ∃ p n c, v0 = .slice p n c) (hm : TabsIn w vm ts) (h0 : TmRaw w vt t) (h1 : NumsIn w vk known) (ha : ∀ a ∈ t.args, 0 ≤ a ∧ a < known.length) (hn : t.args.length ≤ 1048576)
    (hop : t.op = 3) (rr : Int) (hrr : rr = t.num) :
    Calls Tryz.prog 53 #[.agg #[vs, v0], .agg #[vm], vt, vk] w (RRaw rr w) := by
  have Hrr := hid hrr
  clear hrr
  obtain ⟨i0, hi, hz0, hz1, hz2⟩ := info_parts infoNum
  obtain ⟨p9, n9, c9, rfl⟩ := hv
  obtain ⟨pa, ca, bb, pm, nm, cm, rfl, hA, hN⟩ := h0
  obtain ⟨pa', ca', e, j1, j2, -, j4⟩ := hA
  injection e with e1 e2 e3
  subst e1 e3
  clear e2
  have J4 := hid j4
  have H1 := hid h1
  have Ha := hid ha
  have HS := hid hs; have HM := hid hm; have HN := hid hN
  obtain ⟨pk, ck, rfl, k1, k2, -, k4⟩ := h1
  obtain ⟨ps, cps, rfl, s1, s2, -, -⟩ := hs
  obtain ⟨pq, cpq, rfl, q1, q2, -, -⟩ := hm
  have K4 := hid k4
  unfold maxLen at j2 k2 s2 q2
  obtain ⟨W, hW⟩ : ∃ W, W = ((((w.alloc (.cells #[.slice ps syms.length cps, .slice p9 n9 c9] 25)).alloc (.cells #[.slice pq ts.length cpq] 28)).alloc (.cells #[.int .i64 t.op, .slice pa t.args.length ca, .bool bb, .slice pm nm cm, .int .i64 t.sym] 71)).alloc (.cells #[.bool false, .slice none 0 0] 44)) := ⟨_, rfl⟩
  have b0 : Below w.heap.size w W := by rw [hW]; exact (((below1 w _).alloc (by simp) _).alloc (by simp; omega) _).alloc (by simp; omega) _
  have e0 : W.heap[w.heap.size]? = some (.cells #[.slice ps syms.length cps, .slice p9 n9 c9] 25 (0, 0)) := by rw [hW]; exact alloc_keep (alloc_keep (alloc_keep (alloc_at _ _ _ rfl)))
  have e1 : W.heap[w.heap.size + 1]? = some (.cells #[.slice pq ts.length cpq] 28 (0, 0)) := by rw [hW]; exact alloc_keep (alloc_keep (alloc_at _ _ _ (by rw [size_alloc])))
  have e2 : W.heap[w.heap.size + 1 + 1]? = some (.cells #[.int .i64 t.op, .slice pa t.args.length ca, .bool bb, .slice pm nm cm, .int .i64 t.sym] 71 (0, 0)) := by rw [hW]; exact alloc_keep (alloc_at _ _ _ (by rw [size_alloc, size_alloc]))
  have e3 : W.heap[w.heap.size + 1 + 1 + 1]? = some (.cells #[.bool false, .slice none 0 0] 44 (0, 0)) := by rw [hW]; exact alloc_at _ _ _ (by rw [size_alloc, size_alloc, size_alloc])
  have z3 : W.heap.size = w.heap.size + 1 + 1 + 1 + 1 := by rw [hW, size_alloc, size_alloc, size_alloc, size_alloc]
  have x1 : W.cell? ⟨w.heap.size + 1 + 1, 1, none⟩ = some (.slice pa t.args.length ca) := rec5_cell e2
  have B0 := hid b0; have E0 := hid e0; have E1 := hid e1; have E2 := hid e2; have E3 := hid e3; have Z3 := hid z3
  have Hlp : Hid ((vlParts t known).length = t.args.length) := hid (by simp [vlParts])
  unfold vlParts at *
  clear j4 k4 ha b0 e0 e1 e2 e3 z3 hN s1 s2 q1 q2
  obtain ⟨op, al, num, sym⟩ := t
  dsimp only at *
  subst hop
  go_enter Tryz.func53, Tryz.ntmps53
  go_upto_region 2 with fail
  rw [← hW]
  clear hW
  go_wp2_with fail
  have hzw : w.heap.size < W.heap.size := by have := Z3.out; omega
  go_loopw [9, 20] (fun o i wr => ∃ (k : Nat) (cs : List Value), k ≤ al.length ∧ i = .int .i64 (k : Nat) ∧ wr.ownsRow W.heap.size 44 2 o k cs ∧ Hid (VlCells w ((al.take k).map (vlAt known)) cs) ∧ Hid (Below W.heap.size W wr)) (fun _ i _ => al.length - (intOf i).toNat)
  case atStart => exact ⟨0, [], Nat.zero_le _, rfl, World.ownsRow_nil .., hid rfl, hid (Below.refl _ _)⟩
  case round =>
    obtain ⟨k, cs, hk, rfl, ho, hC, hB⟩ := hrel
    by_cases hlt : k < al.length
    · have hbw := hid (bel_go hB.out B0.out)
      obtain ⟨ba, oa, rfl, hba, hca⟩ := J4.out (by omega)
      have ka := (hbw.out.cell (p := ⟨ba, oa + k, none⟩) hba).trans (hca k hlt)
      obtain ⟨hj0, hj1⟩ := Ha.out al[k] (List.getElem_mem hlt)
      obtain ⟨j, hj⟩ : ∃ j : Nat, al[k] = (j : Nat) := ⟨al[k].toNat, by omega⟩
      have hjk : j < known.length := by omega
      have hjk' : (j : Int) < (known.length : Int) := by omega
      obtain ⟨bk, ok, rfl, hbk, hck⟩ := K4.out (by omega)
      obtain ⟨n, s, c0, c1, hr⟩ := hck j hjk
      obtain ⟨q, d, g, rfl⟩ := hr.shape
      have m0 := (hbw.out.cell (p := ⟨bk, ok + j * 2, none⟩) hbk).trans c0
      have m1 := (hbw.out.cell (p := ⟨bk, ok + j * 2 + 1, none⟩) hbk).trans c1
      rw [hj] at ka
      have Htk := hid (show (al.take (k+1)).map (vlAt known) = (al.take k).map (vlAt known) ++ [known[j]] from by rw [List.take_succ_eq_append_getElem hlt, List.map_append, List.map_singleton, hj, vlAt_nat known j hjk])
      have Hr := hid hr
      have bn := below1 wr (.cells #[.bool n, .slice q d g] 44)
      have ho4 := ownsRow_later ho bn
      have hz4 := size_alloc wr (.cells #[.bool n, .slice q d g] 44)
      have hnew := heap_alloc_new wr (.cells #[.bool n, .slice q d g] 44)
      have hnews : ∀ j u, ([.bool n, .slice q d g] : List Value)[j]? = some u → (wr.alloc (.cells #[.bool n, .slice q d g] 44)).cell? ((⟨wr.heap.size, 0, none⟩ : Addr).add j) = some u := by
        intro j u hj
        rw [Go.WideShapes.add_plain, Nat.zero_add, cell_of_row _ _ _ _ _ _ hnew]
        simpa using hj
      have hlw := hB.out.size
      have Bn := hid bn
      clear hck hca c0 c1 hr hj0 hj1 hj hba hbk bn ho hnew
      go_wp2_with (at_builtin; refine wpList_append_own _ rfl _ _ 32 rfl W.heap.size 44 i0 _ 2 32 Tryz.underlying32 hi hz0 hz1 hz2 rfl (by decide) _ k _ rfl ho4 ⟨wr.heap.size, 0, none⟩ 1 1 [.bool n, .slice q d g] rfl rfl hnews (by intro u hu; simp at hu; rcases hu with rfl | rfl <;> rfl) (by simp [maxLen]; omega) (by omega) (by omega) ?_; intro v5 w5 ho5 hg5 _)
      go_roundw
      case rel => exact ⟨k + 1, _, by omega, by go_num, ho5, hid (by rw [Htk.out]; exact hC.out.snoc Hr.out), hid ((hB.out.trans (Bn.out.mono hlw)).grown hg5 (by omega) (fun g hg => (World.ownsRow.lt ho4 g hg).1))⟩
      case measure => simp [intOf] <;> omega
    · obtain rfl : k = al.length := by omega
      have hbw := hid (bel_go hB.out B0.out)
      have hown : NumsOwn W.heap.size wr _ (al.map (vlAt known)) := ⟨cs, by rw [List.length_map]; exact ho, by have := hC.out; rw [List.take_length] at this; exact this.below hbw.out⟩
      obtain ⟨po, co, rfl⟩ := ownsRow_shape ho
      have HL := hid hown.in
      have HO := hid (fun k (h : (Value.slice po al.length co).ownBlock = some k) => (World.ownsRow.lt ho k h).1)
      have F0 := hid ((hB.out.block w.heap.size (by have := Z3.out; omega)).trans E0.out)
      have F1 := hid ((hB.out.block (w.heap.size + 1) (by have := Z3.out; omega)).trans E1.out)
      have F2 := hid ((hB.out.block (w.heap.size + 1 + 1) (by have := Z3.out; omega)).trans E2.out)
      have HP : Hid (Pair wr (w.heap.size + 1 + 1 + 1) 44) := hid ⟨_, _, _, _, (hB.out.block (w.heap.size + 1 + 1 + 1) (by have := Z3.out; omega)).trans E3.out⟩
      have hsz : w.heap.size + 1 + 1 + 1 < wr.heap.size := by have := Z3.out; have := hB.out.size; omega
      have hop : wr.cell? ⟨w.heap.size + 1 + 1, 0, none⟩ = some (.int .i64 3) := by have := F2.out; simp [World.cell?, this]
      generalize al.map (vlAt known) = l at *
      clear x1 hown ho hC B0 E0 E1 E2 E3 H1 K4 J4 Ha
      have Hlp2 : Hid (l.length = al.length) := Hlp
      rw [← Hlp2.out] at HL ⊢
      clear Hlp
      have h2 : wr.cell? ⟨w.heap.size + 1 + 1, 2, none⟩ = some (.bool bb) := by have := F2.out; simp [World.cell?, this]
      have h3 : wr.cell? ⟨w.heap.size + 1 + 1, 3, none⟩ = some (.slice pm nm cm) := by have := F2.out; simp [World.cell?, this]
      have Hr := hid (HN.out.below hbw.out)
      have hq := HP.out.cells
      obtain ⟨_, _, q0, q1, q2, q3⟩ := hq
      go_wp2
      exact bodyPost_ret (v := .agg #[.bool bb, .slice pm nm cm]) (by simp [results, Tryz.results53, go_sem, q0, q1]) rfl ⟨_, rfl, by rw [Hrr.out]; exact Hr.out.set2 HP.out _ _ _ _ _ _ rfl rfl, Below.stored hbw.out (by omega) _ _⟩
end Go.Proofs.YtckkpolikdnilaaGreatDoor
/- elenchusref05.One of Op 5. -/
namespace Go.Proofs.YtckkpolikdnilaaGreatDoor
open Go.RowKit Big Go.WideMaps

set_option maxRecDepth 100000 in
set_option maxHeartbeats 12800000 in
theorem One_not (vs v0 vm vt vk : Value) (syms : List Sy) (ts : List Tb5) (t : Tm) (known : List Int) (w : World) (hs : SyIn w vs syms) (hv : ∃ p n c, v0 = .slice p n c) (hm : TabsIn w vm ts) (h0 : TmRaw w vt t) (h1 : NumsIn w vk known) (ha : ∀ a ∈ t.args, 0 ≤ a ∧ a < known.length) (hn : t.args.length ≤ 1048576)
    (hop : t.op = 5) (hl : 1 ≤ t.args.length) (rr : Int) (hrr : rr = vlTruth (!(vlAt (t.args.map (vlAt known)) 0 != 0))) :
    Calls Tryz.prog 53 #[.agg #[vs, v0], .agg #[vm], vt, vk] w (RRaw rr w) := by
  have Hrr := hid hrr
  clear hrr
  obtain ⟨i0, hi, hz0, hz1, hz2⟩ := info_parts infoNum
  obtain ⟨p9, n9, c9, rfl⟩ := hv
  obtain ⟨pa, ca, bb, pm, nm, cm, rfl, hA, hN⟩ := h0
  obtain ⟨pa', ca', e, j1, j2, -, j4⟩ := hA
  injection e with e1 e2 e3
  subst e1 e3
  clear e2
  have J4 := hid j4
  have H1 := hid h1
  have Ha := hid ha
  have HS := hid hs; have HM := hid hm; have HN := hid hN
  obtain ⟨pk, ck, rfl, k1, k2, -, k4⟩ := h1
  obtain ⟨ps, cps, rfl, s1, s2, -, -⟩ := hs
  obtain ⟨pq, cpq, rfl, q1, q2, -, -⟩ := hm
  have K4 := hid k4
  unfold maxLen at j2 k2 s2 q2
  obtain ⟨W, hW⟩ : ∃ W, W = ((((w.alloc (.cells #[.slice ps syms.length cps, .slice p9 n9 c9] 25)).alloc (.cells #[.slice pq ts.length cpq] 28)).alloc (.cells #[.int .i64 t.op, .slice pa t.args.length ca, .bool bb, .slice pm nm cm, .int .i64 t.sym] 71)).alloc (.cells #[.bool false, .slice none 0 0] 44)) := ⟨_, rfl⟩
  have b0 : Below w.heap.size w W := by rw [hW]; exact (((below1 w _).alloc (by simp) _).alloc (by simp; omega) _).alloc (by simp; omega) _
  have e0 : W.heap[w.heap.size]? = some (.cells #[.slice ps syms.length cps, .slice p9 n9 c9] 25 (0, 0)) := by rw [hW]; exact alloc_keep (alloc_keep (alloc_keep (alloc_at _ _ _ rfl)))
  have e1 : W.heap[w.heap.size + 1]? = some (.cells #[.slice pq ts.length cpq] 28 (0, 0)) := by rw [hW]; exact alloc_keep (alloc_keep (alloc_at _ _ _ (by rw [size_alloc])))
  have e2 : W.heap[w.heap.size + 1 + 1]? = some (.cells #[.int .i64 t.op, .slice pa t.args.length ca, .bool bb, .slice pm nm cm, .int .i64 t.sym] 71 (0, 0)) := by rw [hW]; exact alloc_keep (alloc_at _ _ _ (by rw [size_alloc, size_alloc]))
  have e3 : W.heap[w.heap.size + 1 + 1 + 1]? = some (.cells #[.bool false, .slice none 0 0] 44 (0, 0)) := by rw [hW]; exact alloc_at _ _ _ (by rw [size_alloc, size_alloc, size_alloc])
  have z3 : W.heap.size = w.heap.size + 1 + 1 + 1 + 1 := by rw [hW, size_alloc, size_alloc, size_alloc, size_alloc]
  have x1 : W.cell? ⟨w.heap.size + 1 + 1, 1, none⟩ = some (.slice pa t.args.length ca) := rec5_cell e2
  have B0 := hid b0; have E0 := hid e0; have E1 := hid e1; have E2 := hid e2; have E3 := hid e3; have Z3 := hid z3
  have Hlp : Hid ((vlParts t known).length = t.args.length) := hid (by simp [vlParts])
  unfold vlParts at *
  clear j4 k4 ha b0 e0 e1 e2 e3 z3 hN s1 s2 q1 q2
  obtain ⟨op, al, num, sym⟩ := t
  dsimp only at *
  subst hop
  go_enter Tryz.func53, Tryz.ntmps53
  go_upto_region 2 with fail
  rw [← hW]
  clear hW
  go_wp2_with fail
  have hzw : w.heap.size < W.heap.size := by have := Z3.out; omega
  go_loopw [9, 20] (fun o i wr => ∃ (k : Nat) (cs : List Value), k ≤ al.length ∧ i = .int .i64 (k : Nat) ∧ wr.ownsRow W.heap.size 44 2 o k cs ∧ Hid (VlCells w ((al.take k).map (vlAt known)) cs) ∧ Hid (Below W.heap.size W wr)) (fun _ i _ => al.length - (intOf i).toNat)
  case atStart => exact ⟨0, [], Nat.zero_le _, rfl, World.ownsRow_nil .., hid rfl, hid (Below.refl _ _)⟩
  case round =>
    obtain ⟨k, cs, hk, rfl, ho, hC, hB⟩ := hrel
    by_cases hlt : k < al.length
    · have hbw := hid (bel_go hB.out B0.out)
      obtain ⟨ba, oa, rfl, hba, hca⟩ := J4.out (by omega)
      have ka := (hbw.out.cell (p := ⟨ba, oa + k, none⟩) hba).trans (hca k hlt)
      obtain ⟨hj0, hj1⟩ := Ha.out al[k] (List.getElem_mem hlt)
      obtain ⟨j, hj⟩ : ∃ j : Nat, al[k] = (j : Nat) := ⟨al[k].toNat, by omega⟩
      have hjk : j < known.length := by omega
      have hjk' : (j : Int) < (known.length : Int) := by omega
      obtain ⟨bk, ok, rfl, hbk, hck⟩ := K4.out (by omega)
      obtain ⟨n, s, c0, c1, hr⟩ := hck j hjk
      obtain ⟨q, d, g, rfl⟩ := hr.shape
      have m0 := (hbw.out.cell (p := ⟨bk, ok + j * 2, none⟩) hbk).trans c0
      have m1 := (hbw.out.cell (p := ⟨bk, ok + j * 2 + 1, none⟩) hbk).trans c1
      rw [hj] at ka
      have Htk := hid (show (al.take (k+1)).map (vlAt known) = (al.take k).map (vlAt known) ++ [known[j]] from by rw [List.take_succ_eq_append_getElem hlt, List.map_append, List.map_singleton, hj, vlAt_nat known j hjk])
      have Hr := hid hr
      have bn := below1 wr (.cells #[.bool n, .slice q d g] 44)
      have ho4 := ownsRow_later ho bn
      have hz4 := size_alloc wr (.cells #[.bool n, .slice q d g] 44)
      have hnew := heap_alloc_new wr (.cells #[.bool n, .slice q d g] 44)
      have hnews : ∀ j u, ([.bool n, .slice q d g] : List Value)[j]? = some u → (wr.alloc (.cells #[.bool n, .slice q d g] 44)).cell? ((⟨wr.heap.size, 0, none⟩ : Addr).add j) = some u := by
        intro j u hj
        rw [Go.WideShapes.add_plain, Nat.zero_add, cell_of_row _ _ _ _ _ _ hnew]
        simpa using hj
      have hlw := hB.out.size
      have Bn := hid bn
      clear hck hca c0 c1 hr hj0 hj1 hj hba hbk bn ho hnew
      go_wp2_with (at_builtin; refine wpList_append_own _ rfl _ _ 32 rfl W.heap.size 44 i0 _ 2 32 Tryz.underlying32 hi hz0 hz1 hz2 rfl (by decide) _ k _ rfl ho4 ⟨wr.heap.size, 0, none⟩ 1 1 [.bool n, .slice q d g] rfl rfl hnews (by intro u hu; simp at hu; rcases hu with rfl | rfl <;> rfl) (by simp [maxLen]; omega) (by omega) (by omega) ?_; intro v5 w5 ho5 hg5 _)
      go_roundw
      case rel => exact ⟨k + 1, _, by omega, by go_num, ho5, hid (by rw [Htk.out]; exact hC.out.snoc Hr.out), hid ((hB.out.trans (Bn.out.mono hlw)).grown hg5 (by omega) (fun g hg => (World.ownsRow.lt ho4 g hg).1))⟩
      case measure => simp [intOf] <;> omega
    · obtain rfl : k = al.length := by omega
      have hbw := hid (bel_go hB.out B0.out)
      have hown : NumsOwn W.heap.size wr _ (al.map (vlAt known)) := ⟨cs, by rw [List.length_map]; exact ho, by have := hC.out; rw [List.take_length] at this; exact this.below hbw.out⟩
      obtain ⟨po, co, rfl⟩ := ownsRow_shape ho
      have HL := hid hown.in
      have HO := hid (fun k (h : (Value.slice po al.length co).ownBlock = some k) => (World.ownsRow.lt ho k h).1)
      have F0 := hid ((hB.out.block w.heap.size (by have := Z3.out; omega)).trans E0.out)
      have F1 := hid ((hB.out.block (w.heap.size + 1) (by have := Z3.out; omega)).trans E1.out)
      have F2 := hid ((hB.out.block (w.heap.size + 1 + 1) (by have := Z3.out; omega)).trans E2.out)
      have HP : Hid (Pair wr (w.heap.size + 1 + 1 + 1) 44) := hid ⟨_, _, _, _, (hB.out.block (w.heap.size + 1 + 1 + 1) (by have := Z3.out; omega)).trans E3.out⟩
      have hsz : w.heap.size + 1 + 1 + 1 < wr.heap.size := by have := Z3.out; have := hB.out.size; omega
      have hop : wr.cell? ⟨w.heap.size + 1 + 1, 0, none⟩ = some (.int .i64 5) := by have := F2.out; simp [World.cell?, this]
      generalize al.map (vlAt known) = l at *
      clear x1 hown ho hC B0 E0 E1 E2 E3 H1 K4 J4 Ha
      have Hlp2 : Hid (l.length = al.length) := Hlp
      rw [← Hlp2.out] at HL ⊢
      clear Hlp
      have hl := Hlp2.out
      have ha0 := HL.out.at 0 (by omega)
      obtain ⟨b5, o5, c5, x0, q0', d0, g0, e5, hb5, n0, k0', r0⟩ := ha0
      injection e5 with f1 _ f3
      subst f1 f3
      have m0 : wr.cell? ⟨b5, o5, none⟩ = some (.bool x0) := by simpa using n0
      have l0' : wr.cell? ⟨b5, o5 + 1, none⟩ = some (.slice q0' d0 g0) := by simpa using k0'
      have hl0 : (0 : Int) < (l.length : Int) := by omega
      have hal0 : (0 : Int) < (al.length : Int) := by omega
      have hln : 0 < l.length := by omega
      have haln : 0 < al.length := by omega
      have hv : vlAt l 0 = l[0] := by unfold vlAt; simp [show (0 : Int).toNat = 0 from rfl, List.getElem?_eq_getElem (show 0 < l.length by omega)]
      rw [hv] at Hrr
      have Hsure := hid (sure_any _ _ wr r0)
      clear hv r0 n0 k0'
      generalize (l[0] != 0) = bz at *
      go_wp2_with fail
      refine Hsure.out.mono ?_
      rintro e w1 ⟨rfl, b1⟩
      have hbw1 := hid (bel_go b1 hbw.out)
      have HP1 := hid (HP.out.below b1)
      clear m0 l0' b1
      have Hc := hid (rtruth_any (!bz) w1)
      go_wp2_with fail
      refine Hc.out.mono ?_
      rintro e w2 ⟨v2, rfl, hi2, b2⟩
      obtain ⟨p2, n2, c2, rfl, hi2⟩ := hi2.shape
      have hpr := hid (HP1.out.below b2)
      have hq := hpr.out.cells
      obtain ⟨_, _, q0, q1, q2, q3⟩ := hq
      have Hi := hid hi2; have Hb := hid (bel_go b2 hbw1.out)
      clear hi2 b2 Hc
      go_wp2
      exact bodyPost_ret (v := .agg #[.bool (decide (vlTruth (!bz) < 0)), .slice p2 n2 c2]) (by simp [results, Tryz.results53, go_sem, q0, q1]) rfl ⟨_, rfl, by rw [Hrr.out]; exact (IntAt.raw (Hi.out.stored hpr.out _ _ _ _) (truth_fit _)), Below.stored Hb.out (by omega) _ _⟩
end Go.Proofs.YtckkpolikdnilaaGreatDoor
/- elenchusref05.One of Op 9. -/
namespace Go.Proofs.YtckkpolikdnilaaGreatDoor
open Go.RowKit Big Go.WideMaps

set_option maxRecDepth 100000 in
set_option maxHeartbeats 12800000 in
theorem One_ite (vs v0 vm vt vk : Value) (syms : List Sy) (ts : List Tb5) (t : Tm) (known : List Int) (w : World) (hs : SyIn w vs syms) (hv : ∃ p n c, v0 = .slice p n c) (hm : TabsIn w vm ts) (h0 : TmRaw w vt t) (h1 : NumsIn w vk known) (ha : ∀ a ∈ t.args, 0 ≤ a ∧ a < known.length) (hn : t.args.length ≤ 1048576)
    (hop : t.op = 9) (hl : 3 ≤ t.args.length) (rr : Int) (hrr : rr = if vlAt (t.args.map (vlAt known)) 0 ≠ 0 then vlAt (t.args.map (vlAt known)) 1 else vlAt (t.args.map (vlAt known)) 2) :
    Calls Tryz.prog 53 #[.agg #[vs, v0], .agg #[vm], vt, vk] w (RRaw rr w) := by
  have Hrr := hid hrr
  clear hrr
  obtain ⟨i0, hi, hz0, hz1, hz2⟩ := info_parts infoNum
  obtain ⟨p9, n9, c9, rfl⟩ := hv
  obtain ⟨pa, ca, bb, pm, nm, cm, rfl, hA, hN⟩ := h0
  obtain ⟨pa', ca', e, j1, j2, -, j4⟩ := hA
  injection e with e1 e2 e3
  subst e1 e3
  clear e2
  have J4 := hid j4
  have H1 := hid h1
  have Ha := hid ha
  have HS := hid hs; have HM := hid hm; have HN := hid hN
  obtain ⟨pk, ck, rfl, k1, k2, -, k4⟩ := h1
  obtain ⟨ps, cps, rfl, s1, s2, -, -⟩ := hs
  obtain ⟨pq, cpq, rfl, q1, q2, -, -⟩ := hm
  have K4 := hid k4
  unfold maxLen at j2 k2 s2 q2
  obtain ⟨W, hW⟩ : ∃ W, W = ((((w.alloc (.cells #[.slice ps syms.length cps, .slice p9 n9 c9] 25)).alloc (.cells #[.slice pq ts.length cpq] 28)).alloc (.cells #[.int .i64 t.op, .slice pa t.args.length ca, .bool bb, .slice pm nm cm, .int .i64 t.sym] 71)).alloc (.cells #[.bool false, .slice none 0 0] 44)) := ⟨_, rfl⟩
  have b0 : Below w.heap.size w W := by rw [hW]; exact (((below1 w _).alloc (by simp) _).alloc (by simp; omega) _).alloc (by simp; omega) _
  have e0 : W.heap[w.heap.size]? = some (.cells #[.slice ps syms.length cps, .slice p9 n9 c9] 25 (0, 0)) := by rw [hW]; exact alloc_keep (alloc_keep (alloc_keep (alloc_at _ _ _ rfl)))
  have e1 : W.heap[w.heap.size + 1]? = some (.cells #[.slice pq ts.length cpq] 28 (0, 0)) := by rw [hW]; exact alloc_keep (alloc_keep (alloc_at _ _ _ (by rw [size_alloc])))
  have e2 : W.heap[w.heap.size + 1 + 1]? = some (.cells #[.int .i64 t.op, .slice pa t.args.length ca, .bool bb, .slice pm nm cm, .int .i64 t.sym] 71 (0, 0)) := by rw [hW]; exact alloc_keep (alloc_at _ _ _ (by rw [size_alloc, size_alloc]))
  have e3 : W.heap[w.heap.size + 1 + 1 + 1]? = some (.cells #[.bool false, .slice none 0 0] 44 (0, 0)) := by rw [hW]; exact alloc_at _ _ _ (by rw [size_alloc, size_alloc, size_alloc])
  have z3 : W.heap.size = w.heap.size + 1 + 1 + 1 + 1 := by rw [hW, size_alloc, size_alloc, size_alloc, size_alloc]
  have x1 : W.cell? ⟨w.heap.size + 1 + 1, 1, none⟩ = some (.slice pa t.args.length ca) := rec5_cell e2
  have B0 := hid b0; have E0 := hid e0; have E1 := hid e1; have E2 := hid e2; have E3 := hid e3; have Z3 := hid z3
  have Hlp : Hid ((vlParts t known).length = t.args.length) := hid (by simp [vlParts])
  unfold vlParts at *
  clear j4 k4 ha b0 e0 e1 e2 e3 z3 hN s1 s2 q1 q2
  obtain ⟨op, al, num, sym⟩ := t
  dsimp only at *
  subst hop
  go_enter Tryz.func53, Tryz.ntmps53
  go_upto_region 2 with fail
  rw [← hW]
  clear hW
  go_wp2_with fail
  have hzw : w.heap.size < W.heap.size := by have := Z3.out; omega
  go_loopw [9, 20] (fun o i wr => ∃ (k : Nat) (cs : List Value), k ≤ al.length ∧ i = .int .i64 (k : Nat) ∧ wr.ownsRow W.heap.size 44 2 o k cs ∧ Hid (VlCells w ((al.take k).map (vlAt known)) cs) ∧ Hid (Below W.heap.size W wr)) (fun _ i _ => al.length - (intOf i).toNat)
  case atStart => exact ⟨0, [], Nat.zero_le _, rfl, World.ownsRow_nil .., hid rfl, hid (Below.refl _ _)⟩
  case round =>
    obtain ⟨k, cs, hk, rfl, ho, hC, hB⟩ := hrel
    by_cases hlt : k < al.length
    · have hbw := hid (bel_go hB.out B0.out)
      obtain ⟨ba, oa, rfl, hba, hca⟩ := J4.out (by omega)
      have ka := (hbw.out.cell (p := ⟨ba, oa + k, none⟩) hba).trans (hca k hlt)
      obtain ⟨hj0, hj1⟩ := Ha.out al[k] (List.getElem_mem hlt)
      obtain ⟨j, hj⟩ : ∃ j : Nat, al[k] = (j : Nat) := ⟨al[k].toNat, by omega⟩
      have hjk : j < known.length := by omega
      have hjk' : (j : Int) < (known.length : Int) := by omega
      obtain ⟨bk, ok, rfl, hbk, hck⟩ := K4.out (by omega)
      obtain ⟨n, s, c0, c1, hr⟩ := hck j hjk
      obtain ⟨q, d, g, rfl⟩ := hr.shape
      have m0 := (hbw.out.cell (p := ⟨bk, ok + j * 2, none⟩) hbk).trans c0
      have m1 := (hbw.out.cell (p := ⟨bk, ok + j * 2 + 1, none⟩) hbk).trans c1
      rw [hj] at ka
      have Htk := hid (show (al.take (k+1)).map (vlAt known) = (al.take k).map (vlAt known) ++ [known[j]] from by rw [List.take_succ_eq_append_getElem hlt, List.map_append, List.map_singleton, hj, vlAt_nat known j hjk])
      have Hr := hid hr
      have bn := below1 wr (.cells #[.bool n, .slice q d g] 44)
      have ho4 := ownsRow_later ho bn
      have hz4 := size_alloc wr (.cells #[.bool n, .slice q d g] 44)
      have hnew := heap_alloc_new wr (.cells #[.bool n, .slice q d g] 44)
      have hnews : ∀ j u, ([.bool n, .slice q d g] : List Value)[j]? = some u → (wr.alloc (.cells #[.bool n, .slice q d g] 44)).cell? ((⟨wr.heap.size, 0, none⟩ : Addr).add j) = some u := by
        intro j u hj
        rw [Go.WideShapes.add_plain, Nat.zero_add, cell_of_row _ _ _ _ _ _ hnew]
        simpa using hj
      have hlw := hB.out.size
      have Bn := hid bn
      clear hck hca c0 c1 hr hj0 hj1 hj hba hbk bn ho hnew
      go_wp2_with (at_builtin; refine wpList_append_own _ rfl _ _ 32 rfl W.heap.size 44 i0 _ 2 32 Tryz.underlying32 hi hz0 hz1 hz2 rfl (by decide) _ k _ rfl ho4 ⟨wr.heap.size, 0, none⟩ 1 1 [.bool n, .slice q d g] rfl rfl hnews (by intro u hu; simp at hu; rcases hu with rfl | rfl <;> rfl) (by simp [maxLen]; omega) (by omega) (by omega) ?_; intro v5 w5 ho5 hg5 _)
      go_roundw
      case rel => exact ⟨k + 1, _, by omega, by go_num, ho5, hid (by rw [Htk.out]; exact hC.out.snoc Hr.out), hid ((hB.out.trans (Bn.out.mono hlw)).grown hg5 (by omega) (fun g hg => (World.ownsRow.lt ho4 g hg).1))⟩
      case measure => simp [intOf] <;> omega
    · obtain rfl : k = al.length := by omega
      have hbw := hid (bel_go hB.out B0.out)
      have hown : NumsOwn W.heap.size wr _ (al.map (vlAt known)) := ⟨cs, by rw [List.length_map]; exact ho, by have := hC.out; rw [List.take_length] at this; exact this.below hbw.out⟩
      obtain ⟨po, co, rfl⟩ := ownsRow_shape ho
      have HL := hid hown.in
      have HO := hid (fun k (h : (Value.slice po al.length co).ownBlock = some k) => (World.ownsRow.lt ho k h).1)
      have F0 := hid ((hB.out.block w.heap.size (by have := Z3.out; omega)).trans E0.out)
      have F1 := hid ((hB.out.block (w.heap.size + 1) (by have := Z3.out; omega)).trans E1.out)
      have F2 := hid ((hB.out.block (w.heap.size + 1 + 1) (by have := Z3.out; omega)).trans E2.out)
      have HP : Hid (Pair wr (w.heap.size + 1 + 1 + 1) 44) := hid ⟨_, _, _, _, (hB.out.block (w.heap.size + 1 + 1 + 1) (by have := Z3.out; omega)).trans E3.out⟩
      have hsz : w.heap.size + 1 + 1 + 1 < wr.heap.size := by have := Z3.out; have := hB.out.size; omega
      have hop : wr.cell? ⟨w.heap.size + 1 + 1, 0, none⟩ = some (.int .i64 9) := by have := F2.out; simp [World.cell?, this]
      generalize al.map (vlAt known) = l at *
      clear x1 hown ho hC B0 E0 E1 E2 E3 H1 K4 J4 Ha
      have Hlp2 : Hid (l.length = al.length) := Hlp
      rw [← Hlp2.out] at HL ⊢
      clear Hlp
      have hl := Hlp2.out
      have ha0 := HL.out.at 0 (by omega)
      obtain ⟨b5, o5, c5, x0, q0', d0, g0, e5, hb5, n0, k0', r0⟩ := ha0
      injection e5 with f1 _ f3
      subst f1 f3
      have m0 : wr.cell? ⟨b5, o5, none⟩ = some (.bool x0) := by simpa using n0
      have l0' : wr.cell? ⟨b5, o5 + 1, none⟩ = some (.slice q0' d0 g0) := by simpa using k0'
      have hl0 : (0 : Int) < (l.length : Int) := by omega
      have hal0 : (0 : Int) < (al.length : Int) := by omega
      have ha1 := HL.out.at 1 (by omega)
      obtain ⟨b7, o7, c6, x1, q1', d1, g1, e6, hb7, n1, k1', r1⟩ := ha1
      injection e6 with f1 _ f3
      injection f1 with f1
      injection f1 with f5 f6
      subst f5 f6 f3
      have m1 : wr.cell? ⟨b5, o5 + 2, none⟩ = some (.bool x1) := n1
      have l1' : wr.cell? ⟨b5, o5 + 2 + 1, none⟩ = some (.slice q1' d1 g1) := k1'
      have hl1 : (1 : Int) < (l.length : Int) := by omega
      have hal1 : (1 : Int) < (al.length : Int) := by omega
      have hln : 0 < l.length := by omega
      have haln : 0 < al.length := by omega
      have ha2 := HL.out.at 2 (by omega)
      obtain ⟨b6, o6, c6, x2, q2', d2, g2, e6, hb6, n2, k2', r2⟩ := ha2
      injection e6 with f1 _ f3
      injection f1 with f1
      injection f1 with f5 f6
      subst f5 f6 f3
      have m2 : wr.cell? ⟨b5, o5 + 4, none⟩ = some (.bool x2) := n2
      have l2' : wr.cell? ⟨b5, o5 + 4 + 1, none⟩ = some (.slice q2' d2 g2) := k2'
      have hl2 : (2 : Int) < (l.length : Int) := by omega
      have hv : vlAt l 0 = l[0] ∧ vlAt l 1 = l[1] ∧ vlAt l 2 = l[2] := by
        refine ⟨?_, ?_, ?_⟩ <;> unfold vlAt
        · simp [show (0 : Int).toNat = 0 from rfl, List.getElem?_eq_getElem (show 0 < l.length by omega)]
        · simp [show (1 : Int).toNat = 1 from rfl, List.getElem?_eq_getElem (show 1 < l.length by omega)]
        · simp [show (2 : Int).toNat = 2 from rfl, List.getElem?_eq_getElem (show 2 < l.length by omega)]
      obtain ⟨hv0, hv1, hv2⟩ := hv
      rw [hv0, hv1, hv2] at Hrr
      have Hsure := hid (sure_any _ _ wr r0)
      have hb5 : b5 < wr.heap.size := hb5
      have R1 := hid r1; have R2 := hid r2
      clear hv0 hv1 hv2 r0 r1 r2 n0 n1 n2 k0' k1' k2' hb6 hb7
      generalize l[1] = y1 at *
      generalize l[2] = y2 at *
      by_cases hz : l[0] = 0
      · have hb : (l[0] != 0) = false := by simpa using hz
        rw [hb] at Hsure
        obtain rfl : rr = y2 := by rw [Hrr.out, if_neg (by simpa using hz)]
        go_wp2_with fail
        refine Hsure.out.mono ?_
        rintro e w1 ⟨rfl, b1⟩
        have hbw1 := hid (bel_go b1 hbw.out)
        have HP1 := hid (HP.out.below b1)
        have m2 := (b1.cell (p := ⟨b5, o5 + 4, none⟩) hb5).trans m2
        have l2' := (b1.cell (p := ⟨b5, o5 + 4 + 1, none⟩) hb5).trans l2'
        have Hr := hid (R2.out.below b1)
        clear m0 l0' m1 l1' b1
        have hq := HP1.out.cells
        obtain ⟨_, _, q0, q1, q2, q3⟩ := hq
        go_wp2
        exact bodyPost_ret (v := .agg #[.bool x2, .slice q2' d2 g2]) (by simp [results, Tryz.results53, go_sem, q0, q1]) rfl ⟨_, rfl, Hr.out.set2 HP1.out _ _ _ _ _ _ rfl rfl, Below.stored hbw1.out (by omega) _ _⟩
      · have hb : (l[0] != 0) = true := by simpa using hz
        rw [hb] at Hsure
        obtain rfl : rr = y1 := by rw [Hrr.out, if_pos hz]
        go_wp2_with fail
        refine Hsure.out.mono ?_
        rintro e w1 ⟨rfl, b1⟩
        have hbw1 := hid (bel_go b1 hbw.out)
        have HP1 := hid (HP.out.below b1)
        have m1 := (b1.cell (p := ⟨b5, o5 + 2, none⟩) hb5).trans m1
        have l1' := (b1.cell (p := ⟨b5, o5 + 2 + 1, none⟩) hb5).trans l1'
        have Hr := hid (R1.out.below b1)
        clear m0 l0' m2 l2' b1
        have hq := HP1.out.cells
        obtain ⟨_, _, q0, q1, q2, q3⟩ := hq
        go_wp2
        exact bodyPost_ret (v := .agg #[.bool x1, .slice q1' d1 g1]) (by simp [results, Tryz.results53, go_sem, q0, q1]) rfl ⟨_, rfl, Hr.out.set2 HP1.out _ _ _ _ _ _ rfl rfl, Below.stored hbw1.out (by omega) _ _⟩
end Go.Proofs.YtckkpolikdnilaaGreatDoor
/- elenchusref05.One of Op 10. -/
namespace Go.Proofs.YtckkpolikdnilaaGreatDoor
open Go.RowKit Big Go.WideMaps

set_option maxRecDepth 100000 in
set_option maxHeartbeats 12800000 in
theorem One_eq (vs v0 vm vt vk : Value) (syms : List Sy) (ts : List Tb5) (t : Tm) (known : List Int) (w : World) (hs : SyIn w vs syms) (hv : ∃ p n c, v0 = .slice p n c) (hm : TabsIn w vm ts) (h0 : TmRaw w vt t) (h1 : NumsIn w vk known) (ha : ∀ a ∈ t.args, 0 ≤ a ∧ a < known.length) (hn : t.args.length ≤ 1048576)
    (hop : t.op = 10) (hl : 2 ≤ t.args.length) (hfit : ∀ z ∈ t.args.map (vlAt known), sz Big.W z.natAbs ≤ 549755813888) (rr : Int) (hrr : rr = vlTruth (decide (vlAt (t.args.map (vlAt known)) 0 = vlAt (t.args.map (vlAt known)) 1))) :
    Calls Tryz.prog 53 #[.agg #[vs, v0], .agg #[vm], vt, vk] w (RRaw rr w) := by
  have Hrr := hid hrr
  clear hrr
  obtain ⟨i0, hi, hz0, hz1, hz2⟩ := info_parts infoNum
  obtain ⟨p9, n9, c9, rfl⟩ := hv
  obtain ⟨pa, ca, bb, pm, nm, cm, rfl, hA, hN⟩ := h0
  obtain ⟨pa', ca', e, j1, j2, -, j4⟩ := hA
  injection e with e1 e2 e3
  subst e1 e3
  clear e2
  have J4 := hid j4
  have H1 := hid h1
  have Ha := hid ha
  have HS := hid hs; have HM := hid hm; have HN := hid hN
  obtain ⟨pk, ck, rfl, k1, k2, -, k4⟩ := h1
  obtain ⟨ps, cps, rfl, s1, s2, -, -⟩ := hs
  obtain ⟨pq, cpq, rfl, q1, q2, -, -⟩ := hm
  have K4 := hid k4
  unfold maxLen at j2 k2 s2 q2
  obtain ⟨W, hW⟩ : ∃ W, W = ((((w.alloc (.cells #[.slice ps syms.length cps, .slice p9 n9 c9] 25)).alloc (.cells #[.slice pq ts.length cpq] 28)).alloc (.cells #[.int .i64 t.op, .slice pa t.args.length ca, .bool bb, .slice pm nm cm, .int .i64 t.sym] 71)).alloc (.cells #[.bool false, .slice none 0 0] 44)) := ⟨_, rfl⟩
  have b0 : Below w.heap.size w W := by rw [hW]; exact (((below1 w _).alloc (by simp) _).alloc (by simp; omega) _).alloc (by simp; omega) _
  have e0 : W.heap[w.heap.size]? = some (.cells #[.slice ps syms.length cps, .slice p9 n9 c9] 25 (0, 0)) := by rw [hW]; exact alloc_keep (alloc_keep (alloc_keep (alloc_at _ _ _ rfl)))
  have e1 : W.heap[w.heap.size + 1]? = some (.cells #[.slice pq ts.length cpq] 28 (0, 0)) := by rw [hW]; exact alloc_keep (alloc_keep (alloc_at _ _ _ (by rw [size_alloc])))
  have e2 : W.heap[w.heap.size + 1 + 1]? = some (.cells #[.int .i64 t.op, .slice pa t.args.length ca, .bool bb, .slice pm nm cm, .int .i64 t.sym] 71 (0, 0)) := by rw [hW]; exact alloc_keep (alloc_at _ _ _ (by rw [size_alloc, size_alloc]))
  have e3 : W.heap[w.heap.size + 1 + 1 + 1]? = some (.cells #[.bool false, .slice none 0 0] 44 (0, 0)) := by rw [hW]; exact alloc_at _ _ _ (by rw [size_alloc, size_alloc, size_alloc])
  have z3 : W.heap.size = w.heap.size + 1 + 1 + 1 + 1 := by rw [hW, size_alloc, size_alloc, size_alloc, size_alloc]
  have x1 : W.cell? ⟨w.heap.size + 1 + 1, 1, none⟩ = some (.slice pa t.args.length ca) := rec5_cell e2
  have B0 := hid b0; have E0 := hid e0; have E1 := hid e1; have E2 := hid e2; have E3 := hid e3; have Z3 := hid z3
  have Hlp : Hid ((vlParts t known).length = t.args.length) := hid (by simp [vlParts])
  unfold vlParts at *
  clear j4 k4 ha b0 e0 e1 e2 e3 z3 hN s1 s2 q1 q2
  obtain ⟨op, al, num, sym⟩ := t
  dsimp only at *
  subst hop
  have Hfit := hid hfit
  clear hfit
  go_enter Tryz.func53, Tryz.ntmps53
  go_upto_region 2 with fail
  rw [← hW]
  clear hW
  go_wp2_with fail
  have hzw : w.heap.size < W.heap.size := by have := Z3.out; omega
  go_loopw [9, 20] (fun o i wr => ∃ (k : Nat) (cs : List Value), k ≤ al.length ∧ i = .int .i64 (k : Nat) ∧ wr.ownsRow W.heap.size 44 2 o k cs ∧ Hid (VlCells w ((al.take k).map (vlAt known)) cs) ∧ Hid (Below W.heap.size W wr)) (fun _ i _ => al.length - (intOf i).toNat)
  case atStart => exact ⟨0, [], Nat.zero_le _, rfl, World.ownsRow_nil .., hid rfl, hid (Below.refl _ _)⟩
  case round =>
    obtain ⟨k, cs, hk, rfl, ho, hC, hB⟩ := hrel
    by_cases hlt : k < al.length
    · have hbw := hid (bel_go hB.out B0.out)
      obtain ⟨ba, oa, rfl, hba, hca⟩ := J4.out (by omega)
      have ka := (hbw.out.cell (p := ⟨ba, oa + k, none⟩) hba).trans (hca k hlt)
      obtain ⟨hj0, hj1⟩ := Ha.out al[k] (List.getElem_mem hlt)
      obtain ⟨j, hj⟩ : ∃ j : Nat, al[k] = (j : Nat) := ⟨al[k].toNat, by omega⟩
      have hjk : j < known.length := by omega
      have hjk' : (j : Int) < (known.length : Int) := by omega
      obtain ⟨bk, ok, rfl, hbk, hck⟩ := K4.out (by omega)
      obtain ⟨n, s, c0, c1, hr⟩ := hck j hjk
      obtain ⟨q, d, g, rfl⟩ := hr.shape
      have m0 := (hbw.out.cell (p := ⟨bk, ok + j * 2, none⟩) hbk).trans c0
      have m1 := (hbw.out.cell (p := ⟨bk, ok + j * 2 + 1, none⟩) hbk).trans c1
      rw [hj] at ka
      have Htk := hid (show (al.take (k+1)).map (vlAt known) = (al.take k).map (vlAt known) ++ [known[j]] from by rw [List.take_succ_eq_append_getElem hlt, List.map_append, List.map_singleton, hj, vlAt_nat known j hjk])
      have Hr := hid hr
      have bn := below1 wr (.cells #[.bool n, .slice q d g] 44)
      have ho4 := ownsRow_later ho bn
      have hz4 := size_alloc wr (.cells #[.bool n, .slice q d g] 44)
      have hnew := heap_alloc_new wr (.cells #[.bool n, .slice q d g] 44)
      have hnews : ∀ j u, ([.bool n, .slice q d g] : List Value)[j]? = some u → (wr.alloc (.cells #[.bool n, .slice q d g] 44)).cell? ((⟨wr.heap.size, 0, none⟩ : Addr).add j) = some u := by
        intro j u hj
        rw [Go.WideShapes.add_plain, Nat.zero_add, cell_of_row _ _ _ _ _ _ hnew]
        simpa using hj
      have hlw := hB.out.size
      have Bn := hid bn
      clear hck hca c0 c1 hr hj0 hj1 hj hba hbk bn ho hnew
      go_wp2_with (at_builtin; refine wpList_append_own _ rfl _ _ 32 rfl W.heap.size 44 i0 _ 2 32 Tryz.underlying32 hi hz0 hz1 hz2 rfl (by decide) _ k _ rfl ho4 ⟨wr.heap.size, 0, none⟩ 1 1 [.bool n, .slice q d g] rfl rfl hnews (by intro u hu; simp at hu; rcases hu with rfl | rfl <;> rfl) (by simp [maxLen]; omega) (by omega) (by omega) ?_; intro v5 w5 ho5 hg5 _)
      go_roundw
      case rel => exact ⟨k + 1, _, by omega, by go_num, ho5, hid (by rw [Htk.out]; exact hC.out.snoc Hr.out), hid ((hB.out.trans (Bn.out.mono hlw)).grown hg5 (by omega) (fun g hg => (World.ownsRow.lt ho4 g hg).1))⟩
      case measure => simp [intOf] <;> omega
    · obtain rfl : k = al.length := by omega
      have hbw := hid (bel_go hB.out B0.out)
      have hown : NumsOwn W.heap.size wr _ (al.map (vlAt known)) := ⟨cs, by rw [List.length_map]; exact ho, by have := hC.out; rw [List.take_length] at this; exact this.below hbw.out⟩
      obtain ⟨po, co, rfl⟩ := ownsRow_shape ho
      have HL := hid hown.in
      have HO := hid (fun k (h : (Value.slice po al.length co).ownBlock = some k) => (World.ownsRow.lt ho k h).1)
      have F0 := hid ((hB.out.block w.heap.size (by have := Z3.out; omega)).trans E0.out)
      have F1 := hid ((hB.out.block (w.heap.size + 1) (by have := Z3.out; omega)).trans E1.out)
      have F2 := hid ((hB.out.block (w.heap.size + 1 + 1) (by have := Z3.out; omega)).trans E2.out)
      have HP : Hid (Pair wr (w.heap.size + 1 + 1 + 1) 44) := hid ⟨_, _, _, _, (hB.out.block (w.heap.size + 1 + 1 + 1) (by have := Z3.out; omega)).trans E3.out⟩
      have hsz : w.heap.size + 1 + 1 + 1 < wr.heap.size := by have := Z3.out; have := hB.out.size; omega
      have hop : wr.cell? ⟨w.heap.size + 1 + 1, 0, none⟩ = some (.int .i64 10) := by have := F2.out; simp [World.cell?, this]
      generalize al.map (vlAt known) = l at *
      clear x1 hown ho hC B0 E0 E1 E2 E3 H1 K4 J4 Ha
      have Hlp2 : Hid (l.length = al.length) := Hlp
      rw [← Hlp2.out] at HL ⊢
      clear Hlp
      have hl := Hlp2.out
      have ha0 := HL.out.at 0 (by omega)
      obtain ⟨b5, o5, c5, x0, q0', d0, g0, e5, hb5, n0, k0', r0⟩ := ha0
      injection e5 with f1 _ f3
      subst f1 f3
      have m0 : wr.cell? ⟨b5, o5, none⟩ = some (.bool x0) := by simpa using n0
      have l0' : wr.cell? ⟨b5, o5 + 1, none⟩ = some (.slice q0' d0 g0) := by simpa using k0'
      have hl0 : (0 : Int) < (l.length : Int) := by omega
      have hal0 : (0 : Int) < (al.length : Int) := by omega
      have ha1 := HL.out.at 1 (by omega)
      obtain ⟨b6, o6, c6, x1, q1', d1, g1, e6, hb6, n1, k1', r1⟩ := ha1
      injection e6 with f1 _ f3
      injection f1 with f1
      injection f1 with f5 f6
      subst f5 f6 f3
      have m1 : wr.cell? ⟨b5, o5 + 2, none⟩ = some (.bool x1) := n1
      have l1' : wr.cell? ⟨b5, o5 + 2 + 1, none⟩ = some (.slice q1' d1 g1) := k1'
      have hl1 : (1 : Int) < (l.length : Int) := by omega
      have hal1 : (1 : Int) < (al.length : Int) := by omega
      have hln : 0 < l.length := by omega
      have haln : 0 < al.length := by omega
      have hv : vlAt l 0 = l[0] ∧ vlAt l 1 = l[1] := by
        refine ⟨?_, ?_⟩ <;> unfold vlAt
        · simp [show (0 : Int).toNat = 0 from rfl, List.getElem?_eq_getElem (show 0 < l.length by omega)]
        · simp [show (1 : Int).toNat = 1 from rfl, List.getElem?_eq_getElem (show 1 < l.length by omega)]
      obtain ⟨hv0, hv1⟩ := hv
      rw [hv0, hv1] at Hrr
      clear hv0 hv1
      have hge := HO.out b5 rfl
      have hpr0 := HP.out
      have hwW := Z3.out
      have m1' : wr.cell? ⟨b5, o5 + 3, none⟩ = some (.slice q1' d1 g1) := l1'
      have Hcmp := hid (fun W' (hw : Below wr.heap.size wr W') => RCmp_any _ _ l[0] l[1] W' (r0.below hw) (r1.below hw) (Hfit.out _ (List.getElem_mem (by omega))) (Hfit.out _ (List.getElem_mem (by omega))))
      rw [← ord_zero] at Hrr
      clear n0 n1 k0' k1' r0 r1 hb6 l1'
      generalize ord l[0] l[1] = od at *
      go_upto_region 23 with fail
      go_region_held3 (fun w' => w'.cell? ⟨b5, o5, none⟩ = some (.bool x0) ∧ w'.cell? ⟨b5, o5 + 1, none⟩ = some (.slice q0' d0 g0) ∧ w'.cell? ⟨b5, o5 + 2, none⟩ = some (.bool x1) ∧ w'.cell? ⟨b5, o5 + 3, none⟩ = some (.slice q1' d1 g1) ∧ Pair w' (w.heap.size + 1 + 1 + 1) 44)
        (first | (go_split_ands; (try dsimp only); (repeat' apply And.intro) <;> first | assumption | exact Pair.drew ‹_› | exact Pair.below ‹_› hb9 | exact Pair.below ‹_› hb8 | exact Pair.below ‹_› hb7 | exact Pair.below ‹_› hb6 | exact Pair.below ‹_› hb5 | exact Pair.below ‹_› hb4 | exact Pair.below ‹_› hb3 | exact Pair.below ‹_› hb2 | exact Pair.below ‹_› hb1 | exact (hb9.cell (by first | omega | (simp; omega) | (simp; done))).trans ‹_› | exact (hb8.cell (by first | omega | (simp; omega) | (simp; done))).trans ‹_› | exact (hb7.cell (by first | omega | (simp; omega) | (simp; done))).trans ‹_› | exact (hb6.cell (by first | omega | (simp; omega) | (simp; done))).trans ‹_› | exact (hb5.cell (by first | omega | (simp; omega) | (simp; done))).trans ‹_› | exact (hb4.cell (by first | omega | (simp; omega) | (simp; done))).trans ‹_› | exact (hb3.cell (by first | omega | (simp; omega) | (simp; done))).trans ‹_› | exact (hb2.cell (by first | omega | (simp; omega) | (simp; done))).trans ‹_› | exact (hb1.cell (by first | omega | (simp; omega) | (simp; done))).trans ‹_› | exact Pair.set1 (Pair.set0 ‹_› _) _ _ _ | exact (cell_stored _ (by first | (dsimp only; omega) | (simp; done) | (simp; omega)) _ _).trans ‹_› | exact Pair.drew (Pair.below ‹_› (below1 _ _)) | exact Pair.below ‹_› (below1 _ _) | exact Pair.far ‹_› (by omega) hb1 | exact Pair.new .. | exact Pair.new1 .. | exact Pair.new2 .. | (go_keep; done)) | (go_keep; done))
        (first
          | (go_at_call 38; refine (Hcmp.out _ ?_).mono ?_; (repeat (first | exact Below.refl _ _ | apply Below.drew)); rintro e w1 ⟨rfl, hb1⟩; have hz1 : wr.heap.size ≤ w1.heap.size := (by have := hb1.size; simp at this; omega))
          | (go_at_call 39; refine (rtruth_any _ _).mono ?_; rintro e w2 ⟨v2, rfl, hi2, hb2⟩; obtain ⟨p2, n2, c2, rfl, hi2⟩ := hi2.shape; have hpr := Pair.below (by go_split_ands; assumption) hb2; obtain ⟨_, _, q0, q1, q2, q3⟩ := hpr.cells))
      all_goals (
        have Hi := hid hi2
        go_wp2
        exact bodyPost_ret (v := .agg #[.bool (decide (vlTruth (od == 0) < 0)), .slice p2 n2 c2]) (by simp [results, Tryz.results53, go_sem, q0, q1]) rfl ⟨_, rfl, by rw [Hrr.out]; exact (IntAt.raw (Hi.out.stored hpr _ _ _ _) (truth_fit _)), Below.stored (bel_go hb2 (bel_go hb1 hbw.out.drew)) (by omega) _ _⟩)
end Go.Proofs.YtckkpolikdnilaaGreatDoor
/- elenchusref05.One of Op 11. -/
namespace Go.Proofs.YtckkpolikdnilaaGreatDoor
open Go.RowKit Big Go.WideMaps

set_option maxRecDepth 100000 in
set_option maxHeartbeats 12800000 in
theorem One_le (vs v0 vm vt vk : Value) (syms : List Sy) (ts : List Tb5) (t : Tm) (known : List Int) (w : World) (hs : SyIn w vs syms) (hv : ∃ p n c, v0 = .slice p n c) (hm : TabsIn w vm ts) (h0 : TmRaw w vt t) (h1 : NumsIn w vk known) (ha : ∀ a ∈ t.args, 0 ≤ a ∧ a < known.length) (hn : t.args.length ≤ 1048576)
    (hop : t.op = 11) (hl : 2 ≤ t.args.length) (hfit : ∀ z ∈ t.args.map (vlAt known), sz Big.W z.natAbs ≤ 549755813888) (rr : Int) (hrr : rr = vlTruth (decide (vlAt (t.args.map (vlAt known)) 0 ≤ vlAt (t.args.map (vlAt known)) 1))) :
    Calls Tryz.prog 53 #[.agg #[vs, v0], .agg #[vm], vt, vk] w (RRaw rr w) := by
  have Hrr := hid hrr
  clear hrr
  obtain ⟨i0, hi, hz0, hz1, hz2⟩ := info_parts infoNum
  obtain ⟨p9, n9, c9, rfl⟩ := hv
  obtain ⟨pa, ca, bb, pm, nm, cm, rfl, hA, hN⟩ := h0
  obtain ⟨pa', ca', e, j1, j2, -, j4⟩ := hA
  injection e with e1 e2 e3
  subst e1 e3
  clear e2
  have J4 := hid j4
  have H1 := hid h1
  have Ha := hid ha
  have HS := hid hs; have HM := hid hm; have HN := hid hN
  obtain ⟨pk, ck, rfl, k1, k2, -, k4⟩ := h1
  obtain ⟨ps, cps, rfl, s1, s2, -, -⟩ := hs
  obtain ⟨pq, cpq, rfl, q1, q2, -, -⟩ := hm
  have K4 := hid k4
  unfold maxLen at j2 k2 s2 q2
  obtain ⟨W, hW⟩ : ∃ W, W = ((((w.alloc (.cells #[.slice ps syms.length cps, .slice p9 n9 c9] 25)).alloc (.cells #[.slice pq ts.length cpq] 28)).alloc (.cells #[.int .i64 t.op, .slice pa t.args.length ca, .bool bb, .slice pm nm cm, .int .i64 t.sym] 71)).alloc (.cells #[.bool false, .slice none 0 0] 44)) := ⟨_, rfl⟩
  have b0 : Below w.heap.size w W := by rw [hW]; exact (((below1 w _).alloc (by simp) _).alloc (by simp; omega) _).alloc (by simp; omega) _
  have e0 : W.heap[w.heap.size]? = some (.cells #[.slice ps syms.length cps, .slice p9 n9 c9] 25 (0, 0)) := by rw [hW]; exact alloc_keep (alloc_keep (alloc_keep (alloc_at _ _ _ rfl)))
  have e1 : W.heap[w.heap.size + 1]? = some (.cells #[.slice pq ts.length cpq] 28 (0, 0)) := by rw [hW]; exact alloc_keep (alloc_keep (alloc_at _ _ _ (by rw [size_alloc])))
  have e2 : W.heap[w.heap.size + 1 + 1]? = some (.cells #[.int .i64 t.op, .slice pa t.args.length ca, .bool bb, .slice pm nm cm, .int .i64 t.sym] 71 (0, 0)) := by rw [hW]; exact alloc_keep (alloc_at _ _ _ (by rw [size_alloc, size_alloc]))
  have e3 : W.heap[w.heap.size + 1 + 1 + 1]? = some (.cells #[.bool false, .slice none 0 0] 44 (0, 0)) := by rw [hW]; exact alloc_at _ _ _ (by rw [size_alloc, size_alloc, size_alloc])
  have z3 : W.heap.size = w.heap.size + 1 + 1 + 1 + 1 := by rw [hW, size_alloc, size_alloc, size_alloc, size_alloc]
  have x1 : W.cell? ⟨w.heap.size + 1 + 1, 1, none⟩ = some (.slice pa t.args.length ca) := rec5_cell e2
  have B0 := hid b0; have E0 := hid e0; have E1 := hid e1; have E2 := hid e2; have E3 := hid e3; have Z3 := hid z3
  have Hlp : Hid ((vlParts t known).length = t.args.length) := hid (by simp [vlParts])
  unfold vlParts at *
  clear j4 k4 ha b0 e0 e1 e2 e3 z3 hN s1 s2 q1 q2
  obtain ⟨op, al, num, sym⟩ := t
  dsimp only at *
  subst hop
  have Hfit := hid hfit
  clear hfit
  go_enter Tryz.func53, Tryz.ntmps53
  go_upto_region 2 with fail
  rw [← hW]
  clear hW
  go_wp2_with fail
  have hzw : w.heap.size < W.heap.size := by have := Z3.out; omega
  go_loopw [9, 20] (fun o i wr => ∃ (k : Nat) (cs : List Value), k ≤ al.length ∧ i = .int .i64 (k : Nat) ∧ wr.ownsRow W.heap.size 44 2 o k cs ∧ Hid (VlCells w ((al.take k).map (vlAt known)) cs) ∧ Hid (Below W.heap.size W wr)) (fun _ i _ => al.length - (intOf i).toNat)
  case atStart => exact ⟨0, [], Nat.zero_le _, rfl, World.ownsRow_nil .., hid rfl, hid (Below.refl _ _)⟩
  case round =>
    obtain ⟨k, cs, hk, rfl, ho, hC, hB⟩ := hrel
    by_cases hlt : k < al.length
    · have hbw := hid (bel_go hB.out B0.out)
      obtain ⟨ba, oa, rfl, hba, hca⟩ := J4.out (by omega)
      have ka := (hbw.out.cell (p := ⟨ba, oa + k, none⟩) hba).trans (hca k hlt)
      obtain ⟨hj0, hj1⟩ := Ha.out al[k] (List.getElem_mem hlt)
      obtain ⟨j, hj⟩ : ∃ j : Nat, al[k] = (j : Nat) := ⟨al[k].toNat, by omega⟩
      have hjk : j < known.length := by omega
      have hjk' : (j : Int) < (known.length : Int) := by omega
      obtain ⟨bk, ok, rfl, hbk, hck⟩ := K4.out (by omega)
      obtain ⟨n, s, c0, c1, hr⟩ := hck j hjk
      obtain ⟨q, d, g, rfl⟩ := hr.shape
      have m0 := (hbw.out.cell (p := ⟨bk, ok + j * 2, none⟩) hbk).trans c0
      have m1 := (hbw.out.cell (p := ⟨bk, ok + j * 2 + 1, none⟩) hbk).trans c1
      rw [hj] at ka
      have Htk := hid (show (al.take (k+1)).map (vlAt known) = (al.take k).map (vlAt known) ++ [known[j]] from by rw [List.take_succ_eq_append_getElem hlt, List.map_append, List.map_singleton, hj, vlAt_nat known j hjk])
      have Hr := hid hr
      have bn := below1 wr (.cells #[.bool n, .slice q d g] 44)
      have ho4 := ownsRow_later ho bn
      have hz4 := size_alloc wr (.cells #[.bool n, .slice q d g] 44)
      have hnew := heap_alloc_new wr (.cells #[.bool n, .slice q d g] 44)
      have hnews : ∀ j u, ([.bool n, .slice q d g] : List Value)[j]? = some u → (wr.alloc (.cells #[.bool n, .slice q d g] 44)).cell? ((⟨wr.heap.size, 0, none⟩ : Addr).add j) = some u := by
        intro j u hj
        rw [Go.WideShapes.add_plain, Nat.zero_add, cell_of_row _ _ _ _ _ _ hnew]
        simpa using hj
      have hlw := hB.out.size
      have Bn := hid bn
      clear hck hca c0 c1 hr hj0 hj1 hj hba hbk bn ho hnew
      go_wp2_with (at_builtin; refine wpList_append_own _ rfl _ _ 32 rfl W.heap.size 44 i0 _ 2 32 Tryz.underlying32 hi hz0 hz1 hz2 rfl (by decide) _ k _ rfl ho4 ⟨wr.heap.size, 0, none⟩ 1 1 [.bool n, .slice q d g] rfl rfl hnews (by intro u hu; simp at hu; rcases hu with rfl | rfl <;> rfl) (by simp [maxLen]; omega) (by omega) (by omega) ?_; intro v5 w5 ho5 hg5 _)
      go_roundw
      case rel => exact ⟨k + 1, _, by omega, by go_num, ho5, hid (by rw [Htk.out]; exact hC.out.snoc Hr.out), hid ((hB.out.trans (Bn.out.mono hlw)).grown hg5 (by omega) (fun g hg => (World.ownsRow.lt ho4 g hg).1))⟩
      case measure => simp [intOf] <;> omega
    · obtain rfl : k = al.length := by omega
      have hbw := hid (bel_go hB.out B0.out)
      have hown : NumsOwn W.heap.size wr _ (al.map (vlAt known)) := ⟨cs, by rw [List.length_map]; exact ho, by have := hC.out; rw [List.take_length] at this; exact this.below hbw.out⟩
      obtain ⟨po, co, rfl⟩ := ownsRow_shape ho
      have HL := hid hown.in
      have HO := hid (fun k (h : (Value.slice po al.length co).ownBlock = some k) => (World.ownsRow.lt ho k h).1)
      have F0 := hid ((hB.out.block w.heap.size (by have := Z3.out; omega)).trans E0.out)
      have F1 := hid ((hB.out.block (w.heap.size + 1) (by have := Z3.out; omega)).trans E1.out)
      have F2 := hid ((hB.out.block (w.heap.size + 1 + 1) (by have := Z3.out; omega)).trans E2.out)
      have HP : Hid (Pair wr (w.heap.size + 1 + 1 + 1) 44) := hid ⟨_, _, _, _, (hB.out.block (w.heap.size + 1 + 1 + 1) (by have := Z3.out; omega)).trans E3.out⟩
      have hsz : w.heap.size + 1 + 1 + 1 < wr.heap.size := by have := Z3.out; have := hB.out.size; omega
      have hop : wr.cell? ⟨w.heap.size + 1 + 1, 0, none⟩ = some (.int .i64 11) := by have := F2.out; simp [World.cell?, this]
      generalize al.map (vlAt known) = l at *
      clear x1 hown ho hC B0 E0 E1 E2 E3 H1 K4 J4 Ha
      have Hlp2 : Hid (l.length = al.length) := Hlp
      rw [← Hlp2.out] at HL ⊢
      clear Hlp
      have hl := Hlp2.out
      have ha0 := HL.out.at 0 (by omega)
      obtain ⟨b5, o5, c5, x0, q0', d0, g0, e5, hb5, n0, k0', r0⟩ := ha0
      injection e5 with f1 _ f3
      subst f1 f3
      have m0 : wr.cell? ⟨b5, o5, none⟩ = some (.bool x0) := by simpa using n0
      have l0' : wr.cell? ⟨b5, o5 + 1, none⟩ = some (.slice q0' d0 g0) := by simpa using k0'
      have hl0 : (0 : Int) < (l.length : Int) := by omega
      have hal0 : (0 : Int) < (al.length : Int) := by omega
      have ha1 := HL.out.at 1 (by omega)
      obtain ⟨b6, o6, c6, x1, q1', d1, g1, e6, hb6, n1, k1', r1⟩ := ha1
      injection e6 with f1 _ f3
      injection f1 with f1
      injection f1 with f5 f6
      subst f5 f6 f3
      have m1 : wr.cell? ⟨b5, o5 + 2, none⟩ = some (.bool x1) := n1
      have l1' : wr.cell? ⟨b5, o5 + 2 + 1, none⟩ = some (.slice q1' d1 g1) := k1'
      have hl1 : (1 : Int) < (l.length : Int) := by omega
      have hal1 : (1 : Int) < (al.length : Int) := by omega
      have hln : 0 < l.length := by omega
      have haln : 0 < al.length := by omega
      have hv : vlAt l 0 = l[0] ∧ vlAt l 1 = l[1] := by
        refine ⟨?_, ?_⟩ <;> unfold vlAt
        · simp [show (0 : Int).toNat = 0 from rfl, List.getElem?_eq_getElem (show 0 < l.length by omega)]
        · simp [show (1 : Int).toNat = 1 from rfl, List.getElem?_eq_getElem (show 1 < l.length by omega)]
      obtain ⟨hv0, hv1⟩ := hv
      rw [hv0, hv1] at Hrr
      clear hv0 hv1
      have hge := HO.out b5 rfl
      have hpr0 := HP.out
      have hwW := Z3.out
      have m1' : wr.cell? ⟨b5, o5 + 3, none⟩ = some (.slice q1' d1 g1) := l1'
      have Hcmp := hid (fun W' (hw : Below wr.heap.size wr W') => RCmp_any _ _ l[0] l[1] W' (r0.below hw) (r1.below hw) (Hfit.out _ (List.getElem_mem (by omega))) (Hfit.out _ (List.getElem_mem (by omega))))
      rw [← ord_le] at Hrr
      clear n0 n1 k0' k1' r0 r1 hb6 l1'
      generalize ord l[0] l[1] = od at *
      go_upto_region 25 with fail
      go_region_held3 (fun w' => w'.cell? ⟨b5, o5, none⟩ = some (.bool x0) ∧ w'.cell? ⟨b5, o5 + 1, none⟩ = some (.slice q0' d0 g0) ∧ w'.cell? ⟨b5, o5 + 2, none⟩ = some (.bool x1) ∧ w'.cell? ⟨b5, o5 + 3, none⟩ = some (.slice q1' d1 g1) ∧ Pair w' (w.heap.size + 1 + 1 + 1) 44)
        (first | (go_split_ands; (try dsimp only); (repeat' apply And.intro) <;> first | assumption | exact Pair.drew ‹_› | exact Pair.below ‹_› hb9 | exact Pair.below ‹_› hb8 | exact Pair.below ‹_› hb7 | exact Pair.below ‹_› hb6 | exact Pair.below ‹_› hb5 | exact Pair.below ‹_› hb4 | exact Pair.below ‹_› hb3 | exact Pair.below ‹_› hb2 | exact Pair.below ‹_› hb1 | exact (hb9.cell (by first | omega | (simp; omega) | (simp; done))).trans ‹_› | exact (hb8.cell (by first | omega | (simp; omega) | (simp; done))).trans ‹_› | exact (hb7.cell (by first | omega | (simp; omega) | (simp; done))).trans ‹_› | exact (hb6.cell (by first | omega | (simp; omega) | (simp; done))).trans ‹_› | exact (hb5.cell (by first | omega | (simp; omega) | (simp; done))).trans ‹_› | exact (hb4.cell (by first | omega | (simp; omega) | (simp; done))).trans ‹_› | exact (hb3.cell (by first | omega | (simp; omega) | (simp; done))).trans ‹_› | exact (hb2.cell (by first | omega | (simp; omega) | (simp; done))).trans ‹_› | exact (hb1.cell (by first | omega | (simp; omega) | (simp; done))).trans ‹_› | exact Pair.set1 (Pair.set0 ‹_› _) _ _ _ | exact (cell_stored _ (by first | (dsimp only; omega) | (simp; done) | (simp; omega)) _ _).trans ‹_› | exact Pair.drew (Pair.below ‹_› (below1 _ _)) | exact Pair.below ‹_› (below1 _ _) | exact Pair.far ‹_› (by omega) hb1 | exact Pair.new .. | exact Pair.new1 .. | exact Pair.new2 .. | (go_keep; done)) | (go_keep; done))
        (first
          | (go_at_call 38; refine (Hcmp.out _ ?_).mono ?_; (repeat (first | exact Below.refl _ _ | apply Below.drew)); rintro e w1 ⟨rfl, hb1⟩; have hz1 : wr.heap.size ≤ w1.heap.size := (by have := hb1.size; simp at this; omega))
          | (go_at_call 39; refine (rtruth_any _ _).mono ?_; rintro e w2 ⟨v2, rfl, hi2, hb2⟩; obtain ⟨p2, n2, c2, rfl, hi2⟩ := hi2.shape; have hpr := Pair.below (by go_split_ands; assumption) hb2; obtain ⟨_, _, q0, q1, q2, q3⟩ := hpr.cells))
      all_goals (
        have Hi := hid hi2
        go_wp2
        exact bodyPost_ret (v := .agg #[.bool (decide (vlTruth (decide (od ≤ 0)) < 0)), .slice p2 n2 c2]) (by simp [results, Tryz.results53, go_sem, q0, q1]) rfl ⟨_, rfl, by rw [Hrr.out]; exact (IntAt.raw (Hi.out.stored hpr _ _ _ _) (truth_fit _)), Below.stored (bel_go hb2 (bel_go hb1 hbw.out.drew)) (by omega) _ _⟩)
end Go.Proofs.YtckkpolikdnilaaGreatDoor
/- elenchusref05.One of Op 8. -/
namespace Go.Proofs.YtckkpolikdnilaaGreatDoor
open Go.RowKit Big Go.WideMaps

set_option maxRecDepth 100000 in
set_option maxHeartbeats 12800000 in
theorem One_iff (vs v0 vm vt vk : Value) (syms : List Sy) (ts : List Tb5) (t : Tm) (known : List Int) (w : World) (hs : SyIn w vs syms) (hv : ∃ p n c, v0 = .slice p n c) (hm : TabsIn w vm ts) (h0 : TmRaw w vt t) (h1 : NumsIn w vk known) (ha : ∀ a ∈ t.args, 0 ≤ a ∧ a < known.length) (hn : t.args.length ≤ 1048576)
    (hop : t.op = 8) (hl : 2 ≤ t.args.length) (rr : Int) (hrr : rr = vlTruth ((vlAt (t.args.map (vlAt known)) 0 != 0) == (vlAt (t.args.map (vlAt known)) 1 != 0))) :
    Calls Tryz.prog 53 #[.agg #[vs, v0], .agg #[vm], vt, vk] w (RRaw rr w) := by
  have Hrr := hid hrr
  clear hrr
  obtain ⟨i0, hi, hz0, hz1, hz2⟩ := info_parts infoNum
  obtain ⟨p9, n9, c9, rfl⟩ := hv
  obtain ⟨pa, ca, bb, pm, nm, cm, rfl, hA, hN⟩ := h0
  obtain ⟨pa', ca', e, j1, j2, -, j4⟩ := hA
  injection e with e1 e2 e3
  subst e1 e3
  clear e2
  have J4 := hid j4
  have H1 := hid h1
  have Ha := hid ha
  have HS := hid hs; have HM := hid hm; have HN := hid hN
  obtain ⟨pk, ck, rfl, k1, k2, -, k4⟩ := h1
  obtain ⟨ps, cps, rfl, s1, s2, -, -⟩ := hs
  obtain ⟨pq, cpq, rfl, q1, q2, -, -⟩ := hm
  have K4 := hid k4
  unfold maxLen at j2 k2 s2 q2
  obtain ⟨W, hW⟩ : ∃ W, W = ((((w.alloc (.cells #[.slice ps syms.length cps, .slice p9 n9 c9] 25)).alloc (.cells #[.slice pq ts.length cpq] 28)).alloc (.cells #[.int .i64 t.op, .slice pa t.args.length ca, .bool bb, .slice pm nm cm, .int .i64 t.sym] 71)).alloc (.cells #[.bool false, .slice none 0 0] 44)) := ⟨_, rfl⟩
  have b0 : Below w.heap.size w W := by rw [hW]; exact (((below1 w _).alloc (by simp) _).alloc (by simp; omega) _).alloc (by simp; omega) _
  have e0 : W.heap[w.heap.size]? = some (.cells #[.slice ps syms.length cps, .slice p9 n9 c9] 25 (0, 0)) := by rw [hW]; exact alloc_keep (alloc_keep (alloc_keep (alloc_at _ _ _ rfl)))
  have e1 : W.heap[w.heap.size + 1]? = some (.cells #[.slice pq ts.length cpq] 28 (0, 0)) := by rw [hW]; exact alloc_keep (alloc_keep (alloc_at _ _ _ (by rw [size_alloc])))
  have e2 : W.heap[w.heap.size + 1 + 1]? = some (.cells #[.int .i64 t.op, .slice pa t.args.length ca, .bool bb, .slice pm nm cm, .int .i64 t.sym] 71 (0, 0)) := by rw [hW]; exact alloc_keep (alloc_at _ _ _ (by rw [size_alloc, size_alloc]))
  have e3 : W.heap[w.heap.size + 1 + 1 + 1]? = some (.cells #[.bool false, .slice none 0 0] 44 (0, 0)) := by rw [hW]; exact alloc_at _ _ _ (by rw [size_alloc, size_alloc, size_alloc])
  have z3 : W.heap.size = w.heap.size + 1 + 1 + 1 + 1 := by rw [hW, size_alloc, size_alloc, size_alloc, size_alloc]
  have x1 : W.cell? ⟨w.heap.size + 1 + 1, 1, none⟩ = some (.slice pa t.args.length ca) := rec5_cell e2
  have B0 := hid b0; have E0 := hid e0; have E1 := hid e1; have E2 := hid e2; have E3 := hid e3; have Z3 := hid z3
  have Hlp : Hid ((vlParts t known).length = t.args.length) := hid (by simp [vlParts])
  unfold vlParts at *
  clear j4 k4 ha b0 e0 e1 e2 e3 z3 hN s1 s2 q1 q2
  obtain ⟨op, al, num, sym⟩ := t
  dsimp only at *
  subst hop
  go_enter Tryz.func53, Tryz.ntmps53
  go_upto_region 2 with fail
  rw [← hW]
  clear hW
  go_wp2_with fail
  have hzw : w.heap.size < W.heap.size := by have := Z3.out; omega
  go_loopw [9, 20] (fun o i wr => ∃ (k : Nat) (cs : List Value), k ≤ al.length ∧ i = .int .i64 (k : Nat) ∧ wr.ownsRow W.heap.size 44 2 o k cs ∧ Hid (VlCells w ((al.take k).map (vlAt known)) cs) ∧ Hid (Below W.heap.size W wr)) (fun _ i _ => al.length - (intOf i).toNat)
  case atStart => exact ⟨0, [], Nat.zero_le _, rfl, World.ownsRow_nil .., hid rfl, hid (Below.refl _ _)⟩
  case round =>
    obtain ⟨k, cs, hk, rfl, ho, hC, hB⟩ := hrel
    by_cases hlt : k < al.length
    · have hbw := hid (bel_go hB.out B0.out)
      obtain ⟨ba, oa, rfl, hba, hca⟩ := J4.out (by omega)
      have ka := (hbw.out.cell (p := ⟨ba, oa + k, none⟩) hba).trans (hca k hlt)
      obtain ⟨hj0, hj1⟩ := Ha.out al[k] (List.getElem_mem hlt)
      obtain ⟨j, hj⟩ : ∃ j : Nat, al[k] = (j : Nat) := ⟨al[k].toNat, by omega⟩
      have hjk : j < known.length := by omega
      have hjk' : (j : Int) < (known.length : Int) := by omega
      obtain ⟨bk, ok, rfl, hbk, hck⟩ := K4.out (by omega)
      obtain ⟨n, s, c0, c1, hr⟩ := hck j hjk
      obtain ⟨q, d, g, rfl⟩ := hr.shape
      have m0 := (hbw.out.cell (p := ⟨bk, ok + j * 2, none⟩) hbk).trans c0
      have m1 := (hbw.out.cell (p := ⟨bk, ok + j * 2 + 1, none⟩) hbk).trans c1
      rw [hj] at ka
      have Htk := hid (show (al.take (k+1)).map (vlAt known) = (al.take k).map (vlAt known) ++ [known[j]] from by rw [List.take_succ_eq_append_getElem hlt, List.map_append, List.map_singleton, hj, vlAt_nat known j hjk])
      have Hr := hid hr
      have bn := below1 wr (.cells #[.bool n, .slice q d g] 44)
      have ho4 := ownsRow_later ho bn
      have hz4 := size_alloc wr (.cells #[.bool n, .slice q d g] 44)
      have hnew := heap_alloc_new wr (.cells #[.bool n, .slice q d g] 44)
      have hnews : ∀ j u, ([.bool n, .slice q d g] : List Value)[j]? = some u → (wr.alloc (.cells #[.bool n, .slice q d g] 44)).cell? ((⟨wr.heap.size, 0, none⟩ : Addr).add j) = some u := by
        intro j u hj
        rw [Go.WideShapes.add_plain, Nat.zero_add, cell_of_row _ _ _ _ _ _ hnew]
        simpa using hj
      have hlw := hB.out.size
      have Bn := hid bn
      clear hck hca c0 c1 hr hj0 hj1 hj hba hbk bn ho hnew
      go_wp2_with (at_builtin; refine wpList_append_own _ rfl _ _ 32 rfl W.heap.size 44 i0 _ 2 32 Tryz.underlying32 hi hz0 hz1 hz2 rfl (by decide) _ k _ rfl ho4 ⟨wr.heap.size, 0, none⟩ 1 1 [.bool n, .slice q d g] rfl rfl hnews (by intro u hu; simp at hu; rcases hu with rfl | rfl <;> rfl) (by simp [maxLen]; omega) (by omega) (by omega) ?_; intro v5 w5 ho5 hg5 _)
      go_roundw
      case rel => exact ⟨k + 1, _, by omega, by go_num, ho5, hid (by rw [Htk.out]; exact hC.out.snoc Hr.out), hid ((hB.out.trans (Bn.out.mono hlw)).grown hg5 (by omega) (fun g hg => (World.ownsRow.lt ho4 g hg).1))⟩
      case measure => simp [intOf] <;> omega
    · obtain rfl : k = al.length := by omega
      have hbw := hid (bel_go hB.out B0.out)
      have hown : NumsOwn W.heap.size wr _ (al.map (vlAt known)) := ⟨cs, by rw [List.length_map]; exact ho, by have := hC.out; rw [List.take_length] at this; exact this.below hbw.out⟩
      obtain ⟨po, co, rfl⟩ := ownsRow_shape ho
      have HL := hid hown.in
      have HO := hid (fun k (h : (Value.slice po al.length co).ownBlock = some k) => (World.ownsRow.lt ho k h).1)
      have F0 := hid ((hB.out.block w.heap.size (by have := Z3.out; omega)).trans E0.out)
      have F1 := hid ((hB.out.block (w.heap.size + 1) (by have := Z3.out; omega)).trans E1.out)
      have F2 := hid ((hB.out.block (w.heap.size + 1 + 1) (by have := Z3.out; omega)).trans E2.out)
      have HP : Hid (Pair wr (w.heap.size + 1 + 1 + 1) 44) := hid ⟨_, _, _, _, (hB.out.block (w.heap.size + 1 + 1 + 1) (by have := Z3.out; omega)).trans E3.out⟩
      have hsz : w.heap.size + 1 + 1 + 1 < wr.heap.size := by have := Z3.out; have := hB.out.size; omega
      have hop : wr.cell? ⟨w.heap.size + 1 + 1, 0, none⟩ = some (.int .i64 8) := by have := F2.out; simp [World.cell?, this]
      generalize al.map (vlAt known) = l at *
      clear x1 hown ho hC B0 E0 E1 E2 E3 H1 K4 J4 Ha
      have Hlp2 : Hid (l.length = al.length) := Hlp
      rw [← Hlp2.out] at HL ⊢
      clear Hlp
      have hl := Hlp2.out
      have ha0 := HL.out.at 0 (by omega)
      obtain ⟨b5, o5, c5, x0, q0', d0, g0, e5, hb5, n0, k0', r0⟩ := ha0
      injection e5 with f1 _ f3
      subst f1 f3
      have m0 : wr.cell? ⟨b5, o5, none⟩ = some (.bool x0) := by simpa using n0
      have l0' : wr.cell? ⟨b5, o5 + 1, none⟩ = some (.slice q0' d0 g0) := by simpa using k0'
      have hl0 : (0 : Int) < (l.length : Int) := by omega
      have hal0 : (0 : Int) < (al.length : Int) := by omega
      have ha1 := HL.out.at 1 (by omega)
      obtain ⟨b6, o6, c6, x1, q1', d1, g1, e6, hb6, n1, k1', r1⟩ := ha1
      injection e6 with f1 _ f3
      injection f1 with f1
      injection f1 with f5 f6
      subst f5 f6 f3
      have m1 : wr.cell? ⟨b5, o5 + 2, none⟩ = some (.bool x1) := n1
      have l1' : wr.cell? ⟨b5, o5 + 2 + 1, none⟩ = some (.slice q1' d1 g1) := k1'
      have hl1 : (1 : Int) < (l.length : Int) := by omega
      have hal1 : (1 : Int) < (al.length : Int) := by omega
      have hln : 0 < l.length := by omega
      have haln : 0 < al.length := by omega
      have hv : vlAt l 0 = l[0] ∧ vlAt l 1 = l[1] := by
        refine ⟨?_, ?_⟩ <;> unfold vlAt
        · simp [show (0 : Int).toNat = 0 from rfl, List.getElem?_eq_getElem (show 0 < l.length by omega)]
        · simp [show (1 : Int).toNat = 1 from rfl, List.getElem?_eq_getElem (show 1 < l.length by omega)]
      obtain ⟨hv0, hv1⟩ := hv
      rw [hv0, hv1] at Hrr
      clear hv0 hv1
      have hge := HO.out b5 rfl
      have hpr0 := HP.out
      have hwW := Z3.out
      have m1' : wr.cell? ⟨b5, o5 + 3, none⟩ = some (.slice q1' d1 g1) := l1'
      have Hs0 := hid (fun W' (hw : Below wr.heap.size wr W') => sure_any _ _ W' (r0.below hw))
      have Hs1 := hid (fun W' (hw : Below wr.heap.size wr W') => sure_any _ _ W' (r1.below hw))
      clear n0 n1 k0' k1' r0 r1 hb6 l1'
      generalize (l[0] != 0) = u0 at *
      generalize (l[1] != 0) = u1 at *
      go_upto_region 17 with fail
      go_region_held3 (fun w' => w'.cell? ⟨b5, o5, none⟩ = some (.bool x0) ∧ w'.cell? ⟨b5, o5 + 1, none⟩ = some (.slice q0' d0 g0) ∧ w'.cell? ⟨b5, o5 + 2, none⟩ = some (.bool x1) ∧ w'.cell? ⟨b5, o5 + 3, none⟩ = some (.slice q1' d1 g1) ∧ Pair w' (w.heap.size + 1 + 1 + 1) 44)
        (first | (go_split_ands; (try dsimp only); (repeat' apply And.intro) <;> first | assumption | exact Pair.drew ‹_› | exact Pair.below ‹_› hb9 | exact Pair.below ‹_› hb8 | exact Pair.below ‹_› hb7 | exact Pair.below ‹_› hb6 | exact Pair.below ‹_› hb5 | exact Pair.below ‹_› hb4 | exact Pair.below ‹_› hb3 | exact Pair.below ‹_› hb2 | exact Pair.below ‹_› hb1 | exact (hb9.cell (by first | omega | (simp; omega) | (simp; done))).trans ‹_› | exact (hb8.cell (by first | omega | (simp; omega) | (simp; done))).trans ‹_› | exact (hb7.cell (by first | omega | (simp; omega) | (simp; done))).trans ‹_› | exact (hb6.cell (by first | omega | (simp; omega) | (simp; done))).trans ‹_› | exact (hb5.cell (by first | omega | (simp; omega) | (simp; done))).trans ‹_› | exact (hb4.cell (by first | omega | (simp; omega) | (simp; done))).trans ‹_› | exact (hb3.cell (by first | omega | (simp; omega) | (simp; done))).trans ‹_› | exact (hb2.cell (by first | omega | (simp; omega) | (simp; done))).trans ‹_› | exact (hb1.cell (by first | omega | (simp; omega) | (simp; done))).trans ‹_› | exact Pair.set1 (Pair.set0 ‹_› _) _ _ _ | exact (cell_stored _ (by first | (dsimp only; omega) | (simp; done) | (simp; omega)) _ _).trans ‹_› | exact Pair.drew (Pair.below ‹_› (below1 _ _)) | exact Pair.below ‹_› (below1 _ _) | exact Pair.far ‹_› (by omega) hb1 | exact Pair.new .. | exact Pair.new1 .. | exact Pair.new2 .. | (go_keep; done)) | (go_keep; done))
        (first
          | (go_at_call_of 84 (q0'); refine (Hs0.out _ ?_).mono ?_; (repeat (first | exact Below.refl _ _ | apply Below.drew)); rintro e w1 ⟨rfl, hb1⟩; have hz1 : wr.heap.size ≤ w1.heap.size := (by have := hb1.size; simp at this; omega))
          | (go_at_call_of 84 (q1'); refine (Hs1.out _ (bel_go hb1 ?_)).mono ?_; (repeat (first | exact Below.refl _ _ | apply Below.drew)); rintro e w3 ⟨rfl, hb3⟩; have hz3 : wr.heap.size ≤ w3.heap.size := (by have := hb3.size; omega))
          | (go_at_call 39; refine (rtruth_any _ _).mono ?_; rintro e w2 ⟨v2, rfl, hi2, hb2⟩; obtain ⟨p2, n2, c2, rfl, hi2⟩ := hi2.shape; have hpr := Pair.below (by go_split_ands; assumption) hb2; obtain ⟨_, _, q0, q1, q2, q3⟩ := hpr.cells))
      all_goals (
        have Hi := hid hi2
        go_wp2
        exact bodyPost_ret (v := .agg #[.bool (decide (vlTruth (u0 == u1) < 0)), .slice p2 n2 c2]) (by simp [results, Tryz.results53, go_sem, q0, q1]) rfl ⟨_, rfl, by rw [Hrr.out]; exact (IntAt.raw (Hi.out.stored hpr _ _ _ _) (truth_fit _)), Below.stored (bel_go hb2 (bel_go hb3 (bel_go hb1 hbw.out.drew))) (by omega) _ _⟩)
end Go.Proofs.YtckkpolikdnilaaGreatDoor
/- elenchusref05.One of Op 13. -/
namespace Go.Proofs.YtckkpolikdnilaaGreatDoor
open Go.RowKit Big Go.WideMaps

set_option maxRecDepth 100000 in
set_option maxHeartbeats 12800000 in
theorem One_mul (vs v0 vm vt vk : Value) (syms : List Sy) (ts : List Tb5) (t : Tm) (known : List Int) (w : World) (hs : SyIn w vs syms) (hv : ∃ p n c, v0 = .slice p n c) (hm : TabsIn w vm ts) (h0 : TmRaw w vt t) (h1 : NumsIn w vk known) (ha : ∀ a ∈ t.args, 0 ≤ a ∧ a < known.length) (hn : t.args.length ≤ 1048576)
    (hop : t.op = 13) (hl : 1 ≤ t.args.length) (hfit : ∀ z ∈ t.args.map (vlAt known), sz Big.W z.natAbs ≤ 549755813888) (hnum : sz Big.W t.num.natAbs ≤ 549755813888) (rr : Int) (hrr : rr = t.num * vlAt (t.args.map (vlAt known)) 0) :
    Calls Tryz.prog 53 #[.agg #[vs, v0], .agg #[vm], vt, vk] w (RRaw rr w) := by
  have Hrr := hid hrr
  clear hrr
  obtain ⟨i0, hi, hz0, hz1, hz2⟩ := info_parts infoNum
  obtain ⟨p9, n9, c9, rfl⟩ := hv
  obtain ⟨pa, ca, bb, pm, nm, cm, rfl, hA, hN⟩ := h0
  obtain ⟨pa', ca', e, j1, j2, -, j4⟩ := hA
  injection e with e1 e2 e3
  subst e1 e3
  clear e2
  have J4 := hid j4
  have H1 := hid h1
  have Ha := hid ha
  have HS := hid hs; have HM := hid hm; have HN := hid hN
  obtain ⟨pk, ck, rfl, k1, k2, -, k4⟩ := h1
  obtain ⟨ps, cps, rfl, s1, s2, -, -⟩ := hs
  obtain ⟨pq, cpq, rfl, q1, q2, -, -⟩ := hm
  have K4 := hid k4
  unfold maxLen at j2 k2 s2 q2
  obtain ⟨W, hW⟩ : ∃ W, W = ((((w.alloc (.cells #[.slice ps syms.length cps, .slice p9 n9 c9] 25)).alloc (.cells #[.slice pq ts.length cpq] 28)).alloc (.cells #[.int .i64 t.op, .slice pa t.args.length ca, .bool bb, .slice pm nm cm, .int .i64 t.sym] 71)).alloc (.cells #[.bool false, .slice none 0 0] 44)) := ⟨_, rfl⟩
  have b0 : Below w.heap.size w W := by rw [hW]; exact (((below1 w _).alloc (by simp) _).alloc (by simp; omega) _).alloc (by simp; omega) _
  have e0 : W.heap[w.heap.size]? = some (.cells #[.slice ps syms.length cps, .slice p9 n9 c9] 25 (0, 0)) := by rw [hW]; exact alloc_keep (alloc_keep (alloc_keep (alloc_at _ _ _ rfl)))
  have e1 : W.heap[w.heap.size + 1]? = some (.cells #[.slice pq ts.length cpq] 28 (0, 0)) := by rw [hW]; exact alloc_keep (alloc_keep (alloc_at _ _ _ (by rw [size_alloc])))
  have e2 : W.heap[w.heap.size + 1 + 1]? = some (.cells #[.int .i64 t.op, .slice pa t.args.length ca, .bool bb, .slice pm nm cm, .int .i64 t.sym] 71 (0, 0)) := by rw [hW]; exact alloc_keep (alloc_at _ _ _ (by rw [size_alloc, size_alloc]))
  have e3 : W.heap[w.heap.size + 1 + 1 + 1]? = some (.cells #[.bool false, .slice none 0 0] 44 (0, 0)) := by rw [hW]; exact alloc_at _ _ _ (by rw [size_alloc, size_alloc, size_alloc])
  have z3 : W.heap.size = w.heap.size + 1 + 1 + 1 + 1 := by rw [hW, size_alloc, size_alloc, size_alloc, size_alloc]
  have x1 : W.cell? ⟨w.heap.size + 1 + 1, 1, none⟩ = some (.slice pa t.args.length ca) := rec5_cell e2
  have B0 := hid b0; have E0 := hid e0; have E1 := hid e1; have E2 := hid e2; have E3 := hid e3; have Z3 := hid z3
  have Hlp : Hid ((vlParts t known).length = t.args.length) := hid (by simp [vlParts])
  unfold vlParts at *
  clear j4 k4 ha b0 e0 e1 e2 e3 z3 hN s1 s2 q1 q2
  obtain ⟨op, al, num, sym⟩ := t
  dsimp only at *
  subst hop
  have Hfit := hid hfit
  clear hfit
  have Hnum := hid hnum
  clear hnum
  go_enter Tryz.func53, Tryz.ntmps53
  go_upto_region 2 with fail
  rw [← hW]
  clear hW
  go_wp2_with fail
  have hzw : w.heap.size < W.heap.size := by have := Z3.out; omega
  go_loopw [9, 20] (fun o i wr => ∃ (k : Nat) (cs : List Value), k ≤ al.length ∧ i = .int .i64 (k : Nat) ∧ wr.ownsRow W.heap.size 44 2 o k cs ∧ Hid (VlCells w ((al.take k).map (vlAt known)) cs) ∧ Hid (Below W.heap.size W wr)) (fun _ i _ => al.length - (intOf i).toNat)
  case atStart => exact ⟨0, [], Nat.zero_le _, rfl, World.ownsRow_nil .., hid rfl, hid (Below.refl _ _)⟩
  case round =>
    obtain ⟨k, cs, hk, rfl, ho, hC, hB⟩ := hrel
    by_cases hlt : k < al.length
    · have hbw := hid (bel_go hB.out B0.out)
      obtain ⟨ba, oa, rfl, hba, hca⟩ := J4.out (by omega)
      have ka := (hbw.out.cell (p := ⟨ba, oa + k, none⟩) hba).trans (hca k hlt)
      obtain ⟨hj0, hj1⟩ := Ha.out al[k] (List.getElem_mem hlt)
      obtain ⟨j, hj⟩ : ∃ j : Nat, al[k] = (j : Nat) := ⟨al[k].toNat, by omega⟩
      have hjk : j < known.length := by omega
      have hjk' : (j : Int) < (known.length : Int) := by omega
      obtain ⟨bk, ok, rfl, hbk, hck⟩ := K4.out (by omega)
      obtain ⟨n, s, c0, c1, hr⟩ := hck j hjk
      obtain ⟨q, d, g, rfl⟩ := hr.shape
      have m0 := (hbw.out.cell (p := ⟨bk, ok + j * 2, none⟩) hbk).trans c0
      have m1 := (hbw.out.cell (p := ⟨bk, ok + j * 2 + 1, none⟩) hbk).trans c1
      rw [hj] at ka
      have Htk := hid (show (al.take (k+1)).map (vlAt known) = (al.take k).map (vlAt known) ++ [known[j]] from by rw [List.take_succ_eq_append_getElem hlt, List.map_append, List.map_singleton, hj, vlAt_nat known j hjk])
      have Hr := hid hr
      have bn := below1 wr (.cells #[.bool n, .slice q d g] 44)
      have ho4 := ownsRow_later ho bn
      have hz4 := size_alloc wr (.cells #[.bool n, .slice q d g] 44)
      have hnew := heap_alloc_new wr (.cells #[.bool n, .slice q d g] 44)
      have hnews : ∀ j u, ([.bool n, .slice q d g] : List Value)[j]? = some u → (wr.alloc (.cells #[.bool n, .slice q d g] 44)).cell? ((⟨wr.heap.size, 0, none⟩ : Addr).add j) = some u := by
        intro j u hj
        rw [Go.WideShapes.add_plain, Nat.zero_add, cell_of_row _ _ _ _ _ _ hnew]
        simpa using hj
      have hlw := hB.out.size
      have Bn := hid bn
      clear hck hca c0 c1 hr hj0 hj1 hj hba hbk bn ho hnew
      go_wp2_with (at_builtin; refine wpList_append_own _ rfl _ _ 32 rfl W.heap.size 44 i0 _ 2 32 Tryz.underlying32 hi hz0 hz1 hz2 rfl (by decide) _ k _ rfl ho4 ⟨wr.heap.size, 0, none⟩ 1 1 [.bool n, .slice q d g] rfl rfl hnews (by intro u hu; simp at hu; rcases hu with rfl | rfl <;> rfl) (by simp [maxLen]; omega) (by omega) (by omega) ?_; intro v5 w5 ho5 hg5 _)
      go_roundw
      case rel => exact ⟨k + 1, _, by omega, by go_num, ho5, hid (by rw [Htk.out]; exact hC.out.snoc Hr.out), hid ((hB.out.trans (Bn.out.mono hlw)).grown hg5 (by omega) (fun g hg => (World.ownsRow.lt ho4 g hg).1))⟩
      case measure => simp [intOf] <;> omega
    · obtain rfl : k = al.length := by omega
      have hbw := hid (bel_go hB.out B0.out)
      have hown : NumsOwn W.heap.size wr _ (al.map (vlAt known)) := ⟨cs, by rw [List.length_map]; exact ho, by have := hC.out; rw [List.take_length] at this; exact this.below hbw.out⟩
      obtain ⟨po, co, rfl⟩ := ownsRow_shape ho
      have HL := hid hown.in
      have HO := hid (fun k (h : (Value.slice po al.length co).ownBlock = some k) => (World.ownsRow.lt ho k h).1)
      have F0 := hid ((hB.out.block w.heap.size (by have := Z3.out; omega)).trans E0.out)
      have F1 := hid ((hB.out.block (w.heap.size + 1) (by have := Z3.out; omega)).trans E1.out)
      have F2 := hid ((hB.out.block (w.heap.size + 1 + 1) (by have := Z3.out; omega)).trans E2.out)
      have HP : Hid (Pair wr (w.heap.size + 1 + 1 + 1) 44) := hid ⟨_, _, _, _, (hB.out.block (w.heap.size + 1 + 1 + 1) (by have := Z3.out; omega)).trans E3.out⟩
      have hsz : w.heap.size + 1 + 1 + 1 < wr.heap.size := by have := Z3.out; have := hB.out.size; omega
      have hop : wr.cell? ⟨w.heap.size + 1 + 1, 0, none⟩ = some (.int .i64 13) := by have := F2.out; simp [World.cell?, this]
      generalize al.map (vlAt known) = l at *
      clear x1 hown ho hC B0 E0 E1 E2 E3 H1 K4 J4 Ha
      have Hlp2 : Hid (l.length = al.length) := Hlp
      rw [← Hlp2.out] at HL ⊢
      clear Hlp
      have hl := Hlp2.out
      have ha0 := HL.out.at 0 (by omega)
      obtain ⟨b5, o5, c5, x0, q0', d0, g0, e5, hb5, n0, k0', r0⟩ := ha0
      injection e5 with f1 _ f3
      subst f1 f3
      have m0 : wr.cell? ⟨b5, o5, none⟩ = some (.bool x0) := by simpa using n0
      have l0' : wr.cell? ⟨b5, o5 + 1, none⟩ = some (.slice q0' d0 g0) := by simpa using k0'
      have hl0 : (0 : Int) < (l.length : Int) := by omega
      have hal0 : (0 : Int) < (al.length : Int) := by omega
      have hln : 0 < l.length := by omega
      have haln : 0 < al.length := by omega
      have hv : vlAt l 0 = l[0] := by unfold vlAt; simp [show (0 : Int).toNat = 0 from rfl, List.getElem?_eq_getElem (show 0 < l.length by omega)]
      rw [hv] at Hrr
      clear hv
      have Hm := hid (fun W' (hw : Below wr.heap.size wr W') => RMul_any _ _ _ _ W' ((HN.out.below hbw.out).below hw) (r0.below hw) Hnum.out (Hfit.out _ (List.getElem_mem (by omega))))
      have Hres : Hid (sz Big.W (num * l[0]).natAbs ≤ 1099511627776) := hid (by
        have h1 := Hnum.out
        have h2 := Hfit.out l[0] (List.getElem_mem (by omega))
        rw [Int.natAbs_mul]
        have h3 := sz_mul W2 num.natAbs l[0].natAbs
        omega)
      have u2 : wr.cell? ⟨w.heap.size + 1 + 1, 2, none⟩ = some (.bool bb) := by have := F2.out; simp [World.cell?, this]
      have u3 : wr.cell? ⟨w.heap.size + 1 + 1, 3, none⟩ = some (.slice pm nm cm) := by have := F2.out; simp [World.cell?, this]
      have hge := HO.out b5 rfl
      have hpr0 := HP.out
      have hwW := Z3.out
      clear n0 k0' r0
      generalize num * l[0] = zz at *
      go_upto_region 27 with fail
      go_region_held3 (fun w' => w'.cell? ⟨b5, o5, none⟩ = some (.bool x0) ∧ w'.cell? ⟨b5, o5 + 1, none⟩ = some (.slice q0' d0 g0) ∧ w'.cell? ⟨w.heap.size + 1 + 1, 2, none⟩ = some (.bool bb) ∧ w'.cell? ⟨w.heap.size + 1 + 1, 3, none⟩ = some (.slice pm nm cm) ∧ Pair w' (w.heap.size + 1 + 1 + 1) 44)
        (first | (go_split_ands; (try dsimp only); (repeat' apply And.intro) <;> first | assumption | exact Pair.drew ‹_› | exact Pair.below ‹_› hb9 | exact Pair.below ‹_› hb8 | exact Pair.below ‹_› hb7 | exact Pair.below ‹_› hb6 | exact Pair.below ‹_› hb5 | exact Pair.below ‹_› hb4 | exact Pair.below ‹_› hb3 | exact Pair.below ‹_› hb2 | exact Pair.below ‹_› hb1 | exact (hb9.cell (by first | omega | (simp; omega) | (simp; done))).trans ‹_› | exact (hb8.cell (by first | omega | (simp; omega) | (simp; done))).trans ‹_› | exact (hb7.cell (by first | omega | (simp; omega) | (simp; done))).trans ‹_› | exact (hb6.cell (by first | omega | (simp; omega) | (simp; done))).trans ‹_› | exact (hb5.cell (by first | omega | (simp; omega) | (simp; done))).trans ‹_› | exact (hb4.cell (by first | omega | (simp; omega) | (simp; done))).trans ‹_› | exact (hb3.cell (by first | omega | (simp; omega) | (simp; done))).trans ‹_› | exact (hb2.cell (by first | omega | (simp; omega) | (simp; done))).trans ‹_› | exact (hb1.cell (by first | omega | (simp; omega) | (simp; done))).trans ‹_› | exact Pair.set1 (Pair.set0 ‹_› _) _ _ _ | exact (cell_stored _ (by first | (dsimp only; omega) | (simp; done) | (simp; omega)) _ _).trans ‹_› | exact Pair.drew (Pair.below ‹_› (below1 _ _)) | exact Pair.below ‹_› (below1 _ _) | exact Pair.far ‹_› (by omega) hb1 | exact Pair.new .. | exact Pair.new1 .. | exact Pair.new2 .. | (go_keep; done)) | (go_keep; done))
        (first
          | (go_at_call 85; refine (Hm.out _ ?_).mono ?_; (repeat (first | exact Below.refl _ _ | apply Below.drew)); rintro e w2 ⟨v2, rfl, hi2, hb2⟩; have hz1 : wr.heap.size ≤ w2.heap.size := (by have := hb2.size; simp at this; omega); obtain ⟨p2, n2, c2, rfl, hi2⟩ := hi2.shape; have hpr := Pair.below (by go_split_ands; assumption) hb2; obtain ⟨_, _, q0, q1, q2, q3⟩ := hpr.cells))
      have Hi := hid hi2
      go_wp2
      exact bodyPost_ret (v := .agg #[.bool (decide (zz < 0)), .slice p2 n2 c2]) (by simp [results, Tryz.results53, go_sem, q0, q1]) rfl ⟨_, rfl, by rw [Hrr.out]; exact (IntAt.raw (Hi.out.stored hpr _ _ _ _) Hres.out), Below.stored (bel_go hb2 hbw.out.drew) (by omega) _ _⟩
end Go.Proofs.YtckkpolikdnilaaGreatDoor
/- elenchusref05.One of Op 4. -/
namespace Go.Proofs.YtckkpolikdnilaaGreatDoor
open Go.RowKit Big Go.WideMaps

set_option maxRecDepth 100000 in
set_option maxHeartbeats 12800000 in
theorem One_app (vs v0 vm vt vk : Value) (syms : List Sy) (ts : List Tb5) (t : Tm) (known : List Int) (w : World) (hs : SyIn w vs syms) (hv : ∃ p n c, v0 = .slice p n c) (hm : TabsIn w vm ts) (h0 : TmRaw w vt t) (h1 : NumsIn w vk known) (ha : ∀ a ∈ t.args, 0 ≤ a ∧ a < known.length) (hn : t.args.length ≤ 1048576)
    (hop : t.op = 4) (ks : Nat) (hsy : t.sym = (ks : Nat)) (hks : ks < syms.length) (hkt : ks < ts.length) (hfit : ∀ z ∈ t.args.map (vlAt known), sz Big.W z.natAbs ≤ 549755813888) (hrows : ∀ r ∈ (ts[ks]).rows, ∀ z ∈ r.1, sz Big.W z.natAbs ≤ 549755813888) (hres : sz Big.W (vlTell (syms[ks]).sort ts[ks] (t.args.map (vlAt known))).natAbs ≤ 1099511627776) (rr : Int) (hrr : rr = vlTell (syms[ks]).sort ts[ks] (t.args.map (vlAt known))) :
    Calls Tryz.prog 53 #[.agg #[vs, v0], .agg #[vm], vt, vk] w (RRaw rr w) := by
  have Hrr := hid hrr
  clear hrr
  obtain ⟨i0, hi, hz0, hz1, hz2⟩ := info_parts infoNum
  obtain ⟨p9, n9, c9, rfl⟩ := hv
  obtain ⟨pa, ca, bb, pm, nm, cm, rfl, hA, hN⟩ := h0
  obtain ⟨pa', ca', e, j1, j2, -, j4⟩ := hA
  injection e with e1 e2 e3
  subst e1 e3
  clear e2
  have J4 := hid j4
  have H1 := hid h1
  have Ha := hid ha
  have HS := hid hs; have HM := hid hm; have HN := hid hN
  obtain ⟨pk, ck, rfl, k1, k2, -, k4⟩ := h1
  obtain ⟨ps, cps, rfl, s1, s2, -, -⟩ := hs
  obtain ⟨pq, cpq, rfl, q1, q2, -, -⟩ := hm
  have K4 := hid k4
  unfold maxLen at j2 k2 s2 q2
  obtain ⟨W, hW⟩ : ∃ W, W = ((((w.alloc (.cells #[.slice ps syms.length cps, .slice p9 n9 c9] 25)).alloc (.cells #[.slice pq ts.length cpq] 28)).alloc (.cells #[.int .i64 t.op, .slice pa t.args.length ca, .bool bb, .slice pm nm cm, .int .i64 t.sym] 71)).alloc (.cells #[.bool false, .slice none 0 0] 44)) := ⟨_, rfl⟩
  have b0 : Below w.heap.size w W := by rw [hW]; exact (((below1 w _).alloc (by simp) _).alloc (by simp; omega) _).alloc (by simp; omega) _
  have e0 : W.heap[w.heap.size]? = some (.cells #[.slice ps syms.length cps, .slice p9 n9 c9] 25 (0, 0)) := by rw [hW]; exact alloc_keep (alloc_keep (alloc_keep (alloc_at _ _ _ rfl)))
  have e1 : W.heap[w.heap.size + 1]? = some (.cells #[.slice pq ts.length cpq] 28 (0, 0)) := by rw [hW]; exact alloc_keep (alloc_keep (alloc_at _ _ _ (by rw [size_alloc])))
  have e2 : W.heap[w.heap.size + 1 + 1]? = some (.cells #[.int .i64 t.op, .slice pa t.args.length ca, .bool bb, .slice pm nm cm, .int .i64 t.sym] 71 (0, 0)) := by rw [hW]; exact alloc_keep (alloc_at _ _ _ (by rw [size_alloc, size_alloc]))
  have e3 : W.heap[w.heap.size + 1 + 1 + 1]? = some (.cells #[.bool false, .slice none 0 0] 44 (0, 0)) := by rw [hW]; exact alloc_at _ _ _ (by rw [size_alloc, size_alloc, size_alloc])
  have z3 : W.heap.size = w.heap.size + 1 + 1 + 1 + 1 := by rw [hW, size_alloc, size_alloc, size_alloc, size_alloc]
  have x1 : W.cell? ⟨w.heap.size + 1 + 1, 1, none⟩ = some (.slice pa t.args.length ca) := rec5_cell e2
  have B0 := hid b0; have E0 := hid e0; have E1 := hid e1; have E2 := hid e2; have E3 := hid e3; have Z3 := hid z3
  have Hlp : Hid ((vlParts t known).length = t.args.length) := hid (by simp [vlParts])
  unfold vlParts at *
  clear j4 k4 ha b0 e0 e1 e2 e3 z3 hN s1 s2 q1 q2
  obtain ⟨op, al, num, sym⟩ := t
  dsimp only at *
  subst hop
  subst hsy
  have Hfit := hid hfit
  clear hfit
  have Hrows := hid hrows; have Hres := hid hres
  clear hrows hres
  go_enter Tryz.func53, Tryz.ntmps53
  go_upto_region 2 with fail
  rw [← hW]
  clear hW
  go_wp2_with fail
  have hzw : w.heap.size < W.heap.size := by have := Z3.out; omega
  go_loopw [9, 20] (fun o i wr => ∃ (k : Nat) (cs : List Value), k ≤ al.length ∧ i = .int .i64 (k : Nat) ∧ wr.ownsRow W.heap.size 44 2 o k cs ∧ Hid (VlCells w ((al.take k).map (vlAt known)) cs) ∧ Hid (Below W.heap.size W wr)) (fun _ i _ => al.length - (intOf i).toNat)
  case atStart => exact ⟨0, [], Nat.zero_le _, rfl, World.ownsRow_nil .., hid rfl, hid (Below.refl _ _)⟩
  case round =>
    obtain ⟨k, cs, hk, rfl, ho, hC, hB⟩ := hrel
    by_cases hlt : k < al.length
    · have hbw := hid (bel_go hB.out B0.out)
      obtain ⟨ba, oa, rfl, hba, hca⟩ := J4.out (by omega)
      have ka := (hbw.out.cell (p := ⟨ba, oa + k, none⟩) hba).trans (hca k hlt)
      obtain ⟨hj0, hj1⟩ := Ha.out al[k] (List.getElem_mem hlt)
      obtain ⟨j, hj⟩ : ∃ j : Nat, al[k] = (j : Nat) := ⟨al[k].toNat, by omega⟩
      have hjk : j < known.length := by omega
      have hjk' : (j : Int) < (known.length : Int) := by omega
      obtain ⟨bk, ok, rfl, hbk, hck⟩ := K4.out (by omega)
      obtain ⟨n, s, c0, c1, hr⟩ := hck j hjk
      obtain ⟨q, d, g, rfl⟩ := hr.shape
      have m0 := (hbw.out.cell (p := ⟨bk, ok + j * 2, none⟩) hbk).trans c0
      have m1 := (hbw.out.cell (p := ⟨bk, ok + j * 2 + 1, none⟩) hbk).trans c1
      rw [hj] at ka
      have Htk := hid (show (al.take (k+1)).map (vlAt known) = (al.take k).map (vlAt known) ++ [known[j]] from by rw [List.take_succ_eq_append_getElem hlt, List.map_append, List.map_singleton, hj, vlAt_nat known j hjk])
      have Hr := hid hr
      have bn := below1 wr (.cells #[.bool n, .slice q d g] 44)
      have ho4 := ownsRow_later ho bn
      have hz4 := size_alloc wr (.cells #[.bool n, .slice q d g] 44)
      have hnew := heap_alloc_new wr (.cells #[.bool n, .slice q d g] 44)
      have hnews : ∀ j u, ([.bool n, .slice q d g] : List Value)[j]? = some u → (wr.alloc (.cells #[.bool n, .slice q d g] 44)).cell? ((⟨wr.heap.size, 0, none⟩ : Addr).add j) = some u := by
        intro j u hj
        rw [Go.WideShapes.add_plain, Nat.zero_add, cell_of_row _ _ _ _ _ _ hnew]
        simpa using hj
      have hlw := hB.out.size
      have Bn := hid bn
      clear hck hca c0 c1 hr hj0 hj1 hj hba hbk bn ho hnew
      go_wp2_with (at_builtin; refine wpList_append_own _ rfl _ _ 32 rfl W.heap.size 44 i0 _ 2 32 Tryz.underlying32 hi hz0 hz1 hz2 rfl (by decide) _ k _ rfl ho4 ⟨wr.heap.size, 0, none⟩ 1 1 [.bool n, .slice q d g] rfl rfl hnews (by intro u hu; simp at hu; rcases hu with rfl | rfl <;> rfl) (by simp [maxLen]; omega) (by omega) (by omega) ?_; intro v5 w5 ho5 hg5 _)
      go_roundw
      case rel => exact ⟨k + 1, _, by omega, by go_num, ho5, hid (by rw [Htk.out]; exact hC.out.snoc Hr.out), hid ((hB.out.trans (Bn.out.mono hlw)).grown hg5 (by omega) (fun g hg => (World.ownsRow.lt ho4 g hg).1))⟩
      case measure => simp [intOf] <;> omega
    · obtain rfl : k = al.length := by omega
      have hbw := hid (bel_go hB.out B0.out)
      have hown : NumsOwn W.heap.size wr _ (al.map (vlAt known)) := ⟨cs, by rw [List.length_map]; exact ho, by have := hC.out; rw [List.take_length] at this; exact this.below hbw.out⟩
      obtain ⟨po, co, rfl⟩ := ownsRow_shape ho
      have HL := hid hown.in
      have HO := hid (fun k (h : (Value.slice po al.length co).ownBlock = some k) => (World.ownsRow.lt ho k h).1)
      have F0 := hid ((hB.out.block w.heap.size (by have := Z3.out; omega)).trans E0.out)
      have F1 := hid ((hB.out.block (w.heap.size + 1) (by have := Z3.out; omega)).trans E1.out)
      have F2 := hid ((hB.out.block (w.heap.size + 1 + 1) (by have := Z3.out; omega)).trans E2.out)
      have HP : Hid (Pair wr (w.heap.size + 1 + 1 + 1) 44) := hid ⟨_, _, _, _, (hB.out.block (w.heap.size + 1 + 1 + 1) (by have := Z3.out; omega)).trans E3.out⟩
      have hsz : w.heap.size + 1 + 1 + 1 < wr.heap.size := by have := Z3.out; have := hB.out.size; omega
      have hop : wr.cell? ⟨w.heap.size + 1 + 1, 0, none⟩ = some (.int .i64 4) := by have := F2.out; simp [World.cell?, this]
      generalize al.map (vlAt known) = l at *
      clear x1 hown ho hC B0 E0 E1 E2 E3 H1 K4 J4 Ha
      have Hlp2 : Hid (l.length = al.length) := Hlp
      rw [← Hlp2.out] at HL ⊢
      clear Hlp
      have hS := HS.out
      obtain ⟨ps', cs', e, -, -, -, i3⟩ := hS
      injection e with e1 e2 e3
      subst e1 e3
      clear e2
      obtain ⟨bs, os, rfl, hbs, hcs⟩ := i3 (by omega)
      obtain ⟨y0, y1, y2⟩ := hcs ks hks
      have y0 := (hbw.out.cell (p := ⟨bs, os + ks * 3, none⟩) hbs).trans y0
      have y1 := (hbw.out.cell (p := ⟨bs, os + ks * 3 + 1, none⟩) hbs).trans y1
      have y2 := (hbw.out.cell (p := ⟨bs, os + ks * 3 + 2, none⟩) hbs).trans y2
      have hM := HM.out
      obtain ⟨pq', cq', e, -, -, -, j3⟩ := hM
      injection e with e1 e2 e3
      subst e1 e3
      clear e2
      obtain ⟨bt, ot, rfl, hbt, hct⟩ := j3 (by omega)
      obtain ⟨ta, tn, tsl, y3, y4, y5, htab⟩ := hct ks hkt
      have hsh := htab.2.shape
      obtain ⟨qt, dt, gt, rfl⟩ := hsh
      have y3 := (hbw.out.cell (p := ⟨bt, ot + ks * 3, none⟩) hbt).trans y3
      have y4 := (hbw.out.cell (p := ⟨bt, ot + ks * 3 + 1, none⟩) hbt).trans y4
      have y5 := (hbw.out.cell (p := ⟨bt, ot + ks * 3 + 2, none⟩) hbt).trans y5
      obtain ⟨⟨pr, cr, rfl, -⟩, -⟩ := id htab
      have Hc0 := hid (fun w' (hb : Below wr.heap.size wr w') => RTell_any (.string ⟨syms[ks].name.toArray⟩) ⟨_, rfl⟩ syms[ks].arity syms[ks].sort _ _ _ _ ts[ks] l w' ((htab.below hbw.out).below hb) (HL.out.below hb) Hfit.out Hrows.out)
      have b1 : (0 : Int) ≤ (ks : Int) := by omega
      have b2 : (ks : Int) < (syms.length : Int) := by omega
      have b3 : (ks : Int) < (ts.length : Int) := by omega
      have z0 : wr.cell? ⟨w.heap.size, 0, none⟩ = some (.slice (some ⟨bs, os, none⟩) syms.length cps) := (two_cells F0.out).1
      have z1 : wr.cell? ⟨w.heap.size + 1, 0, none⟩ = some (.slice (some ⟨bt, ot, none⟩) ts.length cpq) := by have := F1.out; simp [World.cell?, this]
      have z4 : wr.cell? ⟨w.heap.size + 1 + 1, 4, none⟩ = some (.int .i64 (ks : Nat)) := by have := F2.out; simp [World.cell?, this]
      clear hcs hct i3 j3 htab
      generalize vlTell syms[ks].sort ts[ks] l = res at *
      generalize syms[ks].sort = so at *
      generalize syms[ks].arity = ar at *
      generalize (⟨syms[ks].name.toArray⟩ : ByteArray) = nm' at *
      generalize ts[ks].rows.length = lr at *
      have hpr0 := HP.out
      have hwW := Z3.out
      go_upto_region 13 with fail
      go_region_held3 (fun w' => w'.cell? ⟨w.heap.size, 0, none⟩ = some (.slice (some ⟨bs, os, none⟩) syms.length cps) ∧ w'.cell? ⟨w.heap.size + 1, 0, none⟩ = some (.slice (some ⟨bt, ot, none⟩) ts.length cpq) ∧ w'.cell? ⟨w.heap.size + 1 + 1, 4, none⟩ = some (.int .i64 (ks : Nat)) ∧ w'.cell? ⟨bs, os + ks * 3, none⟩ = some (.string nm') ∧ w'.cell? ⟨bs, os + ks * 3 + 1, none⟩ = some (.int .i64 ar) ∧ w'.cell? ⟨bs, os + ks * 3 + 2, none⟩ = some (.int .i64 so) ∧ w'.cell? ⟨bt, ot + ks * 3, none⟩ = some (.slice pr lr cr) ∧ w'.cell? ⟨bt, ot + ks * 3 + 1, none⟩ = some (.bool tn) ∧ w'.cell? ⟨bt, ot + ks * 3 + 2, none⟩ = some (.slice qt dt gt) ∧ Pair w' (w.heap.size + 1 + 1 + 1) 44)
        (first | (go_split_ands; (try dsimp only); (repeat' apply And.intro) <;> first | assumption | exact Pair.drew ‹_› | exact Pair.below ‹_› hb9 | exact Pair.below ‹_› hb8 | exact Pair.below ‹_› hb7 | exact Pair.below ‹_› hb6 | exact Pair.below ‹_› hb5 | exact Pair.below ‹_› hb4 | exact Pair.below ‹_› hb3 | exact Pair.below ‹_› hb2 | exact Pair.below ‹_› hb1 | exact (hb9.cell (by first | omega | (simp; omega) | (simp; done))).trans ‹_› | exact (hb8.cell (by first | omega | (simp; omega) | (simp; done))).trans ‹_› | exact (hb7.cell (by first | omega | (simp; omega) | (simp; done))).trans ‹_› | exact (hb6.cell (by first | omega | (simp; omega) | (simp; done))).trans ‹_› | exact (hb5.cell (by first | omega | (simp; omega) | (simp; done))).trans ‹_› | exact (hb4.cell (by first | omega | (simp; omega) | (simp; done))).trans ‹_› | exact (hb3.cell (by first | omega | (simp; omega) | (simp; done))).trans ‹_› | exact (hb2.cell (by first | omega | (simp; omega) | (simp; done))).trans ‹_› | exact (hb1.cell (by first | omega | (simp; omega) | (simp; done))).trans ‹_› | exact Pair.set1 (Pair.set0 ‹_› _) _ _ _ | exact (cell_stored _ (by first | (dsimp only; omega) | (simp; done) | (simp; omega)) _ _).trans ‹_› | exact Pair.drew (Pair.below ‹_› (below1 _ _)) | exact Pair.below ‹_› (below1 _ _) | exact Pair.far ‹_› (by omega) hb1 | exact Pair.new .. | exact Pair.new1 .. | exact Pair.new2 .. | (go_keep; done)) | (go_keep; done))
        (first
          | (go_at_call 16; refine (Hc0.out _ ?_).mono ?_; (repeat (first | exact Below.refl _ _ | apply Below.drew)); rintro e w2 ⟨v2, rfl, hi2, hb2⟩; have hz1 : wr.heap.size ≤ w2.heap.size := (by have := hb2.size; simp at this; omega); obtain ⟨p2, n2, c2, rfl, hi2⟩ := hi2.shape; have hpr := Pair.below (by go_split_ands; assumption) hb2; obtain ⟨_, _, q0, q1, q2, q3⟩ := hpr.cells))
      have Hi := hid hi2
      go_wp2
      exact bodyPost_ret (v := .agg #[.bool (decide (res < 0)), .slice p2 n2 c2]) (by simp [results, Tryz.results53, go_sem, q0, q1]) rfl ⟨_, rfl, by rw [Hrr.out]; exact (IntAt.raw (Hi.out.stored hpr _ _ _ _) Hres.out), Below.stored (bel_go hb2 hbw.out.drew) (by omega) _ _⟩
end Go.Proofs.YtckkpolikdnilaaGreatDoor
/- elenchusref05.One of Op 6. -/
namespace Go.Proofs.YtckkpolikdnilaaGreatDoor
open Go.RowKit Big Go.WideMaps

set_option maxRecDepth 100000 in
set_option maxHeartbeats 12800000 in
theorem One_and (vs v0 vm vt vk : Value) (syms : List Sy) (ts : List Tb5) (t : Tm) (known : List Int) (w : World) (hs : SyIn w vs syms) (hv : ∃ p n c, v0 = .slice p n c) (hm : TabsIn w vm ts) (h0 : TmRaw w vt t) (h1 : NumsIn w vk known) (ha : ∀ a ∈ t.args, 0 ≤ a ∧ a < known.length) (hn : t.args.length ≤ 1048576)
    (hop : t.op = 6) (rr : Int) (hrr : rr = vlTruth (decide ((t.args.map (vlAt known)).countP (· != 0) = (t.args.map (vlAt known)).length))) :
    Calls Tryz.prog 53 #[.agg #[vs, v0], .agg #[vm], vt, vk] w (RRaw rr w) := by
  have Hrr := hid hrr
  clear hrr
  obtain ⟨i0, hi, hz0, hz1, hz2⟩ := info_parts infoNum
  obtain ⟨p9, n9, c9, rfl⟩ := hv
  obtain ⟨pa, ca, bb, pm, nm, cm, rfl, hA, hN⟩ := h0
  obtain ⟨pa', ca', e, j1, j2, -, j4⟩ := hA
  injection e with e1 e2 e3
  subst e1 e3
  clear e2
  have J4 := hid j4
  have H1 := hid h1
  have Ha := hid ha
  have HS := hid hs; have HM := hid hm; have HN := hid hN
  obtain ⟨pk, ck, rfl, k1, k2, -, k4⟩ := h1
  obtain ⟨ps, cps, rfl, s1, s2, -, -⟩ := hs
  obtain ⟨pq, cpq, rfl, q1, q2, -, -⟩ := hm
  have K4 := hid k4
  unfold maxLen at j2 k2 s2 q2
  obtain ⟨W, hW⟩ : ∃ W, W = ((((w.alloc (.cells #[.slice ps syms.length cps, .slice p9 n9 c9] 25)).alloc (.cells #[.slice pq ts.length cpq] 28)).alloc (.cells #[.int .i64 t.op, .slice pa t.args.length ca, .bool bb, .slice pm nm cm, .int .i64 t.sym] 71)).alloc (.cells #[.bool false, .slice none 0 0] 44)) := ⟨_, rfl⟩
  have b0 : Below w.heap.size w W := by rw [hW]; exact (((below1 w _).alloc (by simp) _).alloc (by simp; omega) _).alloc (by simp; omega) _
  have e0 : W.heap[w.heap.size]? = some (.cells #[.slice ps syms.length cps, .slice p9 n9 c9] 25 (0, 0)) := by rw [hW]; exact alloc_keep (alloc_keep (alloc_keep (alloc_at _ _ _ rfl)))
  have e1 : W.heap[w.heap.size + 1]? = some (.cells #[.slice pq ts.length cpq] 28 (0, 0)) := by rw [hW]; exact alloc_keep (alloc_keep (alloc_at _ _ _ (by rw [size_alloc])))
  have e2 : W.heap[w.heap.size + 1 + 1]? = some (.cells #[.int .i64 t.op, .slice pa t.args.length ca, .bool bb, .slice pm nm cm, .int .i64 t.sym] 71 (0, 0)) := by rw [hW]; exact alloc_keep (alloc_at _ _ _ (by rw [size_alloc, size_alloc]))
  have e3 : W.heap[w.heap.size + 1 + 1 + 1]? = some (.cells #[.bool false, .slice none 0 0] 44 (0, 0)) := by rw [hW]; exact alloc_at _ _ _ (by rw [size_alloc, size_alloc, size_alloc])
  have z3 : W.heap.size = w.heap.size + 1 + 1 + 1 + 1 := by rw [hW, size_alloc, size_alloc, size_alloc, size_alloc]
  have x1 : W.cell? ⟨w.heap.size + 1 + 1, 1, none⟩ = some (.slice pa t.args.length ca) := rec5_cell e2
  have B0 := hid b0; have E0 := hid e0; have E1 := hid e1; have E2 := hid e2; have E3 := hid e3; have Z3 := hid z3
  have Hlp : Hid ((vlParts t known).length = t.args.length) := hid (by simp [vlParts])
  unfold vlParts at *
  clear j4 k4 ha b0 e0 e1 e2 e3 z3 hN s1 s2 q1 q2
  obtain ⟨op, al, num, sym⟩ := t
  dsimp only at *
  subst hop
  go_enter Tryz.func53, Tryz.ntmps53
  go_upto_region 2 with fail
  rw [← hW]
  clear hW
  go_wp2_with fail
  have hzw : w.heap.size < W.heap.size := by have := Z3.out; omega
  go_loopw [9, 20] (fun o i wr => ∃ (k : Nat) (cs : List Value), k ≤ al.length ∧ i = .int .i64 (k : Nat) ∧ wr.ownsRow W.heap.size 44 2 o k cs ∧ Hid (VlCells w ((al.take k).map (vlAt known)) cs) ∧ Hid (Below W.heap.size W wr)) (fun _ i _ => al.length - (intOf i).toNat)
  case atStart => exact ⟨0, [], Nat.zero_le _, rfl, World.ownsRow_nil .., hid rfl, hid (Below.refl _ _)⟩
  case round =>
    obtain ⟨k, cs, hk, rfl, ho, hC, hB⟩ := hrel
    by_cases hlt : k < al.length
    · have hbw := hid (bel_go hB.out B0.out)
      obtain ⟨ba, oa, rfl, hba, hca⟩ := J4.out (by omega)
      have ka := (hbw.out.cell (p := ⟨ba, oa + k, none⟩) hba).trans (hca k hlt)
      obtain ⟨hj0, hj1⟩ := Ha.out al[k] (List.getElem_mem hlt)
      obtain ⟨j, hj⟩ : ∃ j : Nat, al[k] = (j : Nat) := ⟨al[k].toNat, by omega⟩
      have hjk : j < known.length := by omega
      have hjk' : (j : Int) < (known.length : Int) := by omega
      obtain ⟨bk, ok, rfl, hbk, hck⟩ := K4.out (by omega)
      obtain ⟨n, s, c0, c1, hr⟩ := hck j hjk
      obtain ⟨q, d, g, rfl⟩ := hr.shape
      have m0 := (hbw.out.cell (p := ⟨bk, ok + j * 2, none⟩) hbk).trans c0
      have m1 := (hbw.out.cell (p := ⟨bk, ok + j * 2 + 1, none⟩) hbk).trans c1
      rw [hj] at ka
      have Htk := hid (show (al.take (k+1)).map (vlAt known) = (al.take k).map (vlAt known) ++ [known[j]] from by rw [List.take_succ_eq_append_getElem hlt, List.map_append, List.map_singleton, hj, vlAt_nat known j hjk])
      have Hr := hid hr
      have bn := below1 wr (.cells #[.bool n, .slice q d g] 44)
      have ho4 := ownsRow_later ho bn
      have hz4 := size_alloc wr (.cells #[.bool n, .slice q d g] 44)
      have hnew := heap_alloc_new wr (.cells #[.bool n, .slice q d g] 44)
      have hnews : ∀ j u, ([.bool n, .slice q d g] : List Value)[j]? = some u → (wr.alloc (.cells #[.bool n, .slice q d g] 44)).cell? ((⟨wr.heap.size, 0, none⟩ : Addr).add j) = some u := by
        intro j u hj
        rw [Go.WideShapes.add_plain, Nat.zero_add, cell_of_row _ _ _ _ _ _ hnew]
        simpa using hj
      have hlw := hB.out.size
      have Bn := hid bn
      clear hck hca c0 c1 hr hj0 hj1 hj hba hbk bn ho hnew
      go_wp2_with (at_builtin; refine wpList_append_own _ rfl _ _ 32 rfl W.heap.size 44 i0 _ 2 32 Tryz.underlying32 hi hz0 hz1 hz2 rfl (by decide) _ k _ rfl ho4 ⟨wr.heap.size, 0, none⟩ 1 1 [.bool n, .slice q d g] rfl rfl hnews (by intro u hu; simp at hu; rcases hu with rfl | rfl <;> rfl) (by simp [maxLen]; omega) (by omega) (by omega) ?_; intro v5 w5 ho5 hg5 _)
      go_roundw
      case rel => exact ⟨k + 1, _, by omega, by go_num, ho5, hid (by rw [Htk.out]; exact hC.out.snoc Hr.out), hid ((hB.out.trans (Bn.out.mono hlw)).grown hg5 (by omega) (fun g hg => (World.ownsRow.lt ho4 g hg).1))⟩
      case measure => simp [intOf] <;> omega
    · obtain rfl : k = al.length := by omega
      have hbw := hid (bel_go hB.out B0.out)
      have hown : NumsOwn W.heap.size wr _ (al.map (vlAt known)) := ⟨cs, by rw [List.length_map]; exact ho, by have := hC.out; rw [List.take_length] at this; exact this.below hbw.out⟩
      obtain ⟨po, co, rfl⟩ := ownsRow_shape ho
      have HL := hid hown.in
      have HO := hid (fun k (h : (Value.slice po al.length co).ownBlock = some k) => (World.ownsRow.lt ho k h).1)
      have F0 := hid ((hB.out.block w.heap.size (by have := Z3.out; omega)).trans E0.out)
      have F1 := hid ((hB.out.block (w.heap.size + 1) (by have := Z3.out; omega)).trans E1.out)
      have F2 := hid ((hB.out.block (w.heap.size + 1 + 1) (by have := Z3.out; omega)).trans E2.out)
      have HP : Hid (Pair wr (w.heap.size + 1 + 1 + 1) 44) := hid ⟨_, _, _, _, (hB.out.block (w.heap.size + 1 + 1 + 1) (by have := Z3.out; omega)).trans E3.out⟩
      have hsz : w.heap.size + 1 + 1 + 1 < wr.heap.size := by have := Z3.out; have := hB.out.size; omega
      have hop : wr.cell? ⟨w.heap.size + 1 + 1, 0, none⟩ = some (.int .i64 6) := by have := F2.out; simp [World.cell?, this]
      generalize al.map (vlAt known) = l at *
      clear x1 hown ho hC B0 E0 E1 E2 E3 H1 K4 J4 Ha
      have Hlp2 : Hid (l.length = al.length) := Hlp
      rw [← Hlp2.out] at HL ⊢
      clear Hlp
      have hll : l.length ≤ 1048576 := by have := Hlp2.out; omega
      obtain ⟨L, hL⟩ : ∃ L, L = l.length := ⟨_, rfl⟩
      have HLL := hid hL
      rw [← hL] at HL hll Hrr
      clear hL Hlp2
      go_upto_region 30 with fail
      rw [← HLL.out]
      go_wp2_with fail
      have Hop := hid hop
      clear hop
      obtain ⟨wo, rfl⟩ : ∃ wo, wo = wr := ⟨_, rfl⟩
      go_loopw [12, 124] (fun n i wr => ∃ k : Nat, k ≤ L ∧ i = .int .i64 (k : Nat) ∧ n = .int .i64 (((l.take k).countP (· != 0) : Nat)) ∧ Hid (Below wo.heap.size wo wr)) (fun _ i _ => L - (intOf i).toNat)
      case atStart => exact ⟨0, Nat.zero_le _, rfl, by simp, hid (Below.refl _ _)⟩
      case round =>
        obtain ⟨k, hk, rfl, rfl, hB2⟩ := hrel
        have hcn : (l.take k).countP (· != 0) ≤ 1048576 := Nat.le_trans List.countP_le_length (by rw [List.length_take]; omega)
        by_cases hlt : k < L
        · have hkl : k < l.length := by rw [← HLL.out]; exact hlt
          have hat := HL.out.at k hkl
          obtain ⟨b5, o5, c5, x5, q5, d5, g5, e5, hb5, n0, n1, n2⟩ := hat
          rw [← HLL.out] at e5
          injection e5 with f1 _ f3
          subst f1 f3
          have m0 := (hB2.out.cell (p := ⟨b5, o5 + k * 2, none⟩) hb5).trans n0
          have m1 := (hB2.out.cell (p := ⟨b5, o5 + k * 2 + 1, none⟩) hb5).trans n1
          have Hsure := hid (sure_any _ _ wr (n2.below hB2.out))
          have Hct : Hid ((l.take (k + 1)).countP (· != 0) = (l.take k).countP (· != 0) + if (l[k] != 0) then 1 else 0) := hid (by
            rw [List.take_succ_eq_append_getElem hkl, List.countP_append, List.countP_singleton])
          have hlt' : (k : Int) < (L : Int) := by omega
          generalize (l.take k).countP (· != 0) = cn at *
          generalize (l[k] != 0) = bz at *
          clear n0 n1 n2 hb5
          go_wp2_with fail
          refine Hsure.out.mono ?_
          rintro e w1 ⟨rfl, b1⟩
          have hB3 := hid (bel_go b1 hB2.out)
          clear Hsure b1 m0 m1
          cases bz
          · go_wp2_with fail
            go_roundw
            case rel => exact ⟨k + 1, by omega, by go_num, by rw [Hct.out]; rfl, hB3⟩
            case measure => simp [intOf] <;> omega
          · go_wp2_with fail
            go_roundw
            case rel => exact ⟨k + 1, by omega, by go_num, by rw [Hct.out]; simp, hB3⟩
            case measure => simp [intOf] <;> omega
        · obtain rfl : k = L := by omega
          have hfin : Hid (l.take k = l) := hid (by rw [HLL.out, List.take_length])
          rw [hfin.out] at hcn ⊢
          have hop2 := (hB2.out.cell (p := ⟨w.heap.size + 1 + 1, 0, none⟩) (by show w.heap.size + 1 + 1 < _; omega)).trans Hop.out
          have HP2 := hid (HP.out.below hB2.out)
          have hbw2 := hid (bel_go hB2.out hbw.out)
          generalize l.countP (· != 0) = cn at *
          clear hB2 hbw HP Hop
          by_cases hx : cn = k
          ·
            have t1 : ((cn : Int) == (k : Int)) = true := by simp [hx]
            have HX := eq_true hx
            obtain rfl : rr = vlTruth true := by rw [Hrr.out]; simp only [HX, decide_true]
            have Hc := hid (rtruth_any true wr)
            go_wp2_with fail
            refine Hc.out.mono ?_
            rintro e w2 ⟨v2, rfl, hi2, b2⟩
            obtain ⟨p2, n2, c2, rfl, hi2⟩ := hi2.shape
            have hpr := hid (HP2.out.below b2)
            have hq := hpr.out.cells
            obtain ⟨_, _, q0, q1, q2, q3⟩ := hq
            have Hi := hid hi2; have Hb := hid (bel_go b2 hbw2.out)
            clear hi2 b2 Hc
            go_wp2
            exact bodyPost_ret (v := .agg #[.bool (decide (vlTruth true < 0)), .slice p2 n2 c2]) (by simp [results, Tryz.results53, go_sem, q0, q1]) rfl ⟨_, rfl, (IntAt.raw (Hi.out.stored hpr.out _ _ _ _) (truth_fit _)), Below.stored Hb.out (by omega) _ _⟩
          ·
            have t1 : ((cn : Int) == (k : Int)) = false := by simp; omega
            have HX := eq_false hx
            obtain rfl : rr = vlTruth false := by rw [Hrr.out]; simp only [HX, decide_false]
            have Hc := hid (rtruth_any false wr)
            go_wp2_with fail
            refine Hc.out.mono ?_
            rintro e w2 ⟨v2, rfl, hi2, b2⟩
            obtain ⟨p2, n2, c2, rfl, hi2⟩ := hi2.shape
            have hpr := hid (HP2.out.below b2)
            have hq := hpr.out.cells
            obtain ⟨_, _, q0, q1, q2, q3⟩ := hq
            have Hi := hid hi2; have Hb := hid (bel_go b2 hbw2.out)
            clear hi2 b2 Hc
            go_wp2
            exact bodyPost_ret (v := .agg #[.bool (decide (vlTruth false < 0)), .slice p2 n2 c2]) (by simp [results, Tryz.results53, go_sem, q0, q1]) rfl ⟨_, rfl, (IntAt.raw (Hi.out.stored hpr.out _ _ _ _) (truth_fit _)), Below.stored Hb.out (by omega) _ _⟩
end Go.Proofs.YtckkpolikdnilaaGreatDoor
