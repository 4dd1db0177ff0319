/- Texts put together: Div, RefDiv, DivHalves, Gcd. -/
import Derived.Test.YtippcalhcnjghaaDoorPrintsCardM5
import Derived.Deep.DeepCutAuto
import Derived.Deep.LoopGhost
/- whole.Div, given what whole.divide answers. -/
namespace Go.Proofs.YtippcalhcnjghaaDoor
open Go.RowKit Big

def RDiv (q r : Int) (c : Int) (w : World) (e : Ending) (w' : World) : Prop := ∃ v v', e = .returned (.tuple #[v, v', .int .i64 c]) ∧ IntAt w' v q ∧ IntAt w' v' r ∧ Below w.heap.size w w'

theorem Pair.other {w : World} {g g' : Nat} {t : TypeId} (h : Pair w g t) (hne : g ≠ g') (j : Nat) (u : Value) : Pair (w.setCell ⟨g', j, none⟩ u) g t := by
  obtain ⟨x, p, n, c, hh⟩ := h
  exact ⟨x, p, n, c, (Below.heap_setCell w ⟨g', j, none⟩ u g hne).trans hh⟩
theorem cutTo_slice (p : Option Addr) (n c m : Nat) : cutTo (.slice p n c) m = .slice p m c := rfl
theorem sg_bne (n0 n1 : Bool) (x : Nat) : sg (n0 != n1) x = if n1 then -sg n0 x else sg n0 x := by unfold sg; cases n0 <;> cases n1 <;> simp
theorem div_pos_case {x y : Nat} (n1 : Bool) (_ : 0 < y) : (x : Int) / sg n1 y = sg (false != n1) (x / y) ∧ (x : Int) % sg n1 y = ((x % y : Nat) : Int) := by
  cases n1
  · simp [sg]
  · simp [sg, Int.ediv_neg, Int.emod_neg]
theorem div_neg_even {x y : Nat} (n1 : Bool) (hy : 0 < y) (h : x % y = 0) : (-(x : Int)) / sg n1 y = sg (true != n1) (x / y) ∧ (-(x : Int)) % sg n1 y = 0 := by
  have e : x = y * (x / y) := by have := Nat.div_add_mod x y; omega
  have key : (-(x : Int)) / (y : Int) = -((x / y : Nat) : Int) ∧ (-(x : Int)) % (y : Int) = 0 := by
    refine (Int.ediv_emod_unique (by omega)).2 ⟨?_, by omega, by omega⟩
    have : (x : Int) = (y : Int) * ((x / y : Nat) : Int) := by rw [← Int.natCast_mul, ← e]
    rw [Int.mul_neg, ← this]; omega
  cases n1
  · simpa [sg] using key
  · simp only [sg, if_true, Int.ediv_neg, Int.emod_neg, key.1, key.2]; simp
theorem div_neg_odd {x y : Nat} (n1 : Bool) (hy : 0 < y) (h : 0 < x % y) : (-(x : Int)) / sg n1 y = sg (true != n1) (x / y + 1) ∧ (-(x : Int)) % sg n1 y = ((y - x % y : Nat) : Int) := by
  have hlt := Nat.mod_lt x hy
  have e : (x : Int) = (y : Int) * ((x / y : Nat) : Int) + ((x % y : Nat) : Int) := by
    rw [← Int.natCast_mul, ← Int.natCast_add, Nat.div_add_mod]
  have key : (-(x : Int)) / (y : Int) = -((x / y + 1 : Nat) : Int) ∧ (-(x : Int)) % (y : Int) = ((y - x % y : Nat) : Int) := by
    refine (Int.ediv_emod_unique (by omega)).2 ⟨?_, by omega, by omega⟩
    rw [e]
    generalize x / y = q at *
    generalize x % y = r at *
    have : ((y - r : Nat) : Int) = (y : Int) - (r : Int) := by omega
    rw [this]
    push_cast
    grind
  cases n1
  · simpa [sg] using key
  · simp only [sg, if_true, Int.ediv_neg, Int.emod_neg, key.1, key.2]; simp

set_option maxRecDepth 100000 in
set_option maxHeartbeats 3200000 in
theorem Div_of (v0 v1 : Value) (a b : Int) (w : World) (h0 : RawAt w v0 a) (h1 : RawAt w v1 b) (hb0 : b ≠ 0)
    (hdiv : ∀ W' u u', At W' .u64 u (dig W a.natAbs) → At W' .u64 u' (dig W b.natAbs) → Calls Tryd.prog 50 #[u, u'] W' (RTwo (a.natAbs / b.natAbs) (a.natAbs % b.natAbs) W')) :
    Calls Tryd.prog 25 #[v0, v1] w (RDiv (a / b) (a % b) 0 w) := by
  obtain ⟨n0, s0, l0, rfl, a0, b0, c0, rfl⟩ := h0
  obtain ⟨n1, s1, l1, rfl, a1, b1, c1, rfl⟩ := h1
  rw [sg_natAbs, sg_natAbs] at hdiv
  have t0 : ∀ W : World, At W .u64 s0 l0 → Calls Tryd.prog 38 #[s0] W (fun e w' => e = .returned (cutTo s0 (strip l0).length) ∧ w' = W) := fun W h => trim_val s0 l0 W h
  have t1 : ∀ W : World, At W .u64 s1 l1 → Calls Tryd.prog 38 #[s1] W (fun e w' => e = .returned (cutTo s1 (strip l1).length) ∧ w' = W) := fun W h => trim_val s1 l1 W h
  have T0 := hid t0; have T1 := hid t1; have HD := hid hdiv
  have d0 := hid (strip_dig W2 b0)
  have d1 := hid (strip_dig W2 b1)
  have m0 : sz W (val W l0) ≤ 1099511627776 := Nat.le_trans (sz_val W2 b0) c0
  have m1 : sz W (val W l1) ≤ 1099511627776 := Nat.le_trans (sz_val W2 b1) c1
  obtain ⟨Q, hQ⟩ : ∃ Q, Q = sg n0 (val W l0) / sg n1 (val W l1) := ⟨_, rfl⟩
  obtain ⟨R, hR⟩ : ∃ R, R = sg n0 (val W l0) % sg n1 (val W l1) := ⟨_, rfl⟩
  rw [← hQ, ← hR]
  have HQ := hid hQ; have HR := hid hR
  have hy : 0 < val W l1 := Nat.pos_of_ne_zero fun e => hb0 (by rw [e, sg_zero])
  clear t0 t1 hdiv hQ hR hb0
  obtain ⟨p1, k1, rfl, -⟩ := id a1
  go_enter Tryd.func25, Tryd.ntmps25
  go_wp2_with fail
  go_quiet ((first
    | (go_at_call_of 38 (s0); exact Calls.quiet_of_same (T0.out _ (by repeat (first | exact a0 | apply At.drewN | apply At.drew | apply At.alloc))))
    | (go_at_call 38; exact Calls.quiet_of_same (T1.out _ (by repeat (first | exact a1 | apply At.drewN | apply At.drew | apply At.alloc))))))
  generalize hW : World.drewN (World.alloc (World.alloc (World.alloc (World.alloc w _) _) _) _) _ = W3
  have bw : Below w.heap.size w W3 := by rw [← hW]; exact below_drewN ((((below1 _ _).alloc (by simp) _).alloc (by simp; omega) _).alloc (by simp; omega) _) _
  have hp : Pair W3 (w.heap.size + 1 + 1) 25 := by rw [← hW]; exact Pair.below (Pair.new2 ..) (below_drewN (below1 _ _) _)
  have hp' : Pair W3 (w.heap.size + 1 + 1 + 1) 25 := by rw [← hW]; exact Pair.new3 ..
  have tw : Two W3 w.heap.size (.bool n0) s0 (.bool n1) (.slice p1 l1.length k1) := by
    rw [← hW]; exact (Two.new w _ _ _ _ _).below (below_drewN ((below1 _ _).alloc (by simp) _) _)
  have z3 : w.heap.size + 4 ≤ W3.heap.size := by rw [← hW]; simp
  have A0 : At W3 .u64 (cutTo s0 (strip l0).length) (dig W (val W l0)) := by have := (a0.below bw).strip; rwa [d0.out] at this ⊢
  have A1 : At W3 .u64 (cutTo (.slice p1 l1.length k1) (strip l1).length) (dig W (val W l1)) := by have := (a1.below bw).strip; rwa [d1.out] at this ⊢
  have bw' := hid bw
  have hlen : ((strip l1).length : Nat) ≠ 0 := by rw [d1.out]; exact fun e => by have := (sz_eq_zero W2).1 (show sz W _ = 0 from e); omega
  have hlb : (((strip l1).length : Int) == 0) = false := beq_eq_false_iff_ne.2 (by omega)
  simp only [cutTo_slice] at A1 ⊢
  generalize cutTo s0 (strip l0).length = u0 at *
  generalize (strip l1).length = len1 at *
  generalize val W l0 = x at *
  generalize val W l1 = y at *
  clear hW bw T0 T1 a0 a1 d0 d1 b0 b1 c0 c1 hlen
  go_wp2_with fail
  refine (HD.out W3 _ _ A0 A1).mono ?_
  rintro e W4 ⟨q, r, rfl, hq, hr, hb4⟩
  have tw4 := tw.below hb4
  have hp4 := hp.below hb4
  have hp4' := hp'.below hb4
  have A1' := A1.below hb4
  have bw4 := hid (bw'.out.trans (hb4.mono (B' := w.heap.size) (by omega)))
  have z4 : w.heap.size + 4 ≤ W4.heap.size := Nat.le_trans z3 hb4.size
  clear HD A0 A1 tw hp hp' hb4 bw' z3
  have hsq : sz W (x / y) ≤ 1099511627776 := Nat.le_trans (sz_mono W2 (Nat.div_le_self x y)) m0
  obtain ⟨pr, cr, rfl, -⟩ := id hr
  cases n0
  · obtain ⟨c00, -, c10, -, -⟩ := id tw4
    have EQ : Q = sg n1 (x / y) := by rw [HQ.out]; have := (div_pos_case (x := x) n1 hy).1; simpa [sg] using this
    have ER : R = sg false (x % y) := by rw [HR.out]; have := (div_pos_case (x := x) n1 hy).2; simpa [sg] using this
    have HEQ := hid EQ; have HER := hid ER
    clear EQ ER HQ HR
    go_wp2_with fail
    refine (told_any n1 _ (x / y) _ hq).mono ?_
    rintro e W6 ⟨v6, rfl, hi6, hb6⟩
    have hr6 := hr.below hb6
    have z6 : w.heap.size + 4 ≤ W6.heap.size := Nat.le_trans z4 hb6.size
    go_wp2_with fail
    refine (told_any false _ (x % y) _ hr6).mono ?_
    rintro e W7 ⟨v7, rfl, hi7, hb7⟩
    obtain ⟨p6, n6, c6, rfl, hi6'⟩ := (hi6.below hb7).shape
    obtain ⟨p7, n7, c7, rfl, hi7'⟩ := hi7.shape
    have hpA := (hp4.below hb6).below hb7
    have hpB := (hp4'.below hb6).below hb7
    obtain ⟨_, _, q0, q1, q2, q3⟩ := hpA.cells
    obtain ⟨_, _, r0, r1, r2, r3⟩ := hpB.cells
    have bw7 : Below w.heap.size w W7 := (bw4.out.trans (hb6.mono (B' := w.heap.size) (by omega))).trans (hb7.mono (B' := w.heap.size) (by omega))
    have Hi6 := hid hi6'; have Hi7 := hid hi7'
    clear hi6' hi7' hi6 hi7 hb6 hb7 hr6 tw4 hp4 hp4' hq hr
    go_wp2
    have hpB' := (hpB.other (g' := w.heap.size + 1 + 1) (by omega) 0 (.bool (decide (sg n1 (x / y) < 0)))).other (g' := w.heap.size + 1 + 1) (by omega) 1 (.slice p6 n6 c6)
    exact bodyPost_ret (v := .tuple #[.agg #[.bool (decide (sg n1 (x / y) < 0)), .slice p6 n6 c6], .agg #[.bool (decide (sg false (x % y) < 0)), .slice p7 n7 c7], .int .i64 0])
      (by simp [results, Tryd.results25, go_sem, q0, q1, r0, r1]) rfl
      ⟨_, _, rfl, by rw [HEQ.out]; exact (Hi6.out.stored hpA _ _ _ _).stored hpB' _ _ _ _, by rw [HER.out]; exact (Hi7.out.stored hpA _ _ _ _).stored hpB' _ _ _ _,
        Below.stored (Below.stored bw7 (by omega) _ _) (by omega) _ _⟩
  · obtain ⟨c00, -, c10, -, -⟩ := id tw4
    by_cases hr0 : x % y = 0
    · have EQ : Q = sg (!n1) (x / y) := by rw [HQ.out]; have := (div_neg_even n1 hy hr0).1; simpa [sg] using this
      have ER : R = sg false (x % y) := by rw [HR.out, hr0]; have := (div_neg_even n1 hy hr0).2; simpa [sg] using this
      have HEQ := hid EQ; have HER := hid ER
      have hl0 : (dig W (x % y)).length = 0 := by rw [hr0]; rfl
      rw [hl0] at hr ⊢
      clear EQ ER HQ HR hl0 hr0
      go_wp2_with fail
      refine (told_any (!n1) _ (x / y) _ hq).mono ?_
      rintro e W6 ⟨v6, rfl, hi6, hb6⟩
      have hr6 := hr.below hb6
      have z6 : w.heap.size + 4 ≤ W6.heap.size := Nat.le_trans z4 hb6.size
      go_wp2_with fail
      refine (told_any false _ (x % y) _ hr6).mono ?_
      rintro e W7 ⟨v7, rfl, hi7, hb7⟩
      obtain ⟨p6, n6, c6, rfl, hi6'⟩ := (hi6.below hb7).shape
      obtain ⟨p7, n7, c7, rfl, hi7'⟩ := hi7.shape
      have hpA := (hp4.below hb6).below hb7
      have hpB := (hp4'.below hb6).below hb7
      obtain ⟨_, _, q0, q1, q2, q3⟩ := hpA.cells
      obtain ⟨_, _, r0, r1, r2, r3⟩ := hpB.cells
      have bw7 : Below w.heap.size w W7 := (bw4.out.trans (hb6.mono (B' := w.heap.size) (by omega))).trans (hb7.mono (B' := w.heap.size) (by omega))
      have Hi6 := hid hi6'; have Hi7 := hid hi7'
      clear hi6' hi7' hi6 hi7 hb6 hb7 hr6 tw4 hp4 hp4' hq hr
      go_wp2
      have hpB' := (hpB.other (g' := w.heap.size + 1 + 1) (by omega) 0 (.bool (decide (sg (!n1) (x / y) < 0)))).other (g' := w.heap.size + 1 + 1) (by omega) 1 (.slice p6 n6 c6)
      exact bodyPost_ret (v := .tuple #[.agg #[.bool (decide (sg (!n1) (x / y) < 0)), .slice p6 n6 c6], .agg #[.bool (decide (sg false (x % y) < 0)), .slice p7 n7 c7], .int .i64 0])
        (by simp [results, Tryd.results25, go_sem, q0, q1, r0, r1]) rfl
        ⟨_, _, rfl, by rw [HEQ.out]; exact (Hi6.out.stored hpA _ _ _ _).stored hpB' _ _ _ _, by rw [HER.out]; exact (Hi7.out.stored hpA _ _ _ _).stored hpB' _ _ _ _,
          Below.stored (Below.stored bw7 (by omega) _ _) (by omega) _ _⟩
    · have EQ : Q = sg (!n1) (x / y + 1) := by rw [HQ.out]; have := (div_neg_odd n1 hy (Nat.pos_of_ne_zero hr0)).1; simpa [sg] using this
      have ER : R = sg false (y - x % y) := by rw [HR.out]; have := (div_neg_odd n1 hy (Nat.pos_of_ne_zero hr0)).2; simpa [sg] using this
      have HEQ := hid EQ; have HER := hid ER
      have hl0 : 0 < (dig W (x % y)).length := Nat.pos_of_ne_zero fun e => hr0 ((sz_eq_zero W2).1 e)
      have hd1 : dig W 1 = [1] := dig_one W2 (by decide) (by decide)
      have hlt := Nat.mod_lt x hy
      have HR' := hid hr
      have hpl : ∀ W', Calls Tryd.prog 40 #[q, .slice (some ⟨World.heap W' |>.size, 0, none⟩) 1 1] (W'.alloc (.cells #[.int .u64 1] 59)) (ROwn 59 .u64 (dig W (x / y + 1)) (W'.alloc (.cells #[.int .u64 1] 59))) ∨ ¬ At W' .u64 q (dig W (x / y)) := fun W' => by
        by_cases h : At W' .u64 q (dig W (x / y))
        · left
          exact plus_any q _ (x / y) 1 _ (h.alloc _) (by rw [hd1]; exact At.oneI W' .u64 1 1 _ rfl) hsq (by rw [show sz W 1 = 1 by unfold sz; rw [hd1]; rfl]; omega)
        · right; exact h
      have Hpl : Hid (Calls Tryd.prog 40 #[q, .slice (some ⟨World.heap W4 |>.size, 0, none⟩) 1 1] (W4.alloc (.cells #[.int .u64 1] 59)) (ROwn 59 .u64 (dig W (x / y + 1)) (W4.alloc (.cells #[.int .u64 1] 59)))) := (hpl W4).resolve_right (fun h => h hq)
      clear EQ ER HQ HR hpl hd1
      generalize (dig W (x % y)).length = lr at *
      go_wp2_with fail
      refine Hpl.out.mono ?_
      rintro e W5 ⟨q5, rfl, ho5, hb5⟩
      have b45 : Below W4.heap.size W4 W5 := (below1 _ _).trans (hb5.mono (B' := W4.heap.size) (by simp))
      have tw5 := tw4.below b45
      have z5 : w.heap.size + 4 ≤ W5.heap.size := Nat.le_trans z4 b45.size
      clear hb5 c00 c10
      go_wp2_with fail
      refine (minus_any _ _ y (x % y) _ (A1'.below b45) (HR'.out.below b45) (Nat.le_of_lt hlt) m1).mono ?_
      rintro e W5' ⟨r5, rfl, hr5, hb5'⟩
      have hq5 := ho5.at.below hb5'
      obtain ⟨c00, -, c10, -, z5'⟩ := tw5.below hb5'
      have hp5 := (hp4.below b45).below hb5'
      have hp5' := (hp4'.below b45).below hb5'
      have bw5 := hid ((bw4.out.trans (b45.mono (B' := w.heap.size) (by omega))).trans (hb5'.mono (B' := w.heap.size) (by omega)))
      have z55 : w.heap.size + 4 ≤ W5'.heap.size := Nat.le_trans z5 hb5'.size
      clear ho5 b45 tw5 hb5' A1' HR'
      go_wp2_with fail
      refine (told_any (!n1) _ (x / y + 1) _ hq5).mono ?_
      rintro e W6 ⟨v6, rfl, hi6, hb6⟩
      have hr6 := hr5.below hb6
      have z6 : w.heap.size + 4 ≤ W6.heap.size := Nat.le_trans z55 hb6.size
      go_wp2_with fail
      refine (told_any false _ (y - x % y) _ hr6).mono ?_
      rintro e W7 ⟨v7, rfl, hi7, hb7⟩
      obtain ⟨p6, n6, c6, rfl, hi6'⟩ := (hi6.below hb7).shape
      obtain ⟨p7, n7, c7, rfl, hi7'⟩ := hi7.shape
      have hpA := (hp5.below hb6).below hb7
      have hpB := (hp5'.below hb6).below hb7
      obtain ⟨_, _, q0, q1, q2, q3⟩ := hpA.cells
      obtain ⟨_, _, r0, r1, r2, r3⟩ := hpB.cells
      have bw7 : Below w.heap.size w W7 := (bw5.out.trans (hb6.mono (B' := w.heap.size) (by omega))).trans (hb7.mono (B' := w.heap.size) (by omega))
      have Hi6 := hid hi6'; have Hi7 := hid hi7'
      clear hi6' hi7' hi6 hi7 hb6 hb7 hr6 tw4 hp4 hp4' hq hr
      go_wp2
      have hpB' := (hpB.other (g' := w.heap.size + 1 + 1) (by omega) 0 (.bool (decide (sg (!n1) (x / y + 1) < 0)))).other (g' := w.heap.size + 1 + 1) (by omega) 1 (.slice p6 n6 c6)
      exact bodyPost_ret (v := .tuple #[.agg #[.bool (decide (sg (!n1) (x / y + 1) < 0)), .slice p6 n6 c6], .agg #[.bool (decide (sg false (y - x % y) < 0)), .slice p7 n7 c7], .int .i64 0])
        (by simp [results, Tryd.results25, go_sem, q0, q1, r0, r1]) rfl
        ⟨_, _, rfl, by rw [HEQ.out]; exact (Hi6.out.stored hpA _ _ _ _).stored hpB' _ _ _ _, by rw [HER.out]; exact (Hi7.out.stored hpA _ _ _ _).stored hpB' _ _ _ _,
          Below.stored (Below.stored bw7 (by omega) _ _) (by omega) _ _⟩
end Go.Proofs.YtippcalhcnjghaaDoor
/- elenchusref01.Div. -/
namespace Go.Proofs.YtippcalhcnjghaaDoor
open Go.RowKit Big

def eqF (v0 : Value) : SFact := ⟨fun v _ => v = v0, fun _ _ _ h _ => h⟩
def atF (l : List Nat) : SFact := ⟨fun v w => At w .u64 v l, fun _ _ _ h hb => h.below hb⟩
def intF (z : Int) : SFact := ⟨fun v w => ∃ d p n c, v = .agg #[.bool d, .slice p n c] ∧ IntAt w v z, fun _ _ _ ⟨d, p, n, c, h1, h2⟩ hb => ⟨d, p, n, c, h1, h2.below hb⟩⟩
def varF (B : Nat) : SFact := ⟨fun v w => VarAt w B v, fun _ _ _ h hb => h.below hb⟩
theorem len15 {vs : List Value} (h : vs.length = 15) : ∃ a b c d e f g h i j k l m n o, vs = [a, b, c, d, e, f, g, h, i, j, k, l, m, n, o] := by
  match vs, h with
  | [a, b, c, d, e, f, g, h, i, j, k, l, m, n, o], _ => exact ⟨a, b, c, d, e, f, g, h, i, j, k, l, m, n, o, rfl⟩
theorem len5 {vs : List Value} (h : vs.length = 5) : ∃ a b c d e, vs = [a, b, c, d, e] := by
  match vs, h with
  | [a, b, c, d, e], _ => exact ⟨a, b, c, d, e, rfl⟩
theorem len3 {vs : List Value} (h : vs.length = 3) : ∃ a b c, vs = [a, b, c] := by
  match vs, h with
  | [a, b, c], _ => exact ⟨a, b, c, rfl⟩
/-- block g is a variable that holds this whole number -/
def IntCell (w : World) (g : Nat) (z : Int) : Prop := ∃ d p n c, w.heap[g]? = some (.cells #[.bool d, .slice p n c] 25 (0, 0)) ∧ IntAt w (.agg #[.bool d, .slice p n c]) z
theorem IntCell.pair {w : World} {g : Nat} {z : Int} (h : IntCell w g z) : Pair w g 25 := by
  obtain ⟨d, p, n, c, h, -⟩ := h
  exact ⟨d, p, n, c, h⟩
theorem IntCell.below {w w' : World} {g : Nat} {z : Int} (h : IntCell w g z) (hb : Below w.heap.size w w') : IntCell w' g z := by
  obtain ⟨d, p, n, c, h, hi⟩ := h
  exact ⟨d, p, n, c, (hb.block g (Array.getElem?_eq_some_iff.1 h).1).trans h, hi.below hb⟩
theorem IntCell.put {w : World} {g : Nat} {z : Int} {d : Bool} {p : Option Addr} {n c : Nat} (hp : Pair w g 25) (hi : IntAt w (.agg #[.bool d, .slice p n c]) z) :
    IntCell ((w.setCell ⟨g, 0, none⟩ (.bool d)).setCell ⟨g, 1, none⟩ (.slice p n c)) g z := ⟨d, p, n, c, hp.put .., hi.stored hp ..⟩
theorem IntCell.apart {w : World} {g g' : Nat} {z : Int} (h : IntCell w g z) (hp : Pair w g' 25) (hne : g ≠ g') (d : Bool) (p : Option Addr) (n c : Nat) :
    IntCell ((w.setCell ⟨g', 0, none⟩ (.bool d)).setCell ⟨g', 1, none⟩ (.slice p n c)) g z := by
  obtain ⟨d', p', n', c', h, hi⟩ := h
  exact ⟨d', p', n', c', ((Below.heap_setCell _ _ _ _ hne).trans (Below.heap_setCell _ _ _ _ hne)).trans h, hi.stored hp ..⟩
def RDivR (q r : Int) (w : World) (e : Ending) (w' : World) : Prop := ∃ v v', e = .returned (.tuple #[v, v']) ∧ IntAt w' v q ∧ IntAt w' v' r ∧ Below w.heap.size w w'

set_option maxRecDepth 100000 in
set_option maxHeartbeats 6400000 in
theorem RDiv_any (v0 v1 : Value) (a b : Int) (w : World) (h0 : RawAt w v0 a) (h1 : RawAt w v1 b) (hb0 : b ≠ 0) (ha : sz W a.natAbs ≤ 549755813888) (hbs : sz W b.natAbs ≤ 549755813888) :
    Calls Tryd.prog 30 #[v0, v1] w (RDivR (a / b) (a % b) w) := by
  obtain ⟨n0, s0, l0, rfl, a0, b0, c0, rfl⟩ := h0
  obtain ⟨n1, s1, l1, rfl, a1, b1, c1, rfl⟩ := h1
  rw [sg_natAbs] at ha hbs
  have g0 : ∀ W', Below w.heap.size w W' → Calls Tryd.prog 45 #[s0] W' (RAt .i64 (dig D (val W l0)) W') := fun W' hb => Digits_any s0 l0 W' (a0.below hb) b0 (by omega)
  have g1 : ∀ W', Below w.heap.size w W' → Calls Tryd.prog 45 #[s1] W' (RAt .i64 (dig D (val W l1)) W') := fun W' hb => Digits_any s1 l1 W' (a1.below hb) b1 (by omega)
  have hwb : ∀ W', Below w.heap.size w W' → Calls Tryd.prog 24 #[.bool false, s1] W' (RInt (val W l1 : Nat) W') := fun W' hb => by
    have := Whole_any false s1 l1 W' (a1.below hb) b1 (by omega)
    simpa [sg] using this
  have hy : 0 < val W l1 := Nat.pos_of_ne_zero fun e => hb0 (by rw [e, sg_zero])
  obtain ⟨x, hx⟩ : ∃ x, x = val W l0 := ⟨_, rfl⟩
  obtain ⟨y, hyv⟩ : ∃ y, y = val W l1 := ⟨_, rfl⟩
  rw [← hx] at g0 ha ⊢
  rw [← hyv] at g1 hwb hy hbs ⊢
  have d0 : sz D x ≤ 2199023255552 := Nat.le_trans (sz_D_W x) (by omega)
  have d1 : sz D y ≤ 2199023255552 := Nat.le_trans (sz_D_W y) (by omega)
  have dq : sz D (x / y) ≤ 2199023255552 := Nat.le_trans (sz_mono D2 (Nat.div_le_self x y)) d0
  have dr : sz D (x % y) ≤ 2199023255552 := Nat.le_trans (sz_mono D2 (Nat.mod_le x y)) d0
  have wq : sz W (x / y) ≤ 549755813888 := Nat.le_trans (sz_mono W2 (Nat.div_le_self x y)) ha
  have wr' : sz W (x % y) ≤ 549755813888 := Nat.le_trans (sz_mono W2 (Nat.mod_le x y)) ha
  have hpt : ∀ W' u u', At W' .i64 u (dig D x) → At W' .i64 u' (dig D y) → Calls Tryd.prog 54 #[u, u'] W' (RParts (x / y) (x % y) W') := fun W' u u' hu hu' => by
    have := rparts_any u u' _ y W' hu hu' (small_dig D2 x) hy (by show sz D x ≤ _; omega) d1
    rwa [val_dig D2] at this
  have hfr : ∀ n, sz D n ≤ 2199023255552 → ∀ W' u, At W' .i64 u (dig D n) → Calls Tryd.prog 43 #[u] W' (RAt .u64 (dig W n) W') := fun n hn W' u hu => by
    have := From_any u _ W' hu (small_dig D2 n) (by show sz D n ≤ _; omega)
    rwa [val_dig D2] at this
  have hwh : ∀ (neg : Bool) n, sz W n ≤ 549755813888 → ∀ W' u, At W' .u64 u (dig W n) → Calls Tryd.prog 24 #[.bool neg, u] W' (RInt (sg neg n) W') := fun neg n hn W' u hu => by
    have := Whole_any neg u _ W' hu (small_dig W2 n) (by show sz W n ≤ _; omega)
    rwa [val_dig W2] at this
  have Fq := hid (hfr _ dq); have Fr := hid (hfr _ dr); have Wq := hid (hwh (n0 != n1) _ wq); have Wr := hid (hwh n0 _ wr'); have G0 := hid g0; have G1 := hid g1; have HP := hid hpt; have HWB := hid hwb
  clear g0 g1 hwb hpt hfr hwh dq dr d0 d1 hx hyv a0 a1 b0 b1 c0 c1
  obtain ⟨Q, hQ⟩ : ∃ Q, Q = sg n0 x / sg n1 y := ⟨_, rfl⟩
  obtain ⟨R, hR⟩ : ∃ R, R = sg n0 x % sg n1 y := ⟨_, rfl⟩
  rw [← hQ, ← hR]
  have HQ := hid hQ; have HR := hid hR
  clear hQ hR hb0
  go_enter Tryd.func30, Tryd.ntmps30
  go_wp2_with fail
  generalize hW : World.alloc (World.alloc (World.alloc (World.alloc w _) _) _) _ = W3
  have bw : Below w.heap.size w W3 := by rw [← hW]; exact (((below1 _ _).alloc (by simp) _).alloc (by simp; omega) _).alloc (by simp; omega) _
  have hp : Pair W3 (w.heap.size + 1 + 1) 25 := by rw [← hW]; exact Pair.below (Pair.new2 ..) (below1 _ _)
  have hp' : Pair W3 (w.heap.size + 1 + 1 + 1) 25 := by rw [← hW]; exact Pair.new3 ..
  have tw : Two W3 w.heap.size (.bool n0) s0 (.bool n1) s1 := by rw [← hW]; exact (Two.new w _ _ _ _ _).below ((below1 _ _).alloc (by simp) _)
  have z3 : w.heap.size + 4 ≤ W3.heap.size := by rw [← hW]; simp
  have bw' := hid bw
  have HT := hid tw; have Hp := hid hp; have Hp' := hid hp'
  clear hW bw tw hp hp'
  have HS : Hid (∀ w', Below W3.heap.size W3 w' → w'.cell? ⟨w.heap.size, 0, none⟩ = some (.bool n0) ∧ w'.cell? ⟨w.heap.size, 1, none⟩ = some s0 ∧ w'.cell? ⟨w.heap.size + 1, 0, none⟩ = some (.bool n1) ∧ w'.cell? ⟨w.heap.size + 1, 1, none⟩ = some s1 ∧ Below W3.heap.size W3 w') := by
    intro w' hb
    have ht := HT.out.below hb
    exact ⟨ht.c00, ht.c01, ht.c10, ht.c11, hb⟩
  have HBW : Hid (∀ w', Below W3.heap.size W3 w' → Below w.heap.size w w') := fun w' hb => bw'.out.trans (hb.mono (by omega))
  go_region_held3 (fun w' => w'.cell? ⟨w.heap.size, 0, none⟩ = some (.bool n0) ∧ w'.cell? ⟨w.heap.size, 1, none⟩ = some s0 ∧ w'.cell? ⟨w.heap.size + 1, 0, none⟩ = some (.bool n1) ∧ w'.cell? ⟨w.heap.size + 1, 1, none⟩ = some s1 ∧ Below W3.heap.size W3 w')
    (first | exact HS.out _ (Below.drew (Below.refl _ _)) | (refine HS.out _ (Below.go hb ?_); go_split_ands; assumption))
    (first
      | (go_at_call_of 45 (s0); (fail_if_success have _t := i1); refine (G0.out _ (HBW.out _ (by go_split_ands; assumption))).mono ?_; rintro e w1 ⟨v1, rfl, i1, hb⟩)
      | (go_at_call_of 45 (s1); refine (G1.out _ (HBW.out _ (by go_split_ands; assumption))).mono ?_; rintro e w2 ⟨v2, rfl, i2, hb⟩; have i1' := i1.below hb; clear i1)
      | (go_at_call 54; refine (HP.out _ _ _ i1' i2).mono ?_; rintro e w3 ⟨v3, v4, rfl, i3, i4, hb⟩; clear i1' i2))
  rename_i hHeld
  go_split_ands
  have HB3 := hid (show Below W3.heap.size W3 w3 by assumption)
  have I3 := hid i3; have I4 := hid i4
  clear i3 i4
  go_upto_region 2 with fail
  have hB3 : W3.heap.size ≤ w3.heap.size := HB3.out.size
  go_cut [8, 9] (fun s8 s9 wx => ∃ g8 g9, s8 = .pointer (some ⟨g8, 0, none⟩) ∧ s9 = .pointer (some ⟨g9, 0, none⟩) ∧ g8 ≠ g9 ∧ w3.heap.size ≤ g8 ∧ w3.heap.size ≤ g9 ∧ IntCell wx g8 (sg (n0 != n1) (x / y)) ∧ IntCell wx g9 (sg n0 (x % y)) ∧ Below w3.heap.size w3 wx)
  case first =>
    rename_i Jc Kc hJc hKc
    refine wp_region_facts (w0 := w3) 15 2 [20, 21, 22, 23, 24, 25, 26, 27, 28, 29, 30, 31, 32, 8, 9] [undef, undef, undef, undef, undef, undef, undef, undef, undef, undef, undef, undef, undef, undef, undef]
      (fun i => match i with
        | 0 => eqF (.pointer (some ⟨w.heap.size, 0, none⟩)) | 1 => eqF (.bool n0) | 2 => eqF (.pointer (some ⟨w.heap.size + 1, 0, none⟩)) | 3 => eqF (.bool n1) | 4 => eqF (.bool (n0 != n1)) | 5 => eqF v3
        | 6 => atF (dig W (x / y)) | 7 => intF (sg (n0 != n1) (x / y)) | 8 => eqF (.pointer (some ⟨w.heap.size, 0, none⟩)) | 9 => eqF (.bool n0) | 10 => eqF v4 | 11 => atF (dig W (x % y)) | 12 => intF (sg n0 (x % y))
        | 13 => varF w3.heap.size | _ => varF w3.heap.size) [13, 14] (by kernel_rfl) (by kernel_rfl) (by kernel_rfl) (by kernel_rfl) (by decide) rfl (by kernel_rfl) rfl (by simp) ?he ?_ ?_ ?_
    case he => simp only [putAll, Act.put, List.setIfInBounds_toArray, List.set_cons_zero, List.set_cons_succ]
    · intro i hi v w' h
      simp only [List.mem_cons, List.not_mem_nil, or_false] at hi
      rcases hi with rfl | rfl
      · obtain ⟨g, hg, hp, -⟩ := (show VarAt w' w3.heap.size v from h); exact ⟨g, hg, hp.lt⟩
      · obtain ⟨g, hg, hp, -⟩ := (show VarAt w' w3.heap.size v from h); exact ⟨g, hg, hp.lt⟩
    · intro i o hi ho vs wx hvl hb hdep K hK
      have hvs := len15 hvl
      obtain ⟨s20, s21, s22, s23, s24, s25, s26, s27, s28, s29, s30, s31, s32, s8, s9, rfl⟩ := hvs
      have hk := HS.out wx (Below.go hb HB3.out)
      clear hvl
      go_split_ands
      rcases i with _ | _ | _ | _ | _ | _ | _ | _ | _ | _ | _ | _ | _ | _ | _ | i
      all_goals (simp only [List.getElem?_toArray, List.getElem?_cons_zero, List.getElem?_cons_succ, Option.some.injEq] at ho)
      all_goals try (subst ho)
      all_goals try simp only [putAll, Act.put, List.setIfInBounds_toArray, List.set_cons_zero, List.set_cons_succ]
      · go_simp
        have hK' := hK.out
        simp only [putAll, Act.put, List.setIfInBounds_toArray, List.set_cons_zero, List.set_cons_succ] at hK'
        exact hK' _ _ rfl (Below.refl _ _) (by simp)
      · have d0 : s20 = _ := hdep ⟨0, .data⟩ (by simp) rfl
        subst d0
        go_simp
        have hK' := hK.out
        simp only [putAll, Act.put, List.setIfInBounds_toArray, List.set_cons_zero, List.set_cons_succ] at hK'
        exact hK' _ _ rfl (Below.refl _ _) (by simp)
      · go_simp
        have hK' := hK.out
        simp only [putAll, Act.put, List.setIfInBounds_toArray, List.set_cons_zero, List.set_cons_succ] at hK'
        exact hK' _ _ rfl (Below.refl _ _) (by simp)
      · have d2 : s22 = _ := hdep ⟨2, .data⟩ (by simp) rfl
        subst d2
        go_simp
        have hK' := hK.out
        simp only [putAll, Act.put, List.setIfInBounds_toArray, List.set_cons_zero, List.set_cons_succ] at hK'
        exact hK' _ _ rfl (Below.refl _ _) (by simp)
      · have d1 : s21 = _ := hdep ⟨1, .data⟩ (by simp) rfl
        subst d1
        have d3 : s23 = _ := hdep ⟨3, .data⟩ (by simp) rfl
        subst d3
        go_simp
        have hK' := hK.out
        simp only [putAll, Act.put, List.setIfInBounds_toArray, List.set_cons_zero, List.set_cons_succ] at hK'
        exact hK' _ _ rfl (Below.refl _ _) (by simp)
      · go_simp
        have hK' := hK.out
        simp only [putAll, Act.put, List.setIfInBounds_toArray, List.set_cons_zero, List.set_cons_succ] at hK'
        exact hK' _ _ rfl (Below.refl _ _) (by simp)
      · have d5 : s25 = _ := hdep ⟨5, .data⟩ (by simp) rfl
        subst d5
        go_simp
        refine (Fq.out _ _ (I3.out.below hb)).mono ?_
        rintro e wy ⟨vy, rfl, iy, hby⟩
        go_wp2_with fail
        have hK' := hK.out
        simp only [putAll, Act.put, List.setIfInBounds_toArray, List.set_cons_zero, List.set_cons_succ] at hK'
        exact hK' _ _ iy hby (by simp)
      · have d4 : s24 = _ := hdep ⟨4, .data⟩ (by simp) rfl
        subst d4
        have d6 : At wx .u64 s26 _ := hdep ⟨6, .data⟩ (by simp) rfl
        go_simp
        refine (Wq.out _ _ d6).mono ?_
        rintro e wy ⟨vy, rfl, iy, hby⟩
        have hsh := iy.shape
        obtain ⟨p5, n5, c5, rfl, iy⟩ := hsh
        go_wp2_with fail
        have hK' := hK.out
        simp only [putAll, Act.put, List.setIfInBounds_toArray, List.set_cons_zero, List.set_cons_succ] at hK'
        exact hK' _ _ ⟨_, _, _, _, rfl, iy⟩ hby (by simp)
      · go_simp
        have hK' := hK.out
        simp only [putAll, Act.put, List.setIfInBounds_toArray, List.set_cons_zero, List.set_cons_succ] at hK'
        exact hK' _ _ rfl (Below.refl _ _) (by simp)
      · have d8 : s28 = _ := hdep ⟨8, .data⟩ (by simp) rfl
        subst d8
        go_simp
        have hK' := hK.out
        simp only [putAll, Act.put, List.setIfInBounds_toArray, List.set_cons_zero, List.set_cons_succ] at hK'
        exact hK' _ _ rfl (Below.refl _ _) (by simp)
      · go_simp
        have hK' := hK.out
        simp only [putAll, Act.put, List.setIfInBounds_toArray, List.set_cons_zero, List.set_cons_succ] at hK'
        exact hK' _ _ rfl (Below.refl _ _) (by simp)
      · have d10 : s30 = _ := hdep ⟨10, .data⟩ (by simp) rfl
        subst d10
        go_simp
        refine (Fr.out _ _ (I4.out.below hb)).mono ?_
        rintro e wy ⟨vy, rfl, iy, hby⟩
        go_wp2_with fail
        have hK' := hK.out
        simp only [putAll, Act.put, List.setIfInBounds_toArray, List.set_cons_zero, List.set_cons_succ] at hK'
        exact hK' _ _ iy hby (by simp)
      · have d9 : s29 = _ := hdep ⟨9, .data⟩ (by simp) rfl
        subst d9
        have d11 : At wx .u64 s31 _ := hdep ⟨11, .data⟩ (by simp) rfl
        go_simp
        refine (Wr.out _ _ d11).mono ?_
        rintro e wy ⟨vy, rfl, iy, hby⟩
        have hsh := iy.shape
        obtain ⟨p5, n5, c5, rfl, iy⟩ := hsh
        go_wp2_with fail
        have hK' := hK.out
        simp only [putAll, Act.put, List.setIfInBounds_toArray, List.set_cons_zero, List.set_cons_succ] at hK'
        exact hK' _ _ ⟨_, _, _, _, rfl, iy⟩ hby (by simp)
      · go_simp
        have hK' := hK.out
        simp only [putAll, Act.put, List.setIfInBounds_toArray, List.set_cons_zero, List.set_cons_succ] at hK'
        exact hK' _ _ ⟨_, rfl, Pair.new .., hb.size⟩ (below1 _ _) (fun _ => rfl)
      · go_simp
        have hK' := hK.out
        simp only [putAll, Act.put, List.setIfInBounds_toArray, List.set_cons_zero, List.set_cons_succ] at hK'
        exact hK' _ _ ⟨_, rfl, Pair.new .., hb.size⟩ (below1 _ _) (fun _ => rfl)
      · omega
    · intro vs wx hvl hb hf hdist
      have hvs := len15 hvl
      obtain ⟨s20, s21, s22, s23, s24, s25, s26, s27, s28, s29, s30, s31, s32, s8, s9, rfl⟩ := hvs
      have f7 : (intF (sg (n0 != n1) (x / y))).P s27 wx := hf 7 (by decide)
      have f12 : (intF (sg n0 (x % y))).P s32 wx := hf 12 (by decide)
      have f13 : VarAt wx w3.heap.size s8 := hf 13 (by decide)
      have f14 : VarAt wx w3.heap.size s9 := hf 14 (by decide)
      have hne : s8 ≠ s9 := hdist 13 (by simp) 14 (by simp) (by decide)
      obtain ⟨d7, p7, m7, c7, rfl, i7⟩ := f7
      obtain ⟨d12, p12, m12, c12, rfl, i12⟩ := f12
      obtain ⟨g8, rfl, hp8, hB8⟩ := f13
      obtain ⟨g9, rfl, hp9, hB9⟩ := f14
      have hgne : g8 ≠ g9 := fun e => hne (by rw [e])
      have c8 := hp8.cells
      obtain ⟨_, _, q0, q1, q2, q3⟩ := c8
      clear hf hdist hvl hne
      refine wpAny_one (i := 15) (by kernel_rfl) rfl ?_
      intro K hK
      simp only [putAll, Act.put, List.setIfInBounds_toArray, List.set_cons_zero, List.set_cons_succ]
      go_simp
      have hK' := hK.out
      apply hK'
      clear hK hK'
      have x8 := IntCell.put hp8 i7
      have hp9' := hp9.apart hgne.symm (.bool d7) (.slice p7 m7 c7)
      have i12' := i12.stored hp8 d7 p7 m7 c7
      have hb' := Below.stored hb hB8 (.bool d7) (.slice p7 m7 c7)
      clear q0 q1 q2 q3 hp8 hp9 i7 i12
      generalize ((wx.setCell ⟨g8, 0, none⟩ (.bool d7)).setCell ⟨g8, 1, none⟩ (.slice p7 m7 c7)) = wy at *
      have c9 := hp9'.cells
      obtain ⟨_, _, q0, q1, q2, q3⟩ := c9
      refine wpAny_one (i := 16) (by kernel_rfl) rfl ?_
      intro K hK
      go_simp
      have hK' := hK.out
      apply hK'
      clear hK hK'
      refine wpAny_done (by kernel_rfl) ?_ _
      refine hKc _ _ (Met.intro (hJc _ _ ?_))
      (repeat apply Exists.intro)
      exact ⟨⟨g8, g9, rfl, rfl, hgne, hB8, hB9, x8.apart hp9' hgne .., IntCell.put hp9' i12', Below.stored hb' hB9 ..⟩, rfl⟩
  case rest =>
    obtain ⟨g8, g9, rfl, rfl, hgne, hB8, hB9, C8, C9, hbc⟩ := hcut
    have z8 : w.heap.size + 4 ≤ g8 := by omega
    have z9 : w.heap.size + 4 ≤ g9 := by omega
    have y8 : W3.heap.size ≤ g8 := by omega
    have y9 : W3.heap.size ≤ g9 := by omega
    have HBc := hid (Below.go hbc HB3.out)
    clear hbc hB8 hB9 hB3
    by_cases hA : n0 = false ∨ x % y = 0
    · have EX : sg (n0 != n1) (x / y) = Q ∧ sg n0 (x % y) = R ∧ 0 ≤ R := by
        rw [HQ.out, HR.out]
        rcases hA with rfl | h0
        · have := div_pos_case (x := x) n1 hy
          have e : sg false x = (x : Int) := by simp [sg]
          have e2 : sg false (x % y) = ((x % y : Nat) : Int) := by simp [sg]
          rw [e, this.1, this.2, e2]
          exact ⟨rfl, rfl, by omega⟩
        · cases n0
          · have := div_pos_case (x := x) n1 hy
            have e : sg false x = (x : Int) := by simp [sg]
            have e2 : sg false (x % y) = ((x % y : Nat) : Int) := by simp [sg]
            rw [e, this.1, this.2, e2]
            exact ⟨rfl, rfl, by omega⟩
          · have := div_neg_even (x := x) n1 hy h0
            have e : sg true x = -(x : Int) := by simp [sg]
            rw [e, this.1, this.2, h0, sg_zero]
            exact ⟨rfl, rfl, by omega⟩
      obtain ⟨ex, ey, hR0⟩ := EX
      rw [ex] at C8
      rw [ey] at C9
      clear ex ey hA
      have hs0 : 0 ≤ R.sign := Int.sign_nonneg_iff.2 hR0
      have hs1 : ¬ R.sign < 0 := by omega
      have t9 := C9
      obtain ⟨d9, p9, m9, c9, e9, i9⟩ := t9
      have e9' := two_cells e9
      obtain ⟨x90, x91, -, -⟩ := e9'
      have hRs : sz W R.natAbs ≤ 1099511627776 := by
        rw [HR.out]
        refine Nat.le_trans (sz_mono W2 (m := y) ?_) (by omega)
        have h1 := Int.emod_nonneg (sg n0 x) (b := sg n1 y) (by intro e; have := congrArg Int.natAbs e; rw [sg_natAbs] at this; simp at this; omega)
        have h2 := Int.emod_lt (sg n0 x) (b := sg n1 y) (by intro e; have := congrArg Int.natAbs e; rw [sg_natAbs] at this; simp at this; omega)
        rw [sg_natAbs] at h2
        omega
      have hsg := hid (RSign_any _ R wc (i9.raw hRs))
      clear e9 i9 hRs
      go_wp2_with fail
      refine wp_loop_rounds 1 ?_
      rw [rounds_succ]
      go_wp2_with fail
      refine hsg.out.mono ?_
      rintro e wz ⟨rfl, hbz⟩
      have HBz := hid (Below.go hbz HBc.out)
      have C8 := C8.below hbz
      have C9 := C9.below hbz
      clear hbz x90 x91 hsg
      have t8 := C8; have t9 := C9
      obtain ⟨d8, p8, m8, c8, e8, i8⟩ := t8
      obtain ⟨d9, p9, m9, c9, e9, i9⟩ := t9
      have P4 := Hp.out.below HBz.out
      have P5 := Hp'.out.below HBz.out
      have e8' := two_cells e8
      obtain ⟨x80, x81, -, -⟩ := e8'
      have e9' := two_cells e9
      obtain ⟨x90, x91, -, -⟩ := e9'
      have P4' := P4.cells
      obtain ⟨_, _, q0, q1, q2, q3⟩ := P4'
      have P5' := P5.cells
      obtain ⟨_, _, r0, r1, r2, r3⟩ := P5'
      have P5s := P5.apart (g' := w.heap.size + 1 + 1) (by omega) (.bool d8) (.slice p8 m8 c8)
      have j8 := hid ((i8.stored P4 d8 p8 m8 c8).stored P5s d9 p9 m9 c9)
      have j9 := hid ((i9.stored P4 d8 p8 m8 c8).stored P5s d9 p9 m9 c9)
      have bz := hid (Below.stored (Below.stored (bw'.out.trans (HBz.out.mono (B' := w.heap.size) (by omega))) (g := w.heap.size + 1 + 1) (by omega) (.bool d8) (.slice p8 m8 c8)) (g := w.heap.size + 1 + 1 + 1) (by omega) (.bool d9) (.slice p9 m9 c9))
      clear P4 P5 P5s i8 i9 e8 e9 C8 C9
      go_wp2_with fail
      go_region
      go_wp2_with fail
      exact bodyPost_ret (v := .tuple #[.agg #[.bool d8, .slice p8 m8 c8], .agg #[.bool d9, .slice p9 m9 c9]])
        (by simp [results, Tryd.results30, go_sem, q0, q1, r0, r1]) rfl
        ⟨_, _, rfl, j8.out, j9.out, bz.out.drew⟩
    · obtain ⟨hn0, hm0⟩ : n0 = true ∧ 0 < x % y := by
        cases n0
        · exact absurd (Or.inl rfl) hA
        · exact ⟨rfl, Nat.pos_of_ne_zero fun e => hA (Or.inr e)⟩
      subst hn0
      obtain ⟨X0, hX0⟩ : ∃ z, z = sg (true != n1) (x / y) := ⟨_, rfl⟩
      obtain ⟨Y0, hY0⟩ : ∃ z, z = sg true (x % y) := ⟨_, rfl⟩
      rw [← hX0] at C8
      rw [← hY0] at C9
      have hodd := div_neg_odd (x := x) n1 hy hm0
      have ex : sg true x = -(x : Int) := by simp [sg]
      have hlt := Nat.mod_lt x hy
      have hYn : Y0 = -((x % y : Nat) : Int) := by rw [hY0]; simp [sg]
      have hYR : Y0 + (y : Int) = R := by rw [HR.out, ex, hodd.2, hYn]; omega
      have hXQ : (if n1 then X0 + 1 else X0 - 1) = Q := by
        rw [HQ.out, ex, hodd.1, hX0]
        cases n1 <;> simp [sg] <;> omega
      have hYs : Y0.sign = -1 := Int.sign_eq_neg_one_of_neg (by rw [hYn]; omega)
      have hX0s : sz W X0.natAbs ≤ 549755813888 := by rw [hX0, sg_natAbs]; exact wq
      have hY0s : sz W Y0.natAbs ≤ 549755813888 := by rw [hY0, sg_natAbs]; exact wr'
      have hys : sz W ((y : Nat) : Int).natAbs ≤ 549755813888 := hbs
      have hR0 : 0 < R := by rw [← hYR, hYn]; omega
      have hRs : sz W R.natAbs ≤ 1099511627776 := by
        refine Nat.le_trans (sz_mono W2 (m := y) ?_) (by omega)
        rw [← hYR, hYn]; omega
      have HYR := hid hYR; have HXQ := hid hXQ
      clear hX0 hY0 hodd ex hYn hXQ hYR hA hlt hm0
      have t9 := C9
      obtain ⟨d9, p9, m9, c9, e9, i9⟩ := t9
      have e9' := two_cells e9
      obtain ⟨x90, x91, -, -⟩ := e9'
      have hsg := RSign_any _ Y0 wc (i9.raw (Nat.le_trans hY0s (by decide)))
      rw [hYs] at hsg
      have Hsg := hid hsg
      clear e9 i9 hYs hsg
      go_wp2_with fail
      refine wp_loop_rounds 2 ?_
      rw [rounds_succ]
      go_wp2_with fail
      refine Hsg.out.mono ?_
      rintro e wa ⟨rfl, hba⟩
      have HBa := hid (Below.go hba HBc.out)
      have A8 := C8.below hba
      have A9 := C9.below hba
      clear hba x90 x91 Hsg C8 C9
      go_upto_region 4 with fail
      go_cut [] (fun wx => IntCell wx g8 X0 ∧ IntCell wx g9 R ∧ Below W3.heap.size W3 wx)
      case first =>
        rename_i Jc Kc hJc hKc
        have t9 := A9
        obtain ⟨d9, p9, m9, c9, e9, i9⟩ := t9
        have hy9 := i9.raw (Nat.le_trans hY0s (by decide))
        refine wp_region_facts (w0 := wa) 5 1 [36, 37, 38, 39, 40] [u36, u37, u38, u39, u40]
          (fun i => match i with | 0 => eqF (.agg #[.bool d9, .slice p9 m9 c9]) | 1 => eqF (.pointer (some ⟨w.heap.size + 1, 1, none⟩)) | 2 => eqF s1 | 3 => intF (y : Nat) | _ => intF R) [] (by kernel_rfl) (by kernel_rfl) (by kernel_rfl) (by kernel_rfl) (by decide) rfl (by kernel_rfl) rfl (by simp) ?he (by simp) ?_ ?_
        case he => simp only [putAll, Act.put, List.setIfInBounds_toArray, List.set_cons_zero, List.set_cons_succ]
        · intro i o hi ho vs wx hvl hb hdep K hK
          have hvs := len5 hvl
          obtain ⟨s0', s1', s2', s3', s4', rfl⟩ := hvs
          have hk := HS.out wx (Below.go hb HBa.out)
          have x9 := two_cells (((hb.block g9 (Array.getElem?_eq_some_iff.1 e9).1)).trans e9)
          obtain ⟨x90, x91, -, -⟩ := x9
          clear hvl
          go_split_ands
          rcases i with _ | _ | _ | _ | _ | i
          all_goals (simp only [List.getElem?_toArray, List.getElem?_cons_zero, List.getElem?_cons_succ, Option.some.injEq] at ho)
          all_goals try (subst ho)
          all_goals try simp only [putAll, Act.put, List.setIfInBounds_toArray, List.set_cons_zero, List.set_cons_succ]
          · go_simp
            have hK' := hK.out
            simp only [putAll, Act.put, List.setIfInBounds_toArray, List.set_cons_zero, List.set_cons_succ] at hK'
            exact hK' _ _ rfl (Below.refl _ _) (by simp)
          · go_simp
            have hK' := hK.out
            simp only [putAll, Act.put, List.setIfInBounds_toArray, List.set_cons_zero, List.set_cons_succ] at hK'
            exact hK' _ _ rfl (Below.refl _ _) (by simp)
          · have d1 : s1' = _ := hdep ⟨1, .data⟩ (by simp) rfl
            subst d1
            go_simp
            have hK' := hK.out
            simp only [putAll, Act.put, List.setIfInBounds_toArray, List.set_cons_zero, List.set_cons_succ] at hK'
            exact hK' _ _ rfl (Below.refl _ _) (by simp)
          · have d2 : s2' = _ := hdep ⟨2, .data⟩ (by simp) rfl
            subst d2
            go_simp
            refine (HWB.out _ (HBW.out _ (Below.go hb HBa.out))).mono ?_
            rintro e wy ⟨vy, rfl, iy, hby⟩
            have hsh := iy.shape
            obtain ⟨p5, n5, c5, rfl, iy⟩ := hsh
            go_wp2_with fail
            have hK' := hK.out
            simp only [putAll, Act.put, List.setIfInBounds_toArray, List.set_cons_zero, List.set_cons_succ] at hK'
            exact hK' _ _ ⟨_, _, _, _, rfl, iy⟩ hby (by simp)
          · have d0 : s0' = _ := hdep ⟨0, .data⟩ (by simp) rfl
            have d3 : (intF (y : Nat)).P s3' wx := hdep ⟨3, .data⟩ (by simp) rfl
            subst d0
            obtain ⟨dd, pp, nn, cc, rfl, ii⟩ := d3
            go_simp
            refine (RAdd_any _ _ Y0 (y : Nat) wx (hy9.below hb) (ii.raw (Nat.le_trans hys (by decide)))).mono ?_
            rw [HYR.out]
            rintro e wy ⟨vy, rfl, iy, hby⟩
            have hsh := iy.shape
            obtain ⟨p5, n5, c5, rfl, iy⟩ := hsh
            go_wp2_with fail
            have hK' := hK.out
            simp only [putAll, Act.put, List.setIfInBounds_toArray, List.set_cons_zero, List.set_cons_succ] at hK'
            exact hK' _ _ ⟨_, _, _, _, rfl, iy⟩ hby (by simp)
          · omega
        · intro vs wx hvl hb hf hdist
          have hvs := len5 hvl
          obtain ⟨s0', s1', s2', s3', s4', rfl⟩ := hvs
          have f4 : (intF R).P s4' wx := hf 4 (by decide)
          obtain ⟨dq, pq, mq, cq, rfl, iq⟩ := f4
          clear hf hdist hvl
          have P9 := (A9.below hb).pair
          have x9 := P9.cells
          obtain ⟨_, _, q0, q1, q2, q3⟩ := x9
          refine wpAny_one (i := 5) (by kernel_rfl) rfl ?_
          intro K hK
          simp only [putAll, Act.put, List.setIfInBounds_toArray, List.set_cons_zero, List.set_cons_succ]
          go_simp
          have hK' := hK.out
          apply hK'
          clear hK hK'
          refine wpAny_done (by kernel_rfl) ?_ _
          refine hKc _ _ (Met.intro (hJc _ _ ?_))
          (repeat apply Exists.intro)
          exact ⟨⟨(A8.below hb).apart P9 hgne .., IntCell.put P9 iq, Below.stored (Below.go hb HBa.out) (by omega) ..⟩, rfl⟩
      case rest =>
        obtain ⟨D8, D9, hbd⟩ := hcut
        have HBd := hid hbd
        clear hbd A8 A9
        have hk := HS.out _ HBd.out
        go_split_ands
        have hs0 : 0 ≤ R.sign := Int.sign_nonneg_iff.2 (by omega)
        have hs1 : ¬ R.sign < 0 := by omega
        cases n1
        · have hq1 : X0 - 1 = Q := by have := HXQ.out; simpa using this
          go_upto_region 7 with fail
          · skip
            have t8 := D8
            obtain ⟨d8, p8, m8, c8, e8, i8⟩ := t8
            have hx8 := i8.raw (Nat.le_trans hX0s (by decide))
            refine wp_region_facts (w0 := wc) 3 1 [46, 47, 48] [u46, u47, u48]
              (fun i => match i with | 0 => eqF (.agg #[.bool d8, .slice p8 m8 c8]) | 1 => intF 1 | _ => intF Q) [] (by kernel_rfl) (by kernel_rfl) (by kernel_rfl) (by kernel_rfl) (by decide) rfl (by kernel_rfl) rfl (by simp) ?he (by simp) ?_ ?_
            case he => simp only [putAll, Act.put, List.setIfInBounds_toArray, List.set_cons_zero, List.set_cons_succ]
            · intro i o hi ho vs wx hvl hb hdep K hK
              have hvs := len3 hvl
              obtain ⟨s0', s1', s2', rfl⟩ := hvs
              have x8 := two_cells (((hb.block g8 (Array.getElem?_eq_some_iff.1 e8).1)).trans e8)
              obtain ⟨x80, x81, -, -⟩ := x8
              clear hvl
              rcases i with _ | _ | _ | i
              all_goals (simp only [List.getElem?_toArray, List.getElem?_cons_zero, List.getElem?_cons_succ, Option.some.injEq] at ho)
              all_goals try (subst ho)
              all_goals try simp only [putAll, Act.put, List.setIfInBounds_toArray, List.set_cons_zero, List.set_cons_succ]
              · go_simp
                have hK' := hK.out
                simp only [putAll, Act.put, List.setIfInBounds_toArray, List.set_cons_zero, List.set_cons_succ] at hK'
                exact hK' _ _ rfl (Below.refl _ _) (by simp)
              · go_simp
                refine (ROf_any 1 wx (by decide) (by decide)).mono ?_
                rintro e wy ⟨vy, rfl, iy, hby⟩
                have hsh := iy.shape
                obtain ⟨p5, n5, c5, rfl, iy⟩ := hsh
                go_wp2_with fail
                have hK' := hK.out
                simp only [putAll, Act.put, List.setIfInBounds_toArray, List.set_cons_zero, List.set_cons_succ] at hK'
                exact hK' _ _ ⟨_, _, _, _, rfl, iy⟩ hby (by simp)
              · have d0 : s0' = _ := hdep ⟨0, .data⟩ (by simp) rfl
                have d1 : (intF 1).P s1' wx := hdep ⟨1, .data⟩ (by simp) rfl
                subst d0
                obtain ⟨dd, pp, nn, cc, rfl, ii⟩ := d1
                go_simp
                refine (RSub_any _ _ X0 1 wx (hx8.below hb) (ii.raw (by decide))).mono ?_
                rw [hq1]
                rintro e wy ⟨vy, rfl, iy, hby⟩
                have hsh := iy.shape
                obtain ⟨p5, n5, c5, rfl, iy⟩ := hsh
                go_wp2_with fail
                have hK' := hK.out
                simp only [putAll, Act.put, List.setIfInBounds_toArray, List.set_cons_zero, List.set_cons_succ] at hK'
                exact hK' _ _ ⟨_, _, _, _, rfl, iy⟩ hby (by simp)
              · omega
            · intro vs wx hvl hb hf hdist
              have hvs := len3 hvl
              obtain ⟨s0', s1', s2', rfl⟩ := hvs
              have f2 : (intF Q).P s2' wx := hf 2 (by decide)
              obtain ⟨dq, pq, mq, cq, rfl, iq⟩ := f2
              clear hf hdist hvl
              have P8 := (D8.below hb).pair
              have x8 := P8.cells
              obtain ⟨_, _, q0, q1, q2, q3⟩ := x8
              refine wpAny_one (i := 3) (by kernel_rfl) rfl ?_
              intro K hK
              simp only [putAll, Act.put, List.setIfInBounds_toArray, List.set_cons_zero, List.set_cons_succ]
              go_simp
              have hK' := hK.out
              apply hK'
              clear hK hK'
              refine wpAny_done (by kernel_rfl) ?_ _
              have C8 := IntCell.put P8 iq
              have C9 := (D9.below hb).apart P8 hgne.symm dq pq mq cq
              have HBf := hid (Below.stored (Below.go hb HBd.out) (g := g8) (by omega) (.bool dq) (.slice pq mq cq))
              generalize ((wx.setCell ⟨g8, 0, none⟩ (.bool dq)).setCell ⟨g8, 1, none⟩ (.slice pq mq cq)) = wf at *
              clear D8 D9 P8 q0 q1 q2 q3 hb
              have t9 := C9
              obtain ⟨d9, p9, m9, c9, e9, i9⟩ := t9
              have e9' := two_cells e9
              obtain ⟨x90, x91, -, -⟩ := e9'
              have hsg2 := hid (RSign_any _ R _ (i9.raw hRs))
              clear e9 i9
              go_wp2_with fail
              rw [rounds_succ]
              go_wp2_with fail
              refine hsg2.out.mono ?_
              rintro e wz ⟨rfl, hbz⟩
              have HBz := hid (Below.go hbz HBf.out)
              have C8 := C8.below hbz
              have C9 := C9.below hbz
              clear hbz x90 x91 hsg2
              have t8 := C8; have t9 := C9
              obtain ⟨d8, p8, m8, c8, e8, i8⟩ := t8
              obtain ⟨d9, p9, m9, c9, e9, i9⟩ := t9
              have P4 := Hp.out.below HBz.out
              have P5 := Hp'.out.below HBz.out
              have e8' := two_cells e8
              obtain ⟨x80, x81, -, -⟩ := e8'
              have e9' := two_cells e9
              obtain ⟨x90, x91, -, -⟩ := e9'
              have P4' := P4.cells
              obtain ⟨_, _, q0, q1, q2, q3⟩ := P4'
              have P5' := P5.cells
              obtain ⟨_, _, r0, r1, r2, r3⟩ := P5'
              have P5s := P5.apart (g' := w.heap.size + 1 + 1) (by omega) (.bool d8) (.slice p8 m8 c8)
              have j8 := hid ((i8.stored P4 d8 p8 m8 c8).stored P5s d9 p9 m9 c9)
              have j9 := hid ((i9.stored P4 d8 p8 m8 c8).stored P5s d9 p9 m9 c9)
              have bz := hid (Below.stored (Below.stored (bw'.out.trans (HBz.out.mono (B' := w.heap.size) (by omega))) (g := w.heap.size + 1 + 1) (by omega) (.bool d8) (.slice p8 m8 c8)) (g := w.heap.size + 1 + 1 + 1) (by omega) (.bool d9) (.slice p9 m9 c9))
              clear P4 P5 P5s i8 i9 e8 e9 C8 C9
              go_wp2_with fail
              go_region
              go_wp2_with fail
              exact bodyPost_ret (v := .tuple #[.agg #[.bool d8, .slice p8 m8 c8], .agg #[.bool d9, .slice p9 m9 c9]])
                (by simp [results, Tryd.results30, go_sem, q0, q1, r0, r1]) rfl
                ⟨_, _, rfl, j8.out, j9.out, bz.out.drew⟩
        · have hq1 : X0 + 1 = Q := by have := HXQ.out; simpa using this
          go_upto_region 6 with fail
          · skip
            have t8 := D8
            obtain ⟨d8, p8, m8, c8, e8, i8⟩ := t8
            have hx8 := i8.raw (Nat.le_trans hX0s (by decide))
            refine wp_region_facts (w0 := wc) 3 1 [43, 44, 45] [u43, u44, u45]
              (fun i => match i with | 0 => eqF (.agg #[.bool d8, .slice p8 m8 c8]) | 1 => intF 1 | _ => intF Q) [] (by kernel_rfl) (by kernel_rfl) (by kernel_rfl) (by kernel_rfl) (by decide) rfl (by kernel_rfl) rfl (by simp) ?he (by simp) ?_ ?_
            case he => simp only [putAll, Act.put, List.setIfInBounds_toArray, List.set_cons_zero, List.set_cons_succ]
            · intro i o hi ho vs wx hvl hb hdep K hK
              have hvs := len3 hvl
              obtain ⟨s0', s1', s2', rfl⟩ := hvs
              have x8 := two_cells (((hb.block g8 (Array.getElem?_eq_some_iff.1 e8).1)).trans e8)
              obtain ⟨x80, x81, -, -⟩ := x8
              clear hvl
              rcases i with _ | _ | _ | i
              all_goals (simp only [List.getElem?_toArray, List.getElem?_cons_zero, List.getElem?_cons_succ, Option.some.injEq] at ho)
              all_goals try (subst ho)
              all_goals try simp only [putAll, Act.put, List.setIfInBounds_toArray, List.set_cons_zero, List.set_cons_succ]
              · go_simp
                have hK' := hK.out
                simp only [putAll, Act.put, List.setIfInBounds_toArray, List.set_cons_zero, List.set_cons_succ] at hK'
                exact hK' _ _ rfl (Below.refl _ _) (by simp)
              · go_simp
                refine (ROf_any 1 wx (by decide) (by decide)).mono ?_
                rintro e wy ⟨vy, rfl, iy, hby⟩
                have hsh := iy.shape
                obtain ⟨p5, n5, c5, rfl, iy⟩ := hsh
                go_wp2_with fail
                have hK' := hK.out
                simp only [putAll, Act.put, List.setIfInBounds_toArray, List.set_cons_zero, List.set_cons_succ] at hK'
                exact hK' _ _ ⟨_, _, _, _, rfl, iy⟩ hby (by simp)
              · have d0 : s0' = _ := hdep ⟨0, .data⟩ (by simp) rfl
                have d1 : (intF 1).P s1' wx := hdep ⟨1, .data⟩ (by simp) rfl
                subst d0
                obtain ⟨dd, pp, nn, cc, rfl, ii⟩ := d1
                go_simp
                refine (RAdd_any _ _ X0 1 wx (hx8.below hb) (ii.raw (by decide))).mono ?_
                rw [hq1]
                rintro e wy ⟨vy, rfl, iy, hby⟩
                have hsh := iy.shape
                obtain ⟨p5, n5, c5, rfl, iy⟩ := hsh
                go_wp2_with fail
                have hK' := hK.out
                simp only [putAll, Act.put, List.setIfInBounds_toArray, List.set_cons_zero, List.set_cons_succ] at hK'
                exact hK' _ _ ⟨_, _, _, _, rfl, iy⟩ hby (by simp)
              · omega
            · intro vs wx hvl hb hf hdist
              have hvs := len3 hvl
              obtain ⟨s0', s1', s2', rfl⟩ := hvs
              have f2 : (intF Q).P s2' wx := hf 2 (by decide)
              obtain ⟨dq, pq, mq, cq, rfl, iq⟩ := f2
              clear hf hdist hvl
              have P8 := (D8.below hb).pair
              have x8 := P8.cells
              obtain ⟨_, _, q0, q1, q2, q3⟩ := x8
              refine wpAny_one (i := 3) (by kernel_rfl) rfl ?_
              intro K hK
              simp only [putAll, Act.put, List.setIfInBounds_toArray, List.set_cons_zero, List.set_cons_succ]
              go_simp
              have hK' := hK.out
              apply hK'
              clear hK hK'
              refine wpAny_done (by kernel_rfl) ?_ _
              have C8 := IntCell.put P8 iq
              have C9 := (D9.below hb).apart P8 hgne.symm dq pq mq cq
              have HBf := hid (Below.stored (Below.go hb HBd.out) (g := g8) (by omega) (.bool dq) (.slice pq mq cq))
              generalize ((wx.setCell ⟨g8, 0, none⟩ (.bool dq)).setCell ⟨g8, 1, none⟩ (.slice pq mq cq)) = wf at *
              clear D8 D9 P8 q0 q1 q2 q3 hb
              have t9 := C9
              obtain ⟨d9, p9, m9, c9, e9, i9⟩ := t9
              have e9' := two_cells e9
              obtain ⟨x90, x91, -, -⟩ := e9'
              have hsg2 := hid (RSign_any _ R _ (i9.raw hRs))
              clear e9 i9
              go_wp2_with fail
              rw [rounds_succ]
              go_wp2_with fail
              refine hsg2.out.mono ?_
              rintro e wz ⟨rfl, hbz⟩
              have HBz := hid (Below.go hbz HBf.out)
              have C8 := C8.below hbz
              have C9 := C9.below hbz
              clear hbz x90 x91 hsg2
              have t8 := C8; have t9 := C9
              obtain ⟨d8, p8, m8, c8, e8, i8⟩ := t8
              obtain ⟨d9, p9, m9, c9, e9, i9⟩ := t9
              have P4 := Hp.out.below HBz.out
              have P5 := Hp'.out.below HBz.out
              have e8' := two_cells e8
              obtain ⟨x80, x81, -, -⟩ := e8'
              have e9' := two_cells e9
              obtain ⟨x90, x91, -, -⟩ := e9'
              have P4' := P4.cells
              obtain ⟨_, _, q0, q1, q2, q3⟩ := P4'
              have P5' := P5.cells
              obtain ⟨_, _, r0, r1, r2, r3⟩ := P5'
              have P5s := P5.apart (g' := w.heap.size + 1 + 1) (by omega) (.bool d8) (.slice p8 m8 c8)
              have j8 := hid ((i8.stored P4 d8 p8 m8 c8).stored P5s d9 p9 m9 c9)
              have j9 := hid ((i9.stored P4 d8 p8 m8 c8).stored P5s d9 p9 m9 c9)
              have bz := hid (Below.stored (Below.stored (bw'.out.trans (HBz.out.mono (B' := w.heap.size) (by omega))) (g := w.heap.size + 1 + 1) (by omega) (.bool d8) (.slice p8 m8 c8)) (g := w.heap.size + 1 + 1 + 1) (by omega) (.bool d9) (.slice p9 m9 c9))
              clear P4 P5 P5s i8 i9 e8 e9 C8 C9
              go_wp2_with fail
              go_region
              go_wp2_with fail
              exact bodyPost_ret (v := .tuple #[.agg #[.bool d8, .slice p8 m8 c8], .agg #[.bool d9, .slice p9 m9 c9]])
                (by simp [results, Tryd.results30, go_sem, q0, q1, r0, r1]) rfl
                ⟨_, _, rfl, j8.out, j9.out, bz.out.drew⟩
end Go.Proofs.YtippcalhcnjghaaDoor
/- whole.divideHalves, whole.divide, whole.Div. -/
namespace Go.Proofs.YtippcalhcnjghaaDoor
open Go.RowKit Big

set_option maxRecDepth 100000 in
set_option maxHeartbeats 3200000 in
theorem divideHalves_any (v0 v1 : Value) (a b : Nat) (w : World) (h0 : At w .u32 v0 (dig H a)) (h1 : At w .u32 v1 (dig H b)) (hb : 0 < b) (hlen : (dig H a).length ≤ 2199023255552) (hlen' : (dig H b).length ≤ 2199023255552) :
    Calls Tryd.prog 75 #[v0, v1] w (RQuo (a / b) (a % b) w) := by
  have H0 := hid h0; have H1 := hid h1
  by_cases hlt : (dig H a).length < (dig H b).length
  · have hab : a < b := lt_of_sz_lt H2 hlt
    have e1 : a / b = 0 := Nat.div_eq_of_lt hab
    have e2 : a % b = a := Nat.mod_eq_of_lt hab
    rw [e1, e2]
    obtain ⟨p0, c0, rfl, -⟩ := h0
    obtain ⟨p1, c1, rfl, -⟩ := h1
    obtain ⟨la, hla⟩ : ∃ n, n = (dig H a).length := ⟨_, rfl⟩
    obtain ⟨lb, hlb⟩ : ∃ n, n = (dig H b).length := ⟨_, rfl⟩
    have Hla := hid hla
    rw [← hla, ← hlb] at hlt
    rw [← hla] at hlen ⊢
    rw [← hlb] at hlen' ⊢
    rw [← hla] at H0
    clear hla hlb e1 e2 hab H1
    go_enter Tryd.func75, Tryd.ntmps75
    go_wp2_with (at_builtin; refine wpList_append_at rfl _ _ 65 rfl elemHalves w.heap.size _ [] rfl (Own.nil ..) _ (dig H a) rfl H0.out (by rw [← Hla.out]; simp [maxLen]; omega) (by rw [← Hla.out]; simp; omega) (Nat.le_refl _) ?_; intro v2 w2 ho2 hb2 hs2)
    go_ret2
    exact ⟨_, _, rfl, by exact At.nil _ _, ho2.at, hb2⟩
  · by_cases hl1 : (dig H b).length = 1
    · have hbH : b < H := by
        have := lt_pow_sz H2 b
        rwa [show sz H b = 1 from hl1, Nat.pow_one] at this
      have hd1 := dig_one H2 hb hbH
      obtain ⟨p1, c1, rfl, b1, b2, b3, b4⟩ := id h1
      obtain ⟨bb, off, rfl, hbb, hcell⟩ := b4 (by omega)
      have hc := hcell 0 (by omega)
      simp only [hd1, List.getElem_cons_zero, Nat.add_zero] at hc
      obtain ⟨p0, c0, rfl, -⟩ := id h0
      obtain ⟨la, hla⟩ : ∃ n, n = (dig H a).length := ⟨_, rfl⟩
      have Hla := hid hla
      rw [← hla] at hlen hlt H0 ⊢
      rw [hl1] at hlt b1 ⊢
      have hsh := fun (W' : World) (v : Value) (hv : Own W' w.heap.size 67 .u32 v (dig H a)) => divideShort_any w.heap.size v (dig H a) b W' hv (small_dig H2 a) hb hbH
      rw [val_dig H2] at hsh
      have Hsh := hid hsh
      unfold maxLen at b2
      clear hla hsh hd1 hcell b4 b3 hl1 h0 h1 H1
      go_enter Tryd.func75, Tryd.ntmps75
      go_wp2_with fail
      go_region_held3 (fun w' => w'.cell? ⟨bb, off, none⟩ = some (.int .u32 (b : Nat)))
        (first | assumption | (simp; assumption) | (exact (hb2.cell (p := ⟨bb, off, none⟩) hbb).trans hc) | (exact hcell3))
        (first
          | (refine step_append_at (by rfl) _ _ 65 (by rfl) elemHalves w.heap.size _ [] (by rfl) (Own.nil ..) _ (dig H a) (by rfl) H0.out.drew (by rw [← Hla.out]; simp [maxLen]; omega) (by rw [← Hla.out]; simp; omega) (Nat.le_refl _) ?_; intro v2 w2 ho2 hb2 hs2)
          | (go_at_call 80; refine (Hsh.out _ _ ho2).mono ?_; rintro e w3 ⟨rfl, ho3, hg3⟩; have hcell3 : w3.cell? ⟨bb, off, none⟩ = some (.int .u32 (b : Nat)) := (World.cell?_of_block (w := w2) (hg3.block bb (Nat.lt_of_lt_of_le hbb hb2.size) (fun e => by have := ho2.row bb e.symm; omega))).trans ((hb2.cell (p := ⟨bb, off, none⟩) hbb).trans hc)))
      have hr : a % b < 4294967296 := Nat.lt_trans (Nat.mod_lt _ hb) hbH
      have er : (a : Int) % (b : Int) = ((a % b : Nat) : Int) := (Int.natCast_emod a b).symm
      rw [er]
      have hq := ho3.at
      have bel3 : Below w.heap.size w w3 := (((Below.refl _ w).drew.trans hb2).grown hg3 hb2.size ho2.row)
      obtain ⟨r, hrd⟩ : ∃ r, r = a % b := ⟨_, rfl⟩
      rw [← hrd] at hr ⊢
      have Hrd := hid hrd
      have hstr : strip [r] = dig H r := by
        have h1 : Small H [r] := small_cons hr (small_nil _)
        have := strip_dig H2 h1
        simpa [val] using this
      have hat := At.one w3 .u32 r 67
      have htr := htrim_val _ _ _ hat
      have hat' := hat.cut (strip [r]).length (strip_length _)
      rw [← strip_is_take, hstr] at hat'
      rw [hstr] at htr
      have Htr := hid htr; have Hat := hid hat'; have Bel := hid bel3; have HQ := hid hq
      clear htr hstr hat hat' hrd er bel3 hq ho3 hg3 ho2 Hsh
      generalize cutTo v2 (sz H (a / b)) = vq at *
      go_wp2_with fail
      refine Htr.out.mono ?_
      rintro e w' ⟨rfl, rfl⟩
      go_wp2_with fail
      go_ret2
      exact ⟨_, _, rfl, HQ.out.alloc _, by rw [← Hrd.out]; exact Hat.out, Below.go (below1 _ _) Bel.out⟩
    · have hl0 : (dig H b).length ≠ 0 := fun e => by
        have := (dig_eq_nil H2).1 (List.eq_nil_of_length_eq_zero e)
        omega
      obtain ⟨m, hm⟩ : ∃ m, (dig H b).length = m + 2 := ⟨(dig H b).length - 2, by omega⟩
      have hd := divideLong_any v0 v1 a b w h0 h1 m hm (by omega) hlen
      have Hd := hid hd
      obtain ⟨p0, c0, rfl, -⟩ := h0
      obtain ⟨p1, c1, rfl, -⟩ := h1
      have hbe : (((dig H b).length : Int) == 1) = false := beq_eq_false_iff_ne.2 (by omega)
      generalize (dig H a).length = la at *
      generalize (dig H b).length = lb at *
      clear hd hm hl0 hl1 H0 H1
      go_enter Tryd.func75, Tryd.ntmps75
      go_wp2_with fail
      refine Hd.out.mono ?_
      rintro e w1 ⟨q, r, rfl, hq, hr, hb1⟩
      go_wp2_with fail
      go_ret2
      exact ⟨_, _, rfl, hq, hr, hb1⟩

set_option maxRecDepth 100000 in
set_option maxHeartbeats 3200000 in
theorem divide_any (v0 v1 : Value) (n m : Nat) (w : World) (h0 : At w .u64 v0 (dig W n)) (h1 : At w .u64 v1 (dig W m)) (hm0 : 0 < m) (hn : sz W n ≤ 1099511627776) (hm : sz W m ≤ 1099511627776) :
    Calls Tryd.prog 50 #[v0, v1] w (RTwo (n / m) (n % m) w) := by
  by_cases hs : n < W ∧ m < W
  · exact divide_small v0 v1 n m w h0 h1 hs.1 hs.2 hm0
  · have s0 : ∀ W', Below w.heap.size w W' → Calls Tryd.prog 61 #[v0] W' (ROwn 67 .u32 (dig H n) W') := fun W' hb => by
      have := split_any v0 (dig W n) W' (h0.below hb) (small_dig W2 n) hn
      rwa [val_dig W2] at this
    have s1 : ∀ W', Below w.heap.size w W' → Calls Tryd.prog 61 #[v1] W' (ROwn 67 .u32 (dig H m) W') := fun W' hb => by
      have := split_any v1 (dig W m) W' (h1.below hb) (small_dig W2 m) hm
      rwa [val_dig W2] at this
    have b0 : sz H n ≤ 2199023255552 := Nat.le_trans (sz_H_W n) (by omega)
    have b1 : sz H m ≤ 2199023255552 := Nat.le_trans (sz_H_W m) (by omega)
    have dh : ∀ W' u u', At W' .u32 u (dig H n) → At W' .u32 u' (dig H m) → Calls Tryd.prog 75 #[u, u'] W' (RQuo (n / m) (n % m) W') := fun W' u u' hu hu' => divideHalves_any u u' n m W' hu hu' hm0 b0 b1
    have hc := compare_any v0 v1 n m w h0 h1
    have hst : strip (dig W n) = dig W n := by rw [strip_dig W2 (small_dig W2 n), val_dig W2]
    have hw0 := fun k => own_any v0 (dig W n) (w.drewN k) (h0.drewN k) (by show sz W n ≤ _; omega)
    rw [hst] at hw0
    have q0 : sz H (n / m) ≤ 4398046511104 := Nat.le_trans (sz_mono H2 (Nat.div_le_self n m)) (by omega)
    have q1 : sz H (n % m) ≤ 4398046511104 := Nat.le_trans (sz_mono H2 (Nat.mod_le n m)) (by omega)
    have S0 := hid s0; have S1 := hid s1; have Dh := hid dh; have Hc := hid hc; have Hw := hid hw0; have Q0 := hid q0; have Q1 := hid q1
    have hguard : ¬ ((dig W n).length ≤ 1 ∧ (dig W m).length ≤ 1) := fun h => hs ⟨
      Nat.lt_of_lt_of_le (lt_pow_sz W2 n) (Nat.le_trans (Nat.pow_le_pow_right (by decide) (show sz W n ≤ 1 from h.1)) (by simp)),
      Nat.lt_of_lt_of_le (lt_pow_sz W2 m) (Nat.le_trans (Nat.pow_le_pow_right (by decide) (show sz W m ≤ 1 from h.2)) (by simp))⟩
    obtain ⟨p0, c0, rfl, -⟩ := h0
    obtain ⟨p1, c1, rfl, -⟩ := h1
    have hg2 : ¬ (dig W n).length ≤ 1 ∨ ((dig W n).length ≤ 1 ∧ ¬ (dig W m).length ≤ 1) := by
      rcases Nat.lt_or_ge 1 (dig W n).length with h | h
      · exact Or.inl (by omega)
      · exact Or.inr ⟨h, fun h' => hguard ⟨h, h'⟩⟩
    obtain ⟨ln, hln⟩ : ∃ k, k = (dig W n).length := ⟨_, rfl⟩
    obtain ⟨lm, hlm⟩ : ∃ k, k = (dig W m).length := ⟨_, rfl⟩
    rw [← hln, ← hlm] at hg2
    rw [← hln] at S0 Hc Hw ⊢
    rw [← hlm] at S1 Hc ⊢
    clear s0 s1 dh hc hw0 q0 q1 hln hlm hguard hst b0 b1 hs
    rcases hg2 with hg | ⟨hg, hg'⟩
    · have hd : decide ((ln : Int) ≤ 1) = false := decide_eq_false (by omega)
      by_cases hnm : n < m
      · have ho : ord (n : Int) m = -1 := ord_lt (by omega)
        rw [ho] at Hc
        have e1 : n / m = 0 := Nat.div_eq_of_lt hnm
        have e2 : n % m = n := Nat.mod_eq_of_lt hnm
        rw [e1, e2]
        clear ho e1 e2 hnm S0 S1 Dh Q0 Q1
        go_enter Tryd.func50, Tryd.ntmps50
        go_wp2_with fail
        refine Hc.out.mono ?_
        rintro e w1 ⟨rfl, k, rfl⟩
        go_wp2_with fail
        refine (Hw.out k).mono ?_
        rintro e w2 ⟨v2, rfl, ho2, hb2⟩
        go_wp2_with fail
        go_ret2
        exact ⟨_, _, rfl, At.nil _ _, ho2.at, (below_drewN (Below.refl _ _) k).trans hb2⟩
      · obtain ⟨o, ho⟩ : ∃ o : Int, o = ord (n : Int) m := ⟨_, rfl⟩
        have ho0 : 0 ≤ o := by
          rw [ho]
          rcases Nat.lt_or_ge m n with h | h
          · rw [ord_gt (by omega)]; decide
          · rw [show n = m by omega, ord_eq]; decide
        have ho1 : ¬ o < 0 := by omega
        rw [← ho] at Hc
        have Q := hid (show (n / m) = n / m from rfl)
        clear ho hnm
        go_enter Tryd.func50, Tryd.ntmps50
        go_wp2_with fail
        refine Hc.out.mono ?_
        rintro e w1 ⟨rfl, k, rfl⟩
        go_wp2_with fail
        refine (S0.out _ (below_drewN (Below.refl _ _) k)).mono ?_
        rintro e w2 ⟨u, rfl, hu, hu1⟩
        have b12 := hid ((below_drewN (Below.refl w.heap.size w) k).trans hu1)
        clear hu1
        go_wp2_with fail
        refine (S1.out _ b12.out).mono ?_
        rintro e w3 ⟨u', rfl, hu', hu2⟩
        have b13 := hid (Below.go hu2 b12.out)
        have au := hu.at.below hu2
        clear hu2
        go_wp2_with fail
        refine (Dh.out _ _ _ au hu'.at).mono ?_
        rintro e w4 ⟨q, r, rfl, hq, hr, hb4⟩
        have b14 := hid (Below.go hb4 b13.out)
        clear hb4 au hu hu'
        go_wp2_with fail
        refine (join_any q (n / m) _ hq Q0.out).mono ?_
        rintro e w5 ⟨q5, rfl, ho5, hb5⟩
        have b15 := hid (Below.go hb5 b14.out)
        have hr5 := hr.below hb5
        clear hb5
        go_wp2_with fail
        refine (join_any r (n % m) _ hr5 Q1.out).mono ?_
        rintro e w6 ⟨r6, rfl, ho6, hb6⟩
        have b16 := hid (Below.go hb6 b15.out)
        have aq := ho5.at.below hb6
        clear hb6
        go_wp2_with fail
        go_ret2
        exact ⟨_, _, rfl, aq, ho6.at, b16.out⟩
    · have hd : decide ((ln : Int) ≤ 1) = true := decide_eq_true (by omega)
      have hd' : decide ((lm : Int) ≤ 1) = false := decide_eq_false (by omega)
      by_cases hnm : n < m
      · have ho : ord (n : Int) m = -1 := ord_lt (by omega)
        rw [ho] at Hc
        have e1 : n / m = 0 := Nat.div_eq_of_lt hnm
        have e2 : n % m = n := Nat.mod_eq_of_lt hnm
        rw [e1, e2]
        clear ho e1 e2 hnm S0 S1 Dh Q0 Q1
        go_enter Tryd.func50, Tryd.ntmps50
        go_wp2_with fail
        refine Hc.out.mono ?_
        rintro e w1 ⟨rfl, k, rfl⟩
        go_wp2_with fail
        refine (Hw.out k).mono ?_
        rintro e w2 ⟨v2, rfl, ho2, hb2⟩
        go_wp2_with fail
        go_ret2
        exact ⟨_, _, rfl, At.nil _ _, ho2.at, (below_drewN (Below.refl _ _) k).trans hb2⟩
      · obtain ⟨o, ho⟩ : ∃ o : Int, o = ord (n : Int) m := ⟨_, rfl⟩
        have ho0 : 0 ≤ o := by
          rw [ho]
          rcases Nat.lt_or_ge m n with h | h
          · rw [ord_gt (by omega)]; decide
          · rw [show n = m by omega, ord_eq]; decide
        have ho1 : ¬ o < 0 := by omega
        rw [← ho] at Hc
        have Q := hid (show (n / m) = n / m from rfl)
        clear ho hnm
        go_enter Tryd.func50, Tryd.ntmps50
        go_wp2_with fail
        refine Hc.out.mono ?_
        rintro e w1 ⟨rfl, k, rfl⟩
        go_wp2_with fail
        refine (S0.out _ (below_drewN (Below.refl _ _) k)).mono ?_
        rintro e w2 ⟨u, rfl, hu, hu1⟩
        have b12 := hid ((below_drewN (Below.refl w.heap.size w) k).trans hu1)
        clear hu1
        go_wp2_with fail
        refine (S1.out _ b12.out).mono ?_
        rintro e w3 ⟨u', rfl, hu', hu2⟩
        have b13 := hid (Below.go hu2 b12.out)
        have au := hu.at.below hu2
        clear hu2
        go_wp2_with fail
        refine (Dh.out _ _ _ au hu'.at).mono ?_
        rintro e w4 ⟨q, r, rfl, hq, hr, hb4⟩
        have b14 := hid (Below.go hb4 b13.out)
        clear hb4 au hu hu'
        go_wp2_with fail
        refine (join_any q (n / m) _ hq Q0.out).mono ?_
        rintro e w5 ⟨q5, rfl, ho5, hb5⟩
        have b15 := hid (Below.go hb5 b14.out)
        have hr5 := hr.below hb5
        clear hb5
        go_wp2_with fail
        refine (join_any r (n % m) _ hr5 Q1.out).mono ?_
        rintro e w6 ⟨r6, rfl, ho6, hb6⟩
        have b16 := hid (Below.go hb6 b15.out)
        have aq := ho5.at.below hb6
        clear hb6
        go_wp2_with fail
        go_ret2
        exact ⟨_, _, rfl, aq, ho6.at, b16.out⟩
end Go.Proofs.YtippcalhcnjghaaDoor
/- whole.Div of any numbers; whole.common and whole.Gcd. -/
namespace Go.Proofs.YtippcalhcnjghaaDoor
open Go.RowKit Big

theorem Div_any (v0 v1 : Value) (a b : Int) (w : World) (h0 : RawAt w v0 a) (h1 : RawAt w v1 b) (hb0 : b ≠ 0) : Calls Tryd.prog 25 #[v0, v1] w (RDiv (a / b) (a % b) 0 w) :=
  Div_of v0 v1 a b w h0 h1 hb0 (fun W' u u' hu hu' => divide_any u u' _ _ W' hu hu' (by omega) h0.sz h1.sz)

theorem gcd_step (a b : Nat) : Nat.gcd b (a % b) = Nat.gcd a b := by rw [Nat.gcd_comm a b, Nat.gcd_rec b a, Nat.gcd_comm]

def RWord (n : Nat) (w : World) (e : Ending) (w' : World) : Prop := e = .returned (.int .u64 (n : Nat)) ∧ ∃ k, w' = w.drewN k

set_option maxRecDepth 100000 in
set_option maxHeartbeats 1600000 in
theorem commonWord_any (a b : Nat) (w : World) (ha : a < W) (hb : b < W) : Calls Tryd.prog 78 #[.int .u64 (a : Nat), .int .u64 (b : Nat)] w (RWord (Nat.gcd a b) w) := by
  unfold W at ha hb
  go_enter Tryd.func78, Tryd.ntmps78
  go_wp2_with fail
  go_loopw [0, 1] (fun x y wr => ∃ (p q : Nat), x = .int .u64 (p : Nat) ∧ y = .int .u64 (q : Nat) ∧ p < 18446744073709551616 ∧ q < 18446744073709551616 ∧ Hid (Nat.gcd p q = Nat.gcd a b) ∧ Hid (∃ k, wr = w.drewN k)) (fun _ y _ => (intOf y).toNat)
  case atStart => exact ⟨a, b, rfl, rfl, ha, hb, rfl, 0, rfl⟩
  case round =>
    obtain ⟨p, q, rfl, rfl, hp, hq, hg, hw⟩ := hrel
    by_cases h0 : q = 0
    · subst h0
      have hres : Hid (p = Nat.gcd a b) := by have := hg.out; rw [Nat.gcd_zero_right] at this; exact this
      clear hg
      go_wp2
      go_ret
      exact ⟨by rw [← hres.out]; rfl, hw.out⟩
    · have hb1 : ((q : Int) == 0) = false := beq_eq_false_iff_ne.2 (by omega)
      have hb2 : ((q : Int) != 0) = true := by simp [bne, hb1]
      have hr : p % q < q := Nat.mod_lt _ (by omega)
      have er : (p : Int) % (q : Int) = ((p % q : Nat) : Int) := (Int.natCast_emod p q).symm
      have hg' := hid ((gcd_step p q).trans hg.out)
      have Er := hid er
      clear er hg h0
      go_wp2_with fail
      go_quiet (fail)
      rw [Er.out]
      generalize p % q = r at *
      go_wp2_with fail
      go_roundw
      case rel => exact ⟨q, r, rfl, rfl, hq, by omega, hg'.out, by obtain ⟨k, hk⟩ := hw.out; rw [hk]; exact ⟨_, drewN_twice ..⟩⟩
      case measure => (simp [intOf] <;> omega)

set_option maxRecDepth 100000 in
set_option maxHeartbeats 3200000 in
theorem common_any (v0 v1 : Value) (n m : Nat) (w : World) (h0 : At w .u64 v0 (dig W n)) (h1 : At w .u64 v1 (dig W m)) (hn : sz W n ≤ 1099511627776) (hm : sz W m ≤ 1099511627776) :
    Calls Tryd.prog 53 #[v0, v1] w (RAt .u64 (dig W (Nat.gcd n m)) w) := by
  by_cases hs : n < W ∧ m < W
  · obtain ⟨wn, wm⟩ := hs
    have g0 := word_any v0 _ w h0
    have g1 := word_any v1 _ w h1
    rw [head_dig wn] at g0
    rw [head_dig wm] at g1
    have gl : Nat.gcd n m < W := by
      rcases Nat.eq_zero_or_pos n with h | h
      · subst h; rw [Nat.gcd_zero_left]; exact wm
      · exact Nat.lt_of_le_of_lt (Nat.gcd_le_left m h) wn
    have G0 := hid g0; have G1 := hid g1
    have hc := hid (commonWord_any n m w wn wm)
    have hO := hid (fun W' => ownWord_any (Nat.gcd n m) W' gl)
    have l0 : (dig W n).length ≤ 1 := sz_word wn
    have l1 : (dig W m).length ≤ 1 := sz_word wm
    obtain ⟨p0, c0, rfl, -⟩ := h0
    obtain ⟨p1, c1, rfl, -⟩ := h1
    generalize (dig W n).length = ln at *
    generalize (dig W m).length = lm at *
    clear g0 g1 hn hm gl wn wm
    go_enter Tryd.func53, Tryd.ntmps53
    go_wp2_with fail
    refine G0.out.mono ?_
    rintro e w' ⟨rfl, rfl⟩
    go_wp2_with fail
    refine G1.out.mono ?_
    rintro e w' ⟨rfl, rfl⟩
    go_wp2_with fail
    refine hc.out.mono ?_
    rintro e w1 ⟨rfl, k, rfl⟩
    go_wp2_with fail
    refine (hO.out _).mono ?_
    rintro e w2 ⟨v2, rfl, ho2, hb2⟩
    go_wp2_with fail
    go_ret
    exact ⟨_, rfl, ho2, (below_drewN (Below.refl _ _) k).trans hb2⟩
  · have s0 := split_any v0 (dig W n) w h0 (small_dig W2 n) hn
    rw [val_dig W2] at s0
    have s1 : ∀ W', Below w.heap.size w W' → Calls Tryd.prog 61 #[v1] W' (ROwn 67 .u32 (dig H m) W') := fun W' hb => by
      have := split_any v1 (dig W m) W' (h1.below hb) (small_dig W2 m) hm
      rwa [val_dig W2] at this
    have b0 : sz H n ≤ 2199023255552 := Nat.le_trans (sz_H_W n) (by omega)
    have b1 : sz H m ≤ 2199023255552 := Nat.le_trans (sz_H_W m) (by omega)
    have S0 := hid s0; have S1 := hid s1
    have hguard : ¬ ((dig W n).length ≤ 1 ∧ (dig W m).length ≤ 1) := fun h => hs ⟨
      Nat.lt_of_lt_of_le (lt_pow_sz W2 n) (Nat.le_trans (Nat.pow_le_pow_right (by decide) (show sz W n ≤ 1 from h.1)) (by simp)),
      Nat.lt_of_lt_of_le (lt_pow_sz W2 m) (Nat.le_trans (Nat.pow_le_pow_right (by decide) (show sz W m ≤ 1 from h.2)) (by simp))⟩
    obtain ⟨p0, c0, rfl, -⟩ := h0
    obtain ⟨p1, c1, rfl, -⟩ := h1
    have hg2 : decide (((dig W n).length : Int) ≤ 1) = false ∨ (decide (((dig W n).length : Int) ≤ 1) = true ∧ decide (((dig W m).length : Int) ≤ 1) = false) := by
      rcases Nat.lt_or_ge 1 (dig W n).length with h | h
      · exact Or.inl (decide_eq_false (by omega))
      · exact Or.inr ⟨decide_eq_true (by omega), decide_eq_false (by have : ¬ (dig W m).length ≤ 1 := fun h' => hguard ⟨h, h'⟩; omega)⟩
    generalize (dig W n).length = ln at *
    generalize (dig W m).length = lm at *
    clear s0 s1 hguard hs hn hm
    rcases hg2 with hg | ⟨hg, hg'⟩
    all_goals
      go_enter Tryd.func53, Tryd.ntmps53
      go_wp2_with fail
      refine S0.out.mono ?_
      rintro e w1 ⟨u, rfl, hu, hu1⟩
      go_wp2_with fail
      refine (S1.out _ hu1).mono ?_
      rintro e w2 ⟨u', rfl, hu', hu2⟩
      have b12 := Below.go hu2 hu1
      have au := hu.at.below hu2
      have au' := hu'.at
      clear hu1 hu2 hu hu' S0 S1
      go_wp2_with fail
      go_loopg [5, 6] m (fun gk x y wr => ∃ (p : Nat), At wr .u32 x (dig H p) ∧ At wr .u32 y (dig H gk) ∧ sz H p ≤ 2199023255552 ∧ sz H gk ≤ 2199023255552 ∧ Hid (Nat.gcd p gk = Nat.gcd n m) ∧ Below w.heap.size w wr)
      case atStart => exact ⟨n, au, au', b0, b1, rfl, b12⟩
      case round =>
        obtain ⟨p, hx, hy, hp, hq, hgcd, hbel⟩ := hrel
        by_cases h0 : gk = 0
        · have hres : Hid (p = Nat.gcd n m) := by have := hgcd.out; rw [h0, Nat.gcd_zero_right] at this; exact this
          have hl : (dig H gk).length = 0 := by rw [h0]; rfl
          have hj := hid (join_any _ p wr hx (by omega))
          obtain ⟨py, cy, rfl, -⟩ := hy
          rw [hl]
          clear hl h0 hgcd hq hx
          go_wp2_with fail
          refine hj.out.mono ?_
          rintro e w5 ⟨v5, rfl, ho5, hb5⟩
          go_wp2_with fail
          go_ret
          exact ⟨_, rfl, by rw [← hres.out]; exact ho5.at, Below.go hb5 hbel⟩
        · have hl : 0 < (dig H gk).length := Nat.pos_of_ne_zero fun e => h0 ((sz_eq_zero H2).1 e)
          have hd := hid (divideHalves_any _ _ p gk wr hx hy (by omega) hp hq)
          have hg' := hid ((gcd_step p gk).trans hgcd.out)
          have hlt : p % gk < gk := Nat.mod_lt _ (by omega)
          have hsz : sz H (p % gk) ≤ 2199023255552 := Nat.le_trans (sz_mono H2 (Nat.le_of_lt hlt)) hq
          have Hy := hid hy
          obtain ⟨py, cy, rfl, -⟩ := hy
          obtain ⟨ly, hly⟩ : ∃ k, k = (dig H gk).length := ⟨_, rfl⟩
          rw [← hly] at hl hd Hy ⊢
          clear hly h0 hgcd hx
          go_wp2_with fail
          refine hd.out.mono ?_
          rintro e w5 ⟨q5, r5, rfl, -, hr5, hb5⟩
          have hy5 := Hy.out.below hb5
          have b5 := Below.go hb5 hbel
          clear hd hb5 Hy
          go_wp2_with fail
          go_roundg (p % gk)
          case measure => exact hlt
          case rel => exact ⟨gk, hy5, hr5, hq, hsz, hg'.out, b5⟩

set_option maxRecDepth 100000 in
set_option maxHeartbeats 1600000 in
theorem Gcd_any (v0 v1 : Value) (a b : Int) (w : World) (h0 : RawAt w v0 a) (h1 : RawAt w v1 b) : Calls Tryd.prog 28 #[v0, v1] w (RInt (Nat.gcd a.natAbs b.natAbs : Nat) w) := by
  have z0 := h0.sz
  have z1 := h1.sz
  obtain ⟨n0, s0, l0, rfl, a0, b0, c0, rfl⟩ := h0
  obtain ⟨n1, s1, l1, rfl, a1, b1, c1, rfl⟩ := h1
  rw [sg_natAbs] at z0 z1 ⊢
  rw [sg_natAbs]
  have t0 : ∀ W : World, At W .u64 s0 l0 → Calls Tryd.prog 38 #[s0] W (fun e w' => e = .returned (cutTo s0 (strip l0).length) ∧ w' = W) := fun W h => trim_val s0 l0 W h
  have t1 : ∀ W : World, At W .u64 s1 l1 → Calls Tryd.prog 38 #[s1] W (fun e w' => e = .returned (cutTo s1 (strip l1).length) ∧ w' = W) := fun W h => trim_val s1 l1 W h
  have T0 := hid t0; have T1 := hid t1; clear t0 t1
  have d0 := hid (strip_dig W2 b0)
  have d1 := hid (strip_dig W2 b1)
  go_enter Tryd.func28, Tryd.ntmps28
  go_wp2_with fail
  generalize hW : World.alloc (World.alloc (World.alloc w _) _) _ = W3
  have bw : Below w.heap.size w W3 := by rw [← hW]; exact ((below1 _ _).alloc (by simp) _).alloc (by simp; omega) _
  have hp : Pair W3 (w.heap.size + 1 + 1) 25 := by rw [← hW]; exact Pair.new2 ..
  obtain ⟨-, c01, -, c11, -⟩ : Two W3 w.heap.size (.bool n0) s0 (.bool n1) s1 := by rw [← hW]; exact (Two.new w _ _ _ _ _).below (below1 _ _)
  have z3 : w.heap.size + 3 ≤ W3.heap.size := by rw [← hW]; simp
  have A0 : ∀ W', Below W3.heap.size W3 W' → At W' .u64 (cutTo s0 (strip l0).length) (dig W (val W l0)) := fun W' h' => by have := ((a0.below bw).below h').strip; rwa [d0.out] at this ⊢
  have A1 : ∀ W', Below W3.heap.size W3 W' → At W' .u64 (cutTo s1 (strip l1).length) (dig W (val W l1)) := fun W' h' => by have := ((a1.below bw).below h').strip; rwa [d1.out] at this ⊢
  have HA0 := hid A0; have HA1 := hid A1; have bw' := hid bw; have a0' := hid (a0.below bw); have a1' := hid (a1.below bw)
  clear hW bw A0 A1 a0 a1
  generalize cutTo s0 (strip l0).length = u0 at *
  generalize cutTo s1 (strip l1).length = u1 at *
  generalize val W l0 = x at *
  generalize val W l1 = y at *
  clear d0 d1 b0 b1 c0 c1
  have hsg : Hid (sg false (Nat.gcd x y) = ((Nat.gcd x y : Nat) : Int)) := by unfold Hid sg; simp
  go_region_held3 (fun w' => w'.cell? ⟨w.heap.size, 1, none⟩ = some s0 ∧ w'.cell? ⟨w.heap.size + 1, 1, none⟩ = some s1 ∧ Pair w' (w.heap.size + 1 + 1) 25)
    (first | (go_split_ands; (try dsimp only); (repeat' apply And.intro) <;> first | assumption | exact Pair.drew ‹_› | exact Pair.below ‹_› hb9 | exact Pair.below ‹_› hb8 | exact Pair.below ‹_› hb7 | exact Pair.below ‹_› hb6 | exact Pair.below ‹_› hb5 | exact Pair.below ‹_› hb4 | exact Pair.below ‹_› hb3 | exact Pair.below ‹_› hb2 | exact Pair.below ‹_› hb1 | exact (hb9.cell (by first | omega | (simp; omega) | (simp; done))).trans ‹_› | exact (hb8.cell (by first | omega | (simp; omega) | (simp; done))).trans ‹_› | exact (hb7.cell (by first | omega | (simp; omega) | (simp; done))).trans ‹_› | exact (hb6.cell (by first | omega | (simp; omega) | (simp; done))).trans ‹_› | exact (hb5.cell (by first | omega | (simp; omega) | (simp; done))).trans ‹_› | exact (hb4.cell (by first | omega | (simp; omega) | (simp; done))).trans ‹_› | exact (hb3.cell (by first | omega | (simp; omega) | (simp; done))).trans ‹_› | exact (hb2.cell (by first | omega | (simp; omega) | (simp; done))).trans ‹_› | exact (hb1.cell (by first | omega | (simp; omega) | (simp; done))).trans ‹_› | exact Pair.set1 (Pair.set0 ‹_› _) _ _ _ | exact (cell_stored _ (by first | (dsimp only; omega) | (simp; done) | (simp; omega)) _ _).trans ‹_› | exact Pair.drew (Pair.below ‹_› (below1 _ _)) | exact Pair.below ‹_› (below1 _ _) | exact Pair.far ‹_› (by omega) hb1 | exact Pair.new .. | exact Pair.new1 .. | exact Pair.new2 .. | (go_keep; done)) | (go_keep; done))
    (first
      | (go_at_call_of 38 (s0); refine (T0.out _ a0'.out.drew).mono ?_; rintro e w' ⟨rfl, rfl⟩)
      | (go_at_call_of 38 (s1); refine (T1.out _ a1'.out.drew).mono ?_; rintro e w' ⟨rfl, rfl⟩)
      | (go_at_call 53; refine (common_any u0 u1 x y _ (HA0.out _ (Below.drew (Below.refl _ _))) (HA1.out _ (Below.drew (Below.refl _ _))) z0 z1).mono ?_; rintro e w1 ⟨v1, rfl, ho1, hb1⟩; have hz1 : w.heap.size + 3 ≤ w1.heap.size := (by have := hb1.size; simp at this; omega))
      | (go_at_call 39; refine (told_any false _ _ _ ho1).mono ?_; rintro e w2 ⟨v2, rfl, hi2, hb2⟩; obtain ⟨p2, n2, c2, rfl, hi2⟩ := hi2.shape; have hpr := Pair.below (by go_split_ands; assumption) hb2; obtain ⟨_, _, q0, q1, q2, q3⟩ := hpr.cells))
  go_wp2
  exact bodyPost_ret (v := .agg #[.bool (decide (sg false (Nat.gcd x y) < 0)), .slice p2 n2 c2]) (by simp [results, Tryd.results28, go_sem, q0, q1]) rfl
    ⟨_, rfl, by rw [← hsg.out]; exact hi2.stored hpr _ _ _ _, Below.stored ((bw'.out.drew.trans (hb1.mono (B' := w.heap.size) (by simp; omega))).trans (hb2.mono (B' := w.heap.size) (by omega))) (by omega) _ _⟩
end Go.Proofs.YtippcalhcnjghaaDoor
