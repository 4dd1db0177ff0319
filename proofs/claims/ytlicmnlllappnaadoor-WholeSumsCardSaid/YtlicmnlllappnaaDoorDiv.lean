/- whole.Div, given what whole.divide answers. -/
import Derived.Test.YtlicmnlllappnaaDoorDivSmall
namespace Go.Proofs.YtlicmnlllappnaaDoor
open Go.RowKit Big

def RDiv (q r : Int) (c : Int) (w : World) (e : Ending) (w' : World) : Prop := ∃ v v', e = .returned (.tuple #[v, v', .int .i64 c]) ∧ IntAt w' v q ∧ IntAt w' v' r ∧ Below w.heap.size w w'

theorem Pair.other {w : World} {g g' : Nat} {t : TypeId} (h : Pair w g t) (hne : g ≠ g') (j : Nat) (u : Value) : Pair (w.setCell ⟨g', j, none⟩ u) g t := by
  obtain ⟨x, p, n, c, hh⟩ := h
  exact ⟨x, p, n, c, (Below.heap_setCell w ⟨g', j, none⟩ u g hne).trans hh⟩
theorem cutTo_slice (p : Option Addr) (n c m : Nat) : cutTo (.slice p n c) m = .slice p m c := rfl
theorem sg_bne (n0 n1 : Bool) (x : Nat) : sg (n0 != n1) x = if n1 then -sg n0 x else sg n0 x := by unfold sg; cases n0 <;> cases n1 <;> simp
theorem div_pos_case {x y : Nat} (n1 : Bool) (_ : 0 < y) : (x : Int) / sg n1 y = sg (false != n1) (x / y) ∧ (x : Int) % sg n1 y = ((x % y : Nat) : Int) := by
  cases n1
  · simp [sg]
  · simp [sg, Int.ediv_neg, Int.emod_neg]
theorem div_neg_even {x y : Nat} (n1 : Bool) (hy : 0 < y) (h : x % y = 0) : (-(x : Int)) / sg n1 y = sg (true != n1) (x / y) ∧ (-(x : Int)) % sg n1 y = 0 := by
  have e : x = y * (x / y) := by have := Nat.div_add_mod x y; omega
  have key : (-(x : Int)) / (y : Int) = -((x / y : Nat) : Int) ∧ (-(x : Int)) % (y : Int) = 0 := by
    refine (Int.ediv_emod_unique (by omega)).2 ⟨?_, by omega, by omega⟩
    have : (x : Int) = (y : Int) * ((x / y : Nat) : Int) := by rw [← Int.natCast_mul, ← e]
    rw [Int.mul_neg, ← this]; omega
  cases n1
  · simpa [sg] using key
  · simp only [sg, if_true, Int.ediv_neg, Int.emod_neg, key.1, key.2]; simp
theorem div_neg_odd {x y : Nat} (n1 : Bool) (hy : 0 < y) (h : 0 < x % y) : (-(x : Int)) / sg n1 y = sg (true != n1) (x / y + 1) ∧ (-(x : Int)) % sg n1 y = ((y - x % y : Nat) : Int) := by
  have hlt := Nat.mod_lt x hy
  have e : (x : Int) = (y : Int) * ((x / y : Nat) : Int) + ((x % y : Nat) : Int) := by
    rw [← Int.natCast_mul, ← Int.natCast_add, Nat.div_add_mod]
  have key : (-(x : Int)) / (y : Int) = -((x / y + 1 : Nat) : Int) ∧ (-(x : Int)) % (y : Int) = ((y - x % y : Nat) : Int) := by
    refine (Int.ediv_emod_unique (by omega)).2 ⟨?_, by omega, by omega⟩
    rw [e]
    generalize x / y = q at *
    generalize x % y = r at *
    have : ((y - r : Nat) : Int) = (y : Int) - (r : Int) := by omega
    rw [this]
    push_cast
    grind
  cases n1
  · simpa [sg] using key
  · simp only [sg, if_true, Int.ediv_neg, Int.emod_neg, key.1, key.2]; simp

set_option maxRecDepth 100000 in
set_option maxHeartbeats 3200000 in
theorem Div_of (v0 v1 : Value) (a b : Int) (w : World) (h0 : RawAt w v0 a) (h1 : RawAt w v1 b) (hb0 : b ≠ 0)
    (hdiv : ∀ W' u u', At W' .u64 u (dig W a.natAbs) → At W' .u64 u' (dig W b.natAbs) → Calls Tryd.prog 50 #[u, u'] W' (RTwo (a.natAbs / b.natAbs) (a.natAbs % b.natAbs) W')) :
    Calls Tryd.prog 25 #[v0, v1] w (RDiv (a / b) (a % b) 0 w) := by
  obtain ⟨n0, s0, l0, rfl, a0, b0, c0, rfl⟩ := h0
  obtain ⟨n1, s1, l1, rfl, a1, b1, c1, rfl⟩ := h1
  rw [sg_natAbs, sg_natAbs] at hdiv
  have t0 : ∀ W : World, At W .u64 s0 l0 → Calls Tryd.prog 38 #[s0] W (fun e w' => e = .returned (cutTo s0 (strip l0).length) ∧ w' = W) := fun W h => trim_val s0 l0 W h
  have t1 : ∀ W : World, At W .u64 s1 l1 → Calls Tryd.prog 38 #[s1] W (fun e w' => e = .returned (cutTo s1 (strip l1).length) ∧ w' = W) := fun W h => trim_val s1 l1 W h
  have T0 := hid t0; have T1 := hid t1; have HD := hid hdiv
  have d0 := hid (strip_dig W2 b0)
  have d1 := hid (strip_dig W2 b1)
  have m0 : sz W (val W l0) ≤ 1099511627776 := Nat.le_trans (sz_val W2 b0) c0
  have m1 : sz W (val W l1) ≤ 1099511627776 := Nat.le_trans (sz_val W2 b1) c1
  obtain ⟨Q, hQ⟩ : ∃ Q, Q = sg n0 (val W l0) / sg n1 (val W l1) := ⟨_, rfl⟩
  obtain ⟨R, hR⟩ : ∃ R, R = sg n0 (val W l0) % sg n1 (val W l1) := ⟨_, rfl⟩
  rw [← hQ, ← hR]
  have HQ := hid hQ; have HR := hid hR
  have hy : 0 < val W l1 := Nat.pos_of_ne_zero fun e => hb0 (by rw [e, sg_zero])
  clear t0 t1 hdiv hQ hR hb0
  obtain ⟨p1, k1, rfl, -⟩ := id a1
  go_enter Tryd.func25, Tryd.ntmps25
  go_wp2_with fail
  go_quiet ((first
    | (go_at_call_of 38 (s0); exact Calls.quiet_of_same (T0.out _ (by repeat (first | exact a0 | apply At.drewN | apply At.drew | apply At.alloc))))
    | (go_at_call 38; exact Calls.quiet_of_same (T1.out _ (by repeat (first | exact a1 | apply At.drewN | apply At.drew | apply At.alloc))))))
  generalize hW : World.drewN (World.alloc (World.alloc (World.alloc (World.alloc w _) _) _) _) _ = W3
  have bw : Below w.heap.size w W3 := by rw [← hW]; exact below_drewN ((((below1 _ _).alloc (by simp) _).alloc (by simp; omega) _).alloc (by simp; omega) _) _
  have hp : Pair W3 (w.heap.size + 1 + 1) 25 := by rw [← hW]; exact Pair.below (Pair.new2 ..) (below_drewN (below1 _ _) _)
  have hp' : Pair W3 (w.heap.size + 1 + 1 + 1) 25 := by rw [← hW]; exact Pair.new3 ..
  have tw : Two W3 w.heap.size (.bool n0) s0 (.bool n1) (.slice p1 l1.length k1) := by
    rw [← hW]; exact (Two.new w _ _ _ _ _).below (below_drewN ((below1 _ _).alloc (by simp) _) _)
  have z3 : w.heap.size + 4 ≤ W3.heap.size := by rw [← hW]; simp
  have A0 : At W3 .u64 (cutTo s0 (strip l0).length) (dig W (val W l0)) := by have := (a0.below bw).strip; rwa [d0.out] at this ⊢
  have A1 : At W3 .u64 (cutTo (.slice p1 l1.length k1) (strip l1).length) (dig W (val W l1)) := by have := (a1.below bw).strip; rwa [d1.out] at this ⊢
  have bw' := hid bw
  have hlen : ((strip l1).length : Nat) ≠ 0 := by rw [d1.out]; exact fun e => by have := (sz_eq_zero W2).1 (show sz W _ = 0 from e); omega
  have hlb : (((strip l1).length : Int) == 0) = false := beq_eq_false_iff_ne.2 (by omega)
  simp only [cutTo_slice] at A1 ⊢
  generalize cutTo s0 (strip l0).length = u0 at *
  generalize (strip l1).length = len1 at *
  generalize val W l0 = x at *
  generalize val W l1 = y at *
  clear hW bw T0 T1 a0 a1 d0 d1 b0 b1 c0 c1 hlen
  go_wp2_with fail
  refine (HD.out W3 _ _ A0 A1).mono ?_
  rintro e W4 ⟨q, r, rfl, hq, hr, hb4⟩
  have tw4 := tw.below hb4
  have hp4 := hp.below hb4
  have hp4' := hp'.below hb4
  have A1' := A1.below hb4
  have bw4 := hid (bw'.out.trans (hb4.mono (B' := w.heap.size) (by omega)))
  have z4 : w.heap.size + 4 ≤ W4.heap.size := Nat.le_trans z3 hb4.size
  clear HD A0 A1 tw hp hp' hb4 bw' z3
  have hsq : sz W (x / y) ≤ 1099511627776 := Nat.le_trans (sz_mono W2 (Nat.div_le_self x y)) m0
  obtain ⟨pr, cr, rfl, -⟩ := id hr
  cases n0
  · obtain ⟨c00, -, c10, -, -⟩ := id tw4
    have EQ : Q = sg n1 (x / y) := by rw [HQ.out]; have := (div_pos_case (x := x) n1 hy).1; simpa [sg] using this
    have ER : R = sg false (x % y) := by rw [HR.out]; have := (div_pos_case (x := x) n1 hy).2; simpa [sg] using this
    have HEQ := hid EQ; have HER := hid ER
    clear EQ ER HQ HR
    go_wp2_with fail
    refine (told_any n1 _ (x / y) _ hq).mono ?_
    rintro e W6 ⟨v6, rfl, hi6, hb6⟩
    have hr6 := hr.below hb6
    have z6 : w.heap.size + 4 ≤ W6.heap.size := Nat.le_trans z4 hb6.size
    go_wp2_with fail
    refine (told_any false _ (x % y) _ hr6).mono ?_
    rintro e W7 ⟨v7, rfl, hi7, hb7⟩
    obtain ⟨p6, n6, c6, rfl, hi6'⟩ := (hi6.below hb7).shape
    obtain ⟨p7, n7, c7, rfl, hi7'⟩ := hi7.shape
    have hpA := (hp4.below hb6).below hb7
    have hpB := (hp4'.below hb6).below hb7
    obtain ⟨_, _, q0, q1, q2, q3⟩ := hpA.cells
    obtain ⟨_, _, r0, r1, r2, r3⟩ := hpB.cells
    have bw7 : Below w.heap.size w W7 := (bw4.out.trans (hb6.mono (B' := w.heap.size) (by omega))).trans (hb7.mono (B' := w.heap.size) (by omega))
    have Hi6 := hid hi6'; have Hi7 := hid hi7'
    clear hi6' hi7' hi6 hi7 hb6 hb7 hr6 tw4 hp4 hp4' hq hr
    go_wp2
    have hpB' := (hpB.other (g' := w.heap.size + 1 + 1) (by omega) 0 (.bool (decide (sg n1 (x / y) < 0)))).other (g' := w.heap.size + 1 + 1) (by omega) 1 (.slice p6 n6 c6)
    exact bodyPost_ret (v := .tuple #[.agg #[.bool (decide (sg n1 (x / y) < 0)), .slice p6 n6 c6], .agg #[.bool (decide (sg false (x % y) < 0)), .slice p7 n7 c7], .int .i64 0])
      (by simp [results, Tryd.results25, go_sem, q0, q1, r0, r1]) rfl
      ⟨_, _, rfl, by rw [HEQ.out]; exact (Hi6.out.stored hpA _ _ _ _).stored hpB' _ _ _ _, by rw [HER.out]; exact (Hi7.out.stored hpA _ _ _ _).stored hpB' _ _ _ _,
        Below.stored (Below.stored bw7 (by omega) _ _) (by omega) _ _⟩
  · obtain ⟨c00, -, c10, -, -⟩ := id tw4
    by_cases hr0 : x % y = 0
    · have EQ : Q = sg (!n1) (x / y) := by rw [HQ.out]; have := (div_neg_even n1 hy hr0).1; simpa [sg] using this
      have ER : R = sg false (x % y) := by rw [HR.out, hr0]; have := (div_neg_even n1 hy hr0).2; simpa [sg] using this
      have HEQ := hid EQ; have HER := hid ER
      have hl0 : (dig W (x % y)).length = 0 := by rw [hr0]; rfl
      rw [hl0] at hr ⊢
      clear EQ ER HQ HR hl0 hr0
      go_wp2_with fail
      refine (told_any (!n1) _ (x / y) _ hq).mono ?_
      rintro e W6 ⟨v6, rfl, hi6, hb6⟩
      have hr6 := hr.below hb6
      have z6 : w.heap.size + 4 ≤ W6.heap.size := Nat.le_trans z4 hb6.size
      go_wp2_with fail
      refine (told_any false _ (x % y) _ hr6).mono ?_
      rintro e W7 ⟨v7, rfl, hi7, hb7⟩
      obtain ⟨p6, n6, c6, rfl, hi6'⟩ := (hi6.below hb7).shape
      obtain ⟨p7, n7, c7, rfl, hi7'⟩ := hi7.shape
      have hpA := (hp4.below hb6).below hb7
      have hpB := (hp4'.below hb6).below hb7
      obtain ⟨_, _, q0, q1, q2, q3⟩ := hpA.cells
      obtain ⟨_, _, r0, r1, r2, r3⟩ := hpB.cells
      have bw7 : Below w.heap.size w W7 := (bw4.out.trans (hb6.mono (B' := w.heap.size) (by omega))).trans (hb7.mono (B' := w.heap.size) (by omega))
      have Hi6 := hid hi6'; have Hi7 := hid hi7'
      clear hi6' hi7' hi6 hi7 hb6 hb7 hr6 tw4 hp4 hp4' hq hr
      go_wp2
      have hpB' := (hpB.other (g' := w.heap.size + 1 + 1) (by omega) 0 (.bool (decide (sg (!n1) (x / y) < 0)))).other (g' := w.heap.size + 1 + 1) (by omega) 1 (.slice p6 n6 c6)
      exact bodyPost_ret (v := .tuple #[.agg #[.bool (decide (sg (!n1) (x / y) < 0)), .slice p6 n6 c6], .agg #[.bool (decide (sg false (x % y) < 0)), .slice p7 n7 c7], .int .i64 0])
        (by simp [results, Tryd.results25, go_sem, q0, q1, r0, r1]) rfl
        ⟨_, _, rfl, by rw [HEQ.out]; exact (Hi6.out.stored hpA _ _ _ _).stored hpB' _ _ _ _, by rw [HER.out]; exact (Hi7.out.stored hpA _ _ _ _).stored hpB' _ _ _ _,
          Below.stored (Below.stored bw7 (by omega) _ _) (by omega) _ _⟩
    · have EQ : Q = sg (!n1) (x / y + 1) := by rw [HQ.out]; have := (div_neg_odd n1 hy (Nat.pos_of_ne_zero hr0)).1; simpa [sg] using this
      have ER : R = sg false (y - x % y) := by rw [HR.out]; have := (div_neg_odd n1 hy (Nat.pos_of_ne_zero hr0)).2; simpa [sg] using this
      have HEQ := hid EQ; have HER := hid ER
      have hl0 : 0 < (dig W (x % y)).length := Nat.pos_of_ne_zero fun e => hr0 ((sz_eq_zero W2).1 e)
      have hd1 : dig W 1 = [1] := dig_one W2 (by decide) (by decide)
      have hlt := Nat.mod_lt x hy
      have HR' := hid hr
      have hpl : ∀ W', Calls Tryd.prog 40 #[q, .slice (some ⟨World.heap W' |>.size, 0, none⟩) 1 1] (W'.alloc (.cells #[.int .u64 1] 59)) (ROwn 59 .u64 (dig W (x / y + 1)) (W'.alloc (.cells #[.int .u64 1] 59))) ∨ ¬ At W' .u64 q (dig W (x / y)) := fun W' => by
        by_cases h : At W' .u64 q (dig W (x / y))
        · left
          exact plus_any q _ (x / y) 1 _ (h.alloc _) (by rw [hd1]; exact At.oneI W' .u64 1 1 _ rfl) hsq (by rw [show sz W 1 = 1 by unfold sz; rw [hd1]; rfl]; omega)
        · right; exact h
      have Hpl : Hid (Calls Tryd.prog 40 #[q, .slice (some ⟨World.heap W4 |>.size, 0, none⟩) 1 1] (W4.alloc (.cells #[.int .u64 1] 59)) (ROwn 59 .u64 (dig W (x / y + 1)) (W4.alloc (.cells #[.int .u64 1] 59)))) := (hpl W4).resolve_right (fun h => h hq)
      clear EQ ER HQ HR hpl hd1
      generalize (dig W (x % y)).length = lr at *
      go_wp2_with fail
      refine Hpl.out.mono ?_
      rintro e W5 ⟨q5, rfl, ho5, hb5⟩
      have b45 : Below W4.heap.size W4 W5 := (below1 _ _).trans (hb5.mono (B' := W4.heap.size) (by simp))
      have tw5 := tw4.below b45
      have z5 : w.heap.size + 4 ≤ W5.heap.size := Nat.le_trans z4 b45.size
      clear hb5 c00 c10
      go_wp2_with fail
      refine (minus_any _ _ y (x % y) _ (A1'.below b45) (HR'.out.below b45) (Nat.le_of_lt hlt) m1).mono ?_
      rintro e W5' ⟨r5, rfl, hr5, hb5'⟩
      have hq5 := ho5.at.below hb5'
      obtain ⟨c00, -, c10, -, z5'⟩ := tw5.below hb5'
      have hp5 := (hp4.below b45).below hb5'
      have hp5' := (hp4'.below b45).below hb5'
      have bw5 := hid ((bw4.out.trans (b45.mono (B' := w.heap.size) (by omega))).trans (hb5'.mono (B' := w.heap.size) (by omega)))
      have z55 : w.heap.size + 4 ≤ W5'.heap.size := Nat.le_trans z5 hb5'.size
      clear ho5 b45 tw5 hb5' A1' HR'
      go_wp2_with fail
      refine (told_any (!n1) _ (x / y + 1) _ hq5).mono ?_
      rintro e W6 ⟨v6, rfl, hi6, hb6⟩
      have hr6 := hr5.below hb6
      have z6 : w.heap.size + 4 ≤ W6.heap.size := Nat.le_trans z55 hb6.size
      go_wp2_with fail
      refine (told_any false _ (y - x % y) _ hr6).mono ?_
      rintro e W7 ⟨v7, rfl, hi7, hb7⟩
      obtain ⟨p6, n6, c6, rfl, hi6'⟩ := (hi6.below hb7).shape
      obtain ⟨p7, n7, c7, rfl, hi7'⟩ := hi7.shape
      have hpA := (hp5.below hb6).below hb7
      have hpB := (hp5'.below hb6).below hb7
      obtain ⟨_, _, q0, q1, q2, q3⟩ := hpA.cells
      obtain ⟨_, _, r0, r1, r2, r3⟩ := hpB.cells
      have bw7 : Below w.heap.size w W7 := (bw5.out.trans (hb6.mono (B' := w.heap.size) (by omega))).trans (hb7.mono (B' := w.heap.size) (by omega))
      have Hi6 := hid hi6'; have Hi7 := hid hi7'
      clear hi6' hi7' hi6 hi7 hb6 hb7 hr6 tw4 hp4 hp4' hq hr
      go_wp2
      have hpB' := (hpB.other (g' := w.heap.size + 1 + 1) (by omega) 0 (.bool (decide (sg (!n1) (x / y + 1) < 0)))).other (g' := w.heap.size + 1 + 1) (by omega) 1 (.slice p6 n6 c6)
      exact bodyPost_ret (v := .tuple #[.agg #[.bool (decide (sg (!n1) (x / y + 1) < 0)), .slice p6 n6 c6], .agg #[.bool (decide (sg false (y - x % y) < 0)), .slice p7 n7 c7], .int .i64 0])
        (by simp [results, Tryd.results25, go_sem, q0, q1, r0, r1]) rfl
        ⟨_, _, rfl, by rw [HEQ.out]; exact (Hi6.out.stored hpA _ _ _ _).stored hpB' _ _ _ _, by rw [HER.out]; exact (Hi7.out.stored hpA _ _ _ _).stored hpB' _ _ _ _,
          Below.stored (Below.stored bw7 (by omega) _ _) (by omega) _ _⟩
end Go.Proofs.YtlicmnlllappnaaDoor
