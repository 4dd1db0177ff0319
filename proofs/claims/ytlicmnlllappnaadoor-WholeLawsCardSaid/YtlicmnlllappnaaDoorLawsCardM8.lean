/- Texts put together: Div, DivHalves, Gcd, DivZero, Few3, Tens. -/
import Derived.Test.YtlicmnlllappnaaDoorLawsCardM7
import Derived.Deep.RegionHeld3
import Derived.Deep.AppendLies
/- whole.Div, given what whole.divide answers. -/
namespace Go.Proofs.YtlicmnlllappnaaDoor
open Go.RowKit Big

def RDiv (q r : Int) (c : Int) (w : World) (e : Ending) (w' : World) : Prop := ∃ v v', e = .returned (.tuple #[v, v', .int .i64 c]) ∧ IntAt w' v q ∧ IntAt w' v' r ∧ Below w.heap.size w w'

theorem Pair.other {w : World} {g g' : Nat} {t : TypeId} (h : Pair w g t) (hne : g ≠ g') (j : Nat) (u : Value) : Pair (w.setCell ⟨g', j, none⟩ u) g t := by
  obtain ⟨x, p, n, c, hh⟩ := h
  exact ⟨x, p, n, c, (Below.heap_setCell w ⟨g', j, none⟩ u g hne).trans hh⟩
theorem cutTo_slice (p : Option Addr) (n c m : Nat) : cutTo (.slice p n c) m = .slice p m c := rfl
theorem sg_bne (n0 n1 : Bool) (x : Nat) : sg (n0 != n1) x = if n1 then -sg n0 x else sg n0 x := by unfold sg; cases n0 <;> cases n1 <;> simp
theorem div_pos_case {x y : Nat} (n1 : Bool) (_ : 0 < y) : (x : Int) / sg n1 y = sg (false != n1) (x / y) ∧ (x : Int) % sg n1 y = ((x % y : Nat) : Int) := by
  cases n1
  · simp [sg]
  · simp [sg, Int.ediv_neg, Int.emod_neg]
theorem div_neg_even {x y : Nat} (n1 : Bool) (hy : 0 < y) (h : x % y = 0) : (-(x : Int)) / sg n1 y = sg (true != n1) (x / y) ∧ (-(x : Int)) % sg n1 y = 0 := by
  have e : x = y * (x / y) := by have := Nat.div_add_mod x y; omega
  have key : (-(x : Int)) / (y : Int) = -((x / y : Nat) : Int) ∧ (-(x : Int)) % (y : Int) = 0 := by
    refine (Int.ediv_emod_unique (by omega)).2 ⟨?_, by omega, by omega⟩
    have : (x : Int) = (y : Int) * ((x / y : Nat) : Int) := by rw [← Int.natCast_mul, ← e]
    rw [Int.mul_neg, ← this]; omega
  cases n1
  · simpa [sg] using key
  · simp only [sg, if_true, Int.ediv_neg, Int.emod_neg, key.1, key.2]; simp
theorem div_neg_odd {x y : Nat} (n1 : Bool) (hy : 0 < y) (h : 0 < x % y) : (-(x : Int)) / sg n1 y = sg (true != n1) (x / y + 1) ∧ (-(x : Int)) % sg n1 y = ((y - x % y : Nat) : Int) := by
  have hlt := Nat.mod_lt x hy
  have e : (x : Int) = (y : Int) * ((x / y : Nat) : Int) + ((x % y : Nat) : Int) := by
    rw [← Int.natCast_mul, ← Int.natCast_add, Nat.div_add_mod]
  have key : (-(x : Int)) / (y : Int) = -((x / y + 1 : Nat) : Int) ∧ (-(x : Int)) % (y : Int) = ((y - x % y : Nat) : Int) := by
    refine (Int.ediv_emod_unique (by omega)).2 ⟨?_, by omega, by omega⟩
    rw [e]
    generalize x / y = q at *
    generalize x % y = r at *
    have : ((y - r : Nat) : Int) = (y : Int) - (r : Int) := by omega
    rw [this]
    push_cast
    grind
  cases n1
  · simpa [sg] using key
  · simp only [sg, if_true, Int.ediv_neg, Int.emod_neg, key.1, key.2]; simp

set_option maxRecDepth 100000 in
set_option maxHeartbeats 3200000 in
theorem Div_of (v0 v1 : Value) (a b : Int) (w : World) (h0 : RawAt w v0 a) (h1 : RawAt w v1 b) (hb0 : b ≠ 0)
    (hdiv : ∀ W' u u', At W' .u64 u (dig W a.natAbs) → At W' .u64 u' (dig W b.natAbs) → Calls Tryd.prog 50 #[u, u'] W' (RTwo (a.natAbs / b.natAbs) (a.natAbs % b.natAbs) W')) :
    Calls Tryd.prog 25 #[v0, v1] w (RDiv (a / b) (a % b) 0 w) := by
  obtain ⟨n0, s0, l0, rfl, a0, b0, c0, rfl⟩ := h0
  obtain ⟨n1, s1, l1, rfl, a1, b1, c1, rfl⟩ := h1
  rw [sg_natAbs, sg_natAbs] at hdiv
  have t0 : ∀ W : World, At W .u64 s0 l0 → Calls Tryd.prog 38 #[s0] W (fun e w' => e = .returned (cutTo s0 (strip l0).length) ∧ w' = W) := fun W h => trim_val s0 l0 W h
  have t1 : ∀ W : World, At W .u64 s1 l1 → Calls Tryd.prog 38 #[s1] W (fun e w' => e = .returned (cutTo s1 (strip l1).length) ∧ w' = W) := fun W h => trim_val s1 l1 W h
  have T0 := hid t0; have T1 := hid t1; have HD := hid hdiv
  have d0 := hid (strip_dig W2 b0)
  have d1 := hid (strip_dig W2 b1)
  have m0 : sz W (val W l0) ≤ 1099511627776 := Nat.le_trans (sz_val W2 b0) c0
  have m1 : sz W (val W l1) ≤ 1099511627776 := Nat.le_trans (sz_val W2 b1) c1
  obtain ⟨Q, hQ⟩ : ∃ Q, Q = sg n0 (val W l0) / sg n1 (val W l1) := ⟨_, rfl⟩
  obtain ⟨R, hR⟩ : ∃ R, R = sg n0 (val W l0) % sg n1 (val W l1) := ⟨_, rfl⟩
  rw [← hQ, ← hR]
  have HQ := hid hQ; have HR := hid hR
  have hy : 0 < val W l1 := Nat.pos_of_ne_zero fun e => hb0 (by rw [e, sg_zero])
  clear t0 t1 hdiv hQ hR hb0
  obtain ⟨p1, k1, rfl, -⟩ := id a1
  go_enter Tryd.func25, Tryd.ntmps25
  go_wp2_with fail
  go_quiet ((first
    | (go_at_call_of 38 (s0); exact Calls.quiet_of_same (T0.out _ (by repeat (first | exact a0 | apply At.drewN | apply At.drew | apply At.alloc))))
    | (go_at_call 38; exact Calls.quiet_of_same (T1.out _ (by repeat (first | exact a1 | apply At.drewN | apply At.drew | apply At.alloc))))))
  generalize hW : World.drewN (World.alloc (World.alloc (World.alloc (World.alloc w _) _) _) _) _ = W3
  have bw : Below w.heap.size w W3 := by rw [← hW]; exact below_drewN ((((below1 _ _).alloc (by simp) _).alloc (by simp; omega) _).alloc (by simp; omega) _) _
  have hp : Pair W3 (w.heap.size + 1 + 1) 25 := by rw [← hW]; exact Pair.below (Pair.new2 ..) (below_drewN (below1 _ _) _)
  have hp' : Pair W3 (w.heap.size + 1 + 1 + 1) 25 := by rw [← hW]; exact Pair.new3 ..
  have tw : Two W3 w.heap.size (.bool n0) s0 (.bool n1) (.slice p1 l1.length k1) := by
    rw [← hW]; exact (Two.new w _ _ _ _ _).below (below_drewN ((below1 _ _).alloc (by simp) _) _)
  have z3 : w.heap.size + 4 ≤ W3.heap.size := by rw [← hW]; simp
  have A0 : At W3 .u64 (cutTo s0 (strip l0).length) (dig W (val W l0)) := by have := (a0.below bw).strip; rwa [d0.out] at this ⊢
  have A1 : At W3 .u64 (cutTo (.slice p1 l1.length k1) (strip l1).length) (dig W (val W l1)) := by have := (a1.below bw).strip; rwa [d1.out] at this ⊢
  have bw' := hid bw
  have hlen : ((strip l1).length : Nat) ≠ 0 := by rw [d1.out]; exact fun e => by have := (sz_eq_zero W2).1 (show sz W _ = 0 from e); omega
  have hlb : (((strip l1).length : Int) == 0) = false := beq_eq_false_iff_ne.2 (by omega)
  simp only [cutTo_slice] at A1 ⊢
  generalize cutTo s0 (strip l0).length = u0 at *
  generalize (strip l1).length = len1 at *
  generalize val W l0 = x at *
  generalize val W l1 = y at *
  clear hW bw T0 T1 a0 a1 d0 d1 b0 b1 c0 c1 hlen
  go_wp2_with fail
  refine (HD.out W3 _ _ A0 A1).mono ?_
  rintro e W4 ⟨q, r, rfl, hq, hr, hb4⟩
  have tw4 := tw.below hb4
  have hp4 := hp.below hb4
  have hp4' := hp'.below hb4
  have A1' := A1.below hb4
  have bw4 := hid (bw'.out.trans (hb4.mono (B' := w.heap.size) (by omega)))
  have z4 : w.heap.size + 4 ≤ W4.heap.size := Nat.le_trans z3 hb4.size
  clear HD A0 A1 tw hp hp' hb4 bw' z3
  have hsq : sz W (x / y) ≤ 1099511627776 := Nat.le_trans (sz_mono W2 (Nat.div_le_self x y)) m0
  obtain ⟨pr, cr, rfl, -⟩ := id hr
  cases n0
  · obtain ⟨c00, -, c10, -, -⟩ := id tw4
    have EQ : Q = sg n1 (x / y) := by rw [HQ.out]; have := (div_pos_case (x := x) n1 hy).1; simpa [sg] using this
    have ER : R = sg false (x % y) := by rw [HR.out]; have := (div_pos_case (x := x) n1 hy).2; simpa [sg] using this
    have HEQ := hid EQ; have HER := hid ER
    clear EQ ER HQ HR
    go_wp2_with fail
    refine (told_any n1 _ (x / y) _ hq).mono ?_
    rintro e W6 ⟨v6, rfl, hi6, hb6⟩
    have hr6 := hr.below hb6
    have z6 : w.heap.size + 4 ≤ W6.heap.size := Nat.le_trans z4 hb6.size
    go_wp2_with fail
    refine (told_any false _ (x % y) _ hr6).mono ?_
    rintro e W7 ⟨v7, rfl, hi7, hb7⟩
    obtain ⟨p6, n6, c6, rfl, hi6'⟩ := (hi6.below hb7).shape
    obtain ⟨p7, n7, c7, rfl, hi7'⟩ := hi7.shape
    have hpA := (hp4.below hb6).below hb7
    have hpB := (hp4'.below hb6).below hb7
    obtain ⟨_, _, q0, q1, q2, q3⟩ := hpA.cells
    obtain ⟨_, _, r0, r1, r2, r3⟩ := hpB.cells
    have bw7 : Below w.heap.size w W7 := (bw4.out.trans (hb6.mono (B' := w.heap.size) (by omega))).trans (hb7.mono (B' := w.heap.size) (by omega))
    have Hi6 := hid hi6'; have Hi7 := hid hi7'
    clear hi6' hi7' hi6 hi7 hb6 hb7 hr6 tw4 hp4 hp4' hq hr
    go_wp2
    have hpB' := (hpB.other (g' := w.heap.size + 1 + 1) (by omega) 0 (.bool (decide (sg n1 (x / y) < 0)))).other (g' := w.heap.size + 1 + 1) (by omega) 1 (.slice p6 n6 c6)
    exact bodyPost_ret (v := .tuple #[.agg #[.bool (decide (sg n1 (x / y) < 0)), .slice p6 n6 c6], .agg #[.bool (decide (sg false (x % y) < 0)), .slice p7 n7 c7], .int .i64 0])
      (by simp [results, Tryd.results25, go_sem, q0, q1, r0, r1]) rfl
      ⟨_, _, rfl, by rw [HEQ.out]; exact (Hi6.out.stored hpA _ _ _ _).stored hpB' _ _ _ _, by rw [HER.out]; exact (Hi7.out.stored hpA _ _ _ _).stored hpB' _ _ _ _,
        Below.stored (Below.stored bw7 (by omega) _ _) (by omega) _ _⟩
  · obtain ⟨c00, -, c10, -, -⟩ := id tw4
    by_cases hr0 : x % y = 0
    · have EQ : Q = sg (!n1) (x / y) := by rw [HQ.out]; have := (div_neg_even n1 hy hr0).1; simpa [sg] using this
      have ER : R = sg false (x % y) := by rw [HR.out, hr0]; have := (div_neg_even n1 hy hr0).2; simpa [sg] using this
      have HEQ := hid EQ; have HER := hid ER
      have hl0 : (dig W (x % y)).length = 0 := by rw [hr0]; rfl
      rw [hl0] at hr ⊢
      clear EQ ER HQ HR hl0 hr0
      go_wp2_with fail
      refine (told_any (!n1) _ (x / y) _ hq).mono ?_
      rintro e W6 ⟨v6, rfl, hi6, hb6⟩
      have hr6 := hr.below hb6
      have z6 : w.heap.size + 4 ≤ W6.heap.size := Nat.le_trans z4 hb6.size
      go_wp2_with fail
      refine (told_any false _ (x % y) _ hr6).mono ?_
      rintro e W7 ⟨v7, rfl, hi7, hb7⟩
      obtain ⟨p6, n6, c6, rfl, hi6'⟩ := (hi6.below hb7).shape
      obtain ⟨p7, n7, c7, rfl, hi7'⟩ := hi7.shape
      have hpA := (hp4.below hb6).below hb7
      have hpB := (hp4'.below hb6).below hb7
      obtain ⟨_, _, q0, q1, q2, q3⟩ := hpA.cells
      obtain ⟨_, _, r0, r1, r2, r3⟩ := hpB.cells
      have bw7 : Below w.heap.size w W7 := (bw4.out.trans (hb6.mono (B' := w.heap.size) (by omega))).trans (hb7.mono (B' := w.heap.size) (by omega))
      have Hi6 := hid hi6'; have Hi7 := hid hi7'
      clear hi6' hi7' hi6 hi7 hb6 hb7 hr6 tw4 hp4 hp4' hq hr
      go_wp2
      have hpB' := (hpB.other (g' := w.heap.size + 1 + 1) (by omega) 0 (.bool (decide (sg (!n1) (x / y) < 0)))).other (g' := w.heap.size + 1 + 1) (by omega) 1 (.slice p6 n6 c6)
      exact bodyPost_ret (v := .tuple #[.agg #[.bool (decide (sg (!n1) (x / y) < 0)), .slice p6 n6 c6], .agg #[.bool (decide (sg false (x % y) < 0)), .slice p7 n7 c7], .int .i64 0])
        (by simp [results, Tryd.results25, go_sem, q0, q1, r0, r1]) rfl
        ⟨_, _, rfl, by rw [HEQ.out]; exact (Hi6.out.stored hpA _ _ _ _).stored hpB' _ _ _ _, by rw [HER.out]; exact (Hi7.out.stored hpA _ _ _ _).stored hpB' _ _ _ _,
          Below.stored (Below.stored bw7 (by omega) _ _) (by omega) _ _⟩
    · have EQ : Q = sg (!n1) (x / y + 1) := by rw [HQ.out]; have := (div_neg_odd n1 hy (Nat.pos_of_ne_zero hr0)).1; simpa [sg] using this
      have ER : R = sg false (y - x % y) := by rw [HR.out]; have := (div_neg_odd n1 hy (Nat.pos_of_ne_zero hr0)).2; simpa [sg] using this
      have HEQ := hid EQ; have HER := hid ER
      have hl0 : 0 < (dig W (x % y)).length := Nat.pos_of_ne_zero fun e => hr0 ((sz_eq_zero W2).1 e)
      have hd1 : dig W 1 = [1] := dig_one W2 (by decide) (by decide)
      have hlt := Nat.mod_lt x hy
      have HR' := hid hr
      have hpl : ∀ W', Calls Tryd.prog 40 #[q, .slice (some ⟨World.heap W' |>.size, 0, none⟩) 1 1] (W'.alloc (.cells #[.int .u64 1] 59)) (ROwn 59 .u64 (dig W (x / y + 1)) (W'.alloc (.cells #[.int .u64 1] 59))) ∨ ¬ At W' .u64 q (dig W (x / y)) := fun W' => by
        by_cases h : At W' .u64 q (dig W (x / y))
        · left
          exact plus_any q _ (x / y) 1 _ (h.alloc _) (by rw [hd1]; exact At.oneI W' .u64 1 1 _ rfl) hsq (by rw [show sz W 1 = 1 by unfold sz; rw [hd1]; rfl]; omega)
        · right; exact h
      have Hpl : Hid (Calls Tryd.prog 40 #[q, .slice (some ⟨World.heap W4 |>.size, 0, none⟩) 1 1] (W4.alloc (.cells #[.int .u64 1] 59)) (ROwn 59 .u64 (dig W (x / y + 1)) (W4.alloc (.cells #[.int .u64 1] 59)))) := (hpl W4).resolve_right (fun h => h hq)
      clear EQ ER HQ HR hpl hd1
      generalize (dig W (x % y)).length = lr at *
      go_wp2_with fail
      refine Hpl.out.mono ?_
      rintro e W5 ⟨q5, rfl, ho5, hb5⟩
      have b45 : Below W4.heap.size W4 W5 := (below1 _ _).trans (hb5.mono (B' := W4.heap.size) (by simp))
      have tw5 := tw4.below b45
      have z5 : w.heap.size + 4 ≤ W5.heap.size := Nat.le_trans z4 b45.size
      clear hb5 c00 c10
      go_wp2_with fail
      refine (minus_any _ _ y (x % y) _ (A1'.below b45) (HR'.out.below b45) (Nat.le_of_lt hlt) m1).mono ?_
      rintro e W5' ⟨r5, rfl, hr5, hb5'⟩
      have hq5 := ho5.at.below hb5'
      obtain ⟨c00, -, c10, -, z5'⟩ := tw5.below hb5'
      have hp5 := (hp4.below b45).below hb5'
      have hp5' := (hp4'.below b45).below hb5'
      have bw5 := hid ((bw4.out.trans (b45.mono (B' := w.heap.size) (by omega))).trans (hb5'.mono (B' := w.heap.size) (by omega)))
      have z55 : w.heap.size + 4 ≤ W5'.heap.size := Nat.le_trans z5 hb5'.size
      clear ho5 b45 tw5 hb5' A1' HR'
      go_wp2_with fail
      refine (told_any (!n1) _ (x / y + 1) _ hq5).mono ?_
      rintro e W6 ⟨v6, rfl, hi6, hb6⟩
      have hr6 := hr5.below hb6
      have z6 : w.heap.size + 4 ≤ W6.heap.size := Nat.le_trans z55 hb6.size
      go_wp2_with fail
      refine (told_any false _ (y - x % y) _ hr6).mono ?_
      rintro e W7 ⟨v7, rfl, hi7, hb7⟩
      obtain ⟨p6, n6, c6, rfl, hi6'⟩ := (hi6.below hb7).shape
      obtain ⟨p7, n7, c7, rfl, hi7'⟩ := hi7.shape
      have hpA := (hp5.below hb6).below hb7
      have hpB := (hp5'.below hb6).below hb7
      obtain ⟨_, _, q0, q1, q2, q3⟩ := hpA.cells
      obtain ⟨_, _, r0, r1, r2, r3⟩ := hpB.cells
      have bw7 : Below w.heap.size w W7 := (bw5.out.trans (hb6.mono (B' := w.heap.size) (by omega))).trans (hb7.mono (B' := w.heap.size) (by omega))
      have Hi6 := hid hi6'; have Hi7 := hid hi7'
      clear hi6' hi7' hi6 hi7 hb6 hb7 hr6 tw4 hp4 hp4' hq hr
      go_wp2
      have hpB' := (hpB.other (g' := w.heap.size + 1 + 1) (by omega) 0 (.bool (decide (sg (!n1) (x / y + 1) < 0)))).other (g' := w.heap.size + 1 + 1) (by omega) 1 (.slice p6 n6 c6)
      exact bodyPost_ret (v := .tuple #[.agg #[.bool (decide (sg (!n1) (x / y + 1) < 0)), .slice p6 n6 c6], .agg #[.bool (decide (sg false (y - x % y) < 0)), .slice p7 n7 c7], .int .i64 0])
        (by simp [results, Tryd.results25, go_sem, q0, q1, r0, r1]) rfl
        ⟨_, _, rfl, by rw [HEQ.out]; exact (Hi6.out.stored hpA _ _ _ _).stored hpB' _ _ _ _, by rw [HER.out]; exact (Hi7.out.stored hpA _ _ _ _).stored hpB' _ _ _ _,
          Below.stored (Below.stored bw7 (by omega) _ _) (by omega) _ _⟩
end Go.Proofs.YtlicmnlllappnaaDoor
/- whole.divideHalves, whole.divide, whole.Div. -/
namespace Go.Proofs.YtlicmnlllappnaaDoor
open Go.RowKit Big

set_option maxRecDepth 100000 in
set_option maxHeartbeats 3200000 in
theorem divideHalves_any (v0 v1 : Value) (a b : Nat) (w : World) (h0 : At w .u32 v0 (dig H a)) (h1 : At w .u32 v1 (dig H b)) (hb : 0 < b) (hlen : (dig H a).length ≤ 2199023255552) (hlen' : (dig H b).length ≤ 2199023255552) :
    Calls Tryd.prog 75 #[v0, v1] w (RQuo (a / b) (a % b) w) := by
  have H0 := hid h0; have H1 := hid h1
  by_cases hlt : (dig H a).length < (dig H b).length
  · have hab : a < b := lt_of_sz_lt H2 hlt
    have e1 : a / b = 0 := Nat.div_eq_of_lt hab
    have e2 : a % b = a := Nat.mod_eq_of_lt hab
    rw [e1, e2]
    obtain ⟨p0, c0, rfl, -⟩ := h0
    obtain ⟨p1, c1, rfl, -⟩ := h1
    obtain ⟨la, hla⟩ : ∃ n, n = (dig H a).length := ⟨_, rfl⟩
    obtain ⟨lb, hlb⟩ : ∃ n, n = (dig H b).length := ⟨_, rfl⟩
    have Hla := hid hla
    rw [← hla, ← hlb] at hlt
    rw [← hla] at hlen ⊢
    rw [← hlb] at hlen' ⊢
    rw [← hla] at H0
    clear hla hlb e1 e2 hab H1
    go_enter Tryd.func75, Tryd.ntmps75
    go_wp2_with (at_builtin; refine wpList_append_at rfl _ _ 65 rfl elemHalves w.heap.size _ [] rfl (Own.nil ..) _ (dig H a) rfl H0.out (by rw [← Hla.out]; simp [maxLen]; omega) (by rw [← Hla.out]; simp; omega) (Nat.le_refl _) ?_; intro v2 w2 ho2 hb2 hs2)
    go_ret2
    exact ⟨_, _, rfl, by exact At.nil _ _, ho2.at, hb2⟩
  · by_cases hl1 : (dig H b).length = 1
    · have hbH : b < H := by
        have := lt_pow_sz H2 b
        rwa [show sz H b = 1 from hl1, Nat.pow_one] at this
      have hd1 := dig_one H2 hb hbH
      obtain ⟨p1, c1, rfl, b1, b2, b3, b4⟩ := id h1
      obtain ⟨bb, off, rfl, hbb, hcell⟩ := b4 (by omega)
      have hc := hcell 0 (by omega)
      simp only [hd1, List.getElem_cons_zero, Nat.add_zero] at hc
      obtain ⟨p0, c0, rfl, -⟩ := id h0
      obtain ⟨la, hla⟩ : ∃ n, n = (dig H a).length := ⟨_, rfl⟩
      have Hla := hid hla
      rw [← hla] at hlen hlt H0 ⊢
      rw [hl1] at hlt b1 ⊢
      have hsh := fun (W' : World) (v : Value) (hv : Own W' w.heap.size 67 .u32 v (dig H a)) => divideShort_any w.heap.size v (dig H a) b W' hv (small_dig H2 a) hb hbH
      rw [val_dig H2] at hsh
      have Hsh := hid hsh
      unfold maxLen at b2
      clear hla hsh hd1 hcell b4 b3 hl1 h0 h1 H1
      go_enter Tryd.func75, Tryd.ntmps75
      go_wp2_with fail
      go_region_held3 (fun w' => w'.cell? ⟨bb, off, none⟩ = some (.int .u32 (b : Nat)))
        (first | assumption | (simp; assumption) | (exact (hb2.cell (p := ⟨bb, off, none⟩) hbb).trans hc) | (exact hcell3))
        (first
          | (refine step_append_at (by rfl) _ _ 65 (by rfl) elemHalves w.heap.size _ [] (by rfl) (Own.nil ..) _ (dig H a) (by rfl) H0.out.drew (by rw [← Hla.out]; simp [maxLen]; omega) (by rw [← Hla.out]; simp; omega) (Nat.le_refl _) ?_; intro v2 w2 ho2 hb2 hs2)
          | (go_at_call 80; refine (Hsh.out _ _ ho2).mono ?_; rintro e w3 ⟨rfl, ho3, hg3⟩; have hcell3 : w3.cell? ⟨bb, off, none⟩ = some (.int .u32 (b : Nat)) := (World.cell?_of_block (w := w2) (hg3.block bb (Nat.lt_of_lt_of_le hbb hb2.size) (fun e => by have := ho2.row bb e.symm; omega))).trans ((hb2.cell (p := ⟨bb, off, none⟩) hbb).trans hc)))
      have hr : a % b < 4294967296 := Nat.lt_trans (Nat.mod_lt _ hb) hbH
      have er : (a : Int) % (b : Int) = ((a % b : Nat) : Int) := (Int.natCast_emod a b).symm
      rw [er]
      have hq := ho3.at
      have bel3 : Below w.heap.size w w3 := (((Below.refl _ w).drew.trans hb2).grown hg3 hb2.size ho2.row)
      obtain ⟨r, hrd⟩ : ∃ r, r = a % b := ⟨_, rfl⟩
      rw [← hrd] at hr ⊢
      have Hrd := hid hrd
      have hstr : strip [r] = dig H r := by
        have h1 : Small H [r] := small_cons hr (small_nil _)
        have := strip_dig H2 h1
        simpa [val] using this
      have hat := At.one w3 .u32 r 67
      have htr := htrim_val _ _ _ hat
      have hat' := hat.cut (strip [r]).length (strip_length _)
      rw [← strip_is_take, hstr] at hat'
      rw [hstr] at htr
      have Htr := hid htr; have Hat := hid hat'; have Bel := hid bel3; have HQ := hid hq
      clear htr hstr hat hat' hrd er bel3 hq ho3 hg3 ho2 Hsh
      generalize cutTo v2 (sz H (a / b)) = vq at *
      go_wp2_with fail
      refine Htr.out.mono ?_
      rintro e w' ⟨rfl, rfl⟩
      go_wp2_with fail
      go_ret2
      exact ⟨_, _, rfl, HQ.out.alloc _, by rw [← Hrd.out]; exact Hat.out, Below.go (below1 _ _) Bel.out⟩
    · have hl0 : (dig H b).length ≠ 0 := fun e => by
        have := (dig_eq_nil H2).1 (List.eq_nil_of_length_eq_zero e)
        omega
      obtain ⟨m, hm⟩ : ∃ m, (dig H b).length = m + 2 := ⟨(dig H b).length - 2, by omega⟩
      have hd := divideLong_any v0 v1 a b w h0 h1 m hm (by omega) hlen
      have Hd := hid hd
      obtain ⟨p0, c0, rfl, -⟩ := h0
      obtain ⟨p1, c1, rfl, -⟩ := h1
      have hbe : (((dig H b).length : Int) == 1) = false := beq_eq_false_iff_ne.2 (by omega)
      generalize (dig H a).length = la at *
      generalize (dig H b).length = lb at *
      clear hd hm hl0 hl1 H0 H1
      go_enter Tryd.func75, Tryd.ntmps75
      go_wp2_with fail
      refine Hd.out.mono ?_
      rintro e w1 ⟨q, r, rfl, hq, hr, hb1⟩
      go_wp2_with fail
      go_ret2
      exact ⟨_, _, rfl, hq, hr, hb1⟩

set_option maxRecDepth 100000 in
set_option maxHeartbeats 3200000 in
theorem divide_any (v0 v1 : Value) (n m : Nat) (w : World) (h0 : At w .u64 v0 (dig W n)) (h1 : At w .u64 v1 (dig W m)) (hm0 : 0 < m) (hn : sz W n ≤ 1099511627776) (hm : sz W m ≤ 1099511627776) :
    Calls Tryd.prog 50 #[v0, v1] w (RTwo (n / m) (n % m) w) := by
  by_cases hs : n < W ∧ m < W
  · exact divide_small v0 v1 n m w h0 h1 hs.1 hs.2 hm0
  · have s0 : ∀ W', Below w.heap.size w W' → Calls Tryd.prog 61 #[v0] W' (ROwn 67 .u32 (dig H n) W') := fun W' hb => by
      have := split_any v0 (dig W n) W' (h0.below hb) (small_dig W2 n) hn
      rwa [val_dig W2] at this
    have s1 : ∀ W', Below w.heap.size w W' → Calls Tryd.prog 61 #[v1] W' (ROwn 67 .u32 (dig H m) W') := fun W' hb => by
      have := split_any v1 (dig W m) W' (h1.below hb) (small_dig W2 m) hm
      rwa [val_dig W2] at this
    have b0 : sz H n ≤ 2199023255552 := Nat.le_trans (sz_H_W n) (by omega)
    have b1 : sz H m ≤ 2199023255552 := Nat.le_trans (sz_H_W m) (by omega)
    have dh : ∀ W' u u', At W' .u32 u (dig H n) → At W' .u32 u' (dig H m) → Calls Tryd.prog 75 #[u, u'] W' (RQuo (n / m) (n % m) W') := fun W' u u' hu hu' => divideHalves_any u u' n m W' hu hu' hm0 b0 b1
    have hc := compare_any v0 v1 n m w h0 h1
    have hst : strip (dig W n) = dig W n := by rw [strip_dig W2 (small_dig W2 n), val_dig W2]
    have hw0 := fun k => own_any v0 (dig W n) (w.drewN k) (h0.drewN k) (by show sz W n ≤ _; omega)
    rw [hst] at hw0
    have q0 : sz H (n / m) ≤ 4398046511104 := Nat.le_trans (sz_mono H2 (Nat.div_le_self n m)) (by omega)
    have q1 : sz H (n % m) ≤ 4398046511104 := Nat.le_trans (sz_mono H2 (Nat.mod_le n m)) (by omega)
    have S0 := hid s0; have S1 := hid s1; have Dh := hid dh; have Hc := hid hc; have Hw := hid hw0; have Q0 := hid q0; have Q1 := hid q1
    have hguard : ¬ ((dig W n).length ≤ 1 ∧ (dig W m).length ≤ 1) := fun h => hs ⟨
      Nat.lt_of_lt_of_le (lt_pow_sz W2 n) (Nat.le_trans (Nat.pow_le_pow_right (by decide) (show sz W n ≤ 1 from h.1)) (by simp)),
      Nat.lt_of_lt_of_le (lt_pow_sz W2 m) (Nat.le_trans (Nat.pow_le_pow_right (by decide) (show sz W m ≤ 1 from h.2)) (by simp))⟩
    obtain ⟨p0, c0, rfl, -⟩ := h0
    obtain ⟨p1, c1, rfl, -⟩ := h1
    have hg2 : ¬ (dig W n).length ≤ 1 ∨ ((dig W n).length ≤ 1 ∧ ¬ (dig W m).length ≤ 1) := by
      rcases Nat.lt_or_ge 1 (dig W n).length with h | h
      · exact Or.inl (by omega)
      · exact Or.inr ⟨h, fun h' => hguard ⟨h, h'⟩⟩
    obtain ⟨ln, hln⟩ : ∃ k, k = (dig W n).length := ⟨_, rfl⟩
    obtain ⟨lm, hlm⟩ : ∃ k, k = (dig W m).length := ⟨_, rfl⟩
    rw [← hln, ← hlm] at hg2
    rw [← hln] at S0 Hc Hw ⊢
    rw [← hlm] at S1 Hc ⊢
    clear s0 s1 dh hc hw0 q0 q1 hln hlm hguard hst b0 b1 hs
    rcases hg2 with hg | ⟨hg, hg'⟩
    · have hd : decide ((ln : Int) ≤ 1) = false := decide_eq_false (by omega)
      by_cases hnm : n < m
      · have ho : ord (n : Int) m = -1 := ord_lt (by omega)
        rw [ho] at Hc
        have e1 : n / m = 0 := Nat.div_eq_of_lt hnm
        have e2 : n % m = n := Nat.mod_eq_of_lt hnm
        rw [e1, e2]
        clear ho e1 e2 hnm S0 S1 Dh Q0 Q1
        go_enter Tryd.func50, Tryd.ntmps50
        go_wp2_with fail
        refine Hc.out.mono ?_
        rintro e w1 ⟨rfl, k, rfl⟩
        go_wp2_with fail
        refine (Hw.out k).mono ?_
        rintro e w2 ⟨v2, rfl, ho2, hb2⟩
        go_wp2_with fail
        go_ret2
        exact ⟨_, _, rfl, At.nil _ _, ho2.at, (below_drewN (Below.refl _ _) k).trans hb2⟩
      · obtain ⟨o, ho⟩ : ∃ o : Int, o = ord (n : Int) m := ⟨_, rfl⟩
        have ho0 : 0 ≤ o := by
          rw [ho]
          rcases Nat.lt_or_ge m n with h | h
          · rw [ord_gt (by omega)]; decide
          · rw [show n = m by omega, ord_eq]; decide
        have ho1 : ¬ o < 0 := by omega
        rw [← ho] at Hc
        have Q := hid (show (n / m) = n / m from rfl)
        clear ho hnm
        go_enter Tryd.func50, Tryd.ntmps50
        go_wp2_with fail
        refine Hc.out.mono ?_
        rintro e w1 ⟨rfl, k, rfl⟩
        go_wp2_with fail
        refine (S0.out _ (below_drewN (Below.refl _ _) k)).mono ?_
        rintro e w2 ⟨u, rfl, hu, hu1⟩
        have b12 := hid ((below_drewN (Below.refl w.heap.size w) k).trans hu1)
        clear hu1
        go_wp2_with fail
        refine (S1.out _ b12.out).mono ?_
        rintro e w3 ⟨u', rfl, hu', hu2⟩
        have b13 := hid (Below.go hu2 b12.out)
        have au := hu.at.below hu2
        clear hu2
        go_wp2_with fail
        refine (Dh.out _ _ _ au hu'.at).mono ?_
        rintro e w4 ⟨q, r, rfl, hq, hr, hb4⟩
        have b14 := hid (Below.go hb4 b13.out)
        clear hb4 au hu hu'
        go_wp2_with fail
        refine (join_any q (n / m) _ hq Q0.out).mono ?_
        rintro e w5 ⟨q5, rfl, ho5, hb5⟩
        have b15 := hid (Below.go hb5 b14.out)
        have hr5 := hr.below hb5
        clear hb5
        go_wp2_with fail
        refine (join_any r (n % m) _ hr5 Q1.out).mono ?_
        rintro e w6 ⟨r6, rfl, ho6, hb6⟩
        have b16 := hid (Below.go hb6 b15.out)
        have aq := ho5.at.below hb6
        clear hb6
        go_wp2_with fail
        go_ret2
        exact ⟨_, _, rfl, aq, ho6.at, b16.out⟩
    · have hd : decide ((ln : Int) ≤ 1) = true := decide_eq_true (by omega)
      have hd' : decide ((lm : Int) ≤ 1) = false := decide_eq_false (by omega)
      by_cases hnm : n < m
      · have ho : ord (n : Int) m = -1 := ord_lt (by omega)
        rw [ho] at Hc
        have e1 : n / m = 0 := Nat.div_eq_of_lt hnm
        have e2 : n % m = n := Nat.mod_eq_of_lt hnm
        rw [e1, e2]
        clear ho e1 e2 hnm S0 S1 Dh Q0 Q1
        go_enter Tryd.func50, Tryd.ntmps50
        go_wp2_with fail
        refine Hc.out.mono ?_
        rintro e w1 ⟨rfl, k, rfl⟩
        go_wp2_with fail
        refine (Hw.out k).mono ?_
        rintro e w2 ⟨v2, rfl, ho2, hb2⟩
        go_wp2_with fail
        go_ret2
        exact ⟨_, _, rfl, At.nil _ _, ho2.at, (below_drewN (Below.refl _ _) k).trans hb2⟩
      · obtain ⟨o, ho⟩ : ∃ o : Int, o = ord (n : Int) m := ⟨_, rfl⟩
        have ho0 : 0 ≤ o := by
          rw [ho]
          rcases Nat.lt_or_ge m n with h | h
          · rw [ord_gt (by omega)]; decide
          · rw [show n = m by omega, ord_eq]; decide
        have ho1 : ¬ o < 0 := by omega
        rw [← ho] at Hc
        have Q := hid (show (n / m) = n / m from rfl)
        clear ho hnm
        go_enter Tryd.func50, Tryd.ntmps50
        go_wp2_with fail
        refine Hc.out.mono ?_
        rintro e w1 ⟨rfl, k, rfl⟩
        go_wp2_with fail
        refine (S0.out _ (below_drewN (Below.refl _ _) k)).mono ?_
        rintro e w2 ⟨u, rfl, hu, hu1⟩
        have b12 := hid ((below_drewN (Below.refl w.heap.size w) k).trans hu1)
        clear hu1
        go_wp2_with fail
        refine (S1.out _ b12.out).mono ?_
        rintro e w3 ⟨u', rfl, hu', hu2⟩
        have b13 := hid (Below.go hu2 b12.out)
        have au := hu.at.below hu2
        clear hu2
        go_wp2_with fail
        refine (Dh.out _ _ _ au hu'.at).mono ?_
        rintro e w4 ⟨q, r, rfl, hq, hr, hb4⟩
        have b14 := hid (Below.go hb4 b13.out)
        clear hb4 au hu hu'
        go_wp2_with fail
        refine (join_any q (n / m) _ hq Q0.out).mono ?_
        rintro e w5 ⟨q5, rfl, ho5, hb5⟩
        have b15 := hid (Below.go hb5 b14.out)
        have hr5 := hr.below hb5
        clear hb5
        go_wp2_with fail
        refine (join_any r (n % m) _ hr5 Q1.out).mono ?_
        rintro e w6 ⟨r6, rfl, ho6, hb6⟩
        have b16 := hid (Below.go hb6 b15.out)
        have aq := ho5.at.below hb6
        clear hb6
        go_wp2_with fail
        go_ret2
        exact ⟨_, _, rfl, aq, ho6.at, b16.out⟩
end Go.Proofs.YtlicmnlllappnaaDoor
/- whole.Div of any numbers; whole.common and whole.Gcd. -/
namespace Go.Proofs.YtlicmnlllappnaaDoor
open Go.RowKit Big

theorem Div_any (v0 v1 : Value) (a b : Int) (w : World) (h0 : RawAt w v0 a) (h1 : RawAt w v1 b) (hb0 : b ≠ 0) : Calls Tryd.prog 25 #[v0, v1] w (RDiv (a / b) (a % b) 0 w) :=
  Div_of v0 v1 a b w h0 h1 hb0 (fun W' u u' hu hu' => divide_any u u' _ _ W' hu hu' (by omega) h0.sz h1.sz)

theorem gcd_step (a b : Nat) : Nat.gcd b (a % b) = Nat.gcd a b := by rw [Nat.gcd_comm a b, Nat.gcd_rec b a, Nat.gcd_comm]

def RWord (n : Nat) (w : World) (e : Ending) (w' : World) : Prop := e = .returned (.int .u64 (n : Nat)) ∧ ∃ k, w' = w.drewN k

set_option maxRecDepth 100000 in
set_option maxHeartbeats 1600000 in
theorem commonWord_any (a b : Nat) (w : World) (ha : a < W) (hb : b < W) : Calls Tryd.prog 78 #[.int .u64 (a : Nat), .int .u64 (b : Nat)] w (RWord (Nat.gcd a b) w) := by
  unfold W at ha hb
  go_enter Tryd.func78, Tryd.ntmps78
  go_wp2_with fail
  go_loopw [0, 1] (fun x y wr => ∃ (p q : Nat), x = .int .u64 (p : Nat) ∧ y = .int .u64 (q : Nat) ∧ p < 18446744073709551616 ∧ q < 18446744073709551616 ∧ Hid (Nat.gcd p q = Nat.gcd a b) ∧ Hid (∃ k, wr = w.drewN k)) (fun _ y _ => (intOf y).toNat)
  case atStart => exact ⟨a, b, rfl, rfl, ha, hb, rfl, 0, rfl⟩
  case round =>
    obtain ⟨p, q, rfl, rfl, hp, hq, hg, hw⟩ := hrel
    by_cases h0 : q = 0
    · subst h0
      have hres : Hid (p = Nat.gcd a b) := by have := hg.out; rw [Nat.gcd_zero_right] at this; exact this
      clear hg
      go_wp2
      go_ret
      exact ⟨by rw [← hres.out]; rfl, hw.out⟩
    · have hb1 : ((q : Int) == 0) = false := beq_eq_false_iff_ne.2 (by omega)
      have hb2 : ((q : Int) != 0) = true := by simp [bne, hb1]
      have hr : p % q < q := Nat.mod_lt _ (by omega)
      have er : (p : Int) % (q : Int) = ((p % q : Nat) : Int) := (Int.natCast_emod p q).symm
      have hg' := hid ((gcd_step p q).trans hg.out)
      have Er := hid er
      clear er hg h0
      go_wp2_with fail
      go_quiet (fail)
      rw [Er.out]
      generalize p % q = r at *
      go_wp2_with fail
      go_roundw
      case rel => exact ⟨q, r, rfl, rfl, hq, by omega, hg'.out, by obtain ⟨k, hk⟩ := hw.out; rw [hk]; exact ⟨_, drewN_twice ..⟩⟩
      case measure => (simp [intOf] <;> omega)

set_option maxRecDepth 100000 in
set_option maxHeartbeats 3200000 in
theorem common_any (v0 v1 : Value) (n m : Nat) (w : World) (h0 : At w .u64 v0 (dig W n)) (h1 : At w .u64 v1 (dig W m)) (hn : sz W n ≤ 1099511627776) (hm : sz W m ≤ 1099511627776) :
    Calls Tryd.prog 53 #[v0, v1] w (RAt .u64 (dig W (Nat.gcd n m)) w) := by
  by_cases hs : n < W ∧ m < W
  · obtain ⟨wn, wm⟩ := hs
    have g0 := word_any v0 _ w h0
    have g1 := word_any v1 _ w h1
    rw [head_dig wn] at g0
    rw [head_dig wm] at g1
    have gl : Nat.gcd n m < W := by
      rcases Nat.eq_zero_or_pos n with h | h
      · subst h; rw [Nat.gcd_zero_left]; exact wm
      · exact Nat.lt_of_le_of_lt (Nat.gcd_le_left m h) wn
    have G0 := hid g0; have G1 := hid g1
    have hc := hid (commonWord_any n m w wn wm)
    have hO := hid (fun W' => ownWord_any (Nat.gcd n m) W' gl)
    have l0 : (dig W n).length ≤ 1 := sz_word wn
    have l1 : (dig W m).length ≤ 1 := sz_word wm
    obtain ⟨p0, c0, rfl, -⟩ := h0
    obtain ⟨p1, c1, rfl, -⟩ := h1
    generalize (dig W n).length = ln at *
    generalize (dig W m).length = lm at *
    clear g0 g1 hn hm gl wn wm
    go_enter Tryd.func53, Tryd.ntmps53
    go_wp2_with fail
    refine G0.out.mono ?_
    rintro e w' ⟨rfl, rfl⟩
    go_wp2_with fail
    refine G1.out.mono ?_
    rintro e w' ⟨rfl, rfl⟩
    go_wp2_with fail
    refine hc.out.mono ?_
    rintro e w1 ⟨rfl, k, rfl⟩
    go_wp2_with fail
    refine (hO.out _).mono ?_
    rintro e w2 ⟨v2, rfl, ho2, hb2⟩
    go_wp2_with fail
    go_ret
    exact ⟨_, rfl, ho2, (below_drewN (Below.refl _ _) k).trans hb2⟩
  · have s0 := split_any v0 (dig W n) w h0 (small_dig W2 n) hn
    rw [val_dig W2] at s0
    have s1 : ∀ W', Below w.heap.size w W' → Calls Tryd.prog 61 #[v1] W' (ROwn 67 .u32 (dig H m) W') := fun W' hb => by
      have := split_any v1 (dig W m) W' (h1.below hb) (small_dig W2 m) hm
      rwa [val_dig W2] at this
    have b0 : sz H n ≤ 2199023255552 := Nat.le_trans (sz_H_W n) (by omega)
    have b1 : sz H m ≤ 2199023255552 := Nat.le_trans (sz_H_W m) (by omega)
    have S0 := hid s0; have S1 := hid s1
    have hguard : ¬ ((dig W n).length ≤ 1 ∧ (dig W m).length ≤ 1) := fun h => hs ⟨
      Nat.lt_of_lt_of_le (lt_pow_sz W2 n) (Nat.le_trans (Nat.pow_le_pow_right (by decide) (show sz W n ≤ 1 from h.1)) (by simp)),
      Nat.lt_of_lt_of_le (lt_pow_sz W2 m) (Nat.le_trans (Nat.pow_le_pow_right (by decide) (show sz W m ≤ 1 from h.2)) (by simp))⟩
    obtain ⟨p0, c0, rfl, -⟩ := h0
    obtain ⟨p1, c1, rfl, -⟩ := h1
    have hg2 : decide (((dig W n).length : Int) ≤ 1) = false ∨ (decide (((dig W n).length : Int) ≤ 1) = true ∧ decide (((dig W m).length : Int) ≤ 1) = false) := by
      rcases Nat.lt_or_ge 1 (dig W n).length with h | h
      · exact Or.inl (decide_eq_false (by omega))
      · exact Or.inr ⟨decide_eq_true (by omega), decide_eq_false (by have : ¬ (dig W m).length ≤ 1 := fun h' => hguard ⟨h, h'⟩; omega)⟩
    generalize (dig W n).length = ln at *
    generalize (dig W m).length = lm at *
    clear s0 s1 hguard hs hn hm
    rcases hg2 with hg | ⟨hg, hg'⟩
    all_goals
      go_enter Tryd.func53, Tryd.ntmps53
      go_wp2_with fail
      refine S0.out.mono ?_
      rintro e w1 ⟨u, rfl, hu, hu1⟩
      go_wp2_with fail
      refine (S1.out _ hu1).mono ?_
      rintro e w2 ⟨u', rfl, hu', hu2⟩
      have b12 := Below.go hu2 hu1
      have au := hu.at.below hu2
      have au' := hu'.at
      clear hu1 hu2 hu hu' S0 S1
      go_wp2_with fail
      go_loopg [5, 6] m (fun gk x y wr => ∃ (p : Nat), At wr .u32 x (dig H p) ∧ At wr .u32 y (dig H gk) ∧ sz H p ≤ 2199023255552 ∧ sz H gk ≤ 2199023255552 ∧ Hid (Nat.gcd p gk = Nat.gcd n m) ∧ Below w.heap.size w wr)
      case atStart => exact ⟨n, au, au', b0, b1, rfl, b12⟩
      case round =>
        obtain ⟨p, hx, hy, hp, hq, hgcd, hbel⟩ := hrel
        by_cases h0 : gk = 0
        · have hres : Hid (p = Nat.gcd n m) := by have := hgcd.out; rw [h0, Nat.gcd_zero_right] at this; exact this
          have hl : (dig H gk).length = 0 := by rw [h0]; rfl
          have hj := hid (join_any _ p wr hx (by omega))
          obtain ⟨py, cy, rfl, -⟩ := hy
          rw [hl]
          clear hl h0 hgcd hq hx
          go_wp2_with fail
          refine hj.out.mono ?_
          rintro e w5 ⟨v5, rfl, ho5, hb5⟩
          go_wp2_with fail
          go_ret
          exact ⟨_, rfl, by rw [← hres.out]; exact ho5.at, Below.go hb5 hbel⟩
        · have hl : 0 < (dig H gk).length := Nat.pos_of_ne_zero fun e => h0 ((sz_eq_zero H2).1 e)
          have hd := hid (divideHalves_any _ _ p gk wr hx hy (by omega) hp hq)
          have hg' := hid ((gcd_step p gk).trans hgcd.out)
          have hlt : p % gk < gk := Nat.mod_lt _ (by omega)
          have hsz : sz H (p % gk) ≤ 2199023255552 := Nat.le_trans (sz_mono H2 (Nat.le_of_lt hlt)) hq
          have Hy := hid hy
          obtain ⟨py, cy, rfl, -⟩ := hy
          obtain ⟨ly, hly⟩ : ∃ k, k = (dig H gk).length := ⟨_, rfl⟩
          rw [← hly] at hl hd Hy ⊢
          clear hly h0 hgcd hx
          go_wp2_with fail
          refine hd.out.mono ?_
          rintro e w5 ⟨q5, r5, rfl, -, hr5, hb5⟩
          have hy5 := Hy.out.below hb5
          have b5 := Below.go hb5 hbel
          clear hd hb5 Hy
          go_wp2_with fail
          go_roundg (p % gk)
          case measure => exact hlt
          case rel => exact ⟨gk, hy5, hr5, hq, hsz, hg'.out, b5⟩

set_option maxRecDepth 100000 in
set_option maxHeartbeats 1600000 in
theorem Gcd_any (v0 v1 : Value) (a b : Int) (w : World) (h0 : RawAt w v0 a) (h1 : RawAt w v1 b) : Calls Tryd.prog 28 #[v0, v1] w (RInt (Nat.gcd a.natAbs b.natAbs : Nat) w) := by
  have z0 := h0.sz
  have z1 := h1.sz
  obtain ⟨n0, s0, l0, rfl, a0, b0, c0, rfl⟩ := h0
  obtain ⟨n1, s1, l1, rfl, a1, b1, c1, rfl⟩ := h1
  rw [sg_natAbs] at z0 z1 ⊢
  rw [sg_natAbs]
  have t0 : ∀ W : World, At W .u64 s0 l0 → Calls Tryd.prog 38 #[s0] W (fun e w' => e = .returned (cutTo s0 (strip l0).length) ∧ w' = W) := fun W h => trim_val s0 l0 W h
  have t1 : ∀ W : World, At W .u64 s1 l1 → Calls Tryd.prog 38 #[s1] W (fun e w' => e = .returned (cutTo s1 (strip l1).length) ∧ w' = W) := fun W h => trim_val s1 l1 W h
  have T0 := hid t0; have T1 := hid t1; clear t0 t1
  have d0 := hid (strip_dig W2 b0)
  have d1 := hid (strip_dig W2 b1)
  go_enter Tryd.func28, Tryd.ntmps28
  go_wp2_with fail
  generalize hW : World.alloc (World.alloc (World.alloc w _) _) _ = W3
  have bw : Below w.heap.size w W3 := by rw [← hW]; exact ((below1 _ _).alloc (by simp) _).alloc (by simp; omega) _
  have hp : Pair W3 (w.heap.size + 1 + 1) 25 := by rw [← hW]; exact Pair.new2 ..
  obtain ⟨-, c01, -, c11, -⟩ : Two W3 w.heap.size (.bool n0) s0 (.bool n1) s1 := by rw [← hW]; exact (Two.new w _ _ _ _ _).below (below1 _ _)
  have z3 : w.heap.size + 3 ≤ W3.heap.size := by rw [← hW]; simp
  have A0 : ∀ W', Below W3.heap.size W3 W' → At W' .u64 (cutTo s0 (strip l0).length) (dig W (val W l0)) := fun W' h' => by have := ((a0.below bw).below h').strip; rwa [d0.out] at this ⊢
  have A1 : ∀ W', Below W3.heap.size W3 W' → At W' .u64 (cutTo s1 (strip l1).length) (dig W (val W l1)) := fun W' h' => by have := ((a1.below bw).below h').strip; rwa [d1.out] at this ⊢
  have HA0 := hid A0; have HA1 := hid A1; have bw' := hid bw; have a0' := hid (a0.below bw); have a1' := hid (a1.below bw)
  clear hW bw A0 A1 a0 a1
  generalize cutTo s0 (strip l0).length = u0 at *
  generalize cutTo s1 (strip l1).length = u1 at *
  generalize val W l0 = x at *
  generalize val W l1 = y at *
  clear d0 d1 b0 b1 c0 c1
  have hsg : Hid (sg false (Nat.gcd x y) = ((Nat.gcd x y : Nat) : Int)) := by unfold Hid sg; simp
  go_region_held3 (fun w' => w'.cell? ⟨w.heap.size, 1, none⟩ = some s0 ∧ w'.cell? ⟨w.heap.size + 1, 1, none⟩ = some s1 ∧ Pair w' (w.heap.size + 1 + 1) 25)
    (first | (go_split_ands; (try dsimp only); (repeat' apply And.intro) <;> first | assumption | exact Pair.drew ‹_› | exact Pair.below ‹_› hb9 | exact Pair.below ‹_› hb8 | exact Pair.below ‹_› hb7 | exact Pair.below ‹_› hb6 | exact Pair.below ‹_› hb5 | exact Pair.below ‹_› hb4 | exact Pair.below ‹_› hb3 | exact Pair.below ‹_› hb2 | exact Pair.below ‹_› hb1 | exact (hb9.cell (by first | omega | (simp; omega) | (simp; done))).trans ‹_› | exact (hb8.cell (by first | omega | (simp; omega) | (simp; done))).trans ‹_› | exact (hb7.cell (by first | omega | (simp; omega) | (simp; done))).trans ‹_› | exact (hb6.cell (by first | omega | (simp; omega) | (simp; done))).trans ‹_› | exact (hb5.cell (by first | omega | (simp; omega) | (simp; done))).trans ‹_› | exact (hb4.cell (by first | omega | (simp; omega) | (simp; done))).trans ‹_› | exact (hb3.cell (by first | omega | (simp; omega) | (simp; done))).trans ‹_› | exact (hb2.cell (by first | omega | (simp; omega) | (simp; done))).trans ‹_› | exact (hb1.cell (by first | omega | (simp; omega) | (simp; done))).trans ‹_› | exact Pair.set1 (Pair.set0 ‹_› _) _ _ _ | exact (cell_stored _ (by first | (dsimp only; omega) | (simp; done) | (simp; omega)) _ _).trans ‹_› | exact Pair.drew (Pair.below ‹_› (below1 _ _)) | exact Pair.below ‹_› (below1 _ _) | exact Pair.far ‹_› (by omega) hb1 | exact Pair.new .. | exact Pair.new1 .. | exact Pair.new2 .. | (go_keep; done)) | (go_keep; done))
    (first
      | (go_at_call_of 38 (s0); refine (T0.out _ a0'.out.drew).mono ?_; rintro e w' ⟨rfl, rfl⟩)
      | (go_at_call_of 38 (s1); refine (T1.out _ a1'.out.drew).mono ?_; rintro e w' ⟨rfl, rfl⟩)
      | (go_at_call 53; refine (common_any u0 u1 x y _ (HA0.out _ (Below.drew (Below.refl _ _))) (HA1.out _ (Below.drew (Below.refl _ _))) z0 z1).mono ?_; rintro e w1 ⟨v1, rfl, ho1, hb1⟩; have hz1 : w.heap.size + 3 ≤ w1.heap.size := (by have := hb1.size; simp at this; omega))
      | (go_at_call 39; refine (told_any false _ _ _ ho1).mono ?_; rintro e w2 ⟨v2, rfl, hi2, hb2⟩; obtain ⟨p2, n2, c2, rfl, hi2⟩ := hi2.shape; have hpr := Pair.below (by go_split_ands; assumption) hb2; obtain ⟨_, _, q0, q1, q2, q3⟩ := hpr.cells))
  go_wp2
  exact bodyPost_ret (v := .agg #[.bool (decide (sg false (Nat.gcd x y) < 0)), .slice p2 n2 c2]) (by simp [results, Tryd.results28, go_sem, q0, q1]) rfl
    ⟨_, rfl, by rw [← hsg.out]; exact hi2.stored hpr _ _ _ _, Below.stored ((bw'.out.drew.trans (hb1.mono (B' := w.heap.size) (by simp; omega))).trans (hb2.mono (B' := w.heap.size) (by omega))) (by omega) _ _⟩
end Go.Proofs.YtlicmnlllappnaaDoor
/- whole.Div by 0. -/
namespace Go.Proofs.YtlicmnlllappnaaDoor
open Go.RowKit Big

set_option maxRecDepth 100000 in
set_option maxHeartbeats 1600000 in
theorem Div_zero (v0 v1 : Value) (a : Int) (w : World) (h0 : RawAt w v0 a) (h1 : RawAt w v1 0) : Calls Tryd.prog 25 #[v0, v1] w (RDiv 0 0 12 w) := by
  obtain ⟨n0, s0, l0, rfl, a0, b0, c0, rfl⟩ := h0
  obtain ⟨n1, s1, l1, rfl, a1, b1, c1, hz⟩ := h1
  have t0 : ∀ W : World, At W .u64 s0 l0 → Calls Tryd.prog 38 #[s0] W (fun e w' => e = .returned (cutTo s0 (strip l0).length) ∧ w' = W) := fun W h => trim_val s0 l0 W h
  have t1 : ∀ W : World, At W .u64 s1 l1 → Calls Tryd.prog 38 #[s1] W (fun e w' => e = .returned (cutTo s1 (strip l1).length) ∧ w' = W) := fun W h => trim_val s1 l1 W h
  have hl : (strip l1).length = 0 := by
    have e := strip_dig W2 b1
    have hv : val W l1 = 0 := by
      have := congrArg Int.natAbs hz
      rw [sg_natAbs] at this
      simpa using this.symm
    rw [e, hv]; rfl
  rw [hl] at t1
  have T0 := hid t0; have T1 := hid t1
  obtain ⟨p1, k1, rfl, -⟩ := id a1
  simp only [cutTo_slice] at T1
  clear t0 t1 hl hz b0 b1 c0 c1
  go_enter Tryd.func25, Tryd.ntmps25
  go_wp2_with fail
  go_quiet ((first
    | (go_at_call_of 38 (s0); exact Calls.quiet_of_same (T0.out _ (by repeat (first | exact a0 | apply At.drewN | apply At.drew | apply At.alloc))))
    | (go_at_call 38; exact Calls.quiet_of_same (T1.out _ (by repeat (first | exact a1 | apply At.drewN | apply At.drew | apply At.alloc))))))
  generalize hW : World.drewN (World.alloc (World.alloc (World.alloc (World.alloc w _) _) _) _) _ = W3
  have bw : Below w.heap.size w W3 := by rw [← hW]; exact below_drewN ((((below1 _ _).alloc (by simp) _).alloc (by simp; omega) _).alloc (by simp; omega) _) _
  have hp : Pair W3 (w.heap.size + 1 + 1) 25 := by rw [← hW]; exact Pair.below (Pair.new2 ..) (below_drewN (below1 _ _) _)
  have hp' : Pair W3 (w.heap.size + 1 + 1 + 1) 25 := by rw [← hW]; exact Pair.new3 ..
  clear hW
  obtain ⟨_, _, q0, q1, q2, q3⟩ := hp.cells
  obtain ⟨_, _, r0, r1, r2, r3⟩ := hp'.cells
  go_wp2
  have hi6 : IntAt W3 (.agg #[.bool false, .slice none 0 0]) 0 := IntAt.zero _
  have hpB' := (hp'.other (g' := w.heap.size + 1 + 1) (by omega) 0 (.bool false)).other (g' := w.heap.size + 1 + 1) (by omega) 1 (.slice none 0 0)
  exact bodyPost_ret (v := .tuple #[.agg #[.bool false, .slice none 0 0], .agg #[.bool false, .slice none 0 0], .int .i64 12])
    (by simp [results, Tryd.results25, go_sem, q0, q1, r0, r1]) rfl
    ⟨_, _, rfl, (hi6.stored hp _ _ _ _).stored hpB' _ _ _ _, (hi6.stored hp _ _ _ _).stored hpB' _ _ _ _, Below.stored (Below.stored bw (by omega) _ _) (by omega) _ _⟩
end Go.Proofs.YtlicmnlllappnaaDoor
/- elenchuslaw01.few of three numbers. -/
namespace Go.Proofs.YtlicmnlllappnaaDoor
open Go.RowKit Big


set_option maxRecDepth 100000 in
set_option maxHeartbeats 800000 in
theorem few3_any (b : Nat) (n0 n1 n2 : Bool) (p0 p1 p2 : Option Addr) (k0 c0 k1 c1 k2 c2 cap : Nat) (w : World)
    (e0 : w.cell? ⟨b, 0, none⟩ = some (.bool n0)) (e1 : w.cell? ⟨b, 1, none⟩ = some (.slice p0 k0 c0)) (e2 : w.cell? ⟨b, 2, none⟩ = some (.bool n1)) (e3 : w.cell? ⟨b, 3, none⟩ = some (.slice p1 k1 c1)) (e4 : w.cell? ⟨b, 4, none⟩ = some (.bool n2)) (e5 : w.cell? ⟨b, 5, none⟩ = some (.slice p2 k2 c2))
    (h0 : k0 ≤ 9223372036854775807) (h1 : k1 ≤ 9223372036854775807) (h2 : k2 ≤ 9223372036854775807) :
    Calls Tryd.prog 10 #[.slice (some ⟨b, 0, none⟩) 3 cap] w (RBool (decide (k0 ≤ 20 ∧ k1 ≤ 20 ∧ k2 ≤ 20)) w) := by
  have hb := World.block_lt_of_cell? w _ e0
  have e2' : ∀ o, (w.alloc o).cell? ⟨b, 2, none⟩ = some (.bool n1) := fun o => ((below1 w o).cell (p := ⟨b, 2, none⟩) hb).trans e2
  have e3' : ∀ o, (w.alloc o).cell? ⟨b, 3, none⟩ = some (.slice p1 k1 c1) := fun o => ((below1 w o).cell (p := ⟨b, 3, none⟩) hb).trans e3
  have e4' : ∀ o o', ((w.alloc o).alloc o').cell? ⟨b, 4, none⟩ = some (.bool n2) := fun o o' => (((below1 w o).alloc (by simp) o').cell (p := ⟨b, 4, none⟩) hb).trans e4
  have e5' : ∀ o o', ((w.alloc o).alloc o').cell? ⟨b, 5, none⟩ = some (.slice p2 k2 c2) := fun o o' => (((below1 w o).alloc (by simp) o').cell (p := ⟨b, 5, none⟩) hb).trans e5
  rcases (by omega : (k0 ≤ 20 ∧ k1 ≤ 20 ∧ k2 ≤ 20) ∨ (k0 ≤ 20 ∧ k1 ≤ 20 ∧ 20 < k2) ∨ (k0 ≤ 20 ∧ 20 < k1) ∨ 20 < k0) with ⟨a0, a1, a2⟩ | ⟨a0, a1, a2⟩ | ⟨a0, a1⟩ | a0
  · obtain ⟨r, hr⟩ : ∃ r, r = decide (k0 ≤ 20 ∧ k1 ≤ 20 ∧ k2 ≤ 20) := ⟨_, rfl⟩
    rw [← hr]
    have hd : Hid (r = true) := by unfold Hid; rw [hr]; simp; omega
    clear hr
    go_enter Tryd.func10, Tryd.ntmps10
    go_wp2_with fail
    refine wp_loop_rounds 4 ?_
    rw [rounds_succ]
    go_wp2
    rw [rounds_succ]
    go_wp2
    rw [rounds_succ]
    go_wp2
    rw [rounds_succ]
    go_wp2
    go_ret
    exact ⟨by rw [hd.out]; rfl, ((below1 _ _).alloc (by simp) _).alloc (by simp; omega) _⟩
  · obtain ⟨r, hr⟩ : ∃ r, r = decide (k0 ≤ 20 ∧ k1 ≤ 20 ∧ k2 ≤ 20) := ⟨_, rfl⟩
    rw [← hr]
    have hd : Hid (r = false) := by unfold Hid; rw [hr]; simp; omega
    clear hr
    go_enter Tryd.func10, Tryd.ntmps10
    go_wp2_with fail
    refine wp_loop_rounds 4 ?_
    rw [rounds_succ]
    go_wp2
    rw [rounds_succ]
    go_wp2
    rw [rounds_succ]
    go_wp2
    go_ret
    exact ⟨by rw [hd.out]; rfl, ((below1 _ _).alloc (by simp) _).alloc (by simp; omega) _⟩
  · obtain ⟨r, hr⟩ : ∃ r, r = decide (k0 ≤ 20 ∧ k1 ≤ 20 ∧ k2 ≤ 20) := ⟨_, rfl⟩
    rw [← hr]
    have hd : Hid (r = false) := by unfold Hid; rw [hr]; simp; omega
    clear hr
    go_enter Tryd.func10, Tryd.ntmps10
    go_wp2_with fail
    refine wp_loop_rounds 4 ?_
    rw [rounds_succ]
    go_wp2
    rw [rounds_succ]
    go_wp2
    go_ret
    exact ⟨by rw [hd.out]; rfl, (below1 _ _).alloc (by simp) _⟩
  · obtain ⟨r, hr⟩ : ∃ r, r = decide (k0 ≤ 20 ∧ k1 ≤ 20 ∧ k2 ≤ 20) := ⟨_, rfl⟩
    rw [← hr]
    have hd : Hid (r = false) := by unfold Hid; rw [hr]; simp; omega
    clear hr
    go_enter Tryd.func10, Tryd.ntmps10
    go_wp2_with fail
    refine wp_loop_rounds 4 ?_
    rw [rounds_succ]
    go_wp2
    go_ret
    exact ⟨by rw [hd.out]; rfl, below1 _ _⟩
end Go.Proofs.YtlicmnlllappnaaDoor
/- whole.tens: groups of nine digits. -/
namespace Go.Proofs.YtlicmnlllappnaaDoor
open Go.RowKit Big

def T : Nat := 1000000000
theorem T2 : 2 ≤ T := by decide
theorem Own.far {w w' : World} {base B : Nat} {e : TypeId} {k : IntKind} {v : Value} {l : List Nat} (h : Own w B e k v l) (hf : ∀ g, v.ownBlock = some g → g < base) (hb : Below base w w') : Own w' B e k v l := by
  refine ⟨h.1, ?_⟩
  rcases h.2 with hn | ⟨g, cap, cur, rfl, h1, hg, r⟩
  · exact Or.inl hn
  · exact Or.inr ⟨g, cap, cur, rfl, h1, by rw [hb.block g (hf g rfl)]; exact hg, r⟩
theorem Own.apart {w w' : World} {B : Nat} {e : TypeId} {k : IntKind} {v : Value} {l : List Nat} {g : Nat} (h : Own w B e k v l) (hg : g < B) (hw : w.grownBy w' (some g)) : Own w' B e k v l := by
  refine World.ownsRow.kept h hw ?_
  right
  intro e
  have := Own.row h g e
  omega
theorem cutTo_block (v : Value) (m : Nat) : (cutTo v m).ownBlock = v.ownBlock := by
  cases v <;> try rfl
  rename_i p n c
  cases p <;> rfl
theorem grown_below {w w' : World} {g : Nat} {B : Nat} (h : w.grownBy w' (some g)) (hg : B ≤ g) (hB : B ≤ w.heap.size) : Below B w w' := (Below.refl B w).grown h hB (fun k hk => by cases hk; exact hg)
theorem below_grown {w w' w'' : World} {g B : Nat} (h : w.grownBy w' (some g)) (hb : Below B w' w'') (hB : w.heap.size ≤ B) : w.grownBy w'' (some g) :=
  ⟨hb.os.trans h.os, hb.tape.trans h.tape, hb.output.trans h.output, Nat.le_trans h.size hb.size, fun i hi hne => (hb.block i (by omega)).trans (h.block i hi hne)⟩

theorem Own.len {w : World} {B : Nat} {e : TypeId} {k : IntKind} {v : Value} {l : List Nat} (h : Own w B e k v l) : lenOf v = l.length := by
  obtain ⟨p, c, rfl, -⟩ := h.at
  rfl
def RTens (n : Nat) (v : Value) (w : World) (e : Ending) (w' : World) : Prop := ∃ v', e = .returned v' ∧ Own w' w.heap.size 67 .u32 v' (dig T n) ∧ w.grownBy w' v.ownBlock

set_option maxRecDepth 100000 in
set_option maxHeartbeats 1600000 in
theorem tens_any (B : Nat) (v : Value) (n : Nat) (w : World) (h : Own w B 67 .u32 v (dig H n)) (hn : sz T n ≤ 8796093022208) :
    Calls Tryd.prog 60 #[v] w (RTens n v w) := by
  by_cases h0 : n = 0
  · subst h0
    obtain ⟨p, c, rfl, b1, b2, b3, -⟩ := h.at
    have hl : (dig H 0).length = 0 := rfl
    rw [hl] at *
    clear hl h
    go_enter Tryd.func60, Tryd.ntmps60
    go_wp2_with fail
    refine wp_loop_rounds 1 ?_
    rw [rounds_succ]
    go_wp2
    go_ret
    exact ⟨_, rfl, Own.nil _ _ _ _, World.grownBy.refl _ _⟩
  · have hpos : 0 < (dig H n).length := Nat.pos_of_ne_zero fun e => h0 ((sz_eq_zero H2).1 e)
    obtain ⟨g, cap, hv, hBg, hg, hc1, hc2⟩ := h.shape hpos
    have hvb : v.ownBlock = some g := by rw [hv]; rfl
    clear hpos
    have hunf : ∀ w' : World, w.grownBy w' (some g) → w.grownBy w' v.ownBlock := fun w' hh => by rw [hvb]; exact hh
    have Hunf := hid hunf
    have Hvb := hid hvb
    obtain ⟨post, hpost⟩ : ∃ post, post = RTens n v w := ⟨_, rfl⟩
    rw [← hpost]
    have Hpost := hid hpost
    clear hunf hvb hpost
    have ho := hid h
    unfold maxLen at hc2
    subst hv
    go_enter Tryd.func60, Tryd.ntmps60
    go_wp2_with fail
    go_loopw [0, 3] (fun hv gv wr => ∃ (m len cp : Nat) (G : List Nat), hv = .slice (some ⟨g, 0, none⟩) len cp ∧ Hid (len = sz H m) ∧ len ≤ cp ∧ cp ≤ 2 ^ 63 - 1 ∧ Hid (Own wr B 67 .u32 hv (dig H m)) ∧ Own wr w.heap.size 67 .u32 gv G ∧
        Hid (dig T n = G ++ dig T m) ∧ w.grownBy wr (some g)) (fun _ gv _ => sz T n - lenOf gv)
    case atStart => exact ⟨n, _, cap, [], rfl, rfl, hc1, hc2, h, Own.nil _ _ _ _, rfl, World.grownBy.refl _ _⟩
    case round =>
      obtain ⟨m, len, cp, G, rfl, hlen, hcl, hcp, hown, hG, hcat, hgr⟩ := hrel
      by_cases hm : 0 < len
      · have hm0 : m ≠ 0 := fun e => by have := hlen.out; rw [e, sz_zero] at this; omega
        have Hm0 := hid hm0
        have hds := divideShort_any B _ (dig H m) T wr hown.out (small_dig H2 _) (by decide) (by decide)
        rw [val_dig H2] at hds
        have Hds := hid hds
        have hGl : Hid (G.length + sz T (m / T) + 1 = sz T n) := by
          have := congrArg List.length hcat.out
          rw [List.length_append] at this
          have e := sz_pos T2 (n := m) (by omega)
          unfold Hid sz at *
          omega
        clear hds hm0
        have hgw : g < wr.heap.size := Nat.lt_of_lt_of_le hg hgr.size
        go_wp2_with fail
        refine Hds.out.mono ?_
        rintro e w1 ⟨rfl, ho1, hg1⟩
        have hG1 := hG.apart (w' := w1) hg (by simpa [Value.ownBlock] using hg1)
        have hg1' : wr.grownBy w1 (some g) := by simpa [Value.ownBlock] using hg1
        have ho1' := hid ho1
        have hz1 := hg1'.size
        clear ho1 hg1 hG
        have hsz1 : sz H (m / T) ≤ cp := by
          have := sz_mono H2 (Nat.div_le_self m T)
          have := hlen.out
          omega
        have hmod : m % T < 4294967296 := Nat.lt_trans (Nat.mod_lt m (by decide)) (by decide)
        go_wp2_with (at_builtin; refine wpList_append_at rfl _ _ 65 rfl elemHalves w.heap.size _ G rfl (hG1.alloc _) _ [m % T] rfl (At.oneI _ _ _ _ _ (by first | rfl | omega)) (by have := hGl.out; simp [maxLen]; omega) (by have := hGl.out; simp; omega) (by have := hgr.size; simp; omega) ?_; intro v2 w2 ho2 hb2 hs2)
        have l2 := hid ho2.len
        have l1 := hid hG1.len
        have hfin : w.grownBy w2 (some g) := below_grown (below_grown (grown_trans hgr hg1') ((below1 _ _).mono (B' := w.heap.size) (by have := hgr.size; omega)) (Nat.le_refl _)) hb2 (Nat.le_refl _)
        have hown2 : Own w2 B 67 .u32 (cutTo (.slice (some ⟨g, 0, none⟩) len cp) (sz H (m / T))) (dig H (m / T)) :=
          ((ho1'.out.far (base := w.heap.size) (fun g' e => by simp [cutTo, Value.ownBlock] at e; omega) ((below1 _ _).mono (by have := hgr.size; omega)))).far (fun g' e => by simp [cutTo, Value.ownBlock] at e; omega) hb2
        go_roundw
        case rel => exact ⟨m / T, sz H (m / T), cp, G ++ [m % T], rfl, rfl, hsz1, hcp, hown2, ho2, by
          have := hcat.out
          unfold Hid
          rw [this, dig_pos T2 (Nat.pos_of_ne_zero Hm0.out)]; simp, hfin⟩
        case measure =>
          rw [l2.out, l1.out, List.length_append]
          have := hGl.out
          simp
          omega
      · have hm0 : m = 0 := by
          have := hlen.out
          exact (sz_eq_zero H2).1 (by omega)
        have hc : Hid (dig T n = G) := by
          have := hcat.out
          rw [hm0, dig_zero, List.append_nil] at this
          exact this
        obtain rfl : len = 0 := by omega
        clear hlen hown hm0 hcat
        go_wp2
        rw [Hpost.out]
        exact ⟨_, rfl, by rw [hc.out]; exact hG, Hunf.out _ hgr⟩
end Go.Proofs.YtlicmnlllappnaaDoor
