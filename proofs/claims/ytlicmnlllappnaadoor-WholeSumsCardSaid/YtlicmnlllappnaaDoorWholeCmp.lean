/- whole.Cmp. -/
import Derived.Test.YtlicmnlllappnaaDoorWholeAdd
namespace Go.Proofs.YtlicmnlllappnaaDoor
open Go.RowKit Big

theorem ord_signs {a b : Int} (h : a.sign ≠ b.sign) : ord a.sign b.sign = ord a b := by
  rcases Int.lt_trichotomy a 0 with h1 | h1 | h1 <;> rcases Int.lt_trichotomy b 0 with h2 | h2 | h2
  all_goals (try subst h1); (try subst h2)
  all_goals (try simp only [Int.sign_eq_neg_one_of_neg, Int.sign_eq_one_of_pos, Int.sign_zero, *] at h ⊢)
  all_goals first | exact absurd rfl h | (unfold ord; (repeat' split) <;> omega)
theorem ord_sizes {a b : Int} (h : a.sign = b.sign) : a.sign * ord a.natAbs b.natAbs = ord a b := by
  rcases Int.lt_trichotomy a 0 with h1 | h1 | h1 <;> rcases Int.lt_trichotomy b 0 with h2 | h2 | h2
  all_goals (try subst h1); (try subst h2)
  all_goals (try simp only [Int.sign_eq_neg_one_of_neg, Int.sign_eq_one_of_pos, Int.sign_zero, *] at h ⊢)
  all_goals first | (exfalso; revert h; decide) | (unfold ord; (repeat' split) <;> omega)
theorem sign_bounds (a : Int) : -1 ≤ a.sign ∧ a.sign ≤ 1 := by
  rcases Int.lt_trichotomy a 0 with h | h | h
  · rw [Int.sign_eq_neg_one_of_neg h]; omega
  · subst h; simp
  · rw [Int.sign_eq_one_of_pos h]; omega
theorem ord_bounds (a b : Int) : -1 ≤ ord a b ∧ ord a b ≤ 1 := by unfold ord; (repeat' split) <;> omega
theorem quiet_add {P : Program} {f : FuncId} {args : Array Value} {w : World} {n : Nat} {v : Value}
    (h : Calls P f args (w.drewN n) fun e w' => e = .returned v ∧ ∃ m, w' = (w.drewN n).drewN m) :
    Calls P f args (w.drewN n) fun e w'' => e = .returned v ∧ ∃ m, w'' = w.drewN m :=
  h.mono fun _ _ ⟨he, m, hm⟩ => ⟨he, n + m, by rw [hm, World.drewN_drewN]⟩

set_option maxHeartbeats 1600000 in
theorem Cmp_any (v0 v1 : Value) (a b : Int) (w : World) (h0 : RawAt w v0 a) (h1 : RawAt w v1 b) : Calls Tryd.prog 17 #[v0, v1] w (RNum .i64 (ord a b) w) := by
  have hne := @ord_signs a b
  have heq := @ord_sizes a b
  have ba := sign_bounds a
  have bb := sign_bounds b
  have g0 : ∀ W, RawAt W v0 a → Calls Tryd.prog 19 #[v0] W (fun e w' => e = .returned (.int .i64 a.sign) ∧ Below W.heap.size W w') := fun W h => Sign_any v0 a W h
  have g1 : ∀ W, RawAt W v1 b → Calls Tryd.prog 19 #[v1] W (fun e w' => e = .returned (.int .i64 b.sign) ∧ Below W.heap.size W w') := fun W h => Sign_any v1 b W h
  have Hne := hid hne; have Heq := hid heq; have G0 := hid g0; have G1 := hid g1
  clear hne heq g0 g1
  obtain ⟨r, hr⟩ : ∃ r, r = ord a b := ⟨_, rfl⟩
  obtain ⟨n0, s0, l0, rfl, a0, b0, c0, ha⟩ := id h0
  obtain ⟨n1, s1, l1, rfl, a1, b1, c1, hb⟩ := id h1
  have na : a.natAbs = val W l0 := by rw [ha, sg_natAbs]
  have nb : b.natAbs = val W l1 := by rw [hb, sg_natAbs]
  rw [← hr] at Hne Heq ⊢
  rw [na, nb] at Heq
  clear hr ha hb na nb
  generalize a.sign = x at *
  generalize b.sign = y at *
  have d0 := hid (strip_dig W2 b0)
  have d1 := hid (strip_dig W2 b1)
  obtain ⟨ba1, ba2⟩ := ba
  obtain ⟨bb1, bb2⟩ := bb
  go_enter Tryd.func17, Tryd.ntmps17
  go_wp2_with fail
  refine (G0.out _ (h0.below ((below1 _ _).alloc (by simp) _))).mono ?_
  rintro e w1 ⟨rfl, hb1⟩
  have W1 := (Two.new w _ _ _ _ _).below hb1
  obtain ⟨c00, c01, c10, c11, z1⟩ := id W1
  have bw : Below w.heap.size w w1 := ((below1 _ _).alloc (by simp) _).trans (hb1.mono (B' := w.heap.size) (by simp; omega))
  go_wp2_with fail
  refine (G1.out _ (h1.below bw)).mono ?_
  rintro e w2 ⟨rfl, hb2⟩
  obtain ⟨e00, e01, e10, e11, z2⟩ := W1.below hb2
  have bw2 : Below w.heap.size w w2 := bw.trans (hb2.mono (B' := w.heap.size) (by omega))
  clear c00 c01 c10 c11 hb1 bw hb2 z1 z2 G0 G1 W1
  have t0 : ∀ n, Calls Tryd.prog 38 #[s0] (w2.drewN n) (fun e w' => e = .returned (cutTo s0 (strip l0).length) ∧ w' = w2.drewN n) := fun n => trim_val s0 l0 _ ((a0.below bw2).drewN n)
  have t1 : ∀ n, Calls Tryd.prog 38 #[s1] (w2.drewN n) (fun e w' => e = .returned (cutTo s1 (strip l1).length) ∧ w' = w2.drewN n) := fun n => trim_val s1 l1 _ ((a1.below bw2).drewN n)
  have t2 : ∀ n, Calls Tryd.prog 41 #[cutTo s0 (strip l0).length, cutTo s1 (strip l1).length] (w2.drewN n) (ROrd (ord (val W l0) (val W l1)) (w2.drewN n)) := fun n =>
    compare_any _ _ _ _ _ (by have := ((a0.below bw2).drewN n).strip; rwa [d0.out] at this ⊢) (by have := ((a1.below bw2).drewN n).strip; rwa [d1.out] at this ⊢)
  have ob := ord_bounds (val W l0) (val W l1)
  have T0 := hid t0; have T1 := hid t1; have T2 := hid t2
  clear t0 t1 t2
  obtain ⟨o, ho⟩ : ∃ o, o = ord (val W l0) (val W l1) := ⟨_, rfl⟩
  rw [← ho] at Heq T2 ob
  clear ho
  obtain ⟨ob1, ob2⟩ := ob
  by_cases hxy : x = y
  · subst hxy
    have Hr : Hid (x * o = r) := Heq.out rfl
    clear Hne Heq
    rcases (by omega : x = -1 ∨ x = 0 ∨ x = 1) with rfl | rfl | rfl
    all_goals
      go_wp2_with fail
      go_quiet ((first
        | (go_at_call_of 38 (s0); exact Calls.quiet_of_same (T0.out _))
        | (go_at_call_of 38 (s1); exact Calls.quiet_of_same (T1.out _))
        | (go_at_call 41; exact quiet_add (T2.out _))))
      go_wp2
      go_ret
      exact ⟨by rw [← Hr.out]; simp, below_drewN bw2 _⟩
  · have hb : (x != y) = true := bne_iff_ne.2 hxy
    have Hr : Hid (ord x y = r) := Hne.out hxy
    go_wp2_with (go_at_call 48; refine (cmpInt_any _ _ _).mono ?_; rintro e w' ⟨rfl, rfl⟩)
    go_ret
    exact ⟨by rw [← Hr.out]; rfl, bw2⟩
end Go.Proofs.YtlicmnlllappnaaDoor
