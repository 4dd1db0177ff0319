/- Texts put together: LawOrder, LawRLaws. -/
import Derived.Test.YtlijekppbpefaaaRoundsCardM9
import Derived.Deep.DeepCutAuto
/- elenchuslaw02.RatioOrder answers true. -/
namespace Go.Proofs.Ytlijekppbpefaaa
open Go.RowKit Big

theorem order_facts (x y z : Rat) : ∃ X Y Z : Int, cq x y = X ∧ cq y z = Y ∧ cq x z = Z ∧ cq y x = -X ∧ (X = -1 ∨ X = 0 ∨ X = 1) ∧ (Y = -1 ∨ Y = 0 ∨ Y = 1) ∧ (Z = -1 ∨ Z = 0 ∨ Z = 1) ∧ (X > 0 ∨ Y > 0 ∨ Z ≤ 0) ∧ (X < 0 ∨ Y < 0 ∨ Z ≥ 0) := by
  have h := cq_trans x y z
  have b1 := cq_bounds x y; have b2 := cq_bounds y z; have b3 := cq_bounds x z
  exact ⟨_, _, _, rfl, rfl, rfl, cq_turn y x, by omega, by omega, by omega, h.1, h.2⟩
/-- what the cells of three fractions that were boxed read as -/
theorem nine {w : World} {a b c d e f g h i : Value} (t : TypeId) (j : Nat) : (w.alloc (.cells #[a, b, c, d, e, f, g, h, i] t)).cell? ⟨w.heap.size, j, none⟩ = #[a, b, c, d, e, f, g, h, i][j]? := cell_of_row _ _ j _ t (0, 0) (heap_alloc_new w _)

end Go.Proofs.Ytlijekppbpefaaa
/- elenchuslaw02.RatioLaws answers true. -/
namespace Go.Proofs.Ytlijekppbpefaaa
open Go.RowKit Big

theorem len20 {vs : List Value} (h : vs.length = 20) : ∃ a b c d e f g h i j k l m n o p q r s t, vs = [a, b, c, d, e, f, g, h, i, j, k, l, m, n, o, p, q, r, s, t] := by
  match vs, h with
  | [a, b, c, d, e, f, g, h, i, j, k, l, m, n, o, p, q, r, s, t], _ => exact ⟨a, b, c, d, e, f, g, h, i, j, k, l, m, n, o, p, q, r, s, t, rfl⟩

set_option maxRecDepth 100000 in
set_option maxHeartbeats 6400000 in
theorem lawRLaws_any (v0 v1 v2 : Value) (k0 k1 k2 d0 d1 d2 : Nat) (w : World) (h0 : RatIn w v0 k0 d0) (h1 : RatIn w v1 k1 d1) (h2 : RatIn w v2 k2 d2) :
    Calls Try.prog 4 #[v0, v1, v2] w (RBool true w) := by
  have H0 := hid h0; have H1 := hid h1; have H2 := hid h2
  have m0 := h0.le; have m1 := h1.le; have m2 := h2.le
  obtain ⟨a0, a1, a2, a3, a4, -, -, rfl, -⟩ := h0
  obtain ⟨b0, b1, b2, b3, b4, -, -, rfl, -⟩ := h1
  obtain ⟨c0, c1, c2, c3, c4, -, -, rfl, -⟩ := h2
  have hf := fun o o' o'' => fixed2_any (((w.alloc o).alloc o').alloc o'')
  have Hf := hid hf
  clear hf
  go_enter Try.func4, Try.ntmps4
  go_wp2_with fail
  refine (Hf.out _ _ _).mono ?_
  rintro e u1 ⟨rfl, g1⟩
  have ra := (((Rec.new w #[.bool a0, .slice a1 k0 a2, .slice a3 d0 a4] 27).below (below1 _ (.cells #[.bool b0, .slice b1 k1 b2, .slice b3 d1 b4] 27))).below (below1 _ (.cells #[.bool c0, .slice c1 k2 c2, .slice c3 d2 c4] 27))).below g1
  have rb := (((Rec.new (w.alloc (.cells #[.bool a0, .slice a1 k0 a2, .slice a3 d0 a4] 27)) #[.bool b0, .slice b1 k1 b2, .slice b3 d1 b4] 27).below (below1 _ (.cells #[.bool c0, .slice c1 k2 c2, .slice c3 d2 c4] 27))).below g1)
  have rc := (Rec.new ((w.alloc (.cells #[.bool a0, .slice a1 k0 a2, .slice a3 d0 a4] 27)).alloc (.cells #[.bool b0, .slice b1 k1 b2, .slice b3 d1 b4] 27)) #[.bool c0, .slice c1 k2 c2, .slice c3 d2 c4] 27).below g1
  rw [size_alloc] at rb
  rw [size_alloc, size_alloc] at rc
  have bw := hid (((((below1 _ _).alloc (by simp) _).alloc (by simp; omega) _) : Below w.heap.size w (((w.alloc (.cells #[.bool a0, .slice a1 k0 a2, .slice a3 d0 a4] 27)).alloc (.cells #[.bool b0, .slice b1 k1 b2, .slice b3 d1 b4] 27)).alloc (.cells #[.bool c0, .slice c1 k2 c2, .slice c3 d2 c4] 27))).trans (g1.mono (B' := w.heap.size) (by simp; omega)))
  have HS0 : Hid (∀ w', Below u1.heap.size u1 w' → w'.cell? ⟨w.heap.size, 0, none⟩ = some (.bool a0) ∧ w'.cell? ⟨w.heap.size, 1, none⟩ = some (.slice a1 k0 a2) ∧ w'.cell? ⟨w.heap.size, 2, none⟩ = some (.slice a3 d0 a4) ∧
      w'.cell? ⟨w.heap.size + 1, 0, none⟩ = some (.bool b0) ∧ w'.cell? ⟨w.heap.size + 1, 1, none⟩ = some (.slice b1 k1 b2) ∧ w'.cell? ⟨w.heap.size + 1, 2, none⟩ = some (.slice b3 d1 b4) ∧
      w'.cell? ⟨w.heap.size + 1 + 1, 0, none⟩ = some (.bool c0) ∧ w'.cell? ⟨w.heap.size + 1 + 1, 1, none⟩ = some (.slice c1 k2 c2) ∧ w'.cell? ⟨w.heap.size + 1 + 1, 2, none⟩ = some (.slice c3 d2 c4) ∧ Below u1.heap.size u1 w') := by
    intro w' hb
    have xa := cells3 (ra.below hb); have xb := cells3 (rb.below hb); have xc := cells3 (rc.below hb)
    exact ⟨xa.1, xa.2.1, xa.2.2, xb.1, xb.2.1, xb.2.2, xc.1, xc.2.1, xc.2.2, hb⟩
  obtain ⟨r, hr⟩ : ∃ r, r = decide ((k0 ≤ 4 ∧ d0 ≤ 4) ∧ (k1 ≤ 4 ∧ d1 ≤ 4) ∧ (k2 ≤ 4 ∧ d2 ≤ 4)) := ⟨_, rfl⟩
  have hfew := few_any u1.heap.size 3 3 (fun | 0 => k0 | 1 => k1 | _ => k2) (fun | 0 => d0 | 1 => d1 | _ => d2) r (u1.alloc (.cells #[.bool a0, .slice a1 k0 a2, .slice a3 d0 a4, .bool b0, .slice b1 k1 b2, .slice b3 d1 b4, .bool c0, .slice c1 k2 c2, .slice c3 d2 c4] 27))
    (fun i hi => by
      match i, hi with
      | 0, _ => exact ⟨a0, a1, a2, a3, a4, nine _ 0, nine _ 1, nine _ 2⟩
      | 1, _ => exact ⟨b0, b1, b2, b3, b4, nine _ 3, nine _ 4, nine _ 5⟩
      | 2, _ => exact ⟨c0, c1, c2, c3, c4, nine _ 6, nine _ 7, nine _ 8⟩)
    (by decide) (by simp) (fun i hi => by
      match i, hi with
      | 0, _ => exact m0
      | 1, _ => exact m1
      | 2, _ => exact m2)
    (by
      rw [hr, decide_eq_true_iff]
      constructor
      · intro h i hi
        match i, hi with
        | 0, _ => exact h.1
        | 1, _ => exact h.2.1
        | 2, _ => exact h.2.2
      · intro h
        exact ⟨h 0 (by decide), h 1 (by decide), h 2 (by decide)⟩)
  have Hfew := hid hfew
  have hcells := HS0.out _ (Below.refl _ _)
  clear hfew g1 ra rb rc m0 m1 m2 Hf
  go_split_ands
  by_cases hall : (k0 ≤ 4 ∧ d0 ≤ 4) ∧ (k1 ≤ 4 ∧ d1 ≤ 4) ∧ (k2 ≤ 4 ∧ d2 ≤ 4)
  · have hrt : r = true := by rw [hr]; exact decide_eq_true hall
    rw [hrt] at Hfew
    clear hr hrt
    obtain ⟨⟨hk0, hd0⟩, ⟨hk1, hd1⟩, ⟨hk2, hd2⟩⟩ := hall
    go_wp2_with fail
    refine Hfew.out.mono ?_
    rintro e u2 ⟨rfl, d2'⟩
    have b12 : Below u1.heap.size u1 u2 := (below1 _ _).trans (d2'.mono (B' := u1.heap.size) (by simp))
    have bw2 := hid (bw.out.trans (b12.mono (B' := w.heap.size) bw.out.size))
    obtain ⟨x, hx⟩ := (H0.out.below bw2.out).q hk0 hd0
    obtain ⟨y, hy⟩ := (H1.out.below bw2.out).q hk1 hd1
    obtain ⟨z, hz⟩ := (H2.out.below bw2.out).q hk2 hd2
    have sx := hx.sz (by decide); have sy := hy.sz (by decide); have sz' := hz.sz (by decide)
    have hx := hx.mono (show 4 ≤ 1000 by decide); have hy := hy.mono (show 4 ≤ 1000 by decide); have hz := hz.mono (show 4 ≤ 1000 by decide)
    have HX := hid hx; have HY := hid hy; have HZ := hid hz
    have s1 := hid ((sy.add sz').mono (show 4 + 4 + 1 ≤ 1000 by decide))
    have s2 := hid ((sx.mul (sy.add sz')).mono (show 4 + (4 + 4 + 1) ≤ 1000 by decide))
    have s3 := hid ((sx.mul sy).mono (show 4 + 4 ≤ 1000 by decide))
    have s4 := hid ((sx.mul sz').mono (show 4 + 4 ≤ 1000 by decide))
    have s5 := hid (((sx.mul sy).add (sx.mul sz')).mono (show 4 + 4 + (4 + 4) + 1 ≤ 1000 by decide))
    have s6 := hid ((sx.add sy).mono (show 4 + 4 + 1 ≤ 1000 by decide))
    have s7 := hid (((sx.add sy).sub sy).mono (show 4 + 4 + 1 + 4 + 1 ≤ 1000 by decide))
    have SX := hid sx; have SY := hid sy
    have hq1 : cq (x * (y + z)) (x * y + x * z) = 0 := by rw [Rat.mul_add, cq_self]
    have hq2 : cq (x + y - y) x = 0 := by rw [Rat.add_sub_cancel, cq_self]
    have Hd1 := hid hq1; have Hd2 := hid hq2
    have B12 := hid b12
    have HS : Hid (∀ w', Below u2.heap.size u2 w' → w'.cell? ⟨w.heap.size, 0, none⟩ = some (.bool a0) ∧ w'.cell? ⟨w.heap.size, 1, none⟩ = some (.slice a1 k0 a2) ∧ w'.cell? ⟨w.heap.size, 2, none⟩ = some (.slice a3 d0 a4) ∧
      w'.cell? ⟨w.heap.size + 1, 0, none⟩ = some (.bool b0) ∧ w'.cell? ⟨w.heap.size + 1, 1, none⟩ = some (.slice b1 k1 b2) ∧ w'.cell? ⟨w.heap.size + 1, 2, none⟩ = some (.slice b3 d1 b4) ∧
      w'.cell? ⟨w.heap.size + 1 + 1, 0, none⟩ = some (.bool c0) ∧ w'.cell? ⟨w.heap.size + 1 + 1, 1, none⟩ = some (.slice c1 k2 c2) ∧ w'.cell? ⟨w.heap.size + 1 + 1, 2, none⟩ = some (.slice c3 d2 c4) ∧ Below u2.heap.size u2 w') := by
      intro w' hb
      obtain ⟨q1, q2, q3, q4, q5, q6, q7, q8, q9, -⟩ := HS0.out w' (Below.go hb B12.out)
      exact ⟨q1, q2, q3, q4, q5, q6, q7, q8, q9, hb⟩
    clear d2' Hfew b12 hx hy hz sx sy sz' hq1 hq2 hk0 hd0 hk1 hd1 hk2 hd2 H0 H1 H2 bw HS0
    go_upto_region 5 with fail
    go_region_held3 (fun w' => w'.cell? ⟨w.heap.size, 0, none⟩ = some (.bool a0) ∧ w'.cell? ⟨w.heap.size, 1, none⟩ = some (.slice a1 k0 a2) ∧ w'.cell? ⟨w.heap.size, 2, none⟩ = some (.slice a3 d0 a4) ∧
      w'.cell? ⟨w.heap.size + 1, 0, none⟩ = some (.bool b0) ∧ w'.cell? ⟨w.heap.size + 1, 1, none⟩ = some (.slice b1 k1 b2) ∧ w'.cell? ⟨w.heap.size + 1, 2, none⟩ = some (.slice b3 d1 b4) ∧
      w'.cell? ⟨w.heap.size + 1 + 1, 0, none⟩ = some (.bool c0) ∧ w'.cell? ⟨w.heap.size + 1 + 1, 1, none⟩ = some (.slice c1 k2 c2) ∧ w'.cell? ⟨w.heap.size + 1 + 1, 2, none⟩ = some (.slice c3 d2 c4) ∧ Below u2.heap.size u2 w')
      (first | exact HS.out _ (Below.drew (Below.refl _ _)) | (refine HS.out _ (Below.go hb ?_); go_split_ands; assumption))
      (first
        | (go_at_call_of 15 (c1); refine (QAdd_in (HY.out.below (by go_split_ands; assumption)) (HZ.out.below (by go_split_ands; assumption))).mono ?_; rintro e wa ⟨v1, rfl, i1, hb⟩; have r1 := i1.qin s1.out (by decide))
        | (go_at_call_of 14 (v1); refine (QMul_in (HX.out.below (by go_split_ands; assumption)) r1).mono ?_; rintro e wa ⟨v2, rfl, i2, hb⟩; clear r1; have r2 := i2.qin s2.out (by decide))
        | (go_at_call_of 14 (b1); have _t := r2; refine (QMul_in (HX.out.below (by go_split_ands; assumption)) (HY.out.below (by go_split_ands; assumption))).mono ?_; rintro e wa ⟨v3, rfl, i3, hb⟩; have q2 := r2.below hb; clear _t r2; have r3 := i3.qin s3.out (by decide))
        | (go_at_call_of 14 (c1); refine (QMul_in (HX.out.below (by go_split_ands; assumption)) (HZ.out.below (by go_split_ands; assumption))).mono ?_; rintro e wa ⟨v4, rfl, i4, hb⟩; have o2 := q2.below hb; clear q2; have q3 := r3.below hb; clear r3; have r4 := i4.qin s4.out (by decide))
        | (go_at_call_of 15 (v3); refine (QAdd_in q3 r4).mono ?_; rintro e wa ⟨v5, rfl, i5, hb⟩; have t2 := o2.below hb; clear o2 q3 r4; have r5 := i5.qin s5.out (by decide))
        | (go_at_call_of 13 (v5); have hcc := QCmp_in t2 r5; rw [Hd1.out] at hcc; refine hcc.mono ?_; rintro e wa ⟨rfl, hb⟩; clear t2 r5 hcc)
        | (go_at_call_of 15 (a1); refine (QAdd_in (HX.out.below (by go_split_ands; assumption)) (HY.out.below (by go_split_ands; assumption))).mono ?_; rintro e wa ⟨v6, rfl, i6, hb⟩; have r6 := i6.qin s6.out (by decide))
        | (go_at_call 16; refine (QSub_in r6 (HY.out.below (by go_split_ands; assumption))).mono ?_; rintro e wa ⟨v7, rfl, i7, hb⟩; clear r6; have r7 := i7.qin s7.out (by decide))
        | (go_at_call_of 13 (v7); have hcc := QCmp_in r7 (HX.out.below (by go_split_ands; assumption)); rw [Hd2.out] at hcc; refine hcc.mono ?_; rintro e wb ⟨rfl, hb⟩; clear r7 hcc))
    rename_i hHeld
    go_split_ands
    have HB := hid (show Below u2.heap.size u2 wb by assumption)
    clear hb
    by_cases hy0 : y = 0
    · have HY0 := hid (hy0 ▸ HY.out)
      have hsg : ∀ w', Below u2.heap.size u2 w' → Calls Try.prog 18 #[.agg #[.bool b0, .slice b1 k1 b2, .slice b3 d1 b4]] w' (RNum .i64 0 w') := fun w' hb => by
        have := QSign_in (HY0.out.below hb)
        rwa [cq_self] at this
      have Hsg := hid hsg
      clear hsg hy0
      go_wp2_with fail
      refine (QDiv_in0 (HX.out.below HB.out) (HY0.out.below HB.out)).mono ?_
      rintro e w3 ⟨rfl, hb⟩
      have HB3 := hid (Below.go hb HB.out)
      clear hb
      go_upto_region 8 with fail
      generalize hW : World.alloc w3 _ = W4
      have HB4 : Hid (Below u2.heap.size u2 W4) := by unfold Hid; rw [← hW]; exact HB3.out.trans ((below1 _ _).mono (B' := u2.heap.size) HB3.out.size)
      clear hW
      have hk := HS.out _ HB4.out
      go_split_ands
      refine wp_region_held_drew (S := (fun w' => w'.cell? ⟨w.heap.size, 0, none⟩ = some (.bool a0) ∧ w'.cell? ⟨w.heap.size, 1, none⟩ = some (.slice a1 k0 a2) ∧ w'.cell? ⟨w.heap.size, 2, none⟩ = some (.slice a3 d0 a4) ∧
      w'.cell? ⟨w.heap.size + 1, 0, none⟩ = some (.bool b0) ∧ w'.cell? ⟨w.heap.size + 1, 1, none⟩ = some (.slice b1 k1 b2) ∧ w'.cell? ⟨w.heap.size + 1, 2, none⟩ = some (.slice b3 d1 b4) ∧
      w'.cell? ⟨w.heap.size + 1 + 1, 0, none⟩ = some (.bool c0) ∧ w'.cell? ⟨w.heap.size + 1 + 1, 1, none⟩ = some (.slice c1 k2 c2) ∧ w'.cell? ⟨w.heap.size + 1 + 1, 2, none⟩ = some (.slice c3 d2 c4) ∧ Below u2.heap.size u2 w')) (by kernel_rfl) (HS.out _ (Below.drew HB4.out)) (fun hHeld => ?_)
      refine wpAnyH_take (i := 0) (oi := _) (v := .int .i64 12) rfl (by kernel_rfl) (by kernel_rfl) (by kernel_rfl) (fun _ _ _ h => h) (Or.inl ⟨by rfl, ?_⟩) hHeld ?_
      · intro w hSw; (try dsimp only at hSw); go_split_ands; go_simp
      show wpAnyH _ _ _ _ _ _ _ (Act.put _ (some 47) _) _
      simp only [Act.put, List.setIfInBounds_toArray, List.set_cons_zero, List.set_cons_succ]
      refine wpAnyH_take (i := 1) (oi := _) (v := .bool true) rfl (by kernel_rfl) (by kernel_rfl) (by kernel_rfl) (fun _ _ _ h => h) (Or.inl ⟨by rfl, ?_⟩) hHeld ?_
      · intro w hSw; (try dsimp only at hSw); go_split_ands; go_simp
      show wpAnyH _ _ _ _ _ _ _ (Act.put _ (some 48) _) _
      simp only [Act.put, List.setIfInBounds_toArray, List.set_cons_zero, List.set_cons_succ]
      refine wpAnyH_take (i := 2) (oi := _) (v := .bool true) rfl (by kernel_rfl) (by kernel_rfl) (by kernel_rfl) (fun _ _ _ h => h) (Or.inl ⟨by rfl, ?_⟩) hHeld ?_
      · intro w hSw; (try dsimp only at hSw); go_split_ands; go_simp
      show wpAnyH _ _ _ _ _ _ _ (Act.put _ (some 49) _) _
      simp only [Act.put, List.setIfInBounds_toArray, List.set_cons_zero, List.set_cons_succ]
      refine wpAnyH_take (i := 3) (oi := _) (v := .agg #[.bool b0, .slice b1 k1 b2, .slice b3 d1 b4]) rfl (by kernel_rfl) (by kernel_rfl) (by kernel_rfl) (fun _ _ _ h => h) (Or.inl ⟨by rfl, ?_⟩) hHeld ?_
      · intro w hSw; (try dsimp only at hSw); go_split_ands; go_simp
      show wpAnyH _ _ _ _ _ _ _ (Act.put _ (some 50) _) _
      simp only [Act.put, List.setIfInBounds_toArray, List.set_cons_zero, List.set_cons_succ]
      refine wpAnyH_ready (rs := [4]) (by kernel_rfl) (by simp) ?_
      refine AllReadyH.cons (o := _) rfl (fun K hK => ?_) AllReadyH.nil
      go_simp
      refine (Hsg.out _ (by go_split_ands; assumption)).mono ?_
      rintro e we ⟨rfl, hb⟩
      go_wp2_with fail
      refine hK.out _ _ (HS.out _ (Below.go hb (by go_split_ands; assumption))) (fun hHeld => ?_)
      clear hK K
      try simp only [Act.put, List.setIfInBounds_toArray, List.set_cons_zero, List.set_cons_succ]
      refine wpAnyH_take (i := 5) (oi := _) (v := .bool true) rfl (by kernel_rfl) (by kernel_rfl) (by kernel_rfl) (fun _ _ _ h => h) (Or.inl ⟨by rfl, ?_⟩) hHeld ?_
      · intro w hSw; (try dsimp only at hSw); go_split_ands; go_simp
      show wpAnyH _ _ _ _ _ _ _ (Act.put _ (some 52) _) _
      simp only [Act.put, List.setIfInBounds_toArray, List.set_cons_zero, List.set_cons_succ]
      refine wpAnyH_take (i := 6) (oi := _) (v := .bool true) rfl (by kernel_rfl) (by kernel_rfl) (by kernel_rfl) (fun _ _ _ h => h) (Or.inl ⟨by rfl, ?_⟩) hHeld ?_
      · intro w hSw; (try dsimp only at hSw); go_split_ands; go_simp
      show wpAnyH _ _ _ _ _ _ _ (Act.put _ (some 53) _) _
      simp only [Act.put, List.setIfInBounds_toArray, List.set_cons_zero, List.set_cons_succ]
      refine wpAnyH_take (i := 7) (oi := _) (v := .bool true) rfl (by kernel_rfl) (by kernel_rfl) (by kernel_rfl) (fun _ _ _ h => h) (Or.inl ⟨by rfl, ?_⟩) hHeld ?_
      · intro w hSw; (try dsimp only at hSw); go_split_ands; go_simp
      show wpAnyH _ _ _ _ _ _ _ (Act.put _ (some 54) _) _
      simp only [Act.put, List.setIfInBounds_toArray, List.set_cons_zero, List.set_cons_succ]
      refine wpAnyH_take (i := 8) (oi := _) (v := undef) rfl (by kernel_rfl) (by kernel_rfl) (by kernel_rfl) (fun _ _ _ h => h) (Or.inr ⟨by rfl, rfl⟩) hHeld ?_
      show wpAnyH _ _ _ _ _ _ _ (Act.put _ (some 55) _) _
      simp only [Act.put, List.setIfInBounds_toArray, List.set_cons_zero, List.set_cons_succ]
      refine wpAnyH_take (i := 9) (oi := _) (v := undef) rfl (by kernel_rfl) (by kernel_rfl) (by kernel_rfl) (fun _ _ _ h => h) (Or.inr ⟨by rfl, rfl⟩) hHeld ?_
      show wpAnyH _ _ _ _ _ _ _ (Act.put _ (some 56) _) _
      simp only [Act.put, List.setIfInBounds_toArray, List.set_cons_zero, List.set_cons_succ]
      refine wpAnyH_take (i := 10) (oi := _) (v := undef) rfl (by kernel_rfl) (by kernel_rfl) (by kernel_rfl) (fun _ _ _ h => h) (Or.inr ⟨by rfl, rfl⟩) hHeld ?_
      show wpAnyH _ _ _ _ _ _ _ (Act.put _ (some 57) _) _
      simp only [Act.put, List.setIfInBounds_toArray, List.set_cons_zero, List.set_cons_succ]
      refine wpAnyH_take (i := 11) (oi := _) (v := undef) rfl (by kernel_rfl) (by kernel_rfl) (by kernel_rfl) (fun _ _ _ h => h) (Or.inr ⟨by simp [Region.wanted, yielded, undef], rfl⟩) hHeld ?_
      show wpAnyH _ _ _ _ _ _ _ (Act.put _ (some 58) _) _
      simp only [Act.put, List.setIfInBounds_toArray, List.set_cons_zero, List.set_cons_succ]
      refine wpAnyH_take (i := 12) (oi := _) (v := undef) rfl (by kernel_rfl) (by kernel_rfl) (by kernel_rfl) (fun _ _ _ h => h) (Or.inr ⟨by simp [Region.wanted, yielded, undef], rfl⟩) hHeld ?_
      show wpAnyH _ _ _ _ _ _ _ (Act.put _ (some 59) _) _
      simp only [Act.put, List.setIfInBounds_toArray, List.set_cons_zero, List.set_cons_succ]
      refine wpAnyH_take (i := 13) (oi := _) (v := undef) rfl (by kernel_rfl) (by kernel_rfl) (by kernel_rfl) (fun _ _ _ h => h) (Or.inr ⟨by simp [Region.wanted, yielded, undef], rfl⟩) hHeld ?_
      show wpAnyH _ _ _ _ _ _ _ (Act.put _ (some 60) _) _
      simp only [Act.put, List.setIfInBounds_toArray, List.set_cons_zero, List.set_cons_succ]
      refine wpAnyH_take (i := 14) (oi := _) (v := undef) rfl (by kernel_rfl) (by kernel_rfl) (by kernel_rfl) (fun _ _ _ h => h) (Or.inr ⟨by simp [Region.wanted, yielded, undef], rfl⟩) hHeld ?_
      show wpAnyH _ _ _ _ _ _ _ (Act.put _ (some 61) _) _
      simp only [Act.put, List.setIfInBounds_toArray, List.set_cons_zero, List.set_cons_succ]
      refine wpAnyH_take (i := 15) (oi := _) (v := undef) rfl (by kernel_rfl) (by kernel_rfl) (by kernel_rfl) (fun _ _ _ h => h) (Or.inr ⟨by simp [Region.wanted, yielded, undef], rfl⟩) hHeld ?_
      show wpAnyH _ _ _ _ _ _ _ (Act.put _ (some 62) _) _
      simp only [Act.put, List.setIfInBounds_toArray, List.set_cons_zero, List.set_cons_succ]
      refine wpAnyH_take (i := 16) (oi := _) (v := undef) rfl (by kernel_rfl) (by kernel_rfl) (by kernel_rfl) (fun _ _ _ h => h) (Or.inr ⟨by simp [Region.wanted, yielded, undef], rfl⟩) hHeld ?_
      show wpAnyH _ _ _ _ _ _ _ (Act.put _ (some 63) _) _
      simp only [Act.put, List.setIfInBounds_toArray, List.set_cons_zero, List.set_cons_succ]
      refine wpAnyH_take (i := 17) (oi := _) (v := undef) rfl (by kernel_rfl) (by kernel_rfl) (by kernel_rfl) (fun _ _ _ h => h) (Or.inr ⟨by simp [Region.wanted, yielded], rfl⟩) hHeld ?_
      show wpAnyH _ _ _ _ _ _ _ (Act.put _ (some 64) _) _
      simp only [Act.put, List.setIfInBounds_toArray, List.set_cons_zero, List.set_cons_succ]
      refine wpAnyH_take (i := 18) (oi := _) (v := .bool true) rfl (by kernel_rfl) (by kernel_rfl) (by kernel_rfl) (fun _ _ _ h => h) (Or.inl ⟨by rfl, ?_⟩) hHeld ?_
      · intro w hSw; (try dsimp only at hSw); go_split_ands; go_simp
      show wpAnyH _ _ _ _ _ _ _ (Act.put _ (some 65) _) _
      simp only [Act.put, List.setIfInBounds_toArray, List.set_cons_zero, List.set_cons_succ]
      refine wpAnyH_take (i := 19) (oi := _) (v := .bool true) rfl (by kernel_rfl) (by kernel_rfl) (by kernel_rfl) (fun _ _ _ h => h) (Or.inl ⟨by rfl, ?_⟩) hHeld ?_
      · intro w hSw; (try dsimp only at hSw); go_split_ands; go_simp
      show wpAnyH _ _ _ _ _ _ _ (Act.put _ (some 6) _) _
      simp only [Act.put, List.setIfInBounds_toArray, List.set_cons_zero, List.set_cons_succ]
      refine wpAnyH_done (by kernel_rfl) ?_ _
      go_split_ands
      have HBf := hid (show Below u2.heap.size u2 we by assumption)
      go_wp2_with fail
      go_ret
      exact ⟨rfl, bw2.out.trans (HBf.out.mono (B' := w.heap.size) bw2.out.size)⟩
    · have sq := hid ((SX.out.div SY.out hy0).mono (show 4 + 4 ≤ 1000 by decide))
      have sx1 := hid (SX.out.mono (show 4 ≤ 1000 by decide))
      have Hxy : Hid (x / y * y = x) := Rat.div_mul_cancel hy0
      have Hdv : Hid (∀ w', Below u2.heap.size u2 w' → Calls Try.prog 17 #[.agg #[.bool a0, .slice a1 k0 a2, .slice a3 d0 a4], .agg #[.bool b0, .slice b1 k1 b2, .slice b3 d1 b4]] w' (RSome (x / y) w')) := fun w' hb => QDiv_in (HX.out.below hb) (HY.out.below hb) hy0
      clear hy0
      go_wp2_with fail
      refine (Hdv.out _ HB.out).mono ?_
      rintro e w3 ⟨vq, rfl, hq, hb⟩
      have hqp := hq.parts
      obtain ⟨f0, f1, f2, f3, f4, f5, f6, rfl, hq⟩ := hqp
      have HB3 := hid (Below.go hb HB.out)
      clear hb
      go_upto_region 8 with fail
      generalize hW : World.alloc w3 _ = W4
      have X4 : Below w3.heap.size w3 W4 ∧ Rec W4 w3.heap.size 27 #[.bool f0, .slice f1 f2 f3, .slice f4 f5 f6] := by
        rw [← hW]; exact ⟨below1 _ _, Rec.new ..⟩
      have HB4 : Hid (Below u2.heap.size u2 W4) := HB3.out.trans (X4.1.mono (B' := u2.heap.size) HB3.out.size)
      have HQ := hid ((hq.below X4.1).qin sq.out (by decide))
      have HR := hid X4.2
      obtain ⟨g7, hg7⟩ : ∃ g, g = w3.heap.size := ⟨_, rfl⟩
      rw [← hg7] at HR ⊢
      have HS7 : Hid (∀ w', Below W4.heap.size W4 w' → w'.cell? ⟨w.heap.size, 0, none⟩ = some (.bool a0) ∧ w'.cell? ⟨w.heap.size, 1, none⟩ = some (.slice a1 k0 a2) ∧ w'.cell? ⟨w.heap.size, 2, none⟩ = some (.slice a3 d0 a4) ∧
      w'.cell? ⟨w.heap.size + 1, 0, none⟩ = some (.bool b0) ∧ w'.cell? ⟨w.heap.size + 1, 1, none⟩ = some (.slice b1 k1 b2) ∧ w'.cell? ⟨w.heap.size + 1, 2, none⟩ = some (.slice b3 d1 b4) ∧
      w'.cell? ⟨w.heap.size + 1 + 1, 0, none⟩ = some (.bool c0) ∧ w'.cell? ⟨w.heap.size + 1 + 1, 1, none⟩ = some (.slice c1 k2 c2) ∧ w'.cell? ⟨w.heap.size + 1 + 1, 2, none⟩ = some (.slice c3 d2 c4) ∧
          w'.cell? ⟨g7, 0, none⟩ = some (.bool f0) ∧ w'.cell? ⟨g7, 1, none⟩ = some (.slice f1 f2 f3) ∧ w'.cell? ⟨g7, 2, none⟩ = some (.slice f4 f5 f6) ∧ Below W4.heap.size W4 w') := by
        intro w' hb
        obtain ⟨q1, q2, q3, q4, q5, q6, q7, q8, q9, -⟩ := HS.out w' (Below.go hb HB4.out)
        have a := cells3 (HR.out.below hb)
        exact ⟨q1, q2, q3, q4, q5, q6, q7, q8, q9, a.1, a.2.1, a.2.2, hb⟩
      have HX4 := hid (HX.out.below HB4.out); have HY4 := hid (HY.out.below HB4.out)
      clear hW X4 hg7 hq
      have Hml : Hid (∀ w', Below W4.heap.size W4 w' → Calls Try.prog 14 #[.agg #[.bool f0, .slice f1 f2 f3, .slice f4 f5 f6], .agg #[.bool b0, .slice b1 k1 b2, .slice b3 d1 b4]] w' (RRat x w')) := fun w' hb => by
        have hm := QMul_in (HQ.out.below hb) (HY4.out.below hb)
        rwa [Hxy.out] at hm
      have Hcm : Hid (∀ w' v, RatTold w' v x → Below W4.heap.size W4 w' → Calls Try.prog 13 #[v, .agg #[.bool a0, .slice a1 k0 a2, .slice a3 d0 a4]] w' (RNum .i64 0 w')) := fun w' v h hb => by
        have hc := QCmp_in (h.qin sx1.out (by decide)) (HX4.out.below hb)
        rwa [cq_self] at hc
      refine wp_region_held_drew (S := (fun w' => w'.cell? ⟨w.heap.size, 0, none⟩ = some (.bool a0) ∧ w'.cell? ⟨w.heap.size, 1, none⟩ = some (.slice a1 k0 a2) ∧ w'.cell? ⟨w.heap.size, 2, none⟩ = some (.slice a3 d0 a4) ∧
      w'.cell? ⟨w.heap.size + 1, 0, none⟩ = some (.bool b0) ∧ w'.cell? ⟨w.heap.size + 1, 1, none⟩ = some (.slice b1 k1 b2) ∧ w'.cell? ⟨w.heap.size + 1, 2, none⟩ = some (.slice b3 d1 b4) ∧
      w'.cell? ⟨w.heap.size + 1 + 1, 0, none⟩ = some (.bool c0) ∧ w'.cell? ⟨w.heap.size + 1 + 1, 1, none⟩ = some (.slice c1 k2 c2) ∧ w'.cell? ⟨w.heap.size + 1 + 1, 2, none⟩ = some (.slice c3 d2 c4) ∧
          w'.cell? ⟨g7, 0, none⟩ = some (.bool f0) ∧ w'.cell? ⟨g7, 1, none⟩ = some (.slice f1 f2 f3) ∧ w'.cell? ⟨g7, 2, none⟩ = some (.slice f4 f5 f6) ∧ Below W4.heap.size W4 w')) (by kernel_rfl) (HS7.out _ (Below.drew (Below.refl _ _))) (fun hHeld => ?_)
      refine wpAnyH_take (i := 0) (oi := _) (v := .int .i64 0) rfl (by kernel_rfl) (by kernel_rfl) (by kernel_rfl) (fun _ _ _ h => h) (Or.inl ⟨by rfl, ?_⟩) hHeld ?_
      · intro w hSw; (try dsimp only at hSw); go_split_ands; go_simp
      show wpAnyH _ _ _ _ _ _ _ (Act.put _ (some 47) _) _
      simp only [Act.put, List.setIfInBounds_toArray, List.set_cons_zero, List.set_cons_succ]
      refine wpAnyH_take (i := 1) (oi := _) (v := .bool false) rfl (by kernel_rfl) (by kernel_rfl) (by kernel_rfl) (fun _ _ _ h => h) (Or.inl ⟨by rfl, ?_⟩) hHeld ?_
      · intro w hSw; (try dsimp only at hSw); go_split_ands; go_simp
      show wpAnyH _ _ _ _ _ _ _ (Act.put _ (some 48) _) _
      simp only [Act.put, List.setIfInBounds_toArray, List.set_cons_zero, List.set_cons_succ]
      refine wpAnyH_take (i := 2) (oi := _) (v := .bool false) rfl (by kernel_rfl) (by kernel_rfl) (by kernel_rfl) (fun _ _ _ h => h) (Or.inl ⟨by rfl, ?_⟩) hHeld ?_
      · intro w hSw; (try dsimp only at hSw); go_split_ands; go_simp
      show wpAnyH _ _ _ _ _ _ _ (Act.put _ (some 49) _) _
      simp only [Act.put, List.setIfInBounds_toArray, List.set_cons_zero, List.set_cons_succ]
      refine wpAnyH_take (i := 3) (oi := _) (v := undef) rfl (by kernel_rfl) (by kernel_rfl) (by kernel_rfl) (fun _ _ _ h => h) (Or.inr ⟨by rfl, rfl⟩) hHeld ?_
      show wpAnyH _ _ _ _ _ _ _ (Act.put _ (some 50) _) _
      simp only [Act.put, List.setIfInBounds_toArray, List.set_cons_zero, List.set_cons_succ]
      refine wpAnyH_take (i := 4) (oi := _) (v := undef) rfl (by kernel_rfl) (by kernel_rfl) (by kernel_rfl) (fun _ _ _ h => h) (Or.inr ⟨by rfl, rfl⟩) hHeld ?_
      show wpAnyH _ _ _ _ _ _ _ (Act.put _ (some 51) _) _
      simp only [Act.put, List.setIfInBounds_toArray, List.set_cons_zero, List.set_cons_succ]
      refine wpAnyH_take (i := 5) (oi := _) (v := undef) rfl (by kernel_rfl) (by kernel_rfl) (by kernel_rfl) (fun _ _ _ h => h) (Or.inr ⟨by rfl, rfl⟩) hHeld ?_
      show wpAnyH _ _ _ _ _ _ _ (Act.put _ (some 52) _) _
      simp only [Act.put, List.setIfInBounds_toArray, List.set_cons_zero, List.set_cons_succ]
      refine wpAnyH_take (i := 6) (oi := _) (v := .bool false) rfl (by kernel_rfl) (by kernel_rfl) (by kernel_rfl) (fun _ _ _ h => h) (Or.inl ⟨by rfl, ?_⟩) hHeld ?_
      · intro w hSw; (try dsimp only at hSw); go_split_ands; go_simp
      show wpAnyH _ _ _ _ _ _ _ (Act.put _ (some 53) _) _
      simp only [Act.put, List.setIfInBounds_toArray, List.set_cons_zero, List.set_cons_succ]
      refine wpAnyH_take (i := 7) (oi := _) (v := .bool false) rfl (by kernel_rfl) (by kernel_rfl) (by kernel_rfl) (fun _ _ _ h => h) (Or.inl ⟨by rfl, ?_⟩) hHeld ?_
      · intro w hSw; (try dsimp only at hSw); go_split_ands; go_simp
      show wpAnyH _ _ _ _ _ _ _ (Act.put _ (some 54) _) _
      simp only [Act.put, List.setIfInBounds_toArray, List.set_cons_zero, List.set_cons_succ]
      refine wpAnyH_take (i := 8) (oi := _) (v := .int .i64 0) rfl (by kernel_rfl) (by kernel_rfl) (by kernel_rfl) (fun _ _ _ h => h) (Or.inl ⟨by rfl, ?_⟩) hHeld ?_
      · intro w hSw; (try dsimp only at hSw); go_split_ands; go_simp
      show wpAnyH _ _ _ _ _ _ _ (Act.put _ (some 55) _) _
      simp only [Act.put, List.setIfInBounds_toArray, List.set_cons_zero, List.set_cons_succ]
      refine wpAnyH_take (i := 9) (oi := _) (v := .bool true) rfl (by kernel_rfl) (by kernel_rfl) (by kernel_rfl) (fun _ _ _ h => h) (Or.inl ⟨by rfl, ?_⟩) hHeld ?_
      · intro w hSw; (try dsimp only at hSw); go_split_ands; go_simp
      show wpAnyH _ _ _ _ _ _ _ (Act.put _ (some 56) _) _
      simp only [Act.put, List.setIfInBounds_toArray, List.set_cons_zero, List.set_cons_succ]
      refine wpAnyH_take (i := 10) (oi := _) (v := .bool true) rfl (by kernel_rfl) (by kernel_rfl) (by kernel_rfl) (fun _ _ _ h => h) (Or.inl ⟨by rfl, ?_⟩) hHeld ?_
      · intro w hSw; (try dsimp only at hSw); go_split_ands; go_simp
      show wpAnyH _ _ _ _ _ _ _ (Act.put _ (some 57) _) _
      simp only [Act.put, List.setIfInBounds_toArray, List.set_cons_zero, List.set_cons_succ]
      refine wpAnyH_take (i := 11) (oi := _) (v := .agg #[.bool f0, .slice f1 f2 f3, .slice f4 f5 f6]) rfl (by kernel_rfl) (by kernel_rfl) (by kernel_rfl) (fun _ _ _ h => h) (Or.inl ⟨by rfl, ?_⟩) hHeld ?_
      · intro w hSw; (try dsimp only at hSw); go_split_ands; go_simp
      show wpAnyH _ _ _ _ _ _ _ (Act.put _ (some 58) _) _
      simp only [Act.put, List.setIfInBounds_toArray, List.set_cons_zero, List.set_cons_succ]
      refine wpAnyH_take (i := 12) (oi := _) (v := .agg #[.bool b0, .slice b1 k1 b2, .slice b3 d1 b4]) rfl (by kernel_rfl) (by kernel_rfl) (by kernel_rfl) (fun _ _ _ h => h) (Or.inl ⟨by rfl, ?_⟩) hHeld ?_
      · intro w hSw; (try dsimp only at hSw); go_split_ands; go_simp
      show wpAnyH _ _ _ _ _ _ _ (Act.put _ (some 59) _) _
      simp only [Act.put, List.setIfInBounds_toArray, List.set_cons_zero, List.set_cons_succ]
      refine wpAnyH_take (i := 14) (oi := _) (v := .agg #[.bool a0, .slice a1 k0 a2, .slice a3 d0 a4]) rfl (by kernel_rfl) (by kernel_rfl) (by kernel_rfl) (fun _ _ _ h => h) (Or.inl ⟨by rfl, ?_⟩) hHeld ?_
      · intro w hSw; (try dsimp only at hSw); go_split_ands; go_simp
      show wpAnyH _ _ _ _ _ _ _ (Act.put _ (some 61) _) _
      simp only [Act.put, List.setIfInBounds_toArray, List.set_cons_zero, List.set_cons_succ]
      refine wpAnyH_ready (rs := [13]) (by kernel_rfl) (by simp) ?_
      refine AllReadyH.cons (o := _) rfl (fun K hK => ?_) AllReadyH.nil
      go_simp
      refine (Hml.out _ (by go_split_ands; assumption)).mono ?_
      rintro e wd ⟨v8, rfl, i8, hb⟩
      go_wp2_with fail
      refine hK.out _ _ (HS7.out _ (Below.go hb (by go_split_ands; assumption))) (fun hHeld => ?_)
      clear hK K
      try simp only [Act.put, List.setIfInBounds_toArray, List.set_cons_zero, List.set_cons_succ]
      refine wpAnyH_ready (rs := [15]) (by kernel_rfl) (by simp) ?_
      refine AllReadyH.cons (o := _) rfl (fun K hK => ?_) AllReadyH.nil
      go_simp
      refine (Hcm.out _ _ i8 (by go_split_ands; assumption)).mono ?_
      rintro e we ⟨rfl, hb⟩
      go_wp2_with fail
      refine hK.out _ _ (HS7.out _ (Below.go hb (by go_split_ands; assumption))) (fun hHeld => ?_)
      clear hK K
      try simp only [Act.put, List.setIfInBounds_toArray, List.set_cons_zero, List.set_cons_succ]
      refine wpAnyH_take (i := 16) (oi := _) (v := .bool true) rfl (by kernel_rfl) (by kernel_rfl) (by kernel_rfl) (fun _ _ _ h => h) (Or.inl ⟨by rfl, ?_⟩) hHeld ?_
      · intro w hSw; (try dsimp only at hSw); go_split_ands; go_simp
      show wpAnyH _ _ _ _ _ _ _ (Act.put _ (some 63) _) _
      simp only [Act.put, List.setIfInBounds_toArray, List.set_cons_zero, List.set_cons_succ]
      refine wpAnyH_take (i := 17) (oi := _) (v := .bool true) rfl (by kernel_rfl) (by kernel_rfl) (by kernel_rfl) (fun _ _ _ h => h) (Or.inl ⟨by rfl, ?_⟩) hHeld ?_
      · intro w hSw; (try dsimp only at hSw); go_split_ands; go_simp
      show wpAnyH _ _ _ _ _ _ _ (Act.put _ (some 64) _) _
      simp only [Act.put, List.setIfInBounds_toArray, List.set_cons_zero, List.set_cons_succ]
      refine wpAnyH_take (i := 18) (oi := _) (v := .bool true) rfl (by kernel_rfl) (by kernel_rfl) (by kernel_rfl) (fun _ _ _ h => h) (Or.inl ⟨by rfl, ?_⟩) hHeld ?_
      · intro w hSw; (try dsimp only at hSw); go_split_ands; go_simp
      show wpAnyH _ _ _ _ _ _ _ (Act.put _ (some 65) _) _
      simp only [Act.put, List.setIfInBounds_toArray, List.set_cons_zero, List.set_cons_succ]
      refine wpAnyH_take (i := 19) (oi := _) (v := .bool true) rfl (by kernel_rfl) (by kernel_rfl) (by kernel_rfl) (fun _ _ _ h => h) (Or.inl ⟨by rfl, ?_⟩) hHeld ?_
      · intro w hSw; (try dsimp only at hSw); go_split_ands; go_simp
      show wpAnyH _ _ _ _ _ _ _ (Act.put _ (some 6) _) _
      simp only [Act.put, List.setIfInBounds_toArray, List.set_cons_zero, List.set_cons_succ]
      refine wpAnyH_done (by kernel_rfl) ?_ _
      go_split_ands
      have HBf := hid (show Below W4.heap.size W4 we by assumption)
      go_wp2_with fail
      go_ret
      exact ⟨rfl, bw2.out.trans ((Below.go HBf.out HB4.out).mono (B' := w.heap.size) bw2.out.size)⟩
  · have hrt : r = false := by rw [hr]; exact decide_eq_false hall
    rw [hrt] at Hfew
    clear hr hrt hall
    go_wp2_with fail
    refine Hfew.out.mono ?_
    rintro e u2 ⟨rfl, d2'⟩
    have bw2 := hid (bw.out.trans (((below1 _ _).trans (d2'.mono (B' := u1.heap.size) (by simp))).mono (B' := w.heap.size) bw.out.size))
    clear d2' Hfew
    go_wp2_with fail
    go_ret
    exact ⟨rfl, bw2.out⟩
end Go.Proofs.Ytlijekppbpefaaa
