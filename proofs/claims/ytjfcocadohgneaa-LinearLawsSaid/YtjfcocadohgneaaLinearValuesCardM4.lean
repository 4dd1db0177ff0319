/- Texts put together: LnFixed, LnValue, LnRValue, LnOpen, LnFew, LnLawValues. -/
import Derived.Test.YtjfcocadohgneaaLinearValuesCardM3
/- elenchuslaw06's small functions: one and fixed. -/
namespace Go.Proofs.Ytjfcocadohgneaa
open Go.RowKit Big

theorem vlen34 {vs : List Value} (h : vs.length = 34) : ∃ v0 v1 v2 v3 v4 v5 v6 v7 v8 v9 v10 v11 v12 v13 v14 v15 v16 v17 v18 v19 v20 v21 v22 v23 v24 v25 v26 v27 v28 v29 v30 v31 v32 v33, vs = [v0, v1, v2, v3, v4, v5, v6, v7, v8, v9, v10, v11, v12, v13, v14, v15, v16, v17, v18, v19, v20, v21, v22, v23, v24, v25, v26, v27, v28, v29, v30, v31, v32, v33] := by
  match vs, h with
  | v0 :: v1 :: v2 :: v3 :: v4 :: v5 :: v6 :: v7 :: v8 :: v9 :: v10 :: v11 :: v12 :: v13 :: v14 :: v15 :: v16 :: v17 :: v18 :: v19 :: v20 :: v21 :: v22 :: v23 :: v24 :: v25 :: v26 :: v27 :: v28 :: v29 :: v30 :: v31 :: v32 :: v33 :: [], _ => exact ⟨v0, v1, v2, v3, v4, v5, v6, v7, v8, v9, v10, v11, v12, v13, v14, v15, v16, v17, v18, v19, v20, v21, v22, v23, v24, v25, v26, v27, v28, v29, v30, v31, v32, v33, rfl⟩

set_option maxRecDepth 100000 in
theorem one_any (z : Int) (w : World) (h0 : -9223372036854775808 ≤ z) (h1 : z ≤ 9223372036854775807) : Calls Try.prog 16 #[.int .i64 z] w (RLin ([(1, 0)], z) w) := by
  have hO := hid (fun w' => ROf_any z w' h0 h1)
  clear h0 h1
  obtain ⟨W1, hW⟩ : ∃ W1, W1 = w.alloc (.cells #[.slice none 0 0, .bool false, .slice none 0 0] 28) := ⟨_, rfl⟩
  have b1 : Below w.heap.size w W1 := by rw [hW]; exact below1 w _
  have z1 : W1.heap.size = w.heap.size + 1 := by rw [hW, size_alloc]
  have e1 : W1.heap[w.heap.size]? = some (.cells #[.slice none 0 0, .bool false, .slice none 0 0] 28 (0, 0)) := by rw [hW]; exact heap_alloc_new w _
  have B1 := hid b1; have E1 := hid e1
  clear b1 e1
  go_enter Try.func16, Try.ntmps16
  go_wp2_with fail
  rw [← hW]
  clear hW
  refine (ROf_any 1 W1 (by decide) (by decide)).mono ?_
  rintro e w2 ⟨v2, rfl, i2, b2⟩
  obtain ⟨p2, n2, c2, rfl, i2⟩ := i2.shape
  have z2 := b2.size
  obtain ⟨W3, hW3⟩ : ∃ W3, W3 = w2.alloc (.cells #[.bool false, .slice p2 n2 c2, .int .i64 0] 45) := ⟨_, rfl⟩
  have b3 : Below w2.heap.size w2 W3 := by rw [hW3]; exact below1 _ _
  have e3 : W3.heap[w2.heap.size]? = some (.cells #[.bool false, .slice p2 n2 c2, .int .i64 0] 45 (0, 0)) := by rw [hW3]; exact heap_alloc_new _ _
  have z3 : W3.heap.size = w2.heap.size + 1 := by rw [hW3, size_alloc]
  have I3 := hid (i2.below b3)
  have B3 := hid (lnGo b3 (lnGo b2 B1.out))
  have E13 := hid ((b3.block w.heap.size (by omega)).trans ((b2.block w.heap.size (by omega)).trans E1.out))
  have E3 := hid e3
  clear i2 b3 e3 b2
  go_wp2_with fail
  rw [← hW3]
  clear hW3
  refine (hO.out W3).mono ?_
  rintro e w4 ⟨v4, rfl, i4, b4⟩
  obtain ⟨p4, n4, c4, rfl, i4⟩ := i4.shape
  have e14 := (b4.block w.heap.size (by omega)).trans E13.out
  have e34 := (b4.block w2.heap.size (by omega)).trans E3.out
  obtain ⟨x0, x1, x2⟩ := lnCells3 e14
  have fz0 := frozen_of_row w4 w.heap.size 0 _ _ e14
  have fz1 := frozen_of_row w4 w.heap.size 1 _ _ e14
  have fz2 := frozen_of_row w4 w.heap.size 2 _ _ e14
  have hT : LnT w4 (.agg #[.slice (some ⟨w2.heap.size, 0, none⟩) 1 1, .bool (decide (z < 0)), .slice p4 n4 c4]) ([(1, 0)], z) :=
    ⟨_, _, rfl, ⟨_, 1, rfl, by simp, by simp [maxLen], (fun h => by cases h), fun _ => ⟨w2.heap.size, 0, rfl, (Array.getElem?_eq_some_iff.1 e34).1, fun i hi => by
      obtain rfl : i = 0 := by simp at hi; omega
      refine ⟨[.bool false, .slice p2 n2 c2, .int .i64 0], fun j u hj => ?_, _, rfl, I3.out.below b4, (wfI_iff 0).2 (by decide)⟩
      rw [cell_of_row w4 w2.heap.size _ _ _ (0, 0) e34]
      simpa using hj⟩⟩, i4⟩
  have HT := hid (hT.quiet (st3_apart w4 w.heap.size (.slice (some ⟨w2.heap.size, 0, none⟩) 1 1) (.bool (decide (z < 0))) (.slice p4 n4 c4)) (fun b hb => by rw [hb]; exact NoInt.cells e14 (by simp)))
  have HB := hid (st3_below (lnGo b4 B3.out) (g := w.heap.size) (Nat.le_refl _) (.slice (some ⟨w2.heap.size, 0, none⟩) 1 1) (.bool (decide (z < 0))) (.slice p4 n4 c4))
  clear hT i4 b4 e14 e34
  go_wp2
  exact bodyPost_ret (v := .agg #[.slice (some ⟨w2.heap.size, 0, none⟩) 1 1, .bool (decide (z < 0)), .slice p4 n4 c4]) (by simp [results, Try.results16, go_sem, x0, x1, x2]) rfl ⟨_, rfl, HT.out, HB.out⟩
/-- the first part of a told sum -/
theorem LnT.first {w : World} {v : Value} {c t x : Int} {l : List (Int × Int)} (h : LnT w v ((c, t) :: l, x)) : ∃ b o cap q k d pc nc cc, v = .agg #[.slice (some ⟨b, o, none⟩) (l.length + 1) cap, .bool (decide (x < 0)), .slice q k d] ∧ b < w.heap.size ∧
    w.cell? ⟨b, o, none⟩ = some (.bool (decide (c < 0))) ∧ w.cell? ⟨b, o + 1, none⟩ = some (.slice pc nc cc) ∧ IntAt w (.agg #[.bool (decide (c < 0)), .slice pc nc cc]) c ∧ IntAt w (.agg #[.bool (decide (x < 0)), .slice q k d]) x ∧ l.length + 1 ≤ cap := by
  obtain ⟨pv, s, rfl, ⟨p, cap, rfl, h1, h2, h3, h4⟩, h5⟩ := h
  obtain ⟨b, o, rfl, hb, hc⟩ := h4 (by simp)
  obtain ⟨cs, k1, s', rfl, k2, -⟩ := hc 0 (by simp)
  obtain ⟨p2, n2, c2, e2, k2⟩ := k2.shape
  injection e2 with e2
  obtain rfl : s' = .slice p2 n2 c2 := by simpa using e2
  obtain ⟨p3, n3, c3, e3, h5⟩ := h5.shape
  injection e3 with e3
  obtain rfl : s = .slice p3 n3 c3 := by simpa using e3
  have q0 := k1 0 _ rfl
  have q1 := k1 1 _ rfl
  simp only [Nat.zero_mul, Nat.add_zero] at q0 q1
  exact ⟨b, o, cap, p3, n3, c3, p2, n2, c2, rfl, hb, q0, q1, k2, h5, by simpa using h1⟩
theorem LnT.pair2 {w : World} {g : Nat} {p2 q2 : Option Addr} {n2 c2 m2 d2 : Nat} {s : Value} {a b x : Int} {T : TypeId} (h : w.heap[g]? = some (.cells #[.bool (decide (a < 0)), .slice p2 n2 c2, .int .i64 0, .bool (decide (b < 0)), .slice q2 m2 d2, .int .i64 1] T (0, 0)))
    (ha : IntAt w (.agg #[.bool (decide (a < 0)), .slice p2 n2 c2]) a) (hb : IntAt w (.agg #[.bool (decide (b < 0)), .slice q2 m2 d2]) b) (hx : IntAt w (.agg #[.bool (decide (x < 0)), s]) x) :
    LnT w (.agg #[.slice (some ⟨g, 0, none⟩) 2 2, .bool (decide (x < 0)), s]) ([(a, 0), (b, 1)], x) :=
  ⟨_, _, rfl, ⟨_, 2, rfl, by simp, by simp [maxLen], (fun h => by cases h), fun _ => ⟨g, 0, rfl, (Array.getElem?_eq_some_iff.1 h).1, fun i hi => by
    rcases (by simp at hi; omega : i = 0 ∨ i = 1) with rfl | rfl
    · refine ⟨[.bool (decide (a < 0)), .slice p2 n2 c2, .int .i64 0], fun j u hj => ?_, _, rfl, ha, (wfI_iff 0).2 (by decide)⟩
      rw [cell_of_row w g _ _ _ (0, 0) h]
      rcases j with _ | _ | _ | j <;> simp at hj ⊢ <;> exact hj
    · refine ⟨[.bool (decide (b < 0)), .slice q2 m2 d2, .int .i64 1], fun j u hj => ?_, _, rfl, hb, (wfI_iff 1).2 (by decide)⟩
      rw [cell_of_row w g _ _ _ (0, 0) h]
      rcases j with _ | _ | _ | j <;> simp at hj ⊢ <;> exact hj⟩⟩, hx⟩
theorem lnFix1 : (lnSum ((lnSum (lnTimes 2 [(1, 0)])) ++ [(1, 0)]), (3 : Int) * 2 + 0) = ([(3, 0)], 6) := by decide
theorem lnFix2 : lnTight ([(2, 0), (4, 1)], 3) = (([(1, 0), (2, 1)], 0), -2, 0) := by decide +kernel
set_option maxRecDepth 100000 in
set_option maxHeartbeats 12800000 in
theorem fixed6_any (w : World) : Calls Try.prog 5 #[] w (RBool true w) := by
  go_enter Try.func5, Try.ntmps5
  go_wp2_with fail
  refine (one_any 3 w (by decide) (by decide)).mono ?_
  rintro e w1 ⟨v1, rfl, t1, b1⟩
  go_wp2_with fail
  refine (ROf_any 2 w1 (by decide) (by decide)).mono ?_
  rintro e w2 ⟨v2, rfl, i2, b2⟩
  have s1 : LnSz 1 ([((1 : Int), (0 : Int))], (3 : Int)) := ⟨fun p hp => by rw [List.mem_singleton.1 hp]; decide +kernel, by decide +kernel⟩
  go_wp2_with fail
  refine (Scale_lin v1 v2 _ 2 w2 (N := 1) (by decide) ((t1.below b2).raw s1 (by decide)) (i2.rawL (by decide +kernel)) s1 (by decide +kernel) (by decide)).mono ?_
  rintro e w3 ⟨v3, rfl, t3, b3⟩
  have B3 := hid (lnGo b3 (lnGo b2 b1))
  clear t1 i2 b1 b2 b3
  go_wp2_with fail
  refine (one_any 0 w3 (by decide) (by decide)).mono ?_
  rintro e w4 ⟨v4, rfl, t4, b4⟩
  have s3 : LnSz 1 (lnSum (lnTimes 2 [((1 : Int), (0 : Int))]), (3 : Int) * 2) := ⟨by decide +kernel, by decide +kernel⟩
  have s4 : LnSz 1 ([((1 : Int), (0 : Int))], (0 : Int)) := ⟨fun p hp => by rw [List.mem_singleton.1 hp]; decide +kernel, by decide +kernel⟩
  go_wp2_with fail
  refine (Add_lin v3 v4 _ _ w4 (N := 1) (by decide) ((t3.below b4).raw s3 (by decide)) (t4.raw s4 (by decide)) s3 s4 (by decide)).mono ?_
  rintro e w5 ⟨v5, rfl, t5, b5⟩
  rw [lnFix1] at t5
  have B5 := hid (lnGo b5 (lnGo b4 B3.out))
  clear t3 t4 b4 b5
  obtain ⟨b0, o0, cp0, q5, k5, d5, pc, nc, cc, rfl, hb0, hc0, hc1, i3, i6, hcp⟩ := t5.first
  obtain ⟨wA, hwA⟩ : ∃ wA, wA = w5.alloc (.cells #[.slice (some ⟨b0, o0, none⟩) 1 cp0, .bool false, .slice q5 k5 d5] 28) := ⟨_, rfl⟩
  have bA : Below w5.heap.size w5 wA := by rw [hwA]; exact below1 _ _
  have eA : wA.heap[w5.heap.size]? = some (.cells #[.slice (some ⟨b0, o0, none⟩) 1 cp0, .bool false, .slice q5 k5 d5] 28 (0, 0)) := by rw [hwA]; exact heap_alloc_new _ _
  have zA : wA.heap.size = w5.heap.size + 1 := by rw [hwA, size_alloc]
  have EA := hid eA
  have HB0 := hid hb0
  have C0 := hid ((bA.cell (p := ⟨b0, o0, none⟩) hb0).trans hc0); have C1 := hid ((bA.cell (p := ⟨b0, o0 + 1, none⟩) hb0).trans hc1)
  have I3 := hid (i3.below bA); have I6 := hid (i6.below bA)
  have BA := hid (lnGo bA B5.out)
  clear t5 hb0 hc0 hc1 i3 i6 bA eA
  go_upto_region 2 with fail
  rw [← hwA]
  clear hwA
  go_wp2_with fail
  refine (ROf_any 2 wA (by decide) (by decide)).mono ?_
  rintro e w6 ⟨v6, rfl, i6, b6⟩
  obtain ⟨p6, n6, c6, rfl, i6⟩ := i6.shape
  go_wp2_with fail
  refine (ROf_any 4 w6 (by decide) (by decide)).mono ?_
  rintro e w7 ⟨v7, rfl, i7, b7⟩
  obtain ⟨p7, n7, c7, rfl, i7⟩ := i7.shape
  obtain ⟨wB, hwB⟩ : ∃ wB, wB = w7.alloc (.cells #[.bool false, .slice p6 n6 c6, .int .i64 0, .bool false, .slice p7 n7 c7, .int .i64 1] 45) := ⟨_, rfl⟩
  have bB : Below w7.heap.size w7 wB := by rw [hwB]; exact below1 _ _
  have eB : wB.heap[w7.heap.size]? = some (.cells #[.bool false, .slice p6 n6 c6, .int .i64 0, .bool false, .slice p7 n7 c7, .int .i64 1] 45 (0, 0)) := by rw [hwB]; exact heap_alloc_new _ _
  have I6' := hid ((i6.below b7).below bB); have I7 := hid (i7.below bB)
  have HAB := hid (lnGo bB (lnGo b7 b6))
  have EB := hid eB
  clear i6 i7 b6 b7 bB eB
  go_wp2_with fail
  rw [← hwB]
  clear hwB
  refine (ROf_any 3 wB (by decide) (by decide)).mono ?_
  rintro e w8 ⟨v8, rfl, i8, b8⟩
  obtain ⟨p8, n8, c8, rfl, i8⟩ := i8.shape
  obtain ⟨wC, hwC⟩ : ∃ wC, wC = w8.alloc (.cells #[.slice (some ⟨w7.heap.size, 0, none⟩) 2 2, .bool false, .slice p8 n8 c8] 28) := ⟨_, rfl⟩
  have bC : Below w8.heap.size w8 wC := by rw [hwC]; exact below1 _ _
  have eC : wC.heap[w8.heap.size]? = some (.cells #[.slice (some ⟨w7.heap.size, 0, none⟩) 2 2, .bool false, .slice p8 n8 c8] 28 (0, 0)) := by rw [hwC]; exact heap_alloc_new _ _
  have bBC := lnGo bC b8
  have zB : w7.heap.size < wB.heap.size := (Array.getElem?_eq_some_iff.1 EB.out).1
  have hT := LnT.pair2 (a := 2) (b := 4) (x := 3) ((bBC.block w7.heap.size zB).trans EB.out) (I6'.out.below bBC) (I7.out.below bBC) (i8.below bC)
  have s2 : LnSz 1 ([((2 : Int), (0 : Int)), (4, 1)], (3 : Int)) := ⟨by decide +kernel, by decide +kernel⟩
  have HTi := hid (Tight_lin _ _ _ wC (N := 1) (by decide) (hT.raw s2 (by decide)) s2 (by decide))
  have HAC := hid (lnGo bBC HAB.out)
  obtain ⟨x0, x1, x2⟩ := lnCells3 eC
  clear hT i8 b8 bC eC bBC I6' I7 EB HAB s2 zB
  go_upto_region 3 with fail
  rw [← hwC]
  clear hwC
  go_wp2_with fail
  refine HTi.out.mono ?_
  rw [lnFix2]
  rintro e w9 ⟨v9, u9, rfl, t9, i9, b9⟩
  obtain ⟨b1, o1, cp1, q9, k9, d9, _, _, _, rfl, -, -, -, -, -, -⟩ := t9.first
  obtain ⟨pk, nk, ck, rfl, i9⟩ := i9.shape
  obtain ⟨wD, hwD⟩ : ∃ wD, wD = (w9.alloc (.cells #[.slice (some ⟨b1, o1, none⟩) 2 cp1, .bool false, .slice q9 k9 d9] 28)).alloc (.cells #[.bool true, .slice pk nk ck] 26) := ⟨_, rfl⟩
  have bD : Below w9.heap.size w9 wD := by rw [hwD]; exact (below1 _ _).alloc (by simp) _
  have eD : wD.heap[w9.heap.size]? = some (.cells #[.slice (some ⟨b1, o1, none⟩) 2 cp1, .bool false, .slice q9 k9 d9] 28 (0, 0)) := by rw [hwD, heap_alloc_old _ _ (by simp)]; exact heap_alloc_new _ _
  have eK : wD.heap[w9.heap.size + 1]? = some (.cells #[.bool true, .slice pk nk ck] 26 (0, 0)) := by
    have := heap_alloc_new (w9.alloc (.cells #[.slice (some ⟨b1, o1, none⟩) 2 cp1, .bool false, .slice q9 k9 d9] 28)) (.cells #[.bool true, .slice pk nk ck] 26)
    rw [size_alloc] at this
    rw [hwD]; exact this
  have zD : wD.heap.size = w9.heap.size + 2 := by rw [hwD, size_alloc, size_alloc]
  have HAD := hid (lnGo bD (lnGo b9 HAC.out))
  have zAD := HAD.out.size
  have z9 := b9.size
  have zc := HAC.out.size
  have HED := hid eD; have HEK := hid eK
  have IK := hid (i9.below bD)
  have I3D := hid (I3.out.below HAD.out); have I6D := hid (I6.out.below HAD.out)
  have HDw := hid (lnGo HAD.out BA.out)
  have HEA := hid ((HAD.out.block w5.heap.size (by omega)).trans EA.out)
  have HS : Hid (∀ w', Below wD.heap.size wD w' → (w'.cell? ⟨w5.heap.size, 0, none⟩ = some (.slice (some ⟨b0, o0, none⟩) 1 cp0) ∧ w'.cell? ⟨w5.heap.size, 1, none⟩ = some (.bool false) ∧ w'.cell? ⟨w5.heap.size, 2, none⟩ = some (.slice q5 k5 d5)) ∧
      (w'.cell? ⟨b0, o0, none⟩ = some (.bool false) ∧ w'.cell? ⟨b0, o0 + 1, none⟩ = some (.slice pc nc cc)) ∧ w'.cell? ⟨w9.heap.size, 0, none⟩ = some (.slice (some ⟨b1, o1, none⟩) 2 cp1) ∧
      (w'.cell? ⟨w9.heap.size + 1, 0, none⟩ = some (.bool true) ∧ w'.cell? ⟨w9.heap.size + 1, 1, none⟩ = some (.slice pk nk ck))) := hid fun w' hb => by
    have hb0 := HB0.out
    have hAb := lnGo hb HAD.out
    obtain ⟨t0, t1, t2⟩ := lnCells3 ((hb.block w5.heap.size (by omega)).trans HEA.out)
    obtain ⟨t3, -, -⟩ := lnCells3 ((hb.block w9.heap.size (by omega)).trans HED.out)
    obtain ⟨t4, t5, -, -⟩ := two_cells ((hb.block (w9.heap.size + 1) (by omega)).trans HEK.out)
    exact ⟨⟨t0, t1, t2⟩, ⟨(hAb.cell (p := ⟨b0, o0, none⟩) (by show b0 < _; omega)).trans C0.out, (hAb.cell (p := ⟨b0, o0 + 1, none⟩) (by show b0 < _; omega)).trans C1.out⟩, t3, t4, t5⟩
  clear t9 i9 b9 bD eD eK x0 x1 x2 I3 I6 C0 C1 EA BA HAC HTi HB0 HEA HED HEK
  go_upto_region 4 with fail
  rw [← hwD]
  clear hwD
  refine wp_region_facts (w0 := wD) 34 1 [24, 25, 26, 27, 28, 29, 30, 31, 32, 33, 34, 35, 36, 37, 38, 39, 40, 41, 42, 43, 44, 45, 46, 47, 48, 49, 50, 51, 52, 53, 54, 55, 56, 57] [undef, undef, undef, undef, undef, undef, undef, undef, undef, undef, undef, undef, undef, undef, undef, undef, undef, undef, undef, undef, undef, undef, undef, undef, undef, undef, undef, undef, undef, undef, undef, undef, undef, undef]
    (fun i => match i with | 0 => lnE (.pointer (some ⟨w5.heap.size, 0, none⟩)) | 1 => lnE (.slice (some ⟨b0, o0, none⟩) 1 cp0) | 2 => lnE (.int .i64 1) | 3 => lnE (.bool true) | 4 => lnE (.bool true) | 5 => lnE (.pointer (some ⟨w5.heap.size, 0, none⟩)) | 6 => lnE (.slice (some ⟨b0, o0, none⟩) 1 cp0) | 7 => lnE (.pointer (some ⟨b0, o0, none⟩)) | 8 => lnE (.pointer (some ⟨b0, o0, none⟩)) | 9 => lnE (.agg #[.bool false, .slice pc nc cc]) | 10 => lnI 3 | 11 => lnE (.bool true) | 12 => lnE (.bool true) | 13 => lnE (.bool true) | 14 => lnE (.pointer (some ⟨w5.heap.size, 1, none⟩)) | 15 => lnE (.agg #[.bool false, .slice q5 k5 d5]) | 16 => lnI 6 | 17 => lnE (.bool true) | 18 => lnE (.bool true) | 19 => lnE (.bool true) | 20 => lnE (.int .i64 0) | 21 => lnE (.bool true) | 22 => lnE (.bool true) | 23 => lnE (.bool true) | 24 => lnE (.pointer (some ⟨w9.heap.size, 0, none⟩)) | 25 => lnE (.slice (some ⟨b1, o1, none⟩) 2 cp1) | 26 => lnE (.int .i64 2) | 27 => lnE (.bool true) | 28 => lnE (.bool true) | 29 => lnE (.bool true) | 30 => lnE (.agg #[.bool true, .slice pk nk ck]) | 31 => lnI (-2) | 32 => lnE (.bool true) | _ => lnE (.bool true)) [] (by kernel_rfl) (by kernel_rfl) (by kernel_rfl) (by kernel_rfl) (by decide) rfl (by kernel_rfl) rfl (by simp) ?he1 ?_ ?_ ?_
  case he1 => simp only [putAll, Act.put, List.setIfInBounds_toArray, List.set_cons_zero, List.set_cons_succ]
  · intro i hi; simp at hi
  · intro i o hi ho vs wx hvl hb hdep K hK
    have hvs := vlen34 hvl
    obtain ⟨s24, s25, s26, s27, s28, s29, s30, s31, s32, s33, s34, s35, s36, s37, s38, s39, s40, s41, s42, s43, s44, s45, s46, s47, s48, s49, s50, s51, s52, s53, s54, s55, s56, s57, rfl⟩ := hvs
    clear hvl
    have hk5 := HS.out wx hb
    obtain ⟨⟨y0, y1, y2⟩, ⟨y3, y4⟩, y5, y6, y7⟩ := hk5
    rcases i with _ | _ | _ | _ | _ | _ | _ | _ | _ | _ | _ | _ | _ | _ | _ | _ | _ | _ | _ | _ | _ | _ | _ | _ | _ | _ | _ | _ | _ | _ | _ | _ | _ | _ | i
    all_goals (simp only [List.getElem?_toArray, List.getElem?_cons_zero, List.getElem?_cons_succ, Option.some.injEq] at ho)
    all_goals try (subst ho)
    all_goals try simp only [putAll, Act.put, List.setIfInBounds_toArray, List.set_cons_zero, List.set_cons_succ]
    · go_simp
      have hK' := hK.out
      simp only [putAll, Act.put, List.setIfInBounds_toArray, List.set_cons_zero, List.set_cons_succ] at hK'
      exact hK' _ _ rfl (Below.refl _ _) (by simp)
    · have e0 : s24 = _ := hdep ⟨0, .data⟩ (by simp) rfl
      have e0 := e0.symm
      subst e0
      go_simp
      have hK' := hK.out
      simp only [putAll, Act.put, List.setIfInBounds_toArray, List.set_cons_zero, List.set_cons_succ] at hK'
      exact hK' _ _ rfl (Below.refl _ _) (by simp)
    · have e1 : s25 = _ := hdep ⟨1, .data⟩ (by simp) rfl
      have e1 := e1.symm
      subst e1
      go_simp
      have hK' := hK.out
      simp only [putAll, Act.put, List.setIfInBounds_toArray, List.set_cons_zero, List.set_cons_succ] at hK'
      exact hK' _ _ rfl (Below.refl _ _) (by simp)
    · have e2 : s26 = _ := hdep ⟨2, .data⟩ (by simp) rfl
      have e2 := e2.symm
      subst e2
      go_simp
      have hK' := hK.out
      simp only [putAll, Act.put, List.setIfInBounds_toArray, List.set_cons_zero, List.set_cons_succ] at hK'
      exact hK' _ _ rfl (Below.refl _ _) (by simp)
    · have e3 : s27 = _ := hdep ⟨3, .data⟩ (by simp) rfl
      have e3 := e3.symm
      subst e3
      go_simp
      have hK' := hK.out
      simp only [putAll, Act.put, List.setIfInBounds_toArray, List.set_cons_zero, List.set_cons_succ] at hK'
      exact hK' _ _ rfl (Below.refl _ _) (by simp)
    · have eg : s28 = _ := hdep ⟨4, .guard⟩ (by simp) rfl
      have eg := eg.symm
      subst eg
      go_simp
      have hK' := hK.out
      simp only [putAll, Act.put, List.setIfInBounds_toArray, List.set_cons_zero, List.set_cons_succ] at hK'
      exact hK' _ _ rfl (Below.refl _ _) (by simp)
    · have e5 : s29 = _ := hdep ⟨5, .data⟩ (by simp) rfl
      have e5 := e5.symm
      subst e5
      have eg : s28 = _ := hdep ⟨4, .guard⟩ (by simp) rfl
      have eg := eg.symm
      subst eg
      go_simp
      have hK' := hK.out
      simp only [putAll, Act.put, List.setIfInBounds_toArray, List.set_cons_zero, List.set_cons_succ] at hK'
      exact hK' _ _ rfl (Below.refl _ _) (by simp)
    · have e6 : s30 = _ := hdep ⟨6, .data⟩ (by simp) rfl
      have e6 := e6.symm
      subst e6
      have eg : s28 = _ := hdep ⟨4, .guard⟩ (by simp) rfl
      have eg := eg.symm
      subst eg
      go_simp
      have hK' := hK.out
      simp only [putAll, Act.put, List.setIfInBounds_toArray, List.set_cons_zero, List.set_cons_succ] at hK'
      exact hK' _ _ rfl (Below.refl _ _) (by simp)
    · have e7 : s31 = _ := hdep ⟨7, .data⟩ (by simp) rfl
      have e7 := e7.symm
      subst e7
      have eg : s28 = _ := hdep ⟨4, .guard⟩ (by simp) rfl
      have eg := eg.symm
      subst eg
      go_simp
      have hK' := hK.out
      simp only [putAll, Act.put, List.setIfInBounds_toArray, List.set_cons_zero, List.set_cons_succ] at hK'
      exact hK' _ _ rfl (Below.refl _ _) (by simp)
    · have e8 : s32 = _ := hdep ⟨8, .data⟩ (by simp) rfl
      have e8 := e8.symm
      subst e8
      have eg : s28 = _ := hdep ⟨4, .guard⟩ (by simp) rfl
      have eg := eg.symm
      subst eg
      go_simp
      have hK' := hK.out
      simp only [putAll, Act.put, List.setIfInBounds_toArray, List.set_cons_zero, List.set_cons_succ] at hK'
      exact hK' _ _ rfl (Below.refl _ _) (by simp)
    · have eg : s28 = _ := hdep ⟨4, .guard⟩ (by simp) rfl
      have eg := eg.symm
      subst eg
      go_simp
      refine (ROf_any (3) wx (by decide) (by decide)).mono ?_
      rintro e wy ⟨vy, rfl, iy, hby⟩
      have hsh := iy.shape
      obtain ⟨p5', n5', c5', rfl, iy⟩ := hsh
      go_wp2_with fail
      have hK' := hK.out
      simp only [putAll, Act.put, List.setIfInBounds_toArray, List.set_cons_zero, List.set_cons_succ] at hK'
      exact hK' _ _ ⟨_, _, _, _, rfl, iy⟩ hby (by simp)
    · have e9 : s33 = _ := hdep ⟨9, .data⟩ (by simp) rfl
      have e9 := e9.symm
      subst e9
      have e10 : (lnI 3).P s34 wx := hdep ⟨10, .data⟩ (by simp) rfl
      obtain ⟨da10, pa10, na10, ca10, rfl, ia10⟩ := e10
      have eg : s28 = _ := hdep ⟨4, .guard⟩ (by simp) rfl
      have eg := eg.symm
      subst eg
      go_simp
      go_simp
      refine (SameInt_same _ _ (3) wx (I3D.out.below hb) ia10).mono ?_
      rintro e wy ⟨rfl, hby⟩
      go_wp2_with fail
      have hK' := hK.out
      simp only [putAll, Act.put, List.setIfInBounds_toArray, List.set_cons_zero, List.set_cons_succ] at hK'
      exact hK' _ _ rfl hby (by simp)
    · have e4 : s28 = _ := hdep ⟨4, .data⟩ (by simp) rfl
      have e4 := e4.symm
      subst e4
      have e11 : s35 = _ := hdep ⟨11, .data⟩ (by simp) rfl
      have e11 := e11.symm
      subst e11
      go_simp
      have hK' := hK.out
      simp only [putAll, Act.put, List.setIfInBounds_toArray, List.set_cons_zero, List.set_cons_succ] at hK'
      exact hK' _ _ rfl (Below.refl _ _) (by simp)
    · have e12 : s36 = _ := hdep ⟨12, .data⟩ (by simp) rfl
      have e12 := e12.symm
      subst e12
      go_simp
      have hK' := hK.out
      simp only [putAll, Act.put, List.setIfInBounds_toArray, List.set_cons_zero, List.set_cons_succ] at hK'
      exact hK' _ _ rfl (Below.refl _ _) (by simp)
    · have eg : s37 = _ := hdep ⟨13, .guard⟩ (by simp) rfl
      have eg := eg.symm
      subst eg
      go_simp
      have hK' := hK.out
      simp only [putAll, Act.put, List.setIfInBounds_toArray, List.set_cons_zero, List.set_cons_succ] at hK'
      exact hK' _ _ rfl (Below.refl _ _) (by simp)
    · have e14 : s38 = _ := hdep ⟨14, .data⟩ (by simp) rfl
      have e14 := e14.symm
      subst e14
      have eg : s37 = _ := hdep ⟨13, .guard⟩ (by simp) rfl
      have eg := eg.symm
      subst eg
      go_simp
      have hK' := hK.out
      simp only [putAll, Act.put, List.setIfInBounds_toArray, List.set_cons_zero, List.set_cons_succ] at hK'
      exact hK' _ _ rfl (Below.refl _ _) (by simp)
    · have eg : s37 = _ := hdep ⟨13, .guard⟩ (by simp) rfl
      have eg := eg.symm
      subst eg
      go_simp
      refine (ROf_any (6) wx (by decide) (by decide)).mono ?_
      rintro e wy ⟨vy, rfl, iy, hby⟩
      have hsh := iy.shape
      obtain ⟨p5', n5', c5', rfl, iy⟩ := hsh
      go_wp2_with fail
      have hK' := hK.out
      simp only [putAll, Act.put, List.setIfInBounds_toArray, List.set_cons_zero, List.set_cons_succ] at hK'
      exact hK' _ _ ⟨_, _, _, _, rfl, iy⟩ hby (by simp)
    · have e15 : s39 = _ := hdep ⟨15, .data⟩ (by simp) rfl
      have e15 := e15.symm
      subst e15
      have e16 : (lnI 6).P s40 wx := hdep ⟨16, .data⟩ (by simp) rfl
      obtain ⟨da16, pa16, na16, ca16, rfl, ia16⟩ := e16
      have eg : s37 = _ := hdep ⟨13, .guard⟩ (by simp) rfl
      have eg := eg.symm
      subst eg
      go_simp
      go_simp
      refine (SameInt_same _ _ (6) wx (I6D.out.below hb) ia16).mono ?_
      rintro e wy ⟨rfl, hby⟩
      go_wp2_with fail
      have hK' := hK.out
      simp only [putAll, Act.put, List.setIfInBounds_toArray, List.set_cons_zero, List.set_cons_succ] at hK'
      exact hK' _ _ rfl hby (by simp)
    · have e13 : s37 = _ := hdep ⟨13, .data⟩ (by simp) rfl
      have e13 := e13.symm
      subst e13
      have e17 : s41 = _ := hdep ⟨17, .data⟩ (by simp) rfl
      have e17 := e17.symm
      subst e17
      go_simp
      have hK' := hK.out
      simp only [putAll, Act.put, List.setIfInBounds_toArray, List.set_cons_zero, List.set_cons_succ] at hK'
      exact hK' _ _ rfl (Below.refl _ _) (by simp)
    · have e18 : s42 = _ := hdep ⟨18, .data⟩ (by simp) rfl
      have e18 := e18.symm
      subst e18
      go_simp
      have hK' := hK.out
      simp only [putAll, Act.put, List.setIfInBounds_toArray, List.set_cons_zero, List.set_cons_succ] at hK'
      exact hK' _ _ rfl (Below.refl _ _) (by simp)
    · have eg : s43 = _ := hdep ⟨19, .guard⟩ (by simp) rfl
      have eg := eg.symm
      subst eg
      go_simp
      have hK' := hK.out
      simp only [putAll, Act.put, List.setIfInBounds_toArray, List.set_cons_zero, List.set_cons_succ] at hK'
      exact hK' _ _ rfl (Below.refl _ _) (by simp)
    · have e20 : s44 = _ := hdep ⟨20, .data⟩ (by simp) rfl
      have e20 := e20.symm
      subst e20
      have eg : s43 = _ := hdep ⟨19, .guard⟩ (by simp) rfl
      have eg := eg.symm
      subst eg
      go_simp
      have hK' := hK.out
      simp only [putAll, Act.put, List.setIfInBounds_toArray, List.set_cons_zero, List.set_cons_succ] at hK'
      exact hK' _ _ rfl (Below.refl _ _) (by simp)
    · have e19 : s43 = _ := hdep ⟨19, .data⟩ (by simp) rfl
      have e19 := e19.symm
      subst e19
      have e21 : s45 = _ := hdep ⟨21, .data⟩ (by simp) rfl
      have e21 := e21.symm
      subst e21
      go_simp
      have hK' := hK.out
      simp only [putAll, Act.put, List.setIfInBounds_toArray, List.set_cons_zero, List.set_cons_succ] at hK'
      exact hK' _ _ rfl (Below.refl _ _) (by simp)
    · have e22 : s46 = _ := hdep ⟨22, .data⟩ (by simp) rfl
      have e22 := e22.symm
      subst e22
      go_simp
      have hK' := hK.out
      simp only [putAll, Act.put, List.setIfInBounds_toArray, List.set_cons_zero, List.set_cons_succ] at hK'
      exact hK' _ _ rfl (Below.refl _ _) (by simp)
    · have eg : s47 = _ := hdep ⟨23, .guard⟩ (by simp) rfl
      have eg := eg.symm
      subst eg
      go_simp
      have hK' := hK.out
      simp only [putAll, Act.put, List.setIfInBounds_toArray, List.set_cons_zero, List.set_cons_succ] at hK'
      exact hK' _ _ rfl (Below.refl _ _) (by simp)
    · have e24 : s48 = _ := hdep ⟨24, .data⟩ (by simp) rfl
      have e24 := e24.symm
      subst e24
      have eg : s47 = _ := hdep ⟨23, .guard⟩ (by simp) rfl
      have eg := eg.symm
      subst eg
      go_simp
      have hK' := hK.out
      simp only [putAll, Act.put, List.setIfInBounds_toArray, List.set_cons_zero, List.set_cons_succ] at hK'
      exact hK' _ _ rfl (Below.refl _ _) (by simp)
    · have e25 : s49 = _ := hdep ⟨25, .data⟩ (by simp) rfl
      have e25 := e25.symm
      subst e25
      have eg : s47 = _ := hdep ⟨23, .guard⟩ (by simp) rfl
      have eg := eg.symm
      subst eg
      go_simp
      have hK' := hK.out
      simp only [putAll, Act.put, List.setIfInBounds_toArray, List.set_cons_zero, List.set_cons_succ] at hK'
      exact hK' _ _ rfl (Below.refl _ _) (by simp)
    · have e26 : s50 = _ := hdep ⟨26, .data⟩ (by simp) rfl
      have e26 := e26.symm
      subst e26
      have eg : s47 = _ := hdep ⟨23, .guard⟩ (by simp) rfl
      have eg := eg.symm
      subst eg
      go_simp
      have hK' := hK.out
      simp only [putAll, Act.put, List.setIfInBounds_toArray, List.set_cons_zero, List.set_cons_succ] at hK'
      exact hK' _ _ rfl (Below.refl _ _) (by simp)
    · have e23 : s47 = _ := hdep ⟨23, .data⟩ (by simp) rfl
      have e23 := e23.symm
      subst e23
      have e27 : s51 = _ := hdep ⟨27, .data⟩ (by simp) rfl
      have e27 := e27.symm
      subst e27
      go_simp
      have hK' := hK.out
      simp only [putAll, Act.put, List.setIfInBounds_toArray, List.set_cons_zero, List.set_cons_succ] at hK'
      exact hK' _ _ rfl (Below.refl _ _) (by simp)
    · have e28 : s52 = _ := hdep ⟨28, .data⟩ (by simp) rfl
      have e28 := e28.symm
      subst e28
      go_simp
      have hK' := hK.out
      simp only [putAll, Act.put, List.setIfInBounds_toArray, List.set_cons_zero, List.set_cons_succ] at hK'
      exact hK' _ _ rfl (Below.refl _ _) (by simp)
    · have eg : s53 = _ := hdep ⟨29, .guard⟩ (by simp) rfl
      have eg := eg.symm
      subst eg
      go_simp
      have hK' := hK.out
      simp only [putAll, Act.put, List.setIfInBounds_toArray, List.set_cons_zero, List.set_cons_succ] at hK'
      exact hK' _ _ rfl (Below.refl _ _) (by simp)
    · have eg : s53 = _ := hdep ⟨29, .guard⟩ (by simp) rfl
      have eg := eg.symm
      subst eg
      go_simp
      refine (ROf_any (-2) wx (by decide) (by decide)).mono ?_
      rintro e wy ⟨vy, rfl, iy, hby⟩
      have hsh := iy.shape
      obtain ⟨p5', n5', c5', rfl, iy⟩ := hsh
      go_wp2_with fail
      have hK' := hK.out
      simp only [putAll, Act.put, List.setIfInBounds_toArray, List.set_cons_zero, List.set_cons_succ] at hK'
      exact hK' _ _ ⟨_, _, _, _, rfl, iy⟩ hby (by simp)
    · have e30 : s54 = _ := hdep ⟨30, .data⟩ (by simp) rfl
      have e30 := e30.symm
      subst e30
      have e31 : (lnI (-2)).P s55 wx := hdep ⟨31, .data⟩ (by simp) rfl
      obtain ⟨da31, pa31, na31, ca31, rfl, ia31⟩ := e31
      have eg : s53 = _ := hdep ⟨29, .guard⟩ (by simp) rfl
      have eg := eg.symm
      subst eg
      go_simp
      go_simp
      refine (SameInt_same _ _ (-2) wx (IK.out.below hb) ia31).mono ?_
      rintro e wy ⟨rfl, hby⟩
      go_wp2_with fail
      have hK' := hK.out
      simp only [putAll, Act.put, List.setIfInBounds_toArray, List.set_cons_zero, List.set_cons_succ] at hK'
      exact hK' _ _ rfl hby (by simp)
    · have e29 : s53 = _ := hdep ⟨29, .data⟩ (by simp) rfl
      have e29 := e29.symm
      subst e29
      have e32 : s56 = _ := hdep ⟨32, .data⟩ (by simp) rfl
      have e32 := e32.symm
      subst e32
      go_simp
      have hK' := hK.out
      simp only [putAll, Act.put, List.setIfInBounds_toArray, List.set_cons_zero, List.set_cons_succ] at hK'
      exact hK' _ _ rfl (Below.refl _ _) (by simp)
    · omega
  · intro vs wx hvl hb hf hdist
    have hvs := vlen34 hvl
    obtain ⟨s24, s25, s26, s27, s28, s29, s30, s31, s32, s33, s34, s35, s36, s37, s38, s39, s40, s41, s42, s43, s44, s45, s46, s47, s48, s49, s50, s51, s52, s53, s54, s55, s56, s57, rfl⟩ := hvs
    have f33 : s57 = .bool true := hf 33 (by decide)
    subst f33
    have HBF := hid (lnGo hb HDw.out)
    clear hf hvl hdist
    refine wpAny_one (i := 34) (by kernel_rfl) rfl ?_
    intro K hK
    simp only [putAll, Act.put, List.setIfInBounds_toArray, List.set_cons_zero, List.set_cons_succ]
    have hK' := hK.out
    go_simp
    apply hK'
    clear hK hK'
    refine wpAny_done (by kernel_rfl) ?_ _
    go_wp2
    go_ret
    exact ⟨rfl, HBF.out⟩
end Go.Proofs.Ytjfcocadohgneaa
/- linear.Value. -/
namespace Go.Proofs.Ytjfcocadohgneaa
open Go.RowKit Big

/-- a number's two cells, as it is handed in -/
def NumR (w : World) (c : List Value) (z : Int) : Prop := ∃ n s, c = [.bool n, s] ∧ RawAt w (.agg #[.bool n, s]) z
theorem NumR.below {w w' : World} {c : List Value} {z : Int} (h : NumR w c z) (hb : Below w.heap.size w w') : NumR w' c z := by
  obtain ⟨n, s, e, h⟩ := h
  exact ⟨n, s, e, h.below hb⟩
abbrev NmsR := LsIn 2 NumR
theorem NmsR.below {w w' : World} {v : Value} {l : List Int} (h : NmsR w v l) (hb : Below w.heap.size w w') : NmsR w' v l := LsIn.below (Q := NumR) (fun h hb => NumR.below h hb) h hb
theorem NxsIn.nms {w : World} {v : Value} {l : List Nx} (h : NxsIn w v l) (hf : ∀ x ∈ l, x.fit) : NmsR w v (l.map Nx.z) := by
  obtain ⟨p, cap, rfl, h1, h2, h3, h4⟩ := h
  refine ⟨p, cap, by rw [List.length_map], by rw [List.length_map]; exact h1, h2, h3, fun hp => ?_⟩
  rw [List.length_map] at hp
  obtain ⟨b, off, h5, h6, h7⟩ := h4 hp
  refine ⟨b, off, h5, h6, fun i hi => ?_⟩
  rw [List.length_map] at hi
  obtain ⟨c, k1, k2⟩ := h7 i hi
  obtain ⟨q, cq, e, k3, k4⟩ := id k2
  refine ⟨c, k1, _, _, e, ?_⟩
  rw [List.getElem_map]
  exact (e ▸ k2).raw (hf _ (List.getElem_mem hi))
def lnAtv (vals : List Int) (t : Int) : Int := vals[t.toNat]?.getD 0
/-- the value of parts, or an error -/
def lnValue (a : List (Int × Int) × Int) (vals : List Int) : Int × Int :=
  if ∀ p ∈ a.1, 0 ≤ p.2 ∧ p.2 < vals.length then (a.2 + lnVal (lnAtv vals) a.1, 0) else (0, 13)
theorem lnVal_snoc (f : Int → Int) (l : List (Int × Int)) (p : Int × Int) : lnVal f (l ++ [p]) = lnVal f l + p.1 * f p.2 := by
  rw [lnVal_append]
  simp only [lnVal]
  omega
theorem lnVal_sz {N : Nat} (f : Int → Int) (hf : ∀ t, sz W (f t).natAbs ≤ N) : ∀ (l : List (Int × Int)), (∀ p ∈ l, sz W p.1.natAbs ≤ N) → sz W (lnVal f l).natAbs ≤ N + N + l.length
  | [], _ => by simp [lnVal, sz_zero]
  | p :: l, h => by
    have ih := lnVal_sz f hf l (fun q hq => h q (by simp [hq]))
    have h0 : sz W (p.1 * f p.2).natAbs ≤ N + N + l.length := by
      rw [Int.natAbs_mul]
      exact Nat.le_trans (sz_mul W2 _ _) (by have := h p (by simp); have := hf p.2; omega)
    simp only [lnVal, List.length_cons]
    exact Nat.le_trans (sz_mono W2 (Int.natAbs_add_le _ _)) (sz_add W2 h0 ih)
theorem lnAtv_sz {N : Nat} {vals : List Int} (h : ∀ z ∈ vals, sz W z.natAbs ≤ N) (t : Int) : sz W (lnAtv vals t).natAbs ≤ N := by
  unfold lnAtv
  cases e : vals[t.toNat]? with
  | none => simp [sz_zero]
  | some z => exact h z (List.mem_of_getElem? e)
/-- what a call answers: a number and an error -/
def RIntE (r : Int × Int) (w : World) (e : Ending) (w' : World) : Prop := ∃ v, e = .returned (.tuple #[v, .int .i64 r.2]) ∧ IntAt w' v r.1 ∧ Below w.heap.size w w'
set_option maxRecDepth 100000 in
set_option maxHeartbeats 6400000 in
theorem Value_lin (va vv : Value) (a : List (Int × Int) × Int) (vals : List Int) (w : World) {N : Nat} (ha : LnR w va a) (hv : NmsR w vv vals) (sa : LnSz N a) (sv : ∀ z ∈ vals, sz W z.natAbs ≤ N) (hl : N + N + a.1.length ≤ 549755813000) :
    Calls Try.prog 7 #[va, vv] w (RIntE (lnValue a vals) w) := by
  obtain ⟨p0, n0, c0, b0, q0, k0, d0, rfl⟩ := ha.agg3
  obtain ⟨l, x⟩ := a
  have HH := hid ha; have HV := hid hv; have SA := hid sa; have SV := hid sv; have HL := hid hl
  obtain ⟨pv, n1, s1, ev, hp, hx⟩ := ha
  injection ev with ev
  simp only [Array.mk.injEq, List.cons.injEq, and_true] at ev
  obtain ⟨rfl, e2, rfl⟩ := ev
  injection e2 with e2
  subst e2
  have hx : RawAt w (.agg #[.bool b0, .slice q0 k0 d0]) x := hx
  obtain ⟨p, cp, ep, j1, j2, -, j4⟩ := (show PtsR w (.slice p0 n0 c0) l from hp)
  injection ep with e1 e2 e3
  subst e1 e2 e3
  have J4 := hid j4
  obtain ⟨pw, cv, rfl, i1, i2, -, i4⟩ := hv
  have I4 := hid i4
  unfold maxLen at i2
  obtain ⟨WX, hW⟩ : ∃ WX, WX = (w.alloc (.cells #[.slice p0 l.length c0, .bool b0, .slice q0 k0 d0] 28)).alloc (.cells #[.bool false, .slice none 0 0] 26) := ⟨_, rfl⟩
  have b2 : Below w.heap.size w WX := by rw [hW]; exact (below1 w _).alloc (by simp) _
  have z2 : WX.heap.size = w.heap.size + 2 := by rw [hW, size_alloc, size_alloc]
  have e0 : WX.heap[w.heap.size]? = some (.cells #[.slice p0 l.length c0, .bool b0, .slice q0 k0 d0] 28 (0, 0)) := by rw [hW, heap_alloc_old _ _ (by simp)]; exact heap_alloc_new w _
  have hpr : Pair WX (w.heap.size + 1) 26 := by rw [hW]; exact Pair.new1 ..
  have B2 := hid b2; have E0 := hid e0; have Z2 := hid z2; have HPR := hid hpr
  have HNm := hid (Norm_any _ x WX (hx.below b2))
  obtain ⟨y0, y1, y2⟩ := lnCells3 e0
  obtain ⟨L, hLL⟩ : ∃ L, L = l.length := ⟨_, rfl⟩
  have HLL := hid hLL
  have hlen : N + N + l.length ≤ 549755813000 := hl
  have hLb : L ≤ 549755813000 := by omega
  have Hlen := hid hlen
  rw [← hLL] at E0 hW j1 ⊢
  clear sa sv hl hx hp j4 i4 b2 e0 z2 hpr hLL hlen
  go_enter Try.func7, Try.ntmps7
  go_upto_region 1 with fail
  rw [← hW]
  clear hW
  go_wp2_with fail
  refine HNm.out.mono ?_
  rintro e w3 ⟨v3, rfl, i3, b3⟩
  obtain ⟨p3, n3, c3, rfl, i3⟩ := i3.shape
  have z3 := b3.size
  obtain ⟨gT, hgT⟩ : ∃ gT, gT = w3.heap.size := ⟨_, rfl⟩
  obtain ⟨W4, hW4⟩ : ∃ W4, W4 = w3.alloc (.cells #[.bool (decide (x < 0)), .slice p3 n3 c3] 26) := ⟨_, rfl⟩
  have b4 : Below w3.heap.size w3 W4 := by rw [hW4]; exact below1 _ _
  have hC4 : LnCell W4 w3.heap.size x := ⟨p3, n3, c3, by rw [hW4]; exact heap_alloc_new _ _, i3.below b4⟩
  have HC4 := hid hC4
  have HP4 := hid ((HPR.out.below b3).below b4)
  have HB4 := hid (lnGo b4 (lnGo b3 B2.out))
  have E04 := hid ((b4.block w.heap.size (by have := Z2.out; omega)).trans ((b3.block w.heap.size (by have := Z2.out; omega)).trans E0.out))
  have HgT : Hid (w.heap.size + 1 < w3.heap.size) := hid (by have := Z2.out; omega)
  clear i3 b3 b4 hC4 y0 y1 y2 E0 HNm hgT gT
  go_upto_region 2 with fail
  rw [← hW4]
  clear hW4
  have y0 := (lnCells3 E04.out).1
  go_wp2_with fail
  clear y0
  go_loopw [15] (fun i wr => ∃ (k : Nat), k ≤ L ∧ i = .int .i64 (k : Nat) ∧ Hid (∀ p ∈ l.take k, 0 ≤ p.2 ∧ p.2 < vals.length) ∧ Hid (LnCell wr w3.heap.size (x + lnVal (lnAtv vals) (l.take k))) ∧ Hid (Pair wr (w.heap.size + 1) 26) ∧ Hid (Below w.heap.size w wr)) (fun i _ => L - (intOf i).toNat)
  case atStart => exact ⟨0, Nat.zero_le _, rfl, hid (by simp), hid (by simpa [lnVal] using HC4.out), HP4, HB4⟩
  case round =>
    obtain ⟨k, hk, rfl, HA, HC, HPr, HBr⟩ := hrel
    by_cases hlt : k < L
    · have hkt : k < l.length := by rw [← HLL.out]; exact hlt
      have hlt' : (k : Int) < (L : Int) := by omega
      obtain ⟨b, o, rfl, hb, hc⟩ := J4.out (by omega)
      obtain ⟨cs, kk0, d, s, ecs, hraw, hwf⟩ := hc k hkt
      have hsh := hraw.agg2
      obtain ⟨d', q, n, cq, e2⟩ := hsh
      obtain ⟨rfl, rfl⟩ : s = .slice q n cq ∧ d = d' := by
        injection e2 with e2
        simpa [and_comm] using e2
      clear e2
      subst ecs
      have y0 := (HBr.out.cell (p := ⟨b, o + k * 3, none⟩) hb).trans (kk0 0 _ rfl)
      have y1 := (HBr.out.cell (p := ⟨b, o + k * 3 + 1, none⟩) hb).trans (kk0 1 _ rfl)
      have y2 := (HBr.out.cell (p := ⟨b, o + k * 3 + 2, none⟩) hb).trans (kk0 2 _ rfl)
      have Hnext : Hid (x + lnVal (lnAtv vals) (l.take (k + 1)) = (x + lnVal (lnAtv vals) (l.take k)) + l[k].1 * lnAtv vals l[k].2) := hid (by rw [List.take_succ_eq_append_getElem hkt, lnVal_snoc]; omega)
      have Hmem : Hid (l.take (k + 1) = l.take k ++ [(l[k].1, l[k].2)]) := hid (List.take_succ_eq_append_getElem hkt)
      have hin : l[k] ∈ l := List.getElem_mem hkt
      have hsc := SA.out.1 l[k] hin
      have Hin : Hid (∀ (P : Int × Int → Prop), (∀ p ∈ l, P p) → P (l[k].1, l[k].2)) := hid (fun P h => h _ hin)
      have hst : sz W (x + lnVal (lnAtv vals) (l.take k)).natAbs ≤ N + N + l.length + 1 := Nat.le_trans (sz_mono W2 (Int.natAbs_add_le _ _)) (sz_add W2 (Nat.le_trans SA.out.2 (by omega)) (Nat.le_trans (lnVal_sz _ (lnAtv_sz SV.out) _ (fun p hp => SA.out.1 p (List.mem_of_mem_take hp))) (by rw [List.length_take]; omega)))
      have hcell := HC.out
      have hraw := hraw.below HBr.out
      generalize x + lnVal (lnAtv vals) (l.take k) = tot at *
      generalize l[k].1 = c at *
      generalize l[k].2 = t at *
      clear kk0 hc hin
      obtain ⟨pt, nt, ct, htb, hti⟩ := hcell
      have hgl : w3.heap.size < wr.heap.size := (Array.getElem?_eq_some_iff.1 htb).1
      obtain ⟨W5, hW5⟩ : ∃ W5, W5 = wr.alloc (.cells #[.bool d, .slice q n cq, .int .i64 t] 45) := ⟨_, rfl⟩
      have b5 : Below wr.heap.size wr W5 := by rw [hW5]; exact below1 wr _
      have e5 : W5.heap[wr.heap.size]? = some (.cells #[.bool d, .slice q n cq, .int .i64 t] 45 (0, 0)) := by rw [hW5]; exact heap_alloc_new wr _
      have z5 : W5.heap.size = wr.heap.size + 1 := by rw [hW5, size_alloc]
      obtain ⟨t0, t1, t2⟩ := lnCells3 e5
      have HB5 := hid (lnGo b5 HBr.out)
      have HP5 := hid (HPr.out.below b5)
      have hno : ∀ (hbad : ¬ (0 ≤ t ∧ t < (vals.length : Int))), Hid (lnValue (l, x) vals = (0, 13)) := fun hbad => hid (by
        unfold lnValue
        rw [if_neg]
        intro h
        exact hbad (Hin.out _ h))
      have hpr5 := HP5.out
      obtain ⟨_, _, r0, r1, r2, r3⟩ := hpr5.cells
      by_cases hneg : t < 0
      · have Hno := hno (by omega)
        have hd : decide (t < 0) = true := by simpa using hneg
        clear hneg hno hraw htb hti hst hsc HC HA Hnext Hmem Hin
        have HBF := hid (Below.stored HB5.out (g := w.heap.size + 1) (by omega) (.bool false) (.slice none 0 0))
        go_upto_region 5 with fail
        rw [← hW5]
        clear hW5 y0 y1 y2
        go_wp2
        exact bodyPost_ret (v := .tuple #[.agg #[.bool false, .slice none 0 0], .int .i64 13]) (by simp [results, Try.results7, go_sem, r0, r1]) rfl (by rw [Hno.out]; exact ⟨_, rfl, IntAt.zero _, HBF.out⟩)
      · have hd : decide (t < 0) = false := by simpa using hneg
        by_cases hge : (vals.length : Int) ≤ t
        · have Hno := hno (by omega)
          have hd2 : decide ((vals.length : Int) ≤ t) = true := by simpa using hge
          clear hneg hno hraw htb hti hst hsc HC HA Hnext Hmem Hin hge
          have HBF := hid (Below.stored HB5.out (g := w.heap.size + 1) (by omega) (.bool false) (.slice none 0 0))
          go_upto_region 5 with fail
          rw [← hW5]
          clear hW5 y0 y1 y2
          go_wp2
          exact bodyPost_ret (v := .tuple #[.agg #[.bool false, .slice none 0 0], .int .i64 13]) (by simp [results, Try.results7, go_sem, r0, r1]) rfl (by rw [Hno.out]; exact ⟨_, rfl, IntAt.zero _, HBF.out⟩)
        · have hd2 : decide ((vals.length : Int) ≤ t) = false := by simpa using hge
          obtain ⟨tn, rfl⟩ : ∃ tn : Nat, t = (tn : Nat) := ⟨t.toNat, by omega⟩
          have htn : tn < vals.length := by omega
          have htn' : (tn : Int) < (vals.length : Int) := by omega
          have hd3 : decide (vals.length ≤ tn) = false := by simpa using htn
          have Hok : Hid (0 ≤ (((c, (tn : Int)) : Int × Int)).2 ∧ (((c, (tn : Int)) : Int × Int)).2 < vals.length) := hid ⟨by show (0 : Int) ≤ (tn : Int); omega, htn'⟩
          obtain ⟨bv, ov, rfl, hbv, hcv⟩ := I4.out (by omega)
          obtain ⟨cs, kv, dz, sv, ecs, hrz⟩ := hcv tn htn
          have hsh := hrz.agg2
          obtain ⟨d', qz, nz, cqz, e2⟩ := hsh
          obtain ⟨rfl, rfl⟩ : sv = .slice qz nz cqz ∧ dz = d' := by
            injection e2 with e2
            simpa [and_comm] using e2
          clear e2
          subst ecs
          have hzv : lnAtv vals (tn : Int) = vals[tn] := by unfold lnAtv; rw [Int.toNat_natCast, List.getElem?_eq_getElem htn]; rfl
          have hsz := SV.out vals[tn] (List.getElem_mem htn)
          rw [hzv] at Hnext
          have Hz5 := hid ((HB5.out.cell (p := ⟨bv, ov + tn * 2, none⟩) hbv).trans (kv 0 _ rfl))
          have Hz6 := hid ((HB5.out.cell (p := ⟨bv, ov + tn * 2 + 1, none⟩) hbv).trans (kv 1 _ rfl))
          generalize vals[tn] = z at *
          have Hbv5 : Hid (bv < W5.heap.size) := hid (Nat.lt_of_lt_of_le hbv HB5.out.size)
          have HRc := hid (hraw.below b5)
          have HRz := hid (hrz.below HB5.out)
          have HIt := hid (hti.below b5)
          have hlo := Hlen.out
          have Hst : Hid (sz W tot.natAbs ≤ 1099511627776) := hid (by omega)
          have Hsc : Hid (sz W c.natAbs ≤ 549755813888) := hid (by omega)
          have Hsz : Hid (sz W z.natAbs ≤ 549755813888) := hid (by omega)
          have Hscz : Hid (sz W (c * z).natAbs ≤ 1099511627776) := hid (by rw [Int.natAbs_mul]; exact Nat.le_trans (sz_mul W2 _ _) (by omega))
          have HC5 := hid (HC.out.below b5)
          have HET := hid ((b5.block w3.heap.size hgl).trans htb)
          have HE5 := hid e5
          have HgT5 : Hid (w3.heap.size < W5.heap.size) := hid (by omega)
          clear hno hraw hrz htb hti hst hsc hsz hcv kv HC Hin hge hneg hbv b5 e5 hzv hlo r0 r1 r2 r3 hpr5
          go_upto_region 7 with fail
          rw [← hW5]
          clear hW5 y0 y1 y2 t0 t1 t2
          refine wp_region_facts (w0 := W5) 10 1 [30, 31, 32, 33, 34, 35, 36, 37, 38, 39] [u30, u31, u32, u33, u34, u35, u36, u37, u38, u39]
            (fun i => match i with | 0 => lnE (.agg #[.bool (decide (tot < 0)), .slice pt nt ct]) | 1 => lnE (.pointer (some ⟨wr.heap.size, 0, none⟩)) | 2 => lnE (.agg #[.bool d, .slice q n cq]) | 3 => lnE (.slice (some ⟨bv, ov, none⟩) vals.length cv) | 4 => lnE (.pointer (some ⟨wr.heap.size, 2, none⟩)) | 5 => lnE (.int .i64 (tn : Nat)) | 6 => lnE (.pointer (some ⟨bv, ov + tn * 2, none⟩)) | 7 => lnE (.agg #[.bool dz, .slice qz nz cqz]) | 8 => lnR (z * c) | _ => lnI (tot + c * z)) [] (by kernel_rfl) (by kernel_rfl) (by kernel_rfl) (by kernel_rfl) (by decide) rfl (by kernel_rfl) rfl (by simp) ?he1 ?_ ?_ ?_
          case he1 => simp only [putAll, Act.put, List.setIfInBounds_toArray, List.set_cons_zero, List.set_cons_succ]
          · intro i hi; simp at hi
          · intro i o hi ho vs wx hvl hb hdep K hK
            have hvs := vlen10 hvl
            obtain ⟨s30, s31, s32, s33, s34, s35, s36, s37, s38, s39, rfl⟩ := hvs
            clear hvl
            obtain ⟨z0, z1, z2⟩ := lnCells3 ((hb.block wr.heap.size (by omega)).trans HE5.out)
            obtain ⟨z3, z4, -, -⟩ := two_cells ((hb.block w3.heap.size HgT5.out).trans HET.out)
            have z5 := (hb.cell (p := ⟨bv, ov + tn * 2, none⟩) Hbv5.out).trans Hz5.out
            have z6 := (hb.cell (p := ⟨bv, ov + tn * 2 + 1, none⟩) Hbv5.out).trans Hz6.out
            rcases i with _ | _ | _ | _ | _ | _ | _ | _ | _ | _ | i
            all_goals (simp only [List.getElem?_toArray, List.getElem?_cons_zero, List.getElem?_cons_succ, Option.some.injEq] at ho)
            all_goals try (subst ho)
            all_goals try simp only [putAll, Act.put, List.setIfInBounds_toArray, List.set_cons_zero, List.set_cons_succ]
            · go_simp
              have hK' := hK.out
              simp only [putAll, Act.put, List.setIfInBounds_toArray, List.set_cons_zero, List.set_cons_succ] at hK'
              exact hK' _ _ rfl (Below.refl _ _) (by simp)
            · go_simp
              have hK' := hK.out
              simp only [putAll, Act.put, List.setIfInBounds_toArray, List.set_cons_zero, List.set_cons_succ] at hK'
              exact hK' _ _ rfl (Below.refl _ _) (by simp)
            · have e1 : s31 = _ := hdep ⟨1, .data⟩ (by simp) rfl
              have e1 := e1.symm
              subst e1
              go_simp
              have hK' := hK.out
              simp only [putAll, Act.put, List.setIfInBounds_toArray, List.set_cons_zero, List.set_cons_succ] at hK'
              exact hK' _ _ rfl (Below.refl _ _) (by simp)
            · go_simp
              have hK' := hK.out
              simp only [putAll, Act.put, List.setIfInBounds_toArray, List.set_cons_zero, List.set_cons_succ] at hK'
              exact hK' _ _ rfl (Below.refl _ _) (by simp)
            · go_simp
              have hK' := hK.out
              simp only [putAll, Act.put, List.setIfInBounds_toArray, List.set_cons_zero, List.set_cons_succ] at hK'
              exact hK' _ _ rfl (Below.refl _ _) (by simp)
            · have e4 : s34 = _ := hdep ⟨4, .data⟩ (by simp) rfl
              have e4 := e4.symm
              subst e4
              go_simp
              have hK' := hK.out
              simp only [putAll, Act.put, List.setIfInBounds_toArray, List.set_cons_zero, List.set_cons_succ] at hK'
              exact hK' _ _ rfl (Below.refl _ _) (by simp)
            · have e3 : s33 = _ := hdep ⟨3, .data⟩ (by simp) rfl
              have e3 := e3.symm
              subst e3
              have e5 : s35 = _ := hdep ⟨5, .data⟩ (by simp) rfl
              have e5 := e5.symm
              subst e5
              go_simp
              have hK' := hK.out
              simp only [putAll, Act.put, List.setIfInBounds_toArray, List.set_cons_zero, List.set_cons_succ] at hK'
              exact hK' _ _ rfl (Below.refl _ _) (by simp)
            · have e6 : s36 = _ := hdep ⟨6, .data⟩ (by simp) rfl
              have e6 := e6.symm
              subst e6
              go_simp
              have hK' := hK.out
              simp only [putAll, Act.put, List.setIfInBounds_toArray, List.set_cons_zero, List.set_cons_succ] at hK'
              exact hK' _ _ rfl (Below.refl _ _) (by simp)
            · have e2 : s32 = _ := hdep ⟨2, .data⟩ (by simp) rfl
              have e2 := e2.symm
              subst e2
              have e7 : s37 = _ := hdep ⟨7, .data⟩ (by simp) rfl
              have e7 := e7.symm
              subst e7
              go_simp
              refine (product_any _ _ z c wx (HRz.out.below hb) (HRc.out.below hb) Hsz.out Hsc.out (by rw [Int.mul_comm]; exact Hscz.out)).mono ?_
              rintro e wy ⟨p5, n5, c5, d5, rfl, iy, hby⟩
              go_wp2_with fail
              have hK' := hK.out
              simp only [putAll, Act.put, List.setIfInBounds_toArray, List.set_cons_zero, List.set_cons_succ] at hK'
              exact hK' _ _ ⟨_, _, _, _, rfl, iy⟩ hby (by simp)
            · have e0 : s30 = _ := hdep ⟨0, .data⟩ (by simp) rfl
              have e0 := e0.symm
              subst e0
              have e8 : (lnR (z * c)).P s38 wx := hdep ⟨8, .data⟩ (by simp) rfl
              obtain ⟨da8, pa8, na8, ca8, rfl, ia8⟩ := e8
              rw [Int.mul_comm] at ia8
              go_simp
              refine (Add_any _ _ tot (c * z) wx ((HIt.out.below hb).rawL Hst.out) ia8).mono ?_
              rintro e wy ⟨vy, rfl, iy, hby⟩
              have hsh := iy.shape
              obtain ⟨p5, n5, c5, rfl, iy⟩ := hsh
              go_wp2_with fail
              have hK' := hK.out
              simp only [putAll, Act.put, List.setIfInBounds_toArray, List.set_cons_zero, List.set_cons_succ] at hK'
              exact hK' _ _ ⟨_, _, _, _, rfl, iy⟩ hby (by simp)
            · omega
          · intro vs wx hvl hb hf hdist
            have hvs := vlen10 hvl
            obtain ⟨s30, s31, s32, s33, s34, s35, s36, s37, s38, s39, rfl⟩ := hvs
            have f9 : (lnI (tot + c * z)).P s39 wx := hf 9 (by decide)
            obtain ⟨b8, p8, n8, c8, e8, i8⟩ := f9
            subst e8
            have hsh := i8.shape
            obtain ⟨p9, n9, c9, e9, i9⟩ := hsh
            injection e9 with e9
            obtain ⟨rfl, rfl, rfl, rfl⟩ : b8 = decide (tot + c * z < 0) ∧ p8 = p9 ∧ n8 = n9 ∧ c8 = c9 := by simpa using e9
            clear hf hvl hdist i8
            obtain ⟨tot', htot⟩ : ∃ t, t = tot + c * z := ⟨_, rfl⟩
            rw [← htot] at i9 Hnext
            try rw [← htot]
            clear htot
            have hpT := (HC5.out.below hb).pair
            obtain ⟨_, _, q0, q1, q2, q3⟩ := hpT.cells
            have HC6 := hid (LnCell.put hpT i9)
            have hsx := hb.size
            have HP6 := hid ((HP5.out.below hb).other (g' := w3.heap.size) (by have := HgT.out; omega) 0 (.bool (decide (tot' < 0))))
            have HP7 := hid (HP6.out.other (g' := w3.heap.size) (by have := HgT.out; omega) 1 (.slice p8 n8 c8))
            have HB7 := hid (Below.stored (lnGo hb HB5.out) (g := w3.heap.size) (by have := HgT.out; omega) (.bool (decide (tot' < 0))) (.slice p8 n8 c8))
            clear i9 hpT
            refine wpAny_one (i := 10) (by kernel_rfl) rfl ?_
            intro K hK
            simp only [putAll, Act.put, List.setIfInBounds_toArray, List.set_cons_zero, List.set_cons_succ]
            have hK' := hK.out
            go_simp
            apply hK'
            clear hK hK' q0 q1 q2 q3
            refine wpAny_done (by kernel_rfl) ?_ _
            go_wp2_with fail
            go_roundw
            case rel => exact ⟨k + 1, by omega, by go_num, hid (fun p hp => by
              rcases List.mem_append.1 (Hmem.out ▸ hp) with hp | hp
              · exact HA.out p hp
              · rw [List.mem_singleton.1 hp]; exact Hok.out), hid (by rw [Hnext.out]; exact HC6.out), HP7, HB7⟩
            case measure => simp [intOf] <;> omega
    · obtain rfl : k = L := by omega
      have hfin : l.take k = l := by rw [HLL.out, List.take_length]
      have hA := HA.out
      have hcell := HC.out
      rw [hfin] at hA hcell
      have Hres : Hid (lnValue (l, x) vals = (x + lnVal (lnAtv vals) l, 0)) := hid (by unfold lnValue; rw [if_pos hA])
      obtain ⟨tot, htot⟩ : ∃ t, t = x + lnVal (lnAtv vals) l := ⟨_, rfl⟩
      rw [← htot] at Hres hcell
      obtain ⟨pt, nt, ct, htb, hti⟩ := hcell
      obtain ⟨t0, t1, -, -⟩ := two_cells htb
      have hpr := HPr.out
      obtain ⟨_, _, r0, r1, r2, r3⟩ := hpr.cells
      have HI := hid (hti.stored hpr (decide (tot < 0)) pt nt ct)
      have HBF := hid (Below.stored HBr.out (g := w.heap.size + 1) (by omega) (.bool (decide (tot < 0))) (.slice pt nt ct))
      clear hfin hA HA HC htb hti htot
      go_wp2
      exact bodyPost_ret (v := .tuple #[.agg #[.bool (decide (tot < 0)), .slice pt nt ct], .int .i64 0]) (by simp [results, Try.results7, go_sem, r0, r1]) rfl (by rw [Hres.out]; exact ⟨_, rfl, HI.out, HBF.out⟩)
end Go.Proofs.Ytjfcocadohgneaa
/- elenchusref06.Value. -/
namespace Go.Proofs.Ytjfcocadohgneaa
open Go.RowKit Big

theorem RWh_num (d : Bool) (s : Value) (z : Int) (w : World) (h : RawAt w (.agg #[.bool d, s]) z) : Calls Try.prog 21 #[.bool d, s] w (RInt z w) := by
  obtain ⟨neg, s', l, e, h1, h2, h3, rfl⟩ := h
  injection e with e
  simp only [Array.mk.injEq, List.cons.injEq, and_true] at e
  obtain ⟨e1, rfl⟩ := e
  injection e1 with e1
  subst e1
  exact Whole_any _ _ l w h1 h2 (Nat.le_trans h3 (by decide))
set_option maxRecDepth 100000 in
set_option maxHeartbeats 6400000 in
theorem RValue_lin (va vv : Value) (a : List (Int × Int) × Int) (vals : List Int) (w : World) {N : Nat} (ha : LnR w va a) (hv : NmsR w vv vals) (sa : LnSz N a) (sv : ∀ z ∈ vals, sz W z.natAbs ≤ N) (hl : N + N + a.1.length ≤ 549755813000) :
    Calls Try.prog 8 #[va, vv] w (RIntE (lnValue a vals) w) := by
  obtain ⟨p0, n0, c0, b0, q0, k0, d0, rfl⟩ := ha.agg3
  obtain ⟨l, x⟩ := a
  have HH := hid ha; have HV := hid hv; have SA := hid sa; have SV := hid sv; have HL := hid hl
  obtain ⟨pv, n1, s1, ev, hp, hx⟩ := ha
  injection ev with ev
  simp only [Array.mk.injEq, List.cons.injEq, and_true] at ev
  obtain ⟨rfl, e2, rfl⟩ := ev
  injection e2 with e2
  subst e2
  have hx : RawAt w (.agg #[.bool b0, .slice q0 k0 d0]) x := hx
  obtain ⟨p, cp, ep, j1, j2, -, j4⟩ := (show PtsR w (.slice p0 n0 c0) l from hp)
  injection ep with e1 e2 e3
  subst e1 e2 e3
  have J4 := hid j4
  obtain ⟨pw, cv, rfl, i1, i2, -, i4⟩ := hv
  have I4 := hid i4
  unfold maxLen at i2
  obtain ⟨WX, hW⟩ : ∃ WX, WX = (w.alloc (.cells #[.slice p0 l.length c0, .bool b0, .slice q0 k0 d0] 28)).alloc (.cells #[.bool false, .slice none 0 0] 26) := ⟨_, rfl⟩
  have b2 : Below w.heap.size w WX := by rw [hW]; exact (below1 w _).alloc (by simp) _
  have z2 : WX.heap.size = w.heap.size + 2 := by rw [hW, size_alloc, size_alloc]
  have e0 : WX.heap[w.heap.size]? = some (.cells #[.slice p0 l.length c0, .bool b0, .slice q0 k0 d0] 28 (0, 0)) := by rw [hW, heap_alloc_old _ _ (by simp)]; exact heap_alloc_new w _
  have hpr : Pair WX (w.heap.size + 1) 26 := by rw [hW]; exact Pair.new1 ..
  have B2 := hid b2; have E0 := hid e0; have Z2 := hid z2; have HPR := hid hpr
  have HNm := hid (RWh_num _ _ x WX (hx.below b2))
  obtain ⟨y0, y1, y2⟩ := lnCells3 e0
  obtain ⟨L, hLL⟩ : ∃ L, L = l.length := ⟨_, rfl⟩
  have HLL := hid hLL
  have hlen : N + N + l.length ≤ 549755813000 := hl
  have hLb : L ≤ 549755813000 := by omega
  have Hlen := hid hlen
  rw [← hLL] at E0 hW j1 ⊢
  clear sa sv hl hx hp j4 i4 b2 e0 z2 hpr hLL hlen
  go_enter Try.func8, Try.ntmps8
  go_upto_region 1 with fail
  rw [← hW]
  clear hW
  go_wp2_with fail
  refine HNm.out.mono ?_
  rintro e w3 ⟨v3, rfl, i3, b3⟩
  obtain ⟨p3, n3, c3, rfl, i3⟩ := i3.shape
  have z3 := b3.size
  obtain ⟨gT, hgT⟩ : ∃ gT, gT = w3.heap.size := ⟨_, rfl⟩
  obtain ⟨W4, hW4⟩ : ∃ W4, W4 = w3.alloc (.cells #[.bool (decide (x < 0)), .slice p3 n3 c3] 26) := ⟨_, rfl⟩
  have b4 : Below w3.heap.size w3 W4 := by rw [hW4]; exact below1 _ _
  have hC4 : LnCell W4 w3.heap.size x := ⟨p3, n3, c3, by rw [hW4]; exact heap_alloc_new _ _, i3.below b4⟩
  have HC4 := hid hC4
  have HP4 := hid ((HPR.out.below b3).below b4)
  have HB4 := hid (lnGo b4 (lnGo b3 B2.out))
  have E04 := hid ((b4.block w.heap.size (by have := Z2.out; omega)).trans ((b3.block w.heap.size (by have := Z2.out; omega)).trans E0.out))
  have HgT : Hid (w.heap.size + 1 < w3.heap.size) := hid (by have := Z2.out; omega)
  clear i3 b3 b4 hC4 y0 y1 y2 E0 HNm hgT gT
  go_upto_region 2 with fail
  rw [← hW4]
  clear hW4
  have y0 := (lnCells3 E04.out).1
  go_wp2_with fail
  clear y0
  go_loopw [19] (fun i wr => ∃ (k : Nat), k ≤ L ∧ i = .int .i64 (k : Nat) ∧ Hid (∀ p ∈ l.take k, 0 ≤ p.2 ∧ p.2 < vals.length) ∧ Hid (LnCell wr w3.heap.size (x + lnVal (lnAtv vals) (l.take k))) ∧ Hid (Pair wr (w.heap.size + 1) 26) ∧ Hid (Below w.heap.size w wr)) (fun i _ => L - (intOf i).toNat)
  case atStart => exact ⟨0, Nat.zero_le _, rfl, hid (by simp), hid (by simpa [lnVal] using HC4.out), HP4, HB4⟩
  case round =>
    obtain ⟨k, hk, rfl, HA, HC, HPr, HBr⟩ := hrel
    by_cases hlt : k < L
    · have hkt : k < l.length := by rw [← HLL.out]; exact hlt
      have hlt' : (k : Int) < (L : Int) := by omega
      obtain ⟨b, o, rfl, hb, hc⟩ := J4.out (by omega)
      obtain ⟨cs, kk0, d, s, ecs, hraw, hwf⟩ := hc k hkt
      have hsh := hraw.agg2
      obtain ⟨d', q, n, cq, e2⟩ := hsh
      obtain ⟨rfl, rfl⟩ : s = .slice q n cq ∧ d = d' := by
        injection e2 with e2
        simpa [and_comm] using e2
      clear e2
      subst ecs
      have y0 := (HBr.out.cell (p := ⟨b, o + k * 3, none⟩) hb).trans (kk0 0 _ rfl)
      have y1 := (HBr.out.cell (p := ⟨b, o + k * 3 + 1, none⟩) hb).trans (kk0 1 _ rfl)
      have y2 := (HBr.out.cell (p := ⟨b, o + k * 3 + 2, none⟩) hb).trans (kk0 2 _ rfl)
      have Hnext : Hid (x + lnVal (lnAtv vals) (l.take (k + 1)) = (x + lnVal (lnAtv vals) (l.take k)) + l[k].1 * lnAtv vals l[k].2) := hid (by rw [List.take_succ_eq_append_getElem hkt, lnVal_snoc]; omega)
      have Hmem : Hid (l.take (k + 1) = l.take k ++ [(l[k].1, l[k].2)]) := hid (List.take_succ_eq_append_getElem hkt)
      have hin : l[k] ∈ l := List.getElem_mem hkt
      have hsc := SA.out.1 l[k] hin
      have Hin : Hid (∀ (P : Int × Int → Prop), (∀ p ∈ l, P p) → P (l[k].1, l[k].2)) := hid (fun P h => h _ hin)
      have hst : sz W (x + lnVal (lnAtv vals) (l.take k)).natAbs ≤ N + N + l.length + 1 := Nat.le_trans (sz_mono W2 (Int.natAbs_add_le _ _)) (sz_add W2 (Nat.le_trans SA.out.2 (by omega)) (Nat.le_trans (lnVal_sz _ (lnAtv_sz SV.out) _ (fun p hp => SA.out.1 p (List.mem_of_mem_take hp))) (by rw [List.length_take]; omega)))
      have hcell := HC.out
      have hraw := hraw.below HBr.out
      generalize x + lnVal (lnAtv vals) (l.take k) = tot at *
      generalize l[k].1 = c at *
      generalize l[k].2 = t at *
      clear kk0 hc hin
      obtain ⟨pt, nt, ct, htb, hti⟩ := hcell
      have hgl : w3.heap.size < wr.heap.size := (Array.getElem?_eq_some_iff.1 htb).1
      obtain ⟨W5, hW5⟩ : ∃ W5, W5 = wr.alloc (.cells #[.bool d, .slice q n cq, .int .i64 t] 45) := ⟨_, rfl⟩
      have b5 : Below wr.heap.size wr W5 := by rw [hW5]; exact below1 wr _
      have e5 : W5.heap[wr.heap.size]? = some (.cells #[.bool d, .slice q n cq, .int .i64 t] 45 (0, 0)) := by rw [hW5]; exact heap_alloc_new wr _
      have z5 : W5.heap.size = wr.heap.size + 1 := by rw [hW5, size_alloc]
      obtain ⟨t0, t1, t2⟩ := lnCells3 e5
      have HB5 := hid (lnGo b5 HBr.out)
      have HP5 := hid (HPr.out.below b5)
      have hno : ∀ (hbad : ¬ (0 ≤ t ∧ t < (vals.length : Int))), Hid (lnValue (l, x) vals = (0, 13)) := fun hbad => hid (by
        unfold lnValue
        rw [if_neg]
        intro h
        exact hbad (Hin.out _ h))
      have hpr5 := HP5.out
      obtain ⟨_, _, r0, r1, r2, r3⟩ := hpr5.cells
      by_cases hneg : t < 0
      · have Hno := hno (by omega)
        have hd : decide (t < 0) = true := by simpa using hneg
        clear hneg hno hraw htb hti hst hsc HC HA Hnext Hmem Hin
        have HBF := hid (Below.stored HB5.out (g := w.heap.size + 1) (by omega) (.bool false) (.slice none 0 0))
        go_upto_region 5 with fail
        rw [← hW5]
        clear hW5 y0 y1 y2
        go_wp2
        exact bodyPost_ret (v := .tuple #[.agg #[.bool false, .slice none 0 0], .int .i64 13]) (by simp [results, Try.results8, go_sem, r0, r1]) rfl (by rw [Hno.out]; exact ⟨_, rfl, IntAt.zero _, HBF.out⟩)
      · have hd : decide (t < 0) = false := by simpa using hneg
        by_cases hge : (vals.length : Int) ≤ t
        · have Hno := hno (by omega)
          have hd2 : decide ((vals.length : Int) ≤ t) = true := by simpa using hge
          clear hneg hno hraw htb hti hst hsc HC HA Hnext Hmem Hin hge
          have HBF := hid (Below.stored HB5.out (g := w.heap.size + 1) (by omega) (.bool false) (.slice none 0 0))
          go_upto_region 5 with fail
          rw [← hW5]
          clear hW5 y0 y1 y2
          go_wp2
          exact bodyPost_ret (v := .tuple #[.agg #[.bool false, .slice none 0 0], .int .i64 13]) (by simp [results, Try.results8, go_sem, r0, r1]) rfl (by rw [Hno.out]; exact ⟨_, rfl, IntAt.zero _, HBF.out⟩)
        · have hd2 : decide ((vals.length : Int) ≤ t) = false := by simpa using hge
          obtain ⟨tn, rfl⟩ : ∃ tn : Nat, t = (tn : Nat) := ⟨t.toNat, by omega⟩
          have htn : tn < vals.length := by omega
          have htn' : (tn : Int) < (vals.length : Int) := by omega
          have hd3 : decide (vals.length ≤ tn) = false := by simpa using htn
          have Hok : Hid (0 ≤ (((c, (tn : Int)) : Int × Int)).2 ∧ (((c, (tn : Int)) : Int × Int)).2 < vals.length) := hid ⟨by show (0 : Int) ≤ (tn : Int); omega, htn'⟩
          obtain ⟨bv, ov, rfl, hbv, hcv⟩ := I4.out (by omega)
          obtain ⟨cs, kv, dz, sv, ecs, hrz⟩ := hcv tn htn
          have hsh := hrz.agg2
          obtain ⟨d', qz, nz, cqz, e2⟩ := hsh
          obtain ⟨rfl, rfl⟩ : sv = .slice qz nz cqz ∧ dz = d' := by
            injection e2 with e2
            simpa [and_comm] using e2
          clear e2
          subst ecs
          have hzv : lnAtv vals (tn : Int) = vals[tn] := by unfold lnAtv; rw [Int.toNat_natCast, List.getElem?_eq_getElem htn]; rfl
          have hsz := SV.out vals[tn] (List.getElem_mem htn)
          rw [hzv] at Hnext
          have Hz5 := hid ((HB5.out.cell (p := ⟨bv, ov + tn * 2, none⟩) hbv).trans (kv 0 _ rfl))
          have Hz6 := hid ((HB5.out.cell (p := ⟨bv, ov + tn * 2 + 1, none⟩) hbv).trans (kv 1 _ rfl))
          generalize vals[tn] = z at *
          have Hbv5 : Hid (bv < W5.heap.size) := hid (Nat.lt_of_lt_of_le hbv HB5.out.size)
          have HRc := hid (hraw.below b5)
          have HRz := hid (hrz.below HB5.out)
          have HIt := hid (hti.below b5)
          have hlo := Hlen.out
          have Hst : Hid (sz W tot.natAbs ≤ 1099511627776) := hid (by omega)
          have Hsc : Hid (sz W c.natAbs ≤ 549755813888) := hid (by omega)
          have Hsz : Hid (sz W z.natAbs ≤ 549755813888) := hid (by omega)
          have Hscz : Hid (sz W (c * z).natAbs ≤ 1099511627776) := hid (by rw [Int.natAbs_mul]; exact Nat.le_trans (sz_mul W2 _ _) (by omega))
          have HC5 := hid (HC.out.below b5)
          have HET := hid ((b5.block w3.heap.size hgl).trans htb)
          have HE5 := hid e5
          have HgT5 : Hid (w3.heap.size < W5.heap.size) := hid (by omega)
          clear hno hraw hrz htb hti hst hsc hsz hcv kv HC Hin hge hneg hbv b5 e5 hzv hlo r0 r1 r2 r3 hpr5
          go_upto_region 7 with fail
          rw [← hW5]
          clear hW5 y0 y1 y2 t0 t1 t2
          refine wp_region_facts (w0 := W5) 10 1 [34, 35, 36, 37, 38, 39, 40, 41, 42, 43] [u34, u35, u36, u37, u38, u39, u40, u41, u42, u43]
            (fun i => match i with | 0 => lnE (.agg #[.bool (decide (tot < 0)), .slice pt nt ct]) | 1 => lnE (.pointer (some ⟨wr.heap.size, 0, none⟩)) | 2 => lnE (.agg #[.bool d, .slice q n cq]) | 3 => lnE (.slice (some ⟨bv, ov, none⟩) vals.length cv) | 4 => lnE (.pointer (some ⟨wr.heap.size, 2, none⟩)) | 5 => lnE (.int .i64 (tn : Nat)) | 6 => lnE (.pointer (some ⟨bv, ov + tn * 2, none⟩)) | 7 => lnE (.agg #[.bool dz, .slice qz nz cqz]) | 8 => lnI (c * z) | _ => lnI (tot + c * z)) [] (by kernel_rfl) (by kernel_rfl) (by kernel_rfl) (by kernel_rfl) (by decide) rfl (by kernel_rfl) rfl (by simp) ?he2 ?_ ?_ ?_
          case he2 => simp only [putAll, Act.put, List.setIfInBounds_toArray, List.set_cons_zero, List.set_cons_succ]
          · intro i hi; simp at hi
          · intro i o hi ho vs wx hvl hb hdep K hK
            have hvs := vlen10 hvl
            obtain ⟨s34, s35, s36, s37, s38, s39, s40, s41, s42, s43, rfl⟩ := hvs
            clear hvl
            obtain ⟨z0, z1, z2⟩ := lnCells3 ((hb.block wr.heap.size (by omega)).trans HE5.out)
            obtain ⟨z3, z4, -, -⟩ := two_cells ((hb.block w3.heap.size HgT5.out).trans HET.out)
            have z5 := (hb.cell (p := ⟨bv, ov + tn * 2, none⟩) Hbv5.out).trans Hz5.out
            have z6 := (hb.cell (p := ⟨bv, ov + tn * 2 + 1, none⟩) Hbv5.out).trans Hz6.out
            rcases i with _ | _ | _ | _ | _ | _ | _ | _ | _ | _ | i
            all_goals (simp only [List.getElem?_toArray, List.getElem?_cons_zero, List.getElem?_cons_succ, Option.some.injEq] at ho)
            all_goals try (subst ho)
            all_goals try simp only [putAll, Act.put, List.setIfInBounds_toArray, List.set_cons_zero, List.set_cons_succ]
            · go_simp
              have hK' := hK.out
              simp only [putAll, Act.put, List.setIfInBounds_toArray, List.set_cons_zero, List.set_cons_succ] at hK'
              exact hK' _ _ rfl (Below.refl _ _) (by simp)
            · go_simp
              have hK' := hK.out
              simp only [putAll, Act.put, List.setIfInBounds_toArray, List.set_cons_zero, List.set_cons_succ] at hK'
              exact hK' _ _ rfl (Below.refl _ _) (by simp)
            · have e1 : s35 = _ := hdep ⟨1, .data⟩ (by simp) rfl
              have e1 := e1.symm
              subst e1
              go_simp
              have hK' := hK.out
              simp only [putAll, Act.put, List.setIfInBounds_toArray, List.set_cons_zero, List.set_cons_succ] at hK'
              exact hK' _ _ rfl (Below.refl _ _) (by simp)
            · go_simp
              have hK' := hK.out
              simp only [putAll, Act.put, List.setIfInBounds_toArray, List.set_cons_zero, List.set_cons_succ] at hK'
              exact hK' _ _ rfl (Below.refl _ _) (by simp)
            · go_simp
              have hK' := hK.out
              simp only [putAll, Act.put, List.setIfInBounds_toArray, List.set_cons_zero, List.set_cons_succ] at hK'
              exact hK' _ _ rfl (Below.refl _ _) (by simp)
            · have e4 : s38 = _ := hdep ⟨4, .data⟩ (by simp) rfl
              have e4 := e4.symm
              subst e4
              go_simp
              have hK' := hK.out
              simp only [putAll, Act.put, List.setIfInBounds_toArray, List.set_cons_zero, List.set_cons_succ] at hK'
              exact hK' _ _ rfl (Below.refl _ _) (by simp)
            · have e3 : s37 = _ := hdep ⟨3, .data⟩ (by simp) rfl
              have e3 := e3.symm
              subst e3
              have e5 : s39 = _ := hdep ⟨5, .data⟩ (by simp) rfl
              have e5 := e5.symm
              subst e5
              go_simp
              have hK' := hK.out
              simp only [putAll, Act.put, List.setIfInBounds_toArray, List.set_cons_zero, List.set_cons_succ] at hK'
              exact hK' _ _ rfl (Below.refl _ _) (by simp)
            · have e6 : s40 = _ := hdep ⟨6, .data⟩ (by simp) rfl
              have e6 := e6.symm
              subst e6
              go_simp
              have hK' := hK.out
              simp only [putAll, Act.put, List.setIfInBounds_toArray, List.set_cons_zero, List.set_cons_succ] at hK'
              exact hK' _ _ rfl (Below.refl _ _) (by simp)
            · have e2 : s36 = _ := hdep ⟨2, .data⟩ (by simp) rfl
              have e2 := e2.symm
              subst e2
              have e7 : s41 = _ := hdep ⟨7, .data⟩ (by simp) rfl
              have e7 := e7.symm
              subst e7
              go_simp
              refine (RMul_any _ _ c z wx (HRc.out.below hb) (HRz.out.below hb) Hsc.out Hsz.out).mono ?_
              rintro e wy ⟨vy, rfl, iy, hby⟩
              have hsh := iy.shape
              obtain ⟨p5, n5, c5, rfl, iy⟩ := hsh
              go_wp2_with fail
              have hK' := hK.out
              simp only [putAll, Act.put, List.setIfInBounds_toArray, List.set_cons_zero, List.set_cons_succ] at hK'
              exact hK' _ _ ⟨_, _, _, _, rfl, iy⟩ hby (by simp)
            · have e0 : s34 = _ := hdep ⟨0, .data⟩ (by simp) rfl
              have e0 := e0.symm
              subst e0
              have e8 : (lnI (c * z)).P s42 wx := hdep ⟨8, .data⟩ (by simp) rfl
              obtain ⟨da8, pa8, na8, ca8, rfl, ia8⟩ := e8
              go_simp
              refine (RAdd_any _ _ tot (c * z) wx ((HIt.out.below hb).rawL Hst.out) (ia8.rawL Hscz.out)).mono ?_
              rintro e wy ⟨vy, rfl, iy, hby⟩
              have hsh := iy.shape
              obtain ⟨p5, n5, c5, rfl, iy⟩ := hsh
              go_wp2_with fail
              have hK' := hK.out
              simp only [putAll, Act.put, List.setIfInBounds_toArray, List.set_cons_zero, List.set_cons_succ] at hK'
              exact hK' _ _ ⟨_, _, _, _, rfl, iy⟩ hby (by simp)
            · omega
          · intro vs wx hvl hb hf hdist
            have hvs := vlen10 hvl
            obtain ⟨s34, s35, s36, s37, s38, s39, s40, s41, s42, s43, rfl⟩ := hvs
            have f9 : (lnI (tot + c * z)).P s43 wx := hf 9 (by decide)
            obtain ⟨b8, p8, n8, c8, e8, i8⟩ := f9
            subst e8
            have hsh := i8.shape
            obtain ⟨p9, n9, c9, e9, i9⟩ := hsh
            injection e9 with e9
            obtain ⟨rfl, rfl, rfl, rfl⟩ : b8 = decide (tot + c * z < 0) ∧ p8 = p9 ∧ n8 = n9 ∧ c8 = c9 := by simpa using e9
            clear hf hvl hdist i8
            obtain ⟨tot', htot⟩ : ∃ t, t = tot + c * z := ⟨_, rfl⟩
            rw [← htot] at i9 Hnext
            try rw [← htot]
            clear htot
            have hpT := (HC5.out.below hb).pair
            obtain ⟨_, _, q0, q1, q2, q3⟩ := hpT.cells
            have HC6 := hid (LnCell.put hpT i9)
            have hsx := hb.size
            have HP6 := hid ((HP5.out.below hb).other (g' := w3.heap.size) (by have := HgT.out; omega) 0 (.bool (decide (tot' < 0))))
            have HP7 := hid (HP6.out.other (g' := w3.heap.size) (by have := HgT.out; omega) 1 (.slice p8 n8 c8))
            have HB7 := hid (Below.stored (lnGo hb HB5.out) (g := w3.heap.size) (by have := HgT.out; omega) (.bool (decide (tot' < 0))) (.slice p8 n8 c8))
            clear i9 hpT
            refine wpAny_one (i := 10) (by kernel_rfl) rfl ?_
            intro K hK
            simp only [putAll, Act.put, List.setIfInBounds_toArray, List.set_cons_zero, List.set_cons_succ]
            have hK' := hK.out
            go_simp
            apply hK'
            clear hK hK' q0 q1 q2 q3
            refine wpAny_done (by kernel_rfl) ?_ _
            go_wp2_with fail
            go_roundw
            case rel => exact ⟨k + 1, by omega, by go_num, hid (fun p hp => by
              rcases List.mem_append.1 (Hmem.out ▸ hp) with hp | hp
              · exact HA.out p hp
              · rw [List.mem_singleton.1 hp]; exact Hok.out), hid (by rw [Hnext.out]; exact HC6.out), HP7, HB7⟩
            case measure => simp [intOf] <;> omega
    · obtain rfl : k = L := by omega
      have hfin : l.take k = l := by rw [HLL.out, List.take_length]
      have hA := HA.out
      have hcell := HC.out
      rw [hfin] at hA hcell
      have Hres : Hid (lnValue (l, x) vals = (x + lnVal (lnAtv vals) l, 0)) := hid (by unfold lnValue; rw [if_pos hA])
      obtain ⟨tot, htot⟩ : ∃ t, t = x + lnVal (lnAtv vals) l := ⟨_, rfl⟩
      rw [← htot] at Hres hcell
      obtain ⟨pt, nt, ct, htb, hti⟩ := hcell
      obtain ⟨t0, t1, -, -⟩ := two_cells htb
      have hpr := HPr.out
      obtain ⟨_, _, r0, r1, r2, r3⟩ := hpr.cells
      have HI := hid (hti.stored hpr (decide (tot < 0)) pt nt ct)
      have HBF := hid (Below.stored HBr.out (g := w.heap.size + 1) (by omega) (.bool (decide (tot < 0))) (.slice pt nt ct))
      clear hfin hA HA HC htb hti htot
      go_wp2
      exact bodyPost_ret (v := .tuple #[.agg #[.bool (decide (tot < 0)), .slice pt nt ct], .int .i64 0]) (by simp [results, Try.results8, go_sem, r0, r1]) rfl (by rw [Hres.out]; exact ⟨_, rfl, HI.out, HBF.out⟩)
end Go.Proofs.Ytjfcocadohgneaa
/- Sums that come in as data: how they read. -/
namespace Go.Proofs.Ytjfcocadohgneaa
open Go.ChangeShapes Go.WideShapes Go.ChangeAt Go.RowKit Go.Deep Go.Joins Big

/-- a part as it comes in -/
structure Px6 where
  n : Nx
  term : Int
def Px6.p (x : Px6) : Int × Int := (x.n.z, x.term)
def Px6Q (w : World) (c : List Value) (x : Px6) : Prop := ∃ n s, c = [n, s, .int .i64 x.term] ∧ NxQ w [n, s] x.n ∧ wfI x.term
theorem Px6Q.below {w w' : World} {c : List Value} {x : Px6} (h : Px6Q w c x) (hb : Below w.heap.size w w') : Px6Q w' c x := by
  obtain ⟨n, s, e, h1, h2⟩ := h
  exact ⟨n, s, e, h1.below hb, h2⟩
abbrev Px6sIn := LsIn 3 Px6Q
theorem Px6sIn.below {w w' : World} {v : Value} {l : List Px6} (h : Px6sIn w v l) (hb : Below w.heap.size w w') : Px6sIn w' v l := LsIn.below (Q := Px6Q) (fun h hb => Px6Q.below h hb) h hb
/-- a sum as it comes in -/
structure Lx where
  parts : List Px6
  rest : Nx
def Lx.a (x : Lx) : List (Int × Int) × Int := (x.parts.map Px6.p, x.rest.z)
def Lx.fit (x : Lx) : Prop := x.parts.length ≤ 40 ∧ x.rest.fit ∧ ∀ p ∈ x.parts, p.n.fit
def LxQ (w : World) (v : Value) (x : Lx) : Prop := ∃ p n cp s, v = .agg #[.slice p x.parts.length cp, n, s] ∧ Px6sIn w (.slice p x.parts.length cp) x.parts ∧ NxQ w [n, s] x.rest ∧ (∃ b, n = .bool b) ∧ ∃ q m cq, s = .slice q m cq
theorem Px6sIn.raw {w : World} {v : Value} {l : List Px6} (h : Px6sIn w v l) (hf : ∀ x ∈ l, x.n.fit) : PtsR w v (l.map Px6.p) := by
  obtain ⟨p, cap, rfl, h1, h2, h3, h4⟩ := h
  refine ⟨p, cap, by rw [List.length_map], by rw [List.length_map]; exact h1, h2, h3, fun hp => ?_⟩
  rw [List.length_map] at hp
  obtain ⟨b, off, h5, h6, h7⟩ := h4 hp
  refine ⟨b, off, h5, h6, fun i hi => ?_⟩
  rw [List.length_map] at hi
  obtain ⟨c, k1, n, s, e, k2, k3⟩ := h7 i hi
  obtain ⟨q, cq, e2, -⟩ := id k2
  injection e2 with e2 _
  subst e2
  refine ⟨c, k1, _, s, by rw [List.getElem_map]; exact e, ?_, by rw [List.getElem_map]; exact k3⟩
  rw [List.getElem_map]
  exact k2.raw (hf _ (List.getElem_mem hi))
theorem LxQ.raw {w : World} {v : Value} {x : Lx} (h : LxQ w v x) (hf : x.fit) : LnR w v x.a := by
  obtain ⟨p, n, cp, s, rfl, h1, h2, ⟨b, rfl⟩, -⟩ := h
  exact ⟨_, b, s, rfl, h1.raw hf.2.2, h2.raw hf.2.1⟩
theorem LxQ.small {w : World} {v : Value} {x : Lx} (h : LxQ w v x) (hf : x.fit) : LnSz 6 x.a := by
  obtain ⟨p, n, cp, s, rfl, h1, h2, -⟩ := h
  refine ⟨fun y hy => ?_, h2.small hf.2.1⟩
  obtain ⟨u, hu, rfl⟩ := List.mem_map.1 hy
  obtain ⟨i, hi, rfl⟩ := List.mem_iff_getElem.1 hu
  obtain ⟨q, cap, -, -, -, -, h4⟩ := h1
  obtain ⟨b, off, -, -, h7⟩ := h4 (by omega)
  obtain ⟨c, -, n', s', -, k2, -⟩ := h7 i hi
  exact k2.small (hf.2.2 _ hu)
theorem fieldsPart : ∃ f0 f1 : Field, Try.prog.underlying 45 = some (.struct #[f0, f1]) ∧ f0.type = 26 ∧ f1.type = 3 ∧ f0.offset = 0 ∧ f1.offset = 2 := ⟨_, _, Try.underlying45, rfl, rfl, rfl, rfl⟩
theorem fieldsLinear : ∃ f0 f1 : Field, Try.prog.underlying 28 = some (.struct #[f0, f1]) ∧ f0.type = 22 ∧ f1.type = 26 ∧ f0.offset = 0 ∧ f1.offset = 1 := ⟨_, _, Try.underlying28, rfl, rfl, rfl, rfl⟩
theorem cellsPartP : Try.prog.cellsOf 45 = 3 := by kernel_rfl
theorem cellsLinearP : Try.prog.cellsOf 28 = 3 := by kernel_rfl
theorem cellsPartsP : Try.prog.cellsOf 22 = 1 := by kernel_rfl
section
variable {H : Type} {enc : TypeId × Value → H} {w : World} {base : Nat} {spare : Nat → Bool} {held : Bool}
set_option maxRecDepth 100000 in
theorem open_px6 {fuel : Nat} {cs : List Value} {y : DataW H × List MemPlace} (h : DataW.trod enc Try.prog w base spare held fuel 45 cs = some y) : ∃ x : Px6, Px6Q w cs x := by
  obtain ⟨f0, f1, hs, e0, e1, o0, o1⟩ := fieldsPart
  obtain ⟨xs, n, rfl, -, hl, hlen, hf⟩ := DataW.trod_struct hs h
  rw [cellsPartP] at hl
  match cs, hl, xs, hlen with
  | [c0, c1, c2], _, [y0, y1], _ =>
    have h0 := hf 0 f0 rfl
    have h1 := hf 1 f1 rfl
    rw [e0, o0, cellsIntP] at h0
    rw [e1, o1, cellsIP] at h1
    obtain ⟨x, k⟩ := open_nx (show DataW.trod enc Try.prog w base spare held n 26 [c0, c1] = some y0 from h0)
    obtain ⟨t, g, -, hw⟩ := DataW.trod_int Try.underlying3 (show DataW.trod enc Try.prog w base spare held n 3 [c2] = some y1 from h1)
    injection g with g _
    subst g
    exact ⟨⟨x, t⟩, _, _, rfl, k, hw⟩
theorem open_px6s {fuel : Nat} {cs : List Value} {y : DataW H × List MemPlace} (h : DataW.trod enc Try.prog w base spare held fuel 22 cs = some y) : ∃ v l, cs = [v] ∧ Px6sIn w v l :=
  open_ls 3 Try.underlying22 cellsPartP (by decide) (fun _ _ _ h => open_px6 h) h
set_option maxRecDepth 100000 in
/-- a sum by value -/
theorem open_lin {r : Reach} {b0 : Nat} {v : Value} {d : DataW H} {p : List MemPlace} (hv : Value.okWide Try.prog w r b0 28 v) (h : DataW.Trod enc Try.prog w base spare held 28 v d p) : ∃ x, LxQ w v x := by
  obtain ⟨f0, f1, hs, e0, e1, o0, o1⟩ := fieldsLinear
  obtain ⟨cs, rfl, hsz⟩ := okWide_struct hs hv
  obtain ⟨fuel, hf⟩ := h
  obtain ⟨xs, n, -, -, hl, hlen, hfi⟩ := DataW.trod_struct hs hf
  rw [cellsLinearP] at hl
  obtain ⟨l⟩ := cs
  have hl' : l.length = 3 := by simpa [Value.cells] using hl
  match l, hl', xs, hlen with
  | [c0, c1, c2], _, [y0, y1], _ =>
    have h0 := hfi 0 f0 rfl
    have h1 := hfi 1 f1 rfl
    rw [e0, o0, cellsPartsP] at h0
    rw [e1, o1, cellsIntP] at h1
    obtain ⟨v0, l0, g, k⟩ := open_px6s (show DataW.trod enc Try.prog w base spare held n 22 [c0] = some y0 from h0)
    obtain ⟨x, k'⟩ := open_nx (show DataW.trod enc Try.prog w base spare held n 26 [c1, c2] = some y1 from h1)
    injection g with g _
    subst g
    obtain ⟨q, cq, e, -⟩ := id k'
    injection e with e3 e
    injection e with e4 _
    obtain ⟨pp, cc, rfl, -⟩ := id k
    exact ⟨⟨l0, x⟩, pp, _, cc, _, rfl, k, k', ⟨_, e3⟩, _, _, _, e4⟩
set_option maxRecDepth 100000 in
/-- numbers by value -/
theorem open_nums6 {r : Reach} {b0 : Nat} {v : Value} {d : DataW H} {p : List MemPlace} (hv : Value.okWide Try.prog w r b0 29 v) (h : DataW.Trod enc Try.prog w base spare held 29 v d p) : ∃ l, NxsIn w v l := by
  obtain ⟨a, len, cap, rfl⟩ := okWide_slice Try.underlying29 hv
  obtain ⟨fuel, hf⟩ := h
  obtain ⟨v', l, he, h1⟩ := open_nxs hf
  have hv' : v' = .slice a len cap := by simpa [Value.cells] using he.symm
  rw [hv'] at h1
  exact ⟨l, h1⟩
end
end Go.Proofs.Ytjfcocadohgneaa
/- elenchusref06.Few. -/
namespace Go.Proofs.Ytjfcocadohgneaa
open Go.RowKit Big

/-- what a call answers: a bool that is true only if P -/
def RIf (P : Prop) (w : World) (e : Ending) (w' : World) : Prop := ∃ b : Bool, e = .returned (.bool b) ∧ (b = true → P) ∧ Below w.heap.size w w'
set_option maxRecDepth 100000 in
set_option maxHeartbeats 6400000 in
theorem Few6_any (v : Value) (x : Lx) (w : World) (h : LxQ w v x) : Calls Try.prog 6 #[v] w (RIf x.fit w) := by
  obtain ⟨p, n, cp, s, rfl, h1, h2, ⟨bn, rfl⟩, -⟩ := h
  obtain ⟨q, cq, e2, -⟩ := h2
  injection e2 with _ e2
  injection e2 with e2 _
  subst e2
  obtain ⟨p', cap', ep, j1, j2, -, j4⟩ := h1
  injection ep with e3 _ e4
  subst e3 e4
  have J4 := hid j4
  unfold maxLen at j2
  obtain ⟨l, r⟩ := x
  obtain ⟨W, hW⟩ : ∃ W, W = w.alloc (.cells #[.slice p l.length cp, .bool bn, .slice q r.words.length cq] 28) := ⟨_, rfl⟩
  have b0 : Below w.heap.size w W := by rw [hW]; exact below1 w _
  have e0 : W.heap[w.heap.size]? = some (.cells #[.slice p l.length cp, .bool bn, .slice q r.words.length cq] 28 (0, 0)) := by rw [hW]; exact heap_alloc_new w _
  have B0 := hid b0; have E0 := hid e0
  have hfit : Hid (Lx.fit ⟨l, r⟩ ↔ l.length ≤ 40 ∧ r.words.length ≤ 6 ∧ ∀ p ∈ l, p.n.fit) := hid Iff.rfl
  obtain ⟨y0, y1, y2⟩ := lnCells3 e0
  show Calls Try.prog 6 #[.agg #[.slice p l.length cp, .bool bn, .slice q r.words.length cq]] w (RIf (Lx.fit ⟨l, r⟩) w)
  obtain ⟨L, hLL⟩ : ∃ L, L = l.length := ⟨_, rfl⟩
  have HLL := hid hLL
  have j1 : l.length ≤ cp := j1
  rw [← hLL] at j1 y0 hW hfit ⊢
  generalize r.words.length = m at *
  clear j4 b0 e0 hLL
  by_cases hL : L ≤ 40
  · have hd : decide ((40 : Int) < (L : Int)) = false := by simp; omega
    by_cases hm : m ≤ 6
    · have hd2 : decide ((6 : Int) < (m : Int)) = false := by simp; omega
      go_enter Try.func6, Try.ntmps6
      go_upto_region 1 with fail
      rw [← hW]
      clear hW
      go_wp2_with fail
      clear y0 y1 y2
      go_loopw [19] (fun i wr => ∃ (k : Nat), k ≤ L ∧ i = .int .i64 (k : Nat) ∧ Hid (∀ p ∈ l.take k, p.n.fit) ∧ Hid (Below W.heap.size W wr)) (fun i _ => L - (intOf i).toNat)
      case atStart => exact ⟨0, Nat.zero_le _, rfl, hid (by simp), hid (Below.refl _ _)⟩
      case round =>
        obtain ⟨k, hk, rfl, HA, HB⟩ := hrel
        have HBw := hid (lnGo HB.out B0.out)
        by_cases hlt : k < L
        · have hkt : k < l.length := by rw [← HLL.out]; exact hlt
          have hlt' : (k : Int) < (L : Int) := by omega
          obtain ⟨b, o, rfl, hb, hc⟩ := J4.out (by show 0 < l.length; omega)
          obtain ⟨cs, k0, n1, s1, ecs, hq, hwf⟩ := hc k hkt
          obtain ⟨q1, cq1, e5, -⟩ := hq
          injection e5 with e6 e5
          injection e5 with e5 _
          have ecs : cs = [n1, s1, .int .i64 (l[k]'hkt).term] := ecs
          subst e5 e6 ecs
          have y0 := (HBw.out.cell (p := ⟨b, o + k * 3, none⟩) hb).trans (k0 0 _ rfl)
          have y1 := (HBw.out.cell (p := ⟨b, o + k * 3 + 1, none⟩) hb).trans (k0 1 _ rfl)
          have y2 := (HBw.out.cell (p := ⟨b, o + k * 3 + 2, none⟩) hb).trans (k0 2 _ rfl)
          have y0 : wr.cell? ⟨b, o + k * 3, none⟩ = some (.bool l[k].n.neg) := y0
          have y1 : wr.cell? ⟨b, o + k * 3 + 1, none⟩ = some (.slice q1 l[k].n.words.length cq1) := y1
          have Hsn : Hid (l.take (k + 1) = l.take k ++ [l[k]]) := hid (List.take_succ_eq_append_getElem hkt)
          have Hf : Hid (l[k].n.fit ↔ l[k].n.words.length ≤ 6) := hid Iff.rfl
          clear k0 hc hwf
          generalize l[k].n.words.length = m1 at *
          generalize l[k].n.neg = g1 at *
          generalize l[k].term = t1 at *
          by_cases hm1 : m1 ≤ 6
          · have hd3 : decide ((6 : Int) < (m1 : Int)) = false := by simp; omega
            have HA2 : Hid (∀ p ∈ l.take (k + 1), p.n.fit) := hid (fun p hp => by
              rcases List.mem_append.1 (Hsn.out ▸ hp) with hp | hp
              · exact HA.out p hp
              · rw [List.mem_singleton.1 hp]; exact Hf.out.2 hm1)
            have HB2 := hid (lnGo (below1 wr (.cells #[.bool g1, .slice q1 m1 cq1, .int .i64 t1] 45)) HB.out)
            clear HA HB HBw Hsn Hf
            go_wp2_with fail
            go_roundw
            case rel => exact ⟨k + 1, by omega, by go_num, HA2, HB2⟩
            case measure => simp [intOf] <;> omega
          · have hd3 : decide ((6 : Int) < (m1 : Int)) = true := by simp; omega
            have HB2 := hid (lnGo (below1 wr (.cells #[.bool g1, .slice q1 m1 cq1, .int .i64 t1] 45)) HBw.out)
            clear HA HB HBw Hsn Hf
            go_wp2
            go_ret
            exact ⟨false, rfl, (fun h => by cases h), HB2.out⟩
        · obtain rfl : k = L := by omega
          have hfin : l.take k = l := by rw [HLL.out, List.take_length]
          have hA := HA.out
          rw [hfin] at hA
          have Hfin := hid (hfit.out.2 ⟨hL, hm, hA⟩)
          clear HA hA hfin
          go_wp2
          go_ret
          exact ⟨true, rfl, fun _ => Hfin.out, HBw.out⟩
    · have hd2 : decide ((6 : Int) < (m : Int)) = true := by simp; omega
      go_enter Try.func6, Try.ntmps6
      go_upto_region 1 with fail
      rw [← hW]
      clear hW
      go_wp2
      go_ret
      exact ⟨false, rfl, (fun h => by cases h), B0.out⟩
  · have hd : decide ((40 : Int) < (L : Int)) = true := by simp; omega
    go_enter Try.func6, Try.ntmps6
    go_upto_region 1 with fail
    rw [← hW]
    clear hW
    go_wp2
    go_ret
    exact ⟨false, rfl, (fun h => by cases h), B0.out⟩
end Go.Proofs.Ytjfcocadohgneaa
/- elenchuslaw06.LinearValues. -/
namespace Go.Proofs.Ytjfcocadohgneaa
open Go.RowKit Big

theorem LxQ.below {w w' : World} {v : Value} {x : Lx} (h : LxQ w v x) (hb : Below w.heap.size w w') : LxQ w' v x := by
  obtain ⟨p, n, cp, s, e, h1, h2, h3, h4⟩ := h
  exact ⟨p, n, cp, s, e, h1.below hb, h2.below hb, h3, h4⟩
theorem LxQ.agg3 {w : World} {v : Value} {x : Lx} (h : LxQ w v x) : ∃ p c q k d, v = .agg #[.slice p x.parts.length c, .bool x.rest.neg, .slice q k d] := by
  obtain ⟨p, n, cp, s, rfl, h1, h2, -⟩ := h
  obtain ⟨q, cq, e2, -⟩ := h2
  injection e2 with e1 e2
  injection e2 with e2 _
  subst e1 e2
  exact ⟨_, _, _, _, _, rfl⟩
set_option maxRecDepth 100000 in
set_option maxHeartbeats 6400000 in
theorem lawValues_any (v vv : Value) (x : Lx) (vals : List Nx) (w : World) (h : LxQ w v x) (hv : NxsIn w vv vals) : Calls Try.prog 3 #[v, vv] w (RBool true w) := by
  obtain ⟨p0, c0, q0, k0, d0, rfl⟩ := h.agg3
  have HH := hid h; have HV := hid hv
  obtain ⟨pw, cv, rfl, i1, i2, -, i4⟩ := hv
  have I4 := hid i4
  unfold maxLen at i2
  obtain ⟨n0, hn0⟩ : ∃ n0, n0 = x.parts.length := ⟨_, rfl⟩
  obtain ⟨b0, hb0⟩ : ∃ b0, b0 = x.rest.neg := ⟨_, rfl⟩
  rw [← hn0, ← hb0] at HH ⊢
  clear hn0 hb0 h i4
  obtain ⟨W1, hW⟩ : ∃ W1, W1 = w.alloc (.cells #[.slice p0 n0 c0, .bool b0, .slice q0 k0 d0] 28) := ⟨_, rfl⟩
  have b1 : Below w.heap.size w W1 := by rw [hW]; exact below1 w _
  have e1 : W1.heap[w.heap.size]? = some (.cells #[.slice p0 n0 c0, .bool b0, .slice q0 k0 d0] 28 (0, 0)) := by rw [hW]; exact heap_alloc_new w _
  have z1 : W1.heap.size = w.heap.size + 1 := by rw [hW, size_alloc]
  have B1 := hid b1; have E1 := hid e1; have Z1 := hid z1
  obtain ⟨L, hLL⟩ : ∃ L, L = vals.length := ⟨_, rfl⟩
  have HLL := hid hLL
  rw [← hLL] at HV i1 ⊢
  clear b1 e1 z1 hLL
  go_enter Try.func3, Try.ntmps3
  go_upto_region 1 with fail
  rw [← hW]
  clear hW
  go_wp2_with fail
  refine (fixed6_any W1).mono ?_
  rintro e w2 ⟨rfl, b2⟩
  have z2 := b2.size
  have B2 := hid (lnGo b2 B1.out)
  have E2 := hid ((b2.block w.heap.size (by have := Z1.out; omega)).trans E1.out)
  obtain ⟨y0, y1, y2⟩ := lnCells3 E2.out
  have HF := hid (Few6_any _ x w2 (HH.out.below B2.out))
  clear b2 E1
  go_upto_region 3 with fail
  go_wp2_with fail
  refine HF.out.mono ?_
  rintro e w3 ⟨bf, rfl, hfit, b3⟩
  have z3 := b3.size
  have B3 := hid (lnGo b3 B2.out)
  have E3 := hid ((b3.block w.heap.size (by have := Z1.out; omega)).trans E2.out)
  clear y0 y1 y2 b3 E2 HF
  cases bf with
  | false =>
    clear hfit
    go_wp2
    go_ret
    exact ⟨rfl, B3.out⟩
  | true =>
  have Hfit := hid (hfit rfl)
  clear hfit
  by_cases hL : L ≤ 60
  case neg =>
    have hd : decide ((60 : Int) < (L : Int)) = true := by simp; omega
    go_wp2
    go_ret
    exact ⟨rfl, B3.out⟩
  have hd : decide ((60 : Int) < (L : Int)) = false := by simp; omega
  go_wp2_with fail
  go_loopw [23] (fun i wr => ∃ (k : Nat), k ≤ L ∧ i = .int .i64 (k : Nat) ∧ Hid (∀ y ∈ vals.take k, y.fit) ∧ Hid (Below w3.heap.size w3 wr)) (fun i _ => L - (intOf i).toNat)
  case atStart => exact ⟨0, Nat.zero_le _, rfl, hid (by simp), hid (Below.refl _ _)⟩
  case round =>
    obtain ⟨k, hk, rfl, HA, HB⟩ := hrel
    have HBw := hid (lnGo HB.out B3.out)
    by_cases hlt : k < L
    · have hkt : k < vals.length := by rw [← HLL.out]; exact hlt
      have hlt' : (k : Int) < (L : Int) := by omega
      obtain ⟨b, o, rfl, hb, hc⟩ := I4.out (by omega)
      obtain ⟨cs, kk, q1, cq1, ecs, -⟩ := hc k hkt
      subst ecs
      have y0 := (HBw.out.cell (p := ⟨b, o + k * 2, none⟩) hb).trans (kk 0 _ rfl)
      have y1 := (HBw.out.cell (p := ⟨b, o + k * 2 + 1, none⟩) hb).trans (kk 1 _ rfl)
      have Hsn : Hid (vals.take (k + 1) = vals.take k ++ [vals[k]]) := hid (List.take_succ_eq_append_getElem hkt)
      have Hf : Hid (vals[k].fit ↔ vals[k].words.length ≤ 6) := hid Iff.rfl
      clear kk hc
      generalize vals[k].words.length = m1 at *
      generalize vals[k].neg = g1 at *
      by_cases hm1 : m1 ≤ 6
      · have hd3 : decide ((6 : Int) < (m1 : Int)) = false := by simp; omega
        have HA2 : Hid (∀ y ∈ vals.take (k + 1), y.fit) := hid (fun p hp => by
          rcases List.mem_append.1 (Hsn.out ▸ hp) with hp | hp
          · exact HA.out p hp
          · rw [List.mem_singleton.1 hp]; exact Hf.out.2 hm1)
        have HB2 := hid (lnGo (below1 wr (.cells #[.bool g1, .slice q1 m1 cq1] 26)) HB.out)
        clear HA HB HBw Hsn Hf
        go_wp2_with fail
        go_roundw
        case rel => exact ⟨k + 1, by omega, by go_num, HA2, HB2⟩
        case measure => simp [intOf] <;> omega
      · have hd3 : decide ((6 : Int) < (m1 : Int)) = true := by simp; omega
        have HB2 := hid (lnGo (below1 wr (.cells #[.bool g1, .slice q1 m1 cq1] 26)) HBw.out)
        clear HA HB HBw Hsn Hf
        go_wp2
        go_ret
        exact ⟨rfl, HB2.out⟩
    · obtain rfl : k = L := by omega
      have hfin : vals.take k = vals := by rw [HLL.out, List.take_length]
      have hA := HA.out
      rw [hfin] at hA
      have HVf := hid hA
      have HLn := hid (HH.out.raw Hfit.out)
      have HSm := hid (HH.out.small Hfit.out)
      have HNm := hid (NxsIn.nms HV.out hA)
      have HSv := hid (NxsIn.small HV.out hA)
      have hpl : (x.a).1.length ≤ 40 := by show (x.parts.map Px6.p).length ≤ 40; rw [List.length_map]; exact Hfit.out.1
      have HV1 := hid (fun w' (hb : Below w.heap.size w w') => Value_lin _ _ x.a (vals.map Nx.z) w' (N := 6) (HLn.out.below hb) (HNm.out.below hb) HSm.out HSv.out (by omega))
      have HV2 := hid (fun w' (hb : Below w.heap.size w w') => RValue_lin _ _ x.a (vals.map Nx.z) w' (N := 6) (HLn.out.below hb) (HNm.out.below hb) HSm.out HSv.out (by omega))
      generalize lnValue x.a (vals.map Nx.z) = r at *
      obtain ⟨r1, r2⟩ := r
      have Er := hid ((HB.out.block w.heap.size (by have := Z1.out; omega)).trans E3.out)
      obtain ⟨y0, y1, y2⟩ := lnCells3 Er.out
      clear hA hfin HA HB hpl
      have hsz : w.heap.size < wr.heap.size := (Array.getElem?_eq_some_iff.1 Er.out).1
      go_wp2_with fail
      refine (HV1.out wr HBw.out).mono ?_
      rintro e w5 ⟨v5, rfl, i5, b5⟩
      obtain ⟨p5, n5, c5, rfl, i5⟩ := i5.shape
      have z5 := b5.size
      obtain ⟨w6, hw6⟩ : ∃ w6, w6 = w5.alloc (.cells #[.bool (decide (r1 < 0)), .slice p5 n5 c5] 26) := ⟨_, rfl⟩
      have b6 : Below w5.heap.size w5 w6 := by rw [hw6]; exact below1 _ _
      have e6 : w6.heap[w5.heap.size]? = some (.cells #[.bool (decide (r1 < 0)), .slice p5 n5 c5] 26 (0, 0)) := by rw [hw6]; exact heap_alloc_new _ _
      have z6 : w6.heap.size = w5.heap.size + 1 := by rw [hw6, size_alloc]
      have I6 := hid (i5.below b6)
      have B6 := hid (lnGo b6 (lnGo b5 HBw.out))
      have E6 := hid e6
      have Ex := hid ((b6.block w.heap.size (by omega)).trans ((b5.block w.heap.size (by omega)).trans Er.out))
      clear i5 b5 b6 e6 y0 y1 y2
      go_upto_region 12 with fail
      rw [← hw6]
      clear hw6
      obtain ⟨y0, y1, y2⟩ := lnCells3 Ex.out
      go_wp2_with fail
      refine (HV2.out w6 B6.out).mono ?_
      rintro e w7 ⟨v7, rfl, i7, b7⟩
      obtain ⟨p7, n7, c7, rfl, i7⟩ := i7.shape
      have z7 := b7.size
      obtain ⟨w8, hw8⟩ : ∃ w8, w8 = w7.alloc (.cells #[.bool (decide (r1 < 0)), .slice p7 n7 c7] 26) := ⟨_, rfl⟩
      have b8 : Below w7.heap.size w7 w8 := by rw [hw8]; exact below1 _ _
      have e8 : w8.heap[w7.heap.size]? = some (.cells #[.bool (decide (r1 < 0)), .slice p7 n7 c7] 26 (0, 0)) := by rw [hw8]; exact heap_alloc_new _ _
      have I8 := hid (i7.below b8)
      have I68 := hid ((I6.out.below b7).below b8)
      have B8 := hid (lnGo b8 (lnGo b7 B6.out))
      obtain ⟨t0, t1, -, -⟩ := two_cells ((b8.block w5.heap.size (by omega)).trans ((b7.block w5.heap.size (by omega)).trans E6.out))
      obtain ⟨u0, u1, -, -⟩ := two_cells e8
      clear i7 b7 b8 e8 y0 y1 y2 I6
      go_upto_region 13 with fail
      rw [← hw8]
      clear hw8
      go_wp2_with fail
      refine (SameInt_same _ _ r1 w8 I68.out I8.out).mono ?_
      rintro e w9 ⟨rfl, b9⟩
      have B9 := hid (lnGo b9 B8.out)
      clear b9
      go_wp2
      go_ret
      exact ⟨rfl, B9.out⟩
end Go.Proofs.Ytjfcocadohgneaa
