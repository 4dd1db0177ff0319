/- Texts put together: LnFixed, LnValue, LnRValue, LnOpen, LnFew, LnRIs, LnPush, LnRTight, LnSame, LnLawTight. -/
import Derived.Test.YtjfcocadohgneaaGreatLinearTightCardM4
import Derived.Maps.AppendAt
/- elenchuslaw06's small functions: one and fixed. -/
namespace Go.Proofs.YtjfcocadohgneaaGreat
open Go.RowKit Big

theorem vlen34 {vs : List Value} (h : vs.length = 34) : ∃ v0 v1 v2 v3 v4 v5 v6 v7 v8 v9 v10 v11 v12 v13 v14 v15 v16 v17 v18 v19 v20 v21 v22 v23 v24 v25 v26 v27 v28 v29 v30 v31 v32 v33, vs = [v0, v1, v2, v3, v4, v5, v6, v7, v8, v9, v10, v11, v12, v13, v14, v15, v16, v17, v18, v19, v20, v21, v22, v23, v24, v25, v26, v27, v28, v29, v30, v31, v32, v33] := by
  match vs, h with
  | v0 :: v1 :: v2 :: v3 :: v4 :: v5 :: v6 :: v7 :: v8 :: v9 :: v10 :: v11 :: v12 :: v13 :: v14 :: v15 :: v16 :: v17 :: v18 :: v19 :: v20 :: v21 :: v22 :: v23 :: v24 :: v25 :: v26 :: v27 :: v28 :: v29 :: v30 :: v31 :: v32 :: v33 :: [], _ => exact ⟨v0, v1, v2, v3, v4, v5, v6, v7, v8, v9, v10, v11, v12, v13, v14, v15, v16, v17, v18, v19, v20, v21, v22, v23, v24, v25, v26, v27, v28, v29, v30, v31, v32, v33, rfl⟩

set_option maxRecDepth 100000 in
theorem one_any (z : Int) (w : World) (h0 : -9223372036854775808 ≤ z) (h1 : z ≤ 9223372036854775807) : Calls Tryz.prog 60 #[.int .i64 z] w (RLin ([(1, 0)], z) w) := by
  have hO := hid (fun w' => ROf_any z w' h0 h1)
  clear h0 h1
  obtain ⟨W1, hW⟩ : ∃ W1, W1 = w.alloc (.cells #[.slice none 0 0, .bool false, .slice none 0 0] 46) := ⟨_, rfl⟩
  have b1 : Below w.heap.size w W1 := by rw [hW]; exact below1 w _
  have z1 : W1.heap.size = w.heap.size + 1 := by rw [hW, size_alloc]
  have e1 : W1.heap[w.heap.size]? = some (.cells #[.slice none 0 0, .bool false, .slice none 0 0] 46 (0, 0)) := by rw [hW]; exact heap_alloc_new w _
  have B1 := hid b1; have E1 := hid e1
  clear b1 e1
  go_enter Tryz.func60, Tryz.ntmps60
  go_wp2_with fail
  rw [← hW]
  clear hW
  refine (ROf_any 1 W1 (by decide) (by decide)).mono ?_
  rintro e w2 ⟨v2, rfl, i2, b2⟩
  obtain ⟨p2, n2, c2, rfl, i2⟩ := i2.shape
  have z2 := b2.size
  obtain ⟨W3, hW3⟩ : ∃ W3, W3 = w2.alloc (.cells #[.bool false, .slice p2 n2 c2, .int .i64 0] 48) := ⟨_, rfl⟩
  have b3 : Below w2.heap.size w2 W3 := by rw [hW3]; exact below1 _ _
  have e3 : W3.heap[w2.heap.size]? = some (.cells #[.bool false, .slice p2 n2 c2, .int .i64 0] 48 (0, 0)) := by rw [hW3]; exact heap_alloc_new _ _
  have z3 : W3.heap.size = w2.heap.size + 1 := by rw [hW3, size_alloc]
  have I3 := hid (i2.below b3)
  have B3 := hid (lnGo b3 (lnGo b2 B1.out))
  have E13 := hid ((b3.block w.heap.size (by omega)).trans ((b2.block w.heap.size (by omega)).trans E1.out))
  have E3 := hid e3
  clear i2 b3 e3 b2
  go_wp2_with fail
  rw [← hW3]
  clear hW3
  refine (hO.out W3).mono ?_
  rintro e w4 ⟨v4, rfl, i4, b4⟩
  obtain ⟨p4, n4, c4, rfl, i4⟩ := i4.shape
  have e14 := (b4.block w.heap.size (by omega)).trans E13.out
  have e34 := (b4.block w2.heap.size (by omega)).trans E3.out
  obtain ⟨x0, x1, x2⟩ := lnCells3 e14
  have fz0 := frozen_of_row w4 w.heap.size 0 _ _ e14
  have fz1 := frozen_of_row w4 w.heap.size 1 _ _ e14
  have fz2 := frozen_of_row w4 w.heap.size 2 _ _ e14
  have hT : LnT w4 (.agg #[.slice (some ⟨w2.heap.size, 0, none⟩) 1 1, .bool (decide (z < 0)), .slice p4 n4 c4]) ([(1, 0)], z) :=
    ⟨_, _, rfl, ⟨_, 1, rfl, by simp, by simp [maxLen], (fun h => by cases h), fun _ => ⟨w2.heap.size, 0, rfl, (Array.getElem?_eq_some_iff.1 e34).1, fun i hi => by
      obtain rfl : i = 0 := by simp at hi; omega
      refine ⟨[.bool false, .slice p2 n2 c2, .int .i64 0], fun j u hj => ?_, _, rfl, I3.out.below b4, (wfI_iff 0).2 (by decide)⟩
      rw [cell_of_row w4 w2.heap.size _ _ _ (0, 0) e34]
      simpa using hj⟩⟩, i4⟩
  have HT := hid (hT.quiet (st3_apart w4 w.heap.size (.slice (some ⟨w2.heap.size, 0, none⟩) 1 1) (.bool (decide (z < 0))) (.slice p4 n4 c4)) (fun b hb => by rw [hb]; exact NoInt.cells e14 (by simp)))
  have HB := hid (st3_below (lnGo b4 B3.out) (g := w.heap.size) (Nat.le_refl _) (.slice (some ⟨w2.heap.size, 0, none⟩) 1 1) (.bool (decide (z < 0))) (.slice p4 n4 c4))
  clear hT i4 b4 e14 e34
  go_wp2
  exact bodyPost_ret (v := .agg #[.slice (some ⟨w2.heap.size, 0, none⟩) 1 1, .bool (decide (z < 0)), .slice p4 n4 c4]) (by simp [results, Tryz.results60, go_sem, x0, x1, x2]) rfl ⟨_, rfl, HT.out, HB.out⟩
/-- the first part of a told sum -/
theorem LnT.first {w : World} {v : Value} {c t x : Int} {l : List (Int × Int)} (h : LnT w v ((c, t) :: l, x)) : ∃ b o cap q k d pc nc cc, v = .agg #[.slice (some ⟨b, o, none⟩) (l.length + 1) cap, .bool (decide (x < 0)), .slice q k d] ∧ b < w.heap.size ∧
    w.cell? ⟨b, o, none⟩ = some (.bool (decide (c < 0))) ∧ w.cell? ⟨b, o + 1, none⟩ = some (.slice pc nc cc) ∧ IntAt w (.agg #[.bool (decide (c < 0)), .slice pc nc cc]) c ∧ IntAt w (.agg #[.bool (decide (x < 0)), .slice q k d]) x ∧ l.length + 1 ≤ cap := by
  obtain ⟨pv, s, rfl, ⟨p, cap, rfl, h1, h2, h3, h4⟩, h5⟩ := h
  obtain ⟨b, o, rfl, hb, hc⟩ := h4 (by simp)
  obtain ⟨cs, k1, s', rfl, k2, -⟩ := hc 0 (by simp)
  obtain ⟨p2, n2, c2, e2, k2⟩ := k2.shape
  injection e2 with e2
  obtain rfl : s' = .slice p2 n2 c2 := by simpa using e2
  obtain ⟨p3, n3, c3, e3, h5⟩ := h5.shape
  injection e3 with e3
  obtain rfl : s = .slice p3 n3 c3 := by simpa using e3
  have q0 := k1 0 _ rfl
  have q1 := k1 1 _ rfl
  simp only [Nat.zero_mul, Nat.add_zero] at q0 q1
  exact ⟨b, o, cap, p3, n3, c3, p2, n2, c2, rfl, hb, q0, q1, k2, h5, by simpa using h1⟩
theorem LnT.pair2 {w : World} {g : Nat} {p2 q2 : Option Addr} {n2 c2 m2 d2 : Nat} {s : Value} {a b x : Int} {T : TypeId} (h : w.heap[g]? = some (.cells #[.bool (decide (a < 0)), .slice p2 n2 c2, .int .i64 0, .bool (decide (b < 0)), .slice q2 m2 d2, .int .i64 1] T (0, 0)))
    (ha : IntAt w (.agg #[.bool (decide (a < 0)), .slice p2 n2 c2]) a) (hb : IntAt w (.agg #[.bool (decide (b < 0)), .slice q2 m2 d2]) b) (hx : IntAt w (.agg #[.bool (decide (x < 0)), s]) x) :
    LnT w (.agg #[.slice (some ⟨g, 0, none⟩) 2 2, .bool (decide (x < 0)), s]) ([(a, 0), (b, 1)], x) :=
  ⟨_, _, rfl, ⟨_, 2, rfl, by simp, by simp [maxLen], (fun h => by cases h), fun _ => ⟨g, 0, rfl, (Array.getElem?_eq_some_iff.1 h).1, fun i hi => by
    rcases (by simp at hi; omega : i = 0 ∨ i = 1) with rfl | rfl
    · refine ⟨[.bool (decide (a < 0)), .slice p2 n2 c2, .int .i64 0], fun j u hj => ?_, _, rfl, ha, (wfI_iff 0).2 (by decide)⟩
      rw [cell_of_row w g _ _ _ (0, 0) h]
      rcases j with _ | _ | _ | j <;> simp at hj ⊢ <;> exact hj
    · refine ⟨[.bool (decide (b < 0)), .slice q2 m2 d2, .int .i64 1], fun j u hj => ?_, _, rfl, hb, (wfI_iff 1).2 (by decide)⟩
      rw [cell_of_row w g _ _ _ (0, 0) h]
      rcases j with _ | _ | _ | j <;> simp at hj ⊢ <;> exact hj⟩⟩, hx⟩
theorem lnFix1 : (lnSum ((lnSum (lnTimes 2 [(1, 0)])) ++ [(1, 0)]), (3 : Int) * 2 + 0) = ([(3, 0)], 6) := by decide
theorem lnFix2 : lnTight ([(2, 0), (4, 1)], 3) = (([(1, 0), (2, 1)], 0), -2, 0) := by decide +kernel
set_option maxRecDepth 100000 in
set_option maxHeartbeats 12800000 in
theorem fixed6_any (w : World) : Calls Tryz.prog 23 #[] w (RBool true w) := by
  go_enter Tryz.func23, Tryz.ntmps23
  go_wp2_with fail
  refine (one_any 3 w (by decide) (by decide)).mono ?_
  rintro e w1 ⟨v1, rfl, t1, b1⟩
  go_wp2_with fail
  refine (ROf_any 2 w1 (by decide) (by decide)).mono ?_
  rintro e w2 ⟨v2, rfl, i2, b2⟩
  have s1 : LnSz 1 ([((1 : Int), (0 : Int))], (3 : Int)) := ⟨fun p hp => by rw [List.mem_singleton.1 hp]; decide +kernel, by decide +kernel⟩
  go_wp2_with fail
  refine (Scale_lin v1 v2 _ 2 w2 (N := 1) (by decide) ((t1.below b2).raw s1 (by decide)) (i2.rawL (by decide +kernel)) s1 (by decide +kernel) (by decide)).mono ?_
  rintro e w3 ⟨v3, rfl, t3, b3⟩
  have B3 := hid (lnGo b3 (lnGo b2 b1))
  clear t1 i2 b1 b2 b3
  go_wp2_with fail
  refine (one_any 0 w3 (by decide) (by decide)).mono ?_
  rintro e w4 ⟨v4, rfl, t4, b4⟩
  have s3 : LnSz 1 (lnSum (lnTimes 2 [((1 : Int), (0 : Int))]), (3 : Int) * 2) := ⟨by decide +kernel, by decide +kernel⟩
  have s4 : LnSz 1 ([((1 : Int), (0 : Int))], (0 : Int)) := ⟨fun p hp => by rw [List.mem_singleton.1 hp]; decide +kernel, by decide +kernel⟩
  go_wp2_with fail
  refine (Add_lin v3 v4 _ _ w4 (N := 1) (by decide) ((t3.below b4).raw s3 (by decide)) (t4.raw s4 (by decide)) s3 s4 (by decide)).mono ?_
  rintro e w5 ⟨v5, rfl, t5, b5⟩
  rw [lnFix1] at t5
  have B5 := hid (lnGo b5 (lnGo b4 B3.out))
  clear t3 t4 b4 b5
  obtain ⟨b0, o0, cp0, q5, k5, d5, pc, nc, cc, rfl, hb0, hc0, hc1, i3, i6, hcp⟩ := t5.first
  obtain ⟨wA, hwA⟩ : ∃ wA, wA = w5.alloc (.cells #[.slice (some ⟨b0, o0, none⟩) 1 cp0, .bool false, .slice q5 k5 d5] 46) := ⟨_, rfl⟩
  have bA : Below w5.heap.size w5 wA := by rw [hwA]; exact below1 _ _
  have eA : wA.heap[w5.heap.size]? = some (.cells #[.slice (some ⟨b0, o0, none⟩) 1 cp0, .bool false, .slice q5 k5 d5] 46 (0, 0)) := by rw [hwA]; exact heap_alloc_new _ _
  have zA : wA.heap.size = w5.heap.size + 1 := by rw [hwA, size_alloc]
  have EA := hid eA
  have HB0 := hid hb0
  have C0 := hid ((bA.cell (p := ⟨b0, o0, none⟩) hb0).trans hc0); have C1 := hid ((bA.cell (p := ⟨b0, o0 + 1, none⟩) hb0).trans hc1)
  have I3 := hid (i3.below bA); have I6 := hid (i6.below bA)
  have BA := hid (lnGo bA B5.out)
  clear t5 hb0 hc0 hc1 i3 i6 bA eA
  go_upto_region 2 with fail
  rw [← hwA]
  clear hwA
  go_wp2_with fail
  refine (ROf_any 2 wA (by decide) (by decide)).mono ?_
  rintro e w6 ⟨v6, rfl, i6, b6⟩
  obtain ⟨p6, n6, c6, rfl, i6⟩ := i6.shape
  go_wp2_with fail
  refine (ROf_any 4 w6 (by decide) (by decide)).mono ?_
  rintro e w7 ⟨v7, rfl, i7, b7⟩
  obtain ⟨p7, n7, c7, rfl, i7⟩ := i7.shape
  obtain ⟨wB, hwB⟩ : ∃ wB, wB = w7.alloc (.cells #[.bool false, .slice p6 n6 c6, .int .i64 0, .bool false, .slice p7 n7 c7, .int .i64 1] 48) := ⟨_, rfl⟩
  have bB : Below w7.heap.size w7 wB := by rw [hwB]; exact below1 _ _
  have eB : wB.heap[w7.heap.size]? = some (.cells #[.bool false, .slice p6 n6 c6, .int .i64 0, .bool false, .slice p7 n7 c7, .int .i64 1] 48 (0, 0)) := by rw [hwB]; exact heap_alloc_new _ _
  have I6' := hid ((i6.below b7).below bB); have I7 := hid (i7.below bB)
  have HAB := hid (lnGo bB (lnGo b7 b6))
  have EB := hid eB
  clear i6 i7 b6 b7 bB eB
  go_wp2_with fail
  rw [← hwB]
  clear hwB
  refine (ROf_any 3 wB (by decide) (by decide)).mono ?_
  rintro e w8 ⟨v8, rfl, i8, b8⟩
  obtain ⟨p8, n8, c8, rfl, i8⟩ := i8.shape
  obtain ⟨wC, hwC⟩ : ∃ wC, wC = w8.alloc (.cells #[.slice (some ⟨w7.heap.size, 0, none⟩) 2 2, .bool false, .slice p8 n8 c8] 46) := ⟨_, rfl⟩
  have bC : Below w8.heap.size w8 wC := by rw [hwC]; exact below1 _ _
  have eC : wC.heap[w8.heap.size]? = some (.cells #[.slice (some ⟨w7.heap.size, 0, none⟩) 2 2, .bool false, .slice p8 n8 c8] 46 (0, 0)) := by rw [hwC]; exact heap_alloc_new _ _
  have bBC := lnGo bC b8
  have zB : w7.heap.size < wB.heap.size := (Array.getElem?_eq_some_iff.1 EB.out).1
  have hT := LnT.pair2 (a := 2) (b := 4) (x := 3) ((bBC.block w7.heap.size zB).trans EB.out) (I6'.out.below bBC) (I7.out.below bBC) (i8.below bC)
  have s2 : LnSz 1 ([((2 : Int), (0 : Int)), (4, 1)], (3 : Int)) := ⟨by decide +kernel, by decide +kernel⟩
  have HTi := hid (Tight_lin _ _ _ wC (N := 1) (by decide) (hT.raw s2 (by decide)) s2 (by decide))
  have HAC := hid (lnGo bBC HAB.out)
  obtain ⟨x0, x1, x2⟩ := lnCells3 eC
  clear hT i8 b8 bC eC bBC I6' I7 EB HAB s2 zB
  go_upto_region 3 with fail
  rw [← hwC]
  clear hwC
  go_wp2_with fail
  refine HTi.out.mono ?_
  rw [lnFix2]
  rintro e w9 ⟨v9, u9, rfl, t9, i9, b9⟩
  obtain ⟨b1, o1, cp1, q9, k9, d9, _, _, _, rfl, -, -, -, -, -, -⟩ := t9.first
  obtain ⟨pk, nk, ck, rfl, i9⟩ := i9.shape
  obtain ⟨wD, hwD⟩ : ∃ wD, wD = (w9.alloc (.cells #[.slice (some ⟨b1, o1, none⟩) 2 cp1, .bool false, .slice q9 k9 d9] 46)).alloc (.cells #[.bool true, .slice pk nk ck] 39) := ⟨_, rfl⟩
  have bD : Below w9.heap.size w9 wD := by rw [hwD]; exact (below1 _ _).alloc (by simp) _
  have eD : wD.heap[w9.heap.size]? = some (.cells #[.slice (some ⟨b1, o1, none⟩) 2 cp1, .bool false, .slice q9 k9 d9] 46 (0, 0)) := by rw [hwD, heap_alloc_old _ _ (by simp)]; exact heap_alloc_new _ _
  have eK : wD.heap[w9.heap.size + 1]? = some (.cells #[.bool true, .slice pk nk ck] 39 (0, 0)) := by
    have := heap_alloc_new (w9.alloc (.cells #[.slice (some ⟨b1, o1, none⟩) 2 cp1, .bool false, .slice q9 k9 d9] 46)) (.cells #[.bool true, .slice pk nk ck] 39)
    rw [size_alloc] at this
    rw [hwD]; exact this
  have zD : wD.heap.size = w9.heap.size + 2 := by rw [hwD, size_alloc, size_alloc]
  have HAD := hid (lnGo bD (lnGo b9 HAC.out))
  have zAD := HAD.out.size
  have z9 := b9.size
  have zc := HAC.out.size
  have HED := hid eD; have HEK := hid eK
  have IK := hid (i9.below bD)
  have I3D := hid (I3.out.below HAD.out); have I6D := hid (I6.out.below HAD.out)
  have HDw := hid (lnGo HAD.out BA.out)
  have HEA := hid ((HAD.out.block w5.heap.size (by omega)).trans EA.out)
  have HS : Hid (∀ w', Below wD.heap.size wD w' → (w'.cell? ⟨w5.heap.size, 0, none⟩ = some (.slice (some ⟨b0, o0, none⟩) 1 cp0) ∧ w'.cell? ⟨w5.heap.size, 1, none⟩ = some (.bool false) ∧ w'.cell? ⟨w5.heap.size, 2, none⟩ = some (.slice q5 k5 d5)) ∧
      (w'.cell? ⟨b0, o0, none⟩ = some (.bool false) ∧ w'.cell? ⟨b0, o0 + 1, none⟩ = some (.slice pc nc cc)) ∧ w'.cell? ⟨w9.heap.size, 0, none⟩ = some (.slice (some ⟨b1, o1, none⟩) 2 cp1) ∧
      (w'.cell? ⟨w9.heap.size + 1, 0, none⟩ = some (.bool true) ∧ w'.cell? ⟨w9.heap.size + 1, 1, none⟩ = some (.slice pk nk ck))) := hid fun w' hb => by
    have hb0 := HB0.out
    have hAb := lnGo hb HAD.out
    obtain ⟨t0, t1, t2⟩ := lnCells3 ((hb.block w5.heap.size (by omega)).trans HEA.out)
    obtain ⟨t3, -, -⟩ := lnCells3 ((hb.block w9.heap.size (by omega)).trans HED.out)
    obtain ⟨t4, t5, -, -⟩ := two_cells ((hb.block (w9.heap.size + 1) (by omega)).trans HEK.out)
    exact ⟨⟨t0, t1, t2⟩, ⟨(hAb.cell (p := ⟨b0, o0, none⟩) (by show b0 < _; omega)).trans C0.out, (hAb.cell (p := ⟨b0, o0 + 1, none⟩) (by show b0 < _; omega)).trans C1.out⟩, t3, t4, t5⟩
  clear t9 i9 b9 bD eD eK x0 x1 x2 I3 I6 C0 C1 EA BA HAC HTi HB0 HEA HED HEK
  go_upto_region 4 with fail
  rw [← hwD]
  clear hwD
  refine wp_region_facts (w0 := wD) 34 1 [24, 25, 26, 27, 28, 29, 30, 31, 32, 33, 34, 35, 36, 37, 38, 39, 40, 41, 42, 43, 44, 45, 46, 47, 48, 49, 50, 51, 52, 53, 54, 55, 56, 57] [undef, undef, undef, undef, undef, undef, undef, undef, undef, undef, undef, undef, undef, undef, undef, undef, undef, undef, undef, undef, undef, undef, undef, undef, undef, undef, undef, undef, undef, undef, undef, undef, undef, undef]
    (fun i => match i with | 0 => lnE (.pointer (some ⟨w5.heap.size, 0, none⟩)) | 1 => lnE (.slice (some ⟨b0, o0, none⟩) 1 cp0) | 2 => lnE (.int .i64 1) | 3 => lnE (.bool true) | 4 => lnE (.bool true) | 5 => lnE (.pointer (some ⟨w5.heap.size, 0, none⟩)) | 6 => lnE (.slice (some ⟨b0, o0, none⟩) 1 cp0) | 7 => lnE (.pointer (some ⟨b0, o0, none⟩)) | 8 => lnE (.pointer (some ⟨b0, o0, none⟩)) | 9 => lnE (.agg #[.bool false, .slice pc nc cc]) | 10 => lnI 3 | 11 => lnE (.bool true) | 12 => lnE (.bool true) | 13 => lnE (.bool true) | 14 => lnE (.pointer (some ⟨w5.heap.size, 1, none⟩)) | 15 => lnE (.agg #[.bool false, .slice q5 k5 d5]) | 16 => lnI 6 | 17 => lnE (.bool true) | 18 => lnE (.bool true) | 19 => lnE (.bool true) | 20 => lnE (.int .i64 0) | 21 => lnE (.bool true) | 22 => lnE (.bool true) | 23 => lnE (.bool true) | 24 => lnE (.pointer (some ⟨w9.heap.size, 0, none⟩)) | 25 => lnE (.slice (some ⟨b1, o1, none⟩) 2 cp1) | 26 => lnE (.int .i64 2) | 27 => lnE (.bool true) | 28 => lnE (.bool true) | 29 => lnE (.bool true) | 30 => lnE (.agg #[.bool true, .slice pk nk ck]) | 31 => lnI (-2) | 32 => lnE (.bool true) | _ => lnE (.bool true)) [] (by kernel_rfl) (by kernel_rfl) (by kernel_rfl) (by kernel_rfl) (by decide) rfl (by kernel_rfl) rfl (by simp) ?he1 ?_ ?_ ?_
  case he1 => simp only [putAll, Act.put, List.setIfInBounds_toArray, List.set_cons_zero, List.set_cons_succ]
  · intro i hi; simp at hi
  · intro i o hi ho vs wx hvl hb hdep K hK
    have hvs := vlen34 hvl
    obtain ⟨s24, s25, s26, s27, s28, s29, s30, s31, s32, s33, s34, s35, s36, s37, s38, s39, s40, s41, s42, s43, s44, s45, s46, s47, s48, s49, s50, s51, s52, s53, s54, s55, s56, s57, rfl⟩ := hvs
    clear hvl
    have hk5 := HS.out wx hb
    obtain ⟨⟨y0, y1, y2⟩, ⟨y3, y4⟩, y5, y6, y7⟩ := hk5
    rcases i with _ | _ | _ | _ | _ | _ | _ | _ | _ | _ | _ | _ | _ | _ | _ | _ | _ | _ | _ | _ | _ | _ | _ | _ | _ | _ | _ | _ | _ | _ | _ | _ | _ | _ | i
    all_goals (simp only [List.getElem?_toArray, List.getElem?_cons_zero, List.getElem?_cons_succ, Option.some.injEq] at ho)
    all_goals try (subst ho)
    all_goals try simp only [putAll, Act.put, List.setIfInBounds_toArray, List.set_cons_zero, List.set_cons_succ]
    · go_simp
      have hK' := hK.out
      simp only [putAll, Act.put, List.setIfInBounds_toArray, List.set_cons_zero, List.set_cons_succ] at hK'
      exact hK' _ _ rfl (Below.refl _ _) (by simp)
    · have e0 : s24 = _ := hdep ⟨0, .data⟩ (by simp) rfl
      have e0 := e0.symm
      subst e0
      go_simp
      have hK' := hK.out
      simp only [putAll, Act.put, List.setIfInBounds_toArray, List.set_cons_zero, List.set_cons_succ] at hK'
      exact hK' _ _ rfl (Below.refl _ _) (by simp)
    · have e1 : s25 = _ := hdep ⟨1, .data⟩ (by simp) rfl
      have e1 := e1.symm
      subst e1
      go_simp
      have hK' := hK.out
      simp only [putAll, Act.put, List.setIfInBounds_toArray, List.set_cons_zero, List.set_cons_succ] at hK'
      exact hK' _ _ rfl (Below.refl _ _) (by simp)
    · have e2 : s26 = _ := hdep ⟨2, .data⟩ (by simp) rfl
      have e2 := e2.symm
      subst e2
      go_simp
      have hK' := hK.out
      simp only [putAll, Act.put, List.setIfInBounds_toArray, List.set_cons_zero, List.set_cons_succ] at hK'
      exact hK' _ _ rfl (Below.refl _ _) (by simp)
    · have e3 : s27 = _ := hdep ⟨3, .data⟩ (by simp) rfl
      have e3 := e3.symm
      subst e3
      go_simp
      have hK' := hK.out
      simp only [putAll, Act.put, List.setIfInBounds_toArray, List.set_cons_zero, List.set_cons_succ] at hK'
      exact hK' _ _ rfl (Below.refl _ _) (by simp)
    · have eg : s28 = _ := hdep ⟨4, .guard⟩ (by simp) rfl
      have eg := eg.symm
      subst eg
      go_simp
      have hK' := hK.out
      simp only [putAll, Act.put, List.setIfInBounds_toArray, List.set_cons_zero, List.set_cons_succ] at hK'
      exact hK' _ _ rfl (Below.refl _ _) (by simp)
    · have e5 : s29 = _ := hdep ⟨5, .data⟩ (by simp) rfl
      have e5 := e5.symm
      subst e5
      have eg : s28 = _ := hdep ⟨4, .guard⟩ (by simp) rfl
      have eg := eg.symm
      subst eg
      go_simp
      have hK' := hK.out
      simp only [putAll, Act.put, List.setIfInBounds_toArray, List.set_cons_zero, List.set_cons_succ] at hK'
      exact hK' _ _ rfl (Below.refl _ _) (by simp)
    · have e6 : s30 = _ := hdep ⟨6, .data⟩ (by simp) rfl
      have e6 := e6.symm
      subst e6
      have eg : s28 = _ := hdep ⟨4, .guard⟩ (by simp) rfl
      have eg := eg.symm
      subst eg
      go_simp
      have hK' := hK.out
      simp only [putAll, Act.put, List.setIfInBounds_toArray, List.set_cons_zero, List.set_cons_succ] at hK'
      exact hK' _ _ rfl (Below.refl _ _) (by simp)
    · have e7 : s31 = _ := hdep ⟨7, .data⟩ (by simp) rfl
      have e7 := e7.symm
      subst e7
      have eg : s28 = _ := hdep ⟨4, .guard⟩ (by simp) rfl
      have eg := eg.symm
      subst eg
      go_simp
      have hK' := hK.out
      simp only [putAll, Act.put, List.setIfInBounds_toArray, List.set_cons_zero, List.set_cons_succ] at hK'
      exact hK' _ _ rfl (Below.refl _ _) (by simp)
    · have e8 : s32 = _ := hdep ⟨8, .data⟩ (by simp) rfl
      have e8 := e8.symm
      subst e8
      have eg : s28 = _ := hdep ⟨4, .guard⟩ (by simp) rfl
      have eg := eg.symm
      subst eg
      go_simp
      have hK' := hK.out
      simp only [putAll, Act.put, List.setIfInBounds_toArray, List.set_cons_zero, List.set_cons_succ] at hK'
      exact hK' _ _ rfl (Below.refl _ _) (by simp)
    · have eg : s28 = _ := hdep ⟨4, .guard⟩ (by simp) rfl
      have eg := eg.symm
      subst eg
      go_simp
      refine (ROf_any (3) wx (by decide) (by decide)).mono ?_
      rintro e wy ⟨vy, rfl, iy, hby⟩
      have hsh := iy.shape
      obtain ⟨p5', n5', c5', rfl, iy⟩ := hsh
      go_wp2_with fail
      have hK' := hK.out
      simp only [putAll, Act.put, List.setIfInBounds_toArray, List.set_cons_zero, List.set_cons_succ] at hK'
      exact hK' _ _ ⟨_, _, _, _, rfl, iy⟩ hby (by simp)
    · have e9 : s33 = _ := hdep ⟨9, .data⟩ (by simp) rfl
      have e9 := e9.symm
      subst e9
      have e10 : (lnI 3).P s34 wx := hdep ⟨10, .data⟩ (by simp) rfl
      obtain ⟨da10, pa10, na10, ca10, rfl, ia10⟩ := e10
      have eg : s28 = _ := hdep ⟨4, .guard⟩ (by simp) rfl
      have eg := eg.symm
      subst eg
      go_simp
      go_simp
      refine (SameInt_same _ _ (3) wx (I3D.out.below hb) ia10).mono ?_
      rintro e wy ⟨rfl, hby⟩
      go_wp2_with fail
      have hK' := hK.out
      simp only [putAll, Act.put, List.setIfInBounds_toArray, List.set_cons_zero, List.set_cons_succ] at hK'
      exact hK' _ _ rfl hby (by simp)
    · have e4 : s28 = _ := hdep ⟨4, .data⟩ (by simp) rfl
      have e4 := e4.symm
      subst e4
      have e11 : s35 = _ := hdep ⟨11, .data⟩ (by simp) rfl
      have e11 := e11.symm
      subst e11
      go_simp
      have hK' := hK.out
      simp only [putAll, Act.put, List.setIfInBounds_toArray, List.set_cons_zero, List.set_cons_succ] at hK'
      exact hK' _ _ rfl (Below.refl _ _) (by simp)
    · have e12 : s36 = _ := hdep ⟨12, .data⟩ (by simp) rfl
      have e12 := e12.symm
      subst e12
      go_simp
      have hK' := hK.out
      simp only [putAll, Act.put, List.setIfInBounds_toArray, List.set_cons_zero, List.set_cons_succ] at hK'
      exact hK' _ _ rfl (Below.refl _ _) (by simp)
    · have eg : s37 = _ := hdep ⟨13, .guard⟩ (by simp) rfl
      have eg := eg.symm
      subst eg
      go_simp
      have hK' := hK.out
      simp only [putAll, Act.put, List.setIfInBounds_toArray, List.set_cons_zero, List.set_cons_succ] at hK'
      exact hK' _ _ rfl (Below.refl _ _) (by simp)
    · have e14 : s38 = _ := hdep ⟨14, .data⟩ (by simp) rfl
      have e14 := e14.symm
      subst e14
      have eg : s37 = _ := hdep ⟨13, .guard⟩ (by simp) rfl
      have eg := eg.symm
      subst eg
      go_simp
      have hK' := hK.out
      simp only [putAll, Act.put, List.setIfInBounds_toArray, List.set_cons_zero, List.set_cons_succ] at hK'
      exact hK' _ _ rfl (Below.refl _ _) (by simp)
    · have eg : s37 = _ := hdep ⟨13, .guard⟩ (by simp) rfl
      have eg := eg.symm
      subst eg
      go_simp
      refine (ROf_any (6) wx (by decide) (by decide)).mono ?_
      rintro e wy ⟨vy, rfl, iy, hby⟩
      have hsh := iy.shape
      obtain ⟨p5', n5', c5', rfl, iy⟩ := hsh
      go_wp2_with fail
      have hK' := hK.out
      simp only [putAll, Act.put, List.setIfInBounds_toArray, List.set_cons_zero, List.set_cons_succ] at hK'
      exact hK' _ _ ⟨_, _, _, _, rfl, iy⟩ hby (by simp)
    · have e15 : s39 = _ := hdep ⟨15, .data⟩ (by simp) rfl
      have e15 := e15.symm
      subst e15
      have e16 : (lnI 6).P s40 wx := hdep ⟨16, .data⟩ (by simp) rfl
      obtain ⟨da16, pa16, na16, ca16, rfl, ia16⟩ := e16
      have eg : s37 = _ := hdep ⟨13, .guard⟩ (by simp) rfl
      have eg := eg.symm
      subst eg
      go_simp
      go_simp
      refine (SameInt_same _ _ (6) wx (I6D.out.below hb) ia16).mono ?_
      rintro e wy ⟨rfl, hby⟩
      go_wp2_with fail
      have hK' := hK.out
      simp only [putAll, Act.put, List.setIfInBounds_toArray, List.set_cons_zero, List.set_cons_succ] at hK'
      exact hK' _ _ rfl hby (by simp)
    · have e13 : s37 = _ := hdep ⟨13, .data⟩ (by simp) rfl
      have e13 := e13.symm
      subst e13
      have e17 : s41 = _ := hdep ⟨17, .data⟩ (by simp) rfl
      have e17 := e17.symm
      subst e17
      go_simp
      have hK' := hK.out
      simp only [putAll, Act.put, List.setIfInBounds_toArray, List.set_cons_zero, List.set_cons_succ] at hK'
      exact hK' _ _ rfl (Below.refl _ _) (by simp)
    · have e18 : s42 = _ := hdep ⟨18, .data⟩ (by simp) rfl
      have e18 := e18.symm
      subst e18
      go_simp
      have hK' := hK.out
      simp only [putAll, Act.put, List.setIfInBounds_toArray, List.set_cons_zero, List.set_cons_succ] at hK'
      exact hK' _ _ rfl (Below.refl _ _) (by simp)
    · have eg : s43 = _ := hdep ⟨19, .guard⟩ (by simp) rfl
      have eg := eg.symm
      subst eg
      go_simp
      have hK' := hK.out
      simp only [putAll, Act.put, List.setIfInBounds_toArray, List.set_cons_zero, List.set_cons_succ] at hK'
      exact hK' _ _ rfl (Below.refl _ _) (by simp)
    · have e20 : s44 = _ := hdep ⟨20, .data⟩ (by simp) rfl
      have e20 := e20.symm
      subst e20
      have eg : s43 = _ := hdep ⟨19, .guard⟩ (by simp) rfl
      have eg := eg.symm
      subst eg
      go_simp
      have hK' := hK.out
      simp only [putAll, Act.put, List.setIfInBounds_toArray, List.set_cons_zero, List.set_cons_succ] at hK'
      exact hK' _ _ rfl (Below.refl _ _) (by simp)
    · have e19 : s43 = _ := hdep ⟨19, .data⟩ (by simp) rfl
      have e19 := e19.symm
      subst e19
      have e21 : s45 = _ := hdep ⟨21, .data⟩ (by simp) rfl
      have e21 := e21.symm
      subst e21
      go_simp
      have hK' := hK.out
      simp only [putAll, Act.put, List.setIfInBounds_toArray, List.set_cons_zero, List.set_cons_succ] at hK'
      exact hK' _ _ rfl (Below.refl _ _) (by simp)
    · have e22 : s46 = _ := hdep ⟨22, .data⟩ (by simp) rfl
      have e22 := e22.symm
      subst e22
      go_simp
      have hK' := hK.out
      simp only [putAll, Act.put, List.setIfInBounds_toArray, List.set_cons_zero, List.set_cons_succ] at hK'
      exact hK' _ _ rfl (Below.refl _ _) (by simp)
    · have eg : s47 = _ := hdep ⟨23, .guard⟩ (by simp) rfl
      have eg := eg.symm
      subst eg
      go_simp
      have hK' := hK.out
      simp only [putAll, Act.put, List.setIfInBounds_toArray, List.set_cons_zero, List.set_cons_succ] at hK'
      exact hK' _ _ rfl (Below.refl _ _) (by simp)
    · have e24 : s48 = _ := hdep ⟨24, .data⟩ (by simp) rfl
      have e24 := e24.symm
      subst e24
      have eg : s47 = _ := hdep ⟨23, .guard⟩ (by simp) rfl
      have eg := eg.symm
      subst eg
      go_simp
      have hK' := hK.out
      simp only [putAll, Act.put, List.setIfInBounds_toArray, List.set_cons_zero, List.set_cons_succ] at hK'
      exact hK' _ _ rfl (Below.refl _ _) (by simp)
    · have e25 : s49 = _ := hdep ⟨25, .data⟩ (by simp) rfl
      have e25 := e25.symm
      subst e25
      have eg : s47 = _ := hdep ⟨23, .guard⟩ (by simp) rfl
      have eg := eg.symm
      subst eg
      go_simp
      have hK' := hK.out
      simp only [putAll, Act.put, List.setIfInBounds_toArray, List.set_cons_zero, List.set_cons_succ] at hK'
      exact hK' _ _ rfl (Below.refl _ _) (by simp)
    · have e26 : s50 = _ := hdep ⟨26, .data⟩ (by simp) rfl
      have e26 := e26.symm
      subst e26
      have eg : s47 = _ := hdep ⟨23, .guard⟩ (by simp) rfl
      have eg := eg.symm
      subst eg
      go_simp
      have hK' := hK.out
      simp only [putAll, Act.put, List.setIfInBounds_toArray, List.set_cons_zero, List.set_cons_succ] at hK'
      exact hK' _ _ rfl (Below.refl _ _) (by simp)
    · have e23 : s47 = _ := hdep ⟨23, .data⟩ (by simp) rfl
      have e23 := e23.symm
      subst e23
      have e27 : s51 = _ := hdep ⟨27, .data⟩ (by simp) rfl
      have e27 := e27.symm
      subst e27
      go_simp
      have hK' := hK.out
      simp only [putAll, Act.put, List.setIfInBounds_toArray, List.set_cons_zero, List.set_cons_succ] at hK'
      exact hK' _ _ rfl (Below.refl _ _) (by simp)
    · have e28 : s52 = _ := hdep ⟨28, .data⟩ (by simp) rfl
      have e28 := e28.symm
      subst e28
      go_simp
      have hK' := hK.out
      simp only [putAll, Act.put, List.setIfInBounds_toArray, List.set_cons_zero, List.set_cons_succ] at hK'
      exact hK' _ _ rfl (Below.refl _ _) (by simp)
    · have eg : s53 = _ := hdep ⟨29, .guard⟩ (by simp) rfl
      have eg := eg.symm
      subst eg
      go_simp
      have hK' := hK.out
      simp only [putAll, Act.put, List.setIfInBounds_toArray, List.set_cons_zero, List.set_cons_succ] at hK'
      exact hK' _ _ rfl (Below.refl _ _) (by simp)
    · have eg : s53 = _ := hdep ⟨29, .guard⟩ (by simp) rfl
      have eg := eg.symm
      subst eg
      go_simp
      refine (ROf_any (-2) wx (by decide) (by decide)).mono ?_
      rintro e wy ⟨vy, rfl, iy, hby⟩
      have hsh := iy.shape
      obtain ⟨p5', n5', c5', rfl, iy⟩ := hsh
      go_wp2_with fail
      have hK' := hK.out
      simp only [putAll, Act.put, List.setIfInBounds_toArray, List.set_cons_zero, List.set_cons_succ] at hK'
      exact hK' _ _ ⟨_, _, _, _, rfl, iy⟩ hby (by simp)
    · have e30 : s54 = _ := hdep ⟨30, .data⟩ (by simp) rfl
      have e30 := e30.symm
      subst e30
      have e31 : (lnI (-2)).P s55 wx := hdep ⟨31, .data⟩ (by simp) rfl
      obtain ⟨da31, pa31, na31, ca31, rfl, ia31⟩ := e31
      have eg : s53 = _ := hdep ⟨29, .guard⟩ (by simp) rfl
      have eg := eg.symm
      subst eg
      go_simp
      go_simp
      refine (SameInt_same _ _ (-2) wx (IK.out.below hb) ia31).mono ?_
      rintro e wy ⟨rfl, hby⟩
      go_wp2_with fail
      have hK' := hK.out
      simp only [putAll, Act.put, List.setIfInBounds_toArray, List.set_cons_zero, List.set_cons_succ] at hK'
      exact hK' _ _ rfl hby (by simp)
    · have e29 : s53 = _ := hdep ⟨29, .data⟩ (by simp) rfl
      have e29 := e29.symm
      subst e29
      have e32 : s56 = _ := hdep ⟨32, .data⟩ (by simp) rfl
      have e32 := e32.symm
      subst e32
      go_simp
      have hK' := hK.out
      simp only [putAll, Act.put, List.setIfInBounds_toArray, List.set_cons_zero, List.set_cons_succ] at hK'
      exact hK' _ _ rfl (Below.refl _ _) (by simp)
    · omega
  · intro vs wx hvl hb hf hdist
    have hvs := vlen34 hvl
    obtain ⟨s24, s25, s26, s27, s28, s29, s30, s31, s32, s33, s34, s35, s36, s37, s38, s39, s40, s41, s42, s43, s44, s45, s46, s47, s48, s49, s50, s51, s52, s53, s54, s55, s56, s57, rfl⟩ := hvs
    have f33 : s57 = .bool true := hf 33 (by decide)
    subst f33
    have HBF := hid (lnGo hb HDw.out)
    clear hf hvl hdist
    refine wpAny_one (i := 34) (by kernel_rfl) rfl ?_
    intro K hK
    simp only [putAll, Act.put, List.setIfInBounds_toArray, List.set_cons_zero, List.set_cons_succ]
    have hK' := hK.out
    go_simp
    apply hK'
    clear hK hK'
    refine wpAny_done (by kernel_rfl) ?_ _
    go_wp2
    go_ret
    exact ⟨rfl, HBF.out⟩
end Go.Proofs.YtjfcocadohgneaaGreat
/- linear.Value. -/
namespace Go.Proofs.YtjfcocadohgneaaGreat
open Go.RowKit Big

/-- a number's two cells, as it is handed in -/
def NumR (w : World) (c : List Value) (z : Int) : Prop := ∃ n s, c = [.bool n, s] ∧ RawAt w (.agg #[.bool n, s]) z
theorem NumR.below {w w' : World} {c : List Value} {z : Int} (h : NumR w c z) (hb : Below w.heap.size w w') : NumR w' c z := by
  obtain ⟨n, s, e, h⟩ := h
  exact ⟨n, s, e, h.below hb⟩
abbrev NmsR := LsIn 2 NumR
theorem NmsR.below {w w' : World} {v : Value} {l : List Int} (h : NmsR w v l) (hb : Below w.heap.size w w') : NmsR w' v l := LsIn.below (Q := NumR) (fun h hb => NumR.below h hb) h hb
theorem NxsIn.nms {w : World} {v : Value} {l : List Nx} (h : NxsIn w v l) (hf : ∀ x ∈ l, x.fit) : NmsR w v (l.map Nx.z) := by
  obtain ⟨p, cap, rfl, h1, h2, h3, h4⟩ := h
  refine ⟨p, cap, by rw [List.length_map], by rw [List.length_map]; exact h1, h2, h3, fun hp => ?_⟩
  rw [List.length_map] at hp
  obtain ⟨b, off, h5, h6, h7⟩ := h4 hp
  refine ⟨b, off, h5, h6, fun i hi => ?_⟩
  rw [List.length_map] at hi
  obtain ⟨c, k1, k2⟩ := h7 i hi
  obtain ⟨q, cq, e, k3, k4⟩ := id k2
  refine ⟨c, k1, _, _, e, ?_⟩
  rw [List.getElem_map]
  exact (e ▸ k2).raw (hf _ (List.getElem_mem hi))
def lnAtv (vals : List Int) (t : Int) : Int := vals[t.toNat]?.getD 0
/-- the value of parts, or an error -/
def lnValue (a : List (Int × Int) × Int) (vals : List Int) : Int × Int :=
  if ∀ p ∈ a.1, 0 ≤ p.2 ∧ p.2 < vals.length then (a.2 + lnVal (lnAtv vals) a.1, 0) else (0, 13)
theorem lnVal_snoc (f : Int → Int) (l : List (Int × Int)) (p : Int × Int) : lnVal f (l ++ [p]) = lnVal f l + p.1 * f p.2 := by
  rw [lnVal_append]
  simp only [lnVal]
  omega
theorem lnVal_sz {N : Nat} (f : Int → Int) (hf : ∀ t, sz W (f t).natAbs ≤ N) : ∀ (l : List (Int × Int)), (∀ p ∈ l, sz W p.1.natAbs ≤ N) → sz W (lnVal f l).natAbs ≤ N + N + l.length
  | [], _ => by simp [lnVal, sz_zero]
  | p :: l, h => by
    have ih := lnVal_sz f hf l (fun q hq => h q (by simp [hq]))
    have h0 : sz W (p.1 * f p.2).natAbs ≤ N + N + l.length := by
      rw [Int.natAbs_mul]
      exact Nat.le_trans (sz_mul W2 _ _) (by have := h p (by simp); have := hf p.2; omega)
    simp only [lnVal, List.length_cons]
    exact Nat.le_trans (sz_mono W2 (Int.natAbs_add_le _ _)) (sz_add W2 h0 ih)
theorem lnAtv_sz {N : Nat} {vals : List Int} (h : ∀ z ∈ vals, sz W z.natAbs ≤ N) (t : Int) : sz W (lnAtv vals t).natAbs ≤ N := by
  unfold lnAtv
  cases e : vals[t.toNat]? with
  | none => simp [sz_zero]
  | some z => exact h z (List.mem_of_getElem? e)
/-- what a call answers: a number and an error -/
def RIntE (r : Int × Int) (w : World) (e : Ending) (w' : World) : Prop := ∃ v, e = .returned (.tuple #[v, .int .i64 r.2]) ∧ IntAt w' v r.1 ∧ Below w.heap.size w w'
end Go.Proofs.YtjfcocadohgneaaGreat
/- elenchusref06.Value. -/
namespace Go.Proofs.YtjfcocadohgneaaGreat
open Go.RowKit Big

theorem RWh_num (d : Bool) (s : Value) (z : Int) (w : World) (h : RawAt w (.agg #[.bool d, s]) z) : Calls Tryz.prog 52 #[.bool d, s] w (RInt z w) := by
  obtain ⟨neg, s', l, e, h1, h2, h3, rfl⟩ := h
  injection e with e
  simp only [Array.mk.injEq, List.cons.injEq, and_true] at e
  obtain ⟨e1, rfl⟩ := e
  injection e1 with e1
  subst e1
  exact Whole_any _ _ l w h1 h2 (Nat.le_trans h3 (by decide))
set_option maxRecDepth 100000 in
set_option maxHeartbeats 6400000 in
theorem RValue_lin (va vv : Value) (a : List (Int × Int) × Int) (vals : List Int) (w : World) {N : Nat} (ha : LnR w va a) (hv : NmsR w vv vals) (sa : LnSz N a) (sv : ∀ z ∈ vals, sz W z.natAbs ≤ N) (hl : N + N + a.1.length ≤ 549755813000) :
    Calls Tryz.prog 34 #[va, vv] w (RIntE (lnValue a vals) w) := by
  obtain ⟨p0, n0, c0, b0, q0, k0, d0, rfl⟩ := ha.agg3
  obtain ⟨l, x⟩ := a
  have HH := hid ha; have HV := hid hv; have SA := hid sa; have SV := hid sv; have HL := hid hl
  obtain ⟨pv, n1, s1, ev, hp, hx⟩ := ha
  injection ev with ev
  simp only [Array.mk.injEq, List.cons.injEq, and_true] at ev
  obtain ⟨rfl, e2, rfl⟩ := ev
  injection e2 with e2
  subst e2
  have hx : RawAt w (.agg #[.bool b0, .slice q0 k0 d0]) x := hx
  obtain ⟨p, cp, ep, j1, j2, -, j4⟩ := (show PtsR w (.slice p0 n0 c0) l from hp)
  injection ep with e1 e2 e3
  subst e1 e2 e3
  have J4 := hid j4
  obtain ⟨pw, cv, rfl, i1, i2, -, i4⟩ := hv
  have I4 := hid i4
  unfold maxLen at i2
  obtain ⟨WX, hW⟩ : ∃ WX, WX = (w.alloc (.cells #[.slice p0 l.length c0, .bool b0, .slice q0 k0 d0] 46)).alloc (.cells #[.bool false, .slice none 0 0] 39) := ⟨_, rfl⟩
  have b2 : Below w.heap.size w WX := by rw [hW]; exact (below1 w _).alloc (by simp) _
  have z2 : WX.heap.size = w.heap.size + 2 := by rw [hW, size_alloc, size_alloc]
  have e0 : WX.heap[w.heap.size]? = some (.cells #[.slice p0 l.length c0, .bool b0, .slice q0 k0 d0] 46 (0, 0)) := by rw [hW, heap_alloc_old _ _ (by simp)]; exact heap_alloc_new w _
  have hpr : Pair WX (w.heap.size + 1) 39 := by rw [hW]; exact Pair.new1 ..
  have B2 := hid b2; have E0 := hid e0; have Z2 := hid z2; have HPR := hid hpr
  have HNm := hid (RWh_num _ _ x WX (hx.below b2))
  obtain ⟨y0, y1, y2⟩ := lnCells3 e0
  obtain ⟨L, hLL⟩ : ∃ L, L = l.length := ⟨_, rfl⟩
  have HLL := hid hLL
  have hlen : N + N + l.length ≤ 549755813000 := hl
  have hLb : L ≤ 549755813000 := by omega
  have Hlen := hid hlen
  rw [← hLL] at E0 hW j1 ⊢
  clear sa sv hl hx hp j4 i4 b2 e0 z2 hpr hLL hlen
  go_enter Tryz.func34, Tryz.ntmps34
  go_upto_region 1 with fail
  rw [← hW]
  clear hW
  go_wp2_with fail
  refine HNm.out.mono ?_
  rintro e w3 ⟨v3, rfl, i3, b3⟩
  obtain ⟨p3, n3, c3, rfl, i3⟩ := i3.shape
  have z3 := b3.size
  obtain ⟨gT, hgT⟩ : ∃ gT, gT = w3.heap.size := ⟨_, rfl⟩
  obtain ⟨W4, hW4⟩ : ∃ W4, W4 = w3.alloc (.cells #[.bool (decide (x < 0)), .slice p3 n3 c3] 39) := ⟨_, rfl⟩
  have b4 : Below w3.heap.size w3 W4 := by rw [hW4]; exact below1 _ _
  have hC4 : LnCell W4 w3.heap.size x := ⟨p3, n3, c3, by rw [hW4]; exact heap_alloc_new _ _, i3.below b4⟩
  have HC4 := hid hC4
  have HP4 := hid ((HPR.out.below b3).below b4)
  have HB4 := hid (lnGo b4 (lnGo b3 B2.out))
  have E04 := hid ((b4.block w.heap.size (by have := Z2.out; omega)).trans ((b3.block w.heap.size (by have := Z2.out; omega)).trans E0.out))
  have HgT : Hid (w.heap.size + 1 < w3.heap.size) := hid (by have := Z2.out; omega)
  clear i3 b3 b4 hC4 y0 y1 y2 E0 HNm hgT gT
  go_upto_region 2 with fail
  rw [← hW4]
  clear hW4
  have y0 := (lnCells3 E04.out).1
  go_wp2_with fail
  clear y0
  go_loopw [19] (fun i wr => ∃ (k : Nat), k ≤ L ∧ i = .int .i64 (k : Nat) ∧ Hid (∀ p ∈ l.take k, 0 ≤ p.2 ∧ p.2 < vals.length) ∧ Hid (LnCell wr w3.heap.size (x + lnVal (lnAtv vals) (l.take k))) ∧ Hid (Pair wr (w.heap.size + 1) 39) ∧ Hid (Below w.heap.size w wr)) (fun i _ => L - (intOf i).toNat)
  case atStart => exact ⟨0, Nat.zero_le _, rfl, hid (by simp), hid (by simpa [lnVal] using HC4.out), HP4, HB4⟩
  case round =>
    obtain ⟨k, hk, rfl, HA, HC, HPr, HBr⟩ := hrel
    by_cases hlt : k < L
    · have hkt : k < l.length := by rw [← HLL.out]; exact hlt
      have hlt' : (k : Int) < (L : Int) := by omega
      obtain ⟨b, o, rfl, hb, hc⟩ := J4.out (by omega)
      obtain ⟨cs, kk0, d, s, ecs, hraw, hwf⟩ := hc k hkt
      have hsh := hraw.agg2
      obtain ⟨d', q, n, cq, e2⟩ := hsh
      obtain ⟨rfl, rfl⟩ : s = .slice q n cq ∧ d = d' := by
        injection e2 with e2
        simpa [and_comm] using e2
      clear e2
      subst ecs
      have y0 := (HBr.out.cell (p := ⟨b, o + k * 3, none⟩) hb).trans (kk0 0 _ rfl)
      have y1 := (HBr.out.cell (p := ⟨b, o + k * 3 + 1, none⟩) hb).trans (kk0 1 _ rfl)
      have y2 := (HBr.out.cell (p := ⟨b, o + k * 3 + 2, none⟩) hb).trans (kk0 2 _ rfl)
      have Hnext : Hid (x + lnVal (lnAtv vals) (l.take (k + 1)) = (x + lnVal (lnAtv vals) (l.take k)) + l[k].1 * lnAtv vals l[k].2) := hid (by rw [List.take_succ_eq_append_getElem hkt, lnVal_snoc]; omega)
      have Hmem : Hid (l.take (k + 1) = l.take k ++ [(l[k].1, l[k].2)]) := hid (List.take_succ_eq_append_getElem hkt)
      have hin : l[k] ∈ l := List.getElem_mem hkt
      have hsc := SA.out.1 l[k] hin
      have Hin : Hid (∀ (P : Int × Int → Prop), (∀ p ∈ l, P p) → P (l[k].1, l[k].2)) := hid (fun P h => h _ hin)
      have hst : sz W (x + lnVal (lnAtv vals) (l.take k)).natAbs ≤ N + N + l.length + 1 := Nat.le_trans (sz_mono W2 (Int.natAbs_add_le _ _)) (sz_add W2 (Nat.le_trans SA.out.2 (by omega)) (Nat.le_trans (lnVal_sz _ (lnAtv_sz SV.out) _ (fun p hp => SA.out.1 p (List.mem_of_mem_take hp))) (by rw [List.length_take]; omega)))
      have hcell := HC.out
      have hraw := hraw.below HBr.out
      generalize x + lnVal (lnAtv vals) (l.take k) = tot at *
      generalize l[k].1 = c at *
      generalize l[k].2 = t at *
      clear kk0 hc hin
      obtain ⟨pt, nt, ct, htb, hti⟩ := hcell
      have hgl : w3.heap.size < wr.heap.size := (Array.getElem?_eq_some_iff.1 htb).1
      obtain ⟨W5, hW5⟩ : ∃ W5, W5 = wr.alloc (.cells #[.bool d, .slice q n cq, .int .i64 t] 48) := ⟨_, rfl⟩
      have b5 : Below wr.heap.size wr W5 := by rw [hW5]; exact below1 wr _
      have e5 : W5.heap[wr.heap.size]? = some (.cells #[.bool d, .slice q n cq, .int .i64 t] 48 (0, 0)) := by rw [hW5]; exact heap_alloc_new wr _
      have z5 : W5.heap.size = wr.heap.size + 1 := by rw [hW5, size_alloc]
      obtain ⟨t0, t1, t2⟩ := lnCells3 e5
      have HB5 := hid (lnGo b5 HBr.out)
      have HP5 := hid (HPr.out.below b5)
      have hno : ∀ (hbad : ¬ (0 ≤ t ∧ t < (vals.length : Int))), Hid (lnValue (l, x) vals = (0, 13)) := fun hbad => hid (by
        unfold lnValue
        rw [if_neg]
        intro h
        exact hbad (Hin.out _ h))
      have hpr5 := HP5.out
      obtain ⟨_, _, r0, r1, r2, r3⟩ := hpr5.cells
      by_cases hneg : t < 0
      · have Hno := hno (by omega)
        have hd : decide (t < 0) = true := by simpa using hneg
        clear hneg hno hraw htb hti hst hsc HC HA Hnext Hmem Hin
        have HBF := hid (Below.stored HB5.out (g := w.heap.size + 1) (by omega) (.bool false) (.slice none 0 0))
        go_upto_region 5 with fail
        rw [← hW5]
        clear hW5 y0 y1 y2
        go_wp2
        exact bodyPost_ret (v := .tuple #[.agg #[.bool false, .slice none 0 0], .int .i64 13]) (by simp [results, Tryz.results34, go_sem, r0, r1]) rfl (by rw [Hno.out]; exact ⟨_, rfl, IntAt.zero _, HBF.out⟩)
      · have hd : decide (t < 0) = false := by simpa using hneg
        by_cases hge : (vals.length : Int) ≤ t
        · have Hno := hno (by omega)
          have hd2 : decide ((vals.length : Int) ≤ t) = true := by simpa using hge
          clear hneg hno hraw htb hti hst hsc HC HA Hnext Hmem Hin hge
          have HBF := hid (Below.stored HB5.out (g := w.heap.size + 1) (by omega) (.bool false) (.slice none 0 0))
          go_upto_region 5 with fail
          rw [← hW5]
          clear hW5 y0 y1 y2
          go_wp2
          exact bodyPost_ret (v := .tuple #[.agg #[.bool false, .slice none 0 0], .int .i64 13]) (by simp [results, Tryz.results34, go_sem, r0, r1]) rfl (by rw [Hno.out]; exact ⟨_, rfl, IntAt.zero _, HBF.out⟩)
        · have hd2 : decide ((vals.length : Int) ≤ t) = false := by simpa using hge
          obtain ⟨tn, rfl⟩ : ∃ tn : Nat, t = (tn : Nat) := ⟨t.toNat, by omega⟩
          have htn : tn < vals.length := by omega
          have htn' : (tn : Int) < (vals.length : Int) := by omega
          have hd3 : decide (vals.length ≤ tn) = false := by simpa using htn
          have Hok : Hid (0 ≤ (((c, (tn : Int)) : Int × Int)).2 ∧ (((c, (tn : Int)) : Int × Int)).2 < vals.length) := hid ⟨by show (0 : Int) ≤ (tn : Int); omega, htn'⟩
          obtain ⟨bv, ov, rfl, hbv, hcv⟩ := I4.out (by omega)
          obtain ⟨cs, kv, dz, sv, ecs, hrz⟩ := hcv tn htn
          have hsh := hrz.agg2
          obtain ⟨d', qz, nz, cqz, e2⟩ := hsh
          obtain ⟨rfl, rfl⟩ : sv = .slice qz nz cqz ∧ dz = d' := by
            injection e2 with e2
            simpa [and_comm] using e2
          clear e2
          subst ecs
          have hzv : lnAtv vals (tn : Int) = vals[tn] := by unfold lnAtv; rw [Int.toNat_natCast, List.getElem?_eq_getElem htn]; rfl
          have hsz := SV.out vals[tn] (List.getElem_mem htn)
          rw [hzv] at Hnext
          have Hz5 := hid ((HB5.out.cell (p := ⟨bv, ov + tn * 2, none⟩) hbv).trans (kv 0 _ rfl))
          have Hz6 := hid ((HB5.out.cell (p := ⟨bv, ov + tn * 2 + 1, none⟩) hbv).trans (kv 1 _ rfl))
          generalize vals[tn] = z at *
          have Hbv5 : Hid (bv < W5.heap.size) := hid (Nat.lt_of_lt_of_le hbv HB5.out.size)
          have HRc := hid (hraw.below b5)
          have HRz := hid (hrz.below HB5.out)
          have HIt := hid (hti.below b5)
          have hlo := Hlen.out
          have Hst : Hid (sz W tot.natAbs ≤ 1099511627776) := hid (by omega)
          have Hsc : Hid (sz W c.natAbs ≤ 549755813888) := hid (by omega)
          have Hsz : Hid (sz W z.natAbs ≤ 549755813888) := hid (by omega)
          have Hscz : Hid (sz W (c * z).natAbs ≤ 1099511627776) := hid (by rw [Int.natAbs_mul]; exact Nat.le_trans (sz_mul W2 _ _) (by omega))
          have HC5 := hid (HC.out.below b5)
          have HET := hid ((b5.block w3.heap.size hgl).trans htb)
          have HE5 := hid e5
          have HgT5 : Hid (w3.heap.size < W5.heap.size) := hid (by omega)
          clear hno hraw hrz htb hti hst hsc hsz hcv kv HC Hin hge hneg hbv b5 e5 hzv hlo r0 r1 r2 r3 hpr5
          go_upto_region 7 with fail
          rw [← hW5]
          clear hW5 y0 y1 y2 t0 t1 t2
          refine wp_region_facts (w0 := W5) 10 1 [34, 35, 36, 37, 38, 39, 40, 41, 42, 43] [u34, u35, u36, u37, u38, u39, u40, u41, u42, u43]
            (fun i => match i with | 0 => lnE (.agg #[.bool (decide (tot < 0)), .slice pt nt ct]) | 1 => lnE (.pointer (some ⟨wr.heap.size, 0, none⟩)) | 2 => lnE (.agg #[.bool d, .slice q n cq]) | 3 => lnE (.slice (some ⟨bv, ov, none⟩) vals.length cv) | 4 => lnE (.pointer (some ⟨wr.heap.size, 2, none⟩)) | 5 => lnE (.int .i64 (tn : Nat)) | 6 => lnE (.pointer (some ⟨bv, ov + tn * 2, none⟩)) | 7 => lnE (.agg #[.bool dz, .slice qz nz cqz]) | 8 => lnI (c * z) | _ => lnI (tot + c * z)) [] (by kernel_rfl) (by kernel_rfl) (by kernel_rfl) (by kernel_rfl) (by decide) rfl (by kernel_rfl) rfl (by simp) ?he2 ?_ ?_ ?_
          case he2 => simp only [putAll, Act.put, List.setIfInBounds_toArray, List.set_cons_zero, List.set_cons_succ]
          · intro i hi; simp at hi
          · intro i o hi ho vs wx hvl hb hdep K hK
            have hvs := vlen10 hvl
            obtain ⟨s34, s35, s36, s37, s38, s39, s40, s41, s42, s43, rfl⟩ := hvs
            clear hvl
            obtain ⟨z0, z1, z2⟩ := lnCells3 ((hb.block wr.heap.size (by omega)).trans HE5.out)
            obtain ⟨z3, z4, -, -⟩ := two_cells ((hb.block w3.heap.size HgT5.out).trans HET.out)
            have z5 := (hb.cell (p := ⟨bv, ov + tn * 2, none⟩) Hbv5.out).trans Hz5.out
            have z6 := (hb.cell (p := ⟨bv, ov + tn * 2 + 1, none⟩) Hbv5.out).trans Hz6.out
            rcases i with _ | _ | _ | _ | _ | _ | _ | _ | _ | _ | i
            all_goals (simp only [List.getElem?_toArray, List.getElem?_cons_zero, List.getElem?_cons_succ, Option.some.injEq] at ho)
            all_goals try (subst ho)
            all_goals try simp only [putAll, Act.put, List.setIfInBounds_toArray, List.set_cons_zero, List.set_cons_succ]
            · go_simp
              have hK' := hK.out
              simp only [putAll, Act.put, List.setIfInBounds_toArray, List.set_cons_zero, List.set_cons_succ] at hK'
              exact hK' _ _ rfl (Below.refl _ _) (by simp)
            · go_simp
              have hK' := hK.out
              simp only [putAll, Act.put, List.setIfInBounds_toArray, List.set_cons_zero, List.set_cons_succ] at hK'
              exact hK' _ _ rfl (Below.refl _ _) (by simp)
            · have e1 : s35 = _ := hdep ⟨1, .data⟩ (by simp) rfl
              have e1 := e1.symm
              subst e1
              go_simp
              have hK' := hK.out
              simp only [putAll, Act.put, List.setIfInBounds_toArray, List.set_cons_zero, List.set_cons_succ] at hK'
              exact hK' _ _ rfl (Below.refl _ _) (by simp)
            · go_simp
              have hK' := hK.out
              simp only [putAll, Act.put, List.setIfInBounds_toArray, List.set_cons_zero, List.set_cons_succ] at hK'
              exact hK' _ _ rfl (Below.refl _ _) (by simp)
            · go_simp
              have hK' := hK.out
              simp only [putAll, Act.put, List.setIfInBounds_toArray, List.set_cons_zero, List.set_cons_succ] at hK'
              exact hK' _ _ rfl (Below.refl _ _) (by simp)
            · have e4 : s38 = _ := hdep ⟨4, .data⟩ (by simp) rfl
              have e4 := e4.symm
              subst e4
              go_simp
              have hK' := hK.out
              simp only [putAll, Act.put, List.setIfInBounds_toArray, List.set_cons_zero, List.set_cons_succ] at hK'
              exact hK' _ _ rfl (Below.refl _ _) (by simp)
            · have e3 : s37 = _ := hdep ⟨3, .data⟩ (by simp) rfl
              have e3 := e3.symm
              subst e3
              have e5 : s39 = _ := hdep ⟨5, .data⟩ (by simp) rfl
              have e5 := e5.symm
              subst e5
              go_simp
              have hK' := hK.out
              simp only [putAll, Act.put, List.setIfInBounds_toArray, List.set_cons_zero, List.set_cons_succ] at hK'
              exact hK' _ _ rfl (Below.refl _ _) (by simp)
            · have e6 : s40 = _ := hdep ⟨6, .data⟩ (by simp) rfl
              have e6 := e6.symm
              subst e6
              go_simp
              have hK' := hK.out
              simp only [putAll, Act.put, List.setIfInBounds_toArray, List.set_cons_zero, List.set_cons_succ] at hK'
              exact hK' _ _ rfl (Below.refl _ _) (by simp)
            · have e2 : s36 = _ := hdep ⟨2, .data⟩ (by simp) rfl
              have e2 := e2.symm
              subst e2
              have e7 : s41 = _ := hdep ⟨7, .data⟩ (by simp) rfl
              have e7 := e7.symm
              subst e7
              go_simp
              refine (RMul_any _ _ c z wx (HRc.out.below hb) (HRz.out.below hb) Hsc.out Hsz.out).mono ?_
              rintro e wy ⟨vy, rfl, iy, hby⟩
              have hsh := iy.shape
              obtain ⟨p5, n5, c5, rfl, iy⟩ := hsh
              go_wp2_with fail
              have hK' := hK.out
              simp only [putAll, Act.put, List.setIfInBounds_toArray, List.set_cons_zero, List.set_cons_succ] at hK'
              exact hK' _ _ ⟨_, _, _, _, rfl, iy⟩ hby (by simp)
            · have e0 : s34 = _ := hdep ⟨0, .data⟩ (by simp) rfl
              have e0 := e0.symm
              subst e0
              have e8 : (lnI (c * z)).P s42 wx := hdep ⟨8, .data⟩ (by simp) rfl
              obtain ⟨da8, pa8, na8, ca8, rfl, ia8⟩ := e8
              go_simp
              refine (RAdd_any _ _ tot (c * z) wx ((HIt.out.below hb).rawL Hst.out) (ia8.rawL Hscz.out)).mono ?_
              rintro e wy ⟨vy, rfl, iy, hby⟩
              have hsh := iy.shape
              obtain ⟨p5, n5, c5, rfl, iy⟩ := hsh
              go_wp2_with fail
              have hK' := hK.out
              simp only [putAll, Act.put, List.setIfInBounds_toArray, List.set_cons_zero, List.set_cons_succ] at hK'
              exact hK' _ _ ⟨_, _, _, _, rfl, iy⟩ hby (by simp)
            · omega
          · intro vs wx hvl hb hf hdist
            have hvs := vlen10 hvl
            obtain ⟨s34, s35, s36, s37, s38, s39, s40, s41, s42, s43, rfl⟩ := hvs
            have f9 : (lnI (tot + c * z)).P s43 wx := hf 9 (by decide)
            obtain ⟨b8, p8, n8, c8, e8, i8⟩ := f9
            subst e8
            have hsh := i8.shape
            obtain ⟨p9, n9, c9, e9, i9⟩ := hsh
            injection e9 with e9
            obtain ⟨rfl, rfl, rfl, rfl⟩ : b8 = decide (tot + c * z < 0) ∧ p8 = p9 ∧ n8 = n9 ∧ c8 = c9 := by simpa using e9
            clear hf hvl hdist i8
            obtain ⟨tot', htot⟩ : ∃ t, t = tot + c * z := ⟨_, rfl⟩
            rw [← htot] at i9 Hnext
            try rw [← htot]
            clear htot
            have hpT := (HC5.out.below hb).pair
            obtain ⟨_, _, q0, q1, q2, q3⟩ := hpT.cells
            have HC6 := hid (LnCell.put hpT i9)
            have hsx := hb.size
            have HP6 := hid ((HP5.out.below hb).other (g' := w3.heap.size) (by have := HgT.out; omega) 0 (.bool (decide (tot' < 0))))
            have HP7 := hid (HP6.out.other (g' := w3.heap.size) (by have := HgT.out; omega) 1 (.slice p8 n8 c8))
            have HB7 := hid (Below.stored (lnGo hb HB5.out) (g := w3.heap.size) (by have := HgT.out; omega) (.bool (decide (tot' < 0))) (.slice p8 n8 c8))
            clear i9 hpT
            refine wpAny_one (i := 10) (by kernel_rfl) rfl ?_
            intro K hK
            simp only [putAll, Act.put, List.setIfInBounds_toArray, List.set_cons_zero, List.set_cons_succ]
            have hK' := hK.out
            go_simp
            apply hK'
            clear hK hK' q0 q1 q2 q3
            refine wpAny_done (by kernel_rfl) ?_ _
            go_wp2_with fail
            go_roundw
            case rel => exact ⟨k + 1, by omega, by go_num, hid (fun p hp => by
              rcases List.mem_append.1 (Hmem.out ▸ hp) with hp | hp
              · exact HA.out p hp
              · rw [List.mem_singleton.1 hp]; exact Hok.out), hid (by rw [Hnext.out]; exact HC6.out), HP7, HB7⟩
            case measure => simp [intOf] <;> omega
    · obtain rfl : k = L := by omega
      have hfin : l.take k = l := by rw [HLL.out, List.take_length]
      have hA := HA.out
      have hcell := HC.out
      rw [hfin] at hA hcell
      have Hres : Hid (lnValue (l, x) vals = (x + lnVal (lnAtv vals) l, 0)) := hid (by unfold lnValue; rw [if_pos hA])
      obtain ⟨tot, htot⟩ : ∃ t, t = x + lnVal (lnAtv vals) l := ⟨_, rfl⟩
      rw [← htot] at Hres hcell
      obtain ⟨pt, nt, ct, htb, hti⟩ := hcell
      obtain ⟨t0, t1, -, -⟩ := two_cells htb
      have hpr := HPr.out
      obtain ⟨_, _, r0, r1, r2, r3⟩ := hpr.cells
      have HI := hid (hti.stored hpr (decide (tot < 0)) pt nt ct)
      have HBF := hid (Below.stored HBr.out (g := w.heap.size + 1) (by omega) (.bool (decide (tot < 0))) (.slice pt nt ct))
      clear hfin hA HA HC htb hti htot
      go_wp2
      exact bodyPost_ret (v := .tuple #[.agg #[.bool (decide (tot < 0)), .slice pt nt ct], .int .i64 0]) (by simp [results, Tryz.results34, go_sem, r0, r1]) rfl (by rw [Hres.out]; exact ⟨_, rfl, HI.out, HBF.out⟩)
end Go.Proofs.YtjfcocadohgneaaGreat
/- Sums that come in as data: how they read. -/
namespace Go.Proofs.YtjfcocadohgneaaGreat
open Go.ChangeShapes Go.WideShapes Go.ChangeAt Go.RowKit Go.Deep Go.Joins Big

/-- a part as it comes in -/
structure Px6 where
  n : Nx
  term : Int
def Px6.p (x : Px6) : Int × Int := (x.n.z, x.term)
def Px6Q (w : World) (c : List Value) (x : Px6) : Prop := ∃ n s, c = [n, s, .int .i64 x.term] ∧ NxQ w [n, s] x.n ∧ wfI x.term
theorem Px6Q.below {w w' : World} {c : List Value} {x : Px6} (h : Px6Q w c x) (hb : Below w.heap.size w w') : Px6Q w' c x := by
  obtain ⟨n, s, e, h1, h2⟩ := h
  exact ⟨n, s, e, h1.below hb, h2⟩
abbrev Px6sIn := LsIn 3 Px6Q
theorem Px6sIn.below {w w' : World} {v : Value} {l : List Px6} (h : Px6sIn w v l) (hb : Below w.heap.size w w') : Px6sIn w' v l := LsIn.below (Q := Px6Q) (fun h hb => Px6Q.below h hb) h hb
/-- a sum as it comes in -/
structure Lx where
  parts : List Px6
  rest : Nx
def Lx.a (x : Lx) : List (Int × Int) × Int := (x.parts.map Px6.p, x.rest.z)
def Lx.fit (x : Lx) : Prop := x.parts.length ≤ 40 ∧ x.rest.fit ∧ ∀ p ∈ x.parts, p.n.fit
def LxQ (w : World) (v : Value) (x : Lx) : Prop := ∃ p n cp s, v = .agg #[.slice p x.parts.length cp, n, s] ∧ Px6sIn w (.slice p x.parts.length cp) x.parts ∧ NxQ w [n, s] x.rest ∧ (∃ b, n = .bool b) ∧ ∃ q m cq, s = .slice q m cq
theorem Px6sIn.raw {w : World} {v : Value} {l : List Px6} (h : Px6sIn w v l) (hf : ∀ x ∈ l, x.n.fit) : PtsR w v (l.map Px6.p) := by
  obtain ⟨p, cap, rfl, h1, h2, h3, h4⟩ := h
  refine ⟨p, cap, by rw [List.length_map], by rw [List.length_map]; exact h1, h2, h3, fun hp => ?_⟩
  rw [List.length_map] at hp
  obtain ⟨b, off, h5, h6, h7⟩ := h4 hp
  refine ⟨b, off, h5, h6, fun i hi => ?_⟩
  rw [List.length_map] at hi
  obtain ⟨c, k1, n, s, e, k2, k3⟩ := h7 i hi
  obtain ⟨q, cq, e2, -⟩ := id k2
  injection e2 with e2 _
  subst e2
  refine ⟨c, k1, _, s, by rw [List.getElem_map]; exact e, ?_, by rw [List.getElem_map]; exact k3⟩
  rw [List.getElem_map]
  exact k2.raw (hf _ (List.getElem_mem hi))
theorem LxQ.raw {w : World} {v : Value} {x : Lx} (h : LxQ w v x) (hf : x.fit) : LnR w v x.a := by
  obtain ⟨p, n, cp, s, rfl, h1, h2, ⟨b, rfl⟩, -⟩ := h
  exact ⟨_, b, s, rfl, h1.raw hf.2.2, h2.raw hf.2.1⟩
theorem LxQ.small {w : World} {v : Value} {x : Lx} (h : LxQ w v x) (hf : x.fit) : LnSz 6 x.a := by
  obtain ⟨p, n, cp, s, rfl, h1, h2, -⟩ := h
  refine ⟨fun y hy => ?_, h2.small hf.2.1⟩
  obtain ⟨u, hu, rfl⟩ := List.mem_map.1 hy
  obtain ⟨i, hi, rfl⟩ := List.mem_iff_getElem.1 hu
  obtain ⟨q, cap, -, -, -, -, h4⟩ := h1
  obtain ⟨b, off, -, -, h7⟩ := h4 (by omega)
  obtain ⟨c, -, n', s', -, k2, -⟩ := h7 i hi
  exact k2.small (hf.2.2 _ hu)
theorem fieldsPart : ∃ f0 f1 : Field, Tryz.prog.underlying 48 = some (.struct #[f0, f1]) ∧ f0.type = 39 ∧ f1.type = 3 ∧ f0.offset = 0 ∧ f1.offset = 2 := ⟨_, _, Tryz.underlying48, rfl, rfl, rfl, rfl⟩
theorem fieldsLinear : ∃ f0 f1 : Field, Tryz.prog.underlying 46 = some (.struct #[f0, f1]) ∧ f0.type = 44 ∧ f1.type = 39 ∧ f0.offset = 0 ∧ f1.offset = 1 := ⟨_, _, Tryz.underlying46, rfl, rfl, rfl, rfl⟩
theorem cellsPartP : Tryz.prog.cellsOf 48 = 3 := by kernel_rfl
theorem cellsLinearP : Tryz.prog.cellsOf 46 = 3 := by kernel_rfl
theorem cellsPartsP : Tryz.prog.cellsOf 44 = 1 := by kernel_rfl
section
variable {H : Type} {enc : TypeId × Value → H} {w : World} {base : Nat} {spare : Nat → Bool} {held : Bool}
set_option maxRecDepth 100000 in
theorem open_px6 {fuel : Nat} {cs : List Value} {y : DataW H × List MemPlace} (h : DataW.trod enc Tryz.prog w base spare held fuel 48 cs = some y) : ∃ x : Px6, Px6Q w cs x := by
  obtain ⟨f0, f1, hs, e0, e1, o0, o1⟩ := fieldsPart
  obtain ⟨xs, n, rfl, -, hl, hlen, hf⟩ := DataW.trod_struct hs h
  rw [cellsPartP] at hl
  match cs, hl, xs, hlen with
  | [c0, c1, c2], _, [y0, y1], _ =>
    have h0 := hf 0 f0 rfl
    have h1 := hf 1 f1 rfl
    rw [e0, o0, cellsIntP] at h0
    rw [e1, o1, cellsIP] at h1
    obtain ⟨x, k⟩ := open_nx (show DataW.trod enc Tryz.prog w base spare held n 39 [c0, c1] = some y0 from h0)
    obtain ⟨t, g, -, hw⟩ := DataW.trod_int Tryz.underlying3 (show DataW.trod enc Tryz.prog w base spare held n 3 [c2] = some y1 from h1)
    injection g with g _
    subst g
    exact ⟨⟨x, t⟩, _, _, rfl, k, hw⟩
theorem open_px6s {fuel : Nat} {cs : List Value} {y : DataW H × List MemPlace} (h : DataW.trod enc Tryz.prog w base spare held fuel 44 cs = some y) : ∃ v l, cs = [v] ∧ Px6sIn w v l :=
  open_ls 3 Tryz.underlying44 cellsPartP (by decide) (fun _ _ _ h => open_px6 h) h
set_option maxRecDepth 100000 in
/-- a sum by value -/
theorem open_lin {r : Reach} {b0 : Nat} {v : Value} {d : DataW H} {p : List MemPlace} (hv : Value.okWide Tryz.prog w r b0 46 v) (h : DataW.Trod enc Tryz.prog w base spare held 46 v d p) : ∃ x, LxQ w v x := by
  obtain ⟨f0, f1, hs, e0, e1, o0, o1⟩ := fieldsLinear
  obtain ⟨cs, rfl, hsz⟩ := okWide_struct hs hv
  obtain ⟨fuel, hf⟩ := h
  obtain ⟨xs, n, -, -, hl, hlen, hfi⟩ := DataW.trod_struct hs hf
  rw [cellsLinearP] at hl
  obtain ⟨l⟩ := cs
  have hl' : l.length = 3 := by simpa [Value.cells] using hl
  match l, hl', xs, hlen with
  | [c0, c1, c2], _, [y0, y1], _ =>
    have h0 := hfi 0 f0 rfl
    have h1 := hfi 1 f1 rfl
    rw [e0, o0, cellsPartsP] at h0
    rw [e1, o1, cellsIntP] at h1
    obtain ⟨v0, l0, g, k⟩ := open_px6s (show DataW.trod enc Tryz.prog w base spare held n 44 [c0] = some y0 from h0)
    obtain ⟨x, k'⟩ := open_nx (show DataW.trod enc Tryz.prog w base spare held n 39 [c1, c2] = some y1 from h1)
    injection g with g _
    subst g
    obtain ⟨q, cq, e, -⟩ := id k'
    injection e with e3 e
    injection e with e4 _
    obtain ⟨pp, cc, rfl, -⟩ := id k
    exact ⟨⟨l0, x⟩, pp, _, cc, _, rfl, k, k', ⟨_, e3⟩, _, _, _, e4⟩
set_option maxRecDepth 100000 in
/-- numbers by value -/
theorem open_nums6 {r : Reach} {b0 : Nat} {v : Value} {d : DataW H} {p : List MemPlace} (hv : Value.okWide Tryz.prog w r b0 62 v) (h : DataW.Trod enc Tryz.prog w base spare held 62 v d p) : ∃ l, NxsIn w v l := by
  obtain ⟨a, len, cap, rfl⟩ := okWide_slice Tryz.underlying62 hv
  obtain ⟨fuel, hf⟩ := h
  obtain ⟨v', l, he, h1⟩ := open_nxs hf
  have hv' : v' = .slice a len cap := by simpa [Value.cells] using he.symm
  rw [hv'] at h1
  exact ⟨l, h1⟩
end
end Go.Proofs.YtjfcocadohgneaaGreat
/- elenchusref06.Few. -/
namespace Go.Proofs.YtjfcocadohgneaaGreat
open Go.RowKit Big

/-- what a call answers: a bool that is true only if P -/
def RIf (P : Prop) (w : World) (e : Ending) (w' : World) : Prop := ∃ b : Bool, e = .returned (.bool b) ∧ (b = true → P) ∧ Below w.heap.size w w'
set_option maxRecDepth 100000 in
set_option maxHeartbeats 6400000 in
theorem Few6_any (v : Value) (x : Lx) (w : World) (h : LxQ w v x) : Calls Tryz.prog 24 #[v] w (RIf x.fit w) := by
  obtain ⟨p, n, cp, s, rfl, h1, h2, ⟨bn, rfl⟩, -⟩ := h
  obtain ⟨q, cq, e2, -⟩ := h2
  injection e2 with _ e2
  injection e2 with e2 _
  subst e2
  obtain ⟨p', cap', ep, j1, j2, -, j4⟩ := h1
  injection ep with e3 _ e4
  subst e3 e4
  have J4 := hid j4
  unfold maxLen at j2
  obtain ⟨l, r⟩ := x
  obtain ⟨W, hW⟩ : ∃ W, W = w.alloc (.cells #[.slice p l.length cp, .bool bn, .slice q r.words.length cq] 46) := ⟨_, rfl⟩
  have b0 : Below w.heap.size w W := by rw [hW]; exact below1 w _
  have e0 : W.heap[w.heap.size]? = some (.cells #[.slice p l.length cp, .bool bn, .slice q r.words.length cq] 46 (0, 0)) := by rw [hW]; exact heap_alloc_new w _
  have B0 := hid b0; have E0 := hid e0
  have hfit : Hid (Lx.fit ⟨l, r⟩ ↔ l.length ≤ 40 ∧ r.words.length ≤ 6 ∧ ∀ p ∈ l, p.n.fit) := hid Iff.rfl
  obtain ⟨y0, y1, y2⟩ := lnCells3 e0
  show Calls Tryz.prog 24 #[.agg #[.slice p l.length cp, .bool bn, .slice q r.words.length cq]] w (RIf (Lx.fit ⟨l, r⟩) w)
  obtain ⟨L, hLL⟩ : ∃ L, L = l.length := ⟨_, rfl⟩
  have HLL := hid hLL
  have j1 : l.length ≤ cp := j1
  rw [← hLL] at j1 y0 hW hfit ⊢
  generalize r.words.length = m at *
  clear j4 b0 e0 hLL
  by_cases hL : L ≤ 40
  · have hd : decide ((40 : Int) < (L : Int)) = false := by simp; omega
    by_cases hm : m ≤ 6
    · have hd2 : decide ((6 : Int) < (m : Int)) = false := by simp; omega
      go_enter Tryz.func24, Tryz.ntmps24
      go_upto_region 1 with fail
      rw [← hW]
      clear hW
      go_wp2_with fail
      clear y0 y1 y2
      go_loopw [19] (fun i wr => ∃ (k : Nat), k ≤ L ∧ i = .int .i64 (k : Nat) ∧ Hid (∀ p ∈ l.take k, p.n.fit) ∧ Hid (Below W.heap.size W wr)) (fun i _ => L - (intOf i).toNat)
      case atStart => exact ⟨0, Nat.zero_le _, rfl, hid (by simp), hid (Below.refl _ _)⟩
      case round =>
        obtain ⟨k, hk, rfl, HA, HB⟩ := hrel
        have HBw := hid (lnGo HB.out B0.out)
        by_cases hlt : k < L
        · have hkt : k < l.length := by rw [← HLL.out]; exact hlt
          have hlt' : (k : Int) < (L : Int) := by omega
          obtain ⟨b, o, rfl, hb, hc⟩ := J4.out (by show 0 < l.length; omega)
          obtain ⟨cs, k0, n1, s1, ecs, hq, hwf⟩ := hc k hkt
          obtain ⟨q1, cq1, e5, -⟩ := hq
          injection e5 with e6 e5
          injection e5 with e5 _
          have ecs : cs = [n1, s1, .int .i64 (l[k]'hkt).term] := ecs
          subst e5 e6 ecs
          have y0 := (HBw.out.cell (p := ⟨b, o + k * 3, none⟩) hb).trans (k0 0 _ rfl)
          have y1 := (HBw.out.cell (p := ⟨b, o + k * 3 + 1, none⟩) hb).trans (k0 1 _ rfl)
          have y2 := (HBw.out.cell (p := ⟨b, o + k * 3 + 2, none⟩) hb).trans (k0 2 _ rfl)
          have y0 : wr.cell? ⟨b, o + k * 3, none⟩ = some (.bool l[k].n.neg) := y0
          have y1 : wr.cell? ⟨b, o + k * 3 + 1, none⟩ = some (.slice q1 l[k].n.words.length cq1) := y1
          have Hsn : Hid (l.take (k + 1) = l.take k ++ [l[k]]) := hid (List.take_succ_eq_append_getElem hkt)
          have Hf : Hid (l[k].n.fit ↔ l[k].n.words.length ≤ 6) := hid Iff.rfl
          clear k0 hc hwf
          generalize l[k].n.words.length = m1 at *
          generalize l[k].n.neg = g1 at *
          generalize l[k].term = t1 at *
          by_cases hm1 : m1 ≤ 6
          · have hd3 : decide ((6 : Int) < (m1 : Int)) = false := by simp; omega
            have HA2 : Hid (∀ p ∈ l.take (k + 1), p.n.fit) := hid (fun p hp => by
              rcases List.mem_append.1 (Hsn.out ▸ hp) with hp | hp
              · exact HA.out p hp
              · rw [List.mem_singleton.1 hp]; exact Hf.out.2 hm1)
            have HB2 := hid (lnGo (below1 wr (.cells #[.bool g1, .slice q1 m1 cq1, .int .i64 t1] 48)) HB.out)
            clear HA HB HBw Hsn Hf
            go_wp2_with fail
            go_roundw
            case rel => exact ⟨k + 1, by omega, by go_num, HA2, HB2⟩
            case measure => simp [intOf] <;> omega
          · have hd3 : decide ((6 : Int) < (m1 : Int)) = true := by simp; omega
            have HB2 := hid (lnGo (below1 wr (.cells #[.bool g1, .slice q1 m1 cq1, .int .i64 t1] 48)) HBw.out)
            clear HA HB HBw Hsn Hf
            go_wp2
            go_ret
            exact ⟨false, rfl, (fun h => by cases h), HB2.out⟩
        · obtain rfl : k = L := by omega
          have hfin : l.take k = l := by rw [HLL.out, List.take_length]
          have hA := HA.out
          rw [hfin] at hA
          have Hfin := hid (hfit.out.2 ⟨hL, hm, hA⟩)
          clear HA hA hfin
          go_wp2
          go_ret
          exact ⟨true, rfl, fun _ => Hfin.out, HBw.out⟩
    · have hd2 : decide ((6 : Int) < (m : Int)) = true := by simp; omega
      go_enter Tryz.func24, Tryz.ntmps24
      go_upto_region 1 with fail
      rw [← hW]
      clear hW
      go_wp2
      go_ret
      exact ⟨false, rfl, (fun h => by cases h), B0.out⟩
  · have hd : decide ((40 : Int) < (L : Int)) = true := by simp; omega
    go_enter Tryz.func24, Tryz.ntmps24
    go_upto_region 1 with fail
    rw [← hW]
    clear hW
    go_wp2
    go_ret
    exact ⟨false, rfl, (fun h => by cases h), B0.out⟩
end Go.Proofs.YtjfcocadohgneaaGreat
/- elenchusref06.Is. -/
namespace Go.Proofs.YtjfcocadohgneaaGreat
open Go.RowKit Big

set_option maxRecDepth 100000 in
set_option maxHeartbeats 6400000 in
theorem RIs_lin (v : Value) (a : List (Int × Int) × Int) (w : World) (h : LnR w v a) (hl : a.1.length ≤ 1000000000000) :
    Calls Tryz.prog 31 #[v] w (RBool (decide (lnIs a.1)) w) := by
  obtain ⟨pv, n0, s0, rfl, hp, h2⟩ := h
  have hsh := h2.agg2
  obtain ⟨d2, p2, n2, c2, e2⟩ := hsh
  obtain ⟨rfl, rfl⟩ : s0 = .slice p2 n2 c2 ∧ n0 = d2 := by
    injection e2 with e2
    simpa [and_comm] using e2
  clear e2 h2
  obtain ⟨l, x⟩ := a
  have hl : l.length ≤ 1000000000000 := hl
  show Calls Tryz.prog 31 _ w (RBool (decide (lnIs l)) w)
  obtain ⟨p, cp, rfl, j1, j2, -, j4⟩ := (show PtsR w pv l from hp)
  have J4 := hid j4
  obtain ⟨W, hW⟩ : ∃ W, W = w.alloc (.cells #[.slice p l.length cp, .bool n0, .slice p2 n2 c2] 46) := ⟨_, rfl⟩
  have b0 : Below w.heap.size w W := by rw [hW]; exact below1 w _
  have e0 : W.heap[w.heap.size]? = some (.cells #[.slice p l.length cp, .bool n0, .slice p2 n2 c2] 46 (0, 0)) := by rw [hW]; exact heap_alloc_new w _
  have z0 : W.heap.size = w.heap.size + 1 := by rw [hW, size_alloc]
  have B0 := hid b0; have E0 := hid e0; have Z0 := hid z0
  obtain ⟨L, hLL⟩ : ∃ L, L = l.length := ⟨_, rfl⟩
  have HLL := hid hLL
  rw [← hLL] at E0 hW j1 hl ⊢
  clear hp j4 b0 e0 z0 hLL
  go_enter Tryz.func31, Tryz.ntmps31
  go_upto_region 1 with fail
  rw [← hW]
  clear hW
  have y1 := (lnCells3 E0.out).1
  go_wp2_with fail
  clear y1
  go_loopw [8] (fun i wr => ∃ (k : Nat), k ≤ L ∧ i = .int .i64 (k : Nat) ∧ Hid (lnIs (l.take k)) ∧ Hid (Below W.heap.size W wr)) (fun i _ => L - (intOf i).toNat)
  case atStart => exact ⟨0, Nat.zero_le _, rfl, hid ⟨List.Pairwise.nil, by simp⟩, hid (Below.refl _ _)⟩
  case round =>
    obtain ⟨k, hk, rfl, HI, HB⟩ := hrel
    by_cases hlt : k < L
    · have hkt : k < l.length := by rw [← HLL.out]; exact hlt
      have hlt' : (k : Int) < (L : Int) := by omega
      have HBw := hid (lnGo HB.out B0.out)
      obtain ⟨b, o, rfl, hb, hc⟩ := J4.out (by omega)
      have hc' := hc
      obtain ⟨cs, k0, d, s, ecs, hraw, hwf⟩ := hc k hkt
      have hsh := hraw.agg2
      obtain ⟨d', q, n, cq, e2⟩ := hsh
      obtain ⟨rfl, rfl⟩ : s = .slice q n cq ∧ d = d' := by
        injection e2 with e2
        simpa [and_comm] using e2
      clear e2
      subst ecs
      have y0 := (HBw.out.cell (p := ⟨b, o + k * 3, none⟩) hb).trans (k0 0 _ rfl)
      have y1 := (HBw.out.cell (p := ⟨b, o + k * 3 + 1, none⟩) hb).trans (k0 1 _ rfl)
      have y2 := (HBw.out.cell (p := ⟨b, o + k * 3 + 2, none⟩) hb).trans (k0 2 _ rfl)
      have Hstep := hid (lnIs_step l k hkt)
      have hraw := hraw.below HBw.out
      have hpre : ∀ (hk1 : k - 1 < l.length), 0 < k → w.cell? ⟨b, o + (k - 1) * 3 + 2, none⟩ = some (.int .i64 l[k - 1].2) := by
        intro hk1 _
        obtain ⟨cs, k0, d, s, rfl, -, -⟩ := hc' (k - 1) hk1
        exact k0 2 _ rfl
      have Hpre := hid hpre
      generalize l[k].1 = c at *
      generalize l[k].2 = t at *
      clear k0 hc hc' hpre
      obtain ⟨W5, hW5⟩ : ∃ W5, W5 = wr.alloc (.cells #[.bool d, .slice q n cq, .int .i64 t] 48) := ⟨_, rfl⟩
      have b5 : Below wr.heap.size wr W5 := by rw [hW5]; exact below1 wr _
      have e5 : W5.heap[wr.heap.size]? = some (.cells #[.bool d, .slice q n cq, .int .i64 t] 48 (0, 0)) := by rw [hW5]; exact heap_alloc_new wr _
      have z5 : wr.heap.size < W5.heap.size := by rw [hW5, size_alloc]; omega
      have zr := HB.out.size
      have HBw5 : Hid (Below w.heap.size w W5) := hid (lnGo b5 HBw.out)
      have HBW5 : Hid (Below W.heap.size W W5) := hid (lnGo b5 HB.out)
      have HS : Hid (∀ w', Below W5.heap.size W5 w' → w'.cell? ⟨wr.heap.size, 0, none⟩ = some (.bool d) ∧ w'.cell? ⟨wr.heap.size, 1, none⟩ = some (.slice q n cq) ∧ w'.cell? ⟨wr.heap.size, 2, none⟩ = some (.int .i64 t) ∧ w'.cell? ⟨w.heap.size, 0, none⟩ = some (.slice (some ⟨b, o, none⟩) L cp) ∧ True) := hid fun w' hb' => by
        obtain ⟨t0, t1, t2⟩ := lnCells3 ((hb'.block wr.heap.size z5).trans e5)
        obtain ⟨t3, -, -⟩ := lnCells3 (((lnGo hb' HBW5.out).block w.heap.size (by have := Z0.out; omega)).trans E0.out)
        exact ⟨t0, t1, t2, t3, trivial⟩
      have HSg0 := hid (fun w' (hb' : Below W5.heap.size W5 w') => RSign_any _ c w' ((hraw.below b5).below hb'))
      clear b5 e5 hraw HB
      by_cases hc0 : c = 0
      · have HSg : Hid (∀ w', Below W5.heap.size W5 w' → Calls Tryz.prog 35 #[.agg #[.bool d, .slice q n cq]] w' (fun e w'' => e = .returned (.int .i64 0) ∧ Below w'.heap.size w' w'')) := hid fun w' hb' => by
          have := HSg0.out w' hb'
          rw [hc0] at this
          exact this
        have Hno : Hid (¬ lnIs l) := hid fun hI => ((Hstep.out).1 (lnIs_take hI _)).2.1 hc0
        clear HSg0 hc0 Hstep
        go_upto_region 4 with fail
        rw [← hW5]
        clear hW5 y0 y1 y2
        refine wp_region_facts (w0 := W5) 20 0 [13, 14, 15, 16, 17, 18, 19, 20, 21, 22, 23, 24, 25, 26, 27, 28, 29, 30, 31, 32] [u13, u14, u15, u16, u17, u18, u19, u20, u21, u22, u23, u24, u25, u26, u27, u28, u29, u30, u31, u32]
          (fun i => match i with | 0 => lnE (.pointer (some ⟨wr.heap.size, 0, none⟩)) | 1 => lnE (.agg #[.bool d, .slice q n cq]) | 2 => lnE (.int .i64 0) | 3 => lnE (.bool true) | 4 => lnE (.bool true) | 5 => lnE (undef) | 6 => lnE (undef) | 7 => lnE (undef) | 8 => lnE (undef) | 9 => lnE (undef) | 10 => lnE (undef) | 11 => lnE (undef) | 12 => lnE (undef) | 13 => lnE (undef) | 14 => lnE (undef) | 15 => lnE (undef) | 16 => lnE (undef) | 17 => lnE (undef) | 18 => lnE (undef) | _ => lnE (.bool true)) [] (by kernel_rfl) (by kernel_rfl) (by kernel_rfl) (by kernel_rfl) (by decide) rfl (by kernel_rfl) rfl (by simp) ?he1 ?_ ?_ ?_
        case he1 => simp only [putAll, Act.put, List.setIfInBounds_toArray, List.set_cons_zero, List.set_cons_succ]
        · intro i hi; simp at hi
        · intro i o hi ho vs wx hvl hb hdep K hK
          have hvs := vlen20 hvl
          obtain ⟨s13, s14, s15, s16, s17, s18, s19, s20, s21, s22, s23, s24, s25, s26, s27, s28, s29, s30, s31, s32, rfl⟩ := hvs
          clear hvl
          have hk5 := HS.out wx hb
          obtain ⟨y3, y4, y5, y6, y7⟩ := hk5
          rcases i with _ | _ | _ | _ | _ | _ | _ | _ | _ | _ | _ | _ | _ | _ | _ | _ | _ | _ | _ | _ | i
          all_goals (simp only [List.getElem?_toArray, List.getElem?_cons_zero, List.getElem?_cons_succ, Option.some.injEq] at ho)
          all_goals try (subst ho)
          all_goals try simp only [putAll, Act.put, List.setIfInBounds_toArray, List.set_cons_zero, List.set_cons_succ]
          · go_simp
            have hK' := hK.out
            simp only [putAll, Act.put, List.setIfInBounds_toArray, List.set_cons_zero, List.set_cons_succ] at hK'
            exact hK' _ _ rfl (Below.refl _ _) (by simp)
          · have e0 : s13 = _ := hdep ⟨0, .data⟩ (by simp) rfl
            have e0 := e0.symm
            subst e0
            go_simp
            have hK' := hK.out
            simp only [putAll, Act.put, List.setIfInBounds_toArray, List.set_cons_zero, List.set_cons_succ] at hK'
            exact hK' _ _ rfl (Below.refl _ _) (by simp)
          · have e1 : s14 = _ := hdep ⟨1, .data⟩ (by simp) rfl
            have e1 := e1.symm
            subst e1
            go_simp
            go_simp
            refine (HSg.out wx hb).mono ?_
            rintro e wy ⟨rfl, hby⟩
            go_wp2_with fail
            have hK' := hK.out
            simp only [putAll, Act.put, List.setIfInBounds_toArray, List.set_cons_zero, List.set_cons_succ] at hK'
            exact hK' _ _ rfl hby (by simp)
          · have e2 : s15 = _ := hdep ⟨2, .data⟩ (by simp) rfl
            have e2 := e2.symm
            subst e2
            go_simp
            have hK' := hK.out
            simp only [putAll, Act.put, List.setIfInBounds_toArray, List.set_cons_zero, List.set_cons_succ] at hK'
            exact hK' _ _ rfl (Below.refl _ _) (by simp)
          · have e3 : s16 = _ := hdep ⟨3, .data⟩ (by simp) rfl
            have e3 := e3.symm
            subst e3
            go_simp
            have hK' := hK.out
            simp only [putAll, Act.put, List.setIfInBounds_toArray, List.set_cons_zero, List.set_cons_succ] at hK'
            exact hK' _ _ rfl (Below.refl _ _) (by simp)
          · go_simp
            have eg : s17 = _ := hdep ⟨4, .guard⟩ (by simp) rfl
            have eg := eg.symm
            subst eg
            first | go_simp | skip
            try rw [if_neg (by simp [undef])]
            have hK' := hK.out
            simp only [putAll, Act.put, List.setIfInBounds_toArray, List.set_cons_zero, List.set_cons_succ] at hK'
            exact hK' _ _ rfl (Below.refl _ _) (by simp)
          · go_simp
            have eg : s17 = _ := hdep ⟨4, .guard⟩ (by simp) rfl
            have eg := eg.symm
            subst eg
            first | go_simp | skip
            try rw [if_neg (by simp [undef])]
            have hK' := hK.out
            simp only [putAll, Act.put, List.setIfInBounds_toArray, List.set_cons_zero, List.set_cons_succ] at hK'
            exact hK' _ _ rfl (Below.refl _ _) (by simp)
          · go_simp
            have eg : s17 = _ := hdep ⟨4, .guard⟩ (by simp) rfl
            have eg := eg.symm
            subst eg
            first | go_simp | skip
            try rw [if_neg (by simp [undef])]
            have hK' := hK.out
            simp only [putAll, Act.put, List.setIfInBounds_toArray, List.set_cons_zero, List.set_cons_succ] at hK'
            exact hK' _ _ rfl (Below.refl _ _) (by simp)
          · go_simp
            have eg : s20 = _ := hdep ⟨7, .guard⟩ (by simp) rfl
            have eg := eg.symm
            subst eg
            first | go_simp | skip
            try rw [if_neg (by simp [undef])]
            have hK' := hK.out
            simp only [putAll, Act.put, List.setIfInBounds_toArray, List.set_cons_zero, List.set_cons_succ] at hK'
            exact hK' _ _ rfl (Below.refl _ _) (by simp)
          · go_simp
            have eg : s20 = _ := hdep ⟨7, .guard⟩ (by simp) rfl
            have eg := eg.symm
            subst eg
            first | go_simp | skip
            try rw [if_neg (by simp [undef])]
            have hK' := hK.out
            simp only [putAll, Act.put, List.setIfInBounds_toArray, List.set_cons_zero, List.set_cons_succ] at hK'
            exact hK' _ _ rfl (Below.refl _ _) (by simp)
          · go_simp
            have eg : s20 = _ := hdep ⟨7, .guard⟩ (by simp) rfl
            have eg := eg.symm
            subst eg
            first | go_simp | skip
            try rw [if_neg (by simp [undef])]
            have hK' := hK.out
            simp only [putAll, Act.put, List.setIfInBounds_toArray, List.set_cons_zero, List.set_cons_succ] at hK'
            exact hK' _ _ rfl (Below.refl _ _) (by simp)
          · go_simp
            have eg : s20 = _ := hdep ⟨7, .guard⟩ (by simp) rfl
            have eg := eg.symm
            subst eg
            first | go_simp | skip
            try rw [if_neg (by simp [undef])]
            have hK' := hK.out
            simp only [putAll, Act.put, List.setIfInBounds_toArray, List.set_cons_zero, List.set_cons_succ] at hK'
            exact hK' _ _ rfl (Below.refl _ _) (by simp)
          · go_simp
            have eg : s20 = _ := hdep ⟨7, .guard⟩ (by simp) rfl
            have eg := eg.symm
            subst eg
            first | go_simp | skip
            try rw [if_neg (by simp [undef])]
            have hK' := hK.out
            simp only [putAll, Act.put, List.setIfInBounds_toArray, List.set_cons_zero, List.set_cons_succ] at hK'
            exact hK' _ _ rfl (Below.refl _ _) (by simp)
          · go_simp
            have eg : s20 = _ := hdep ⟨7, .guard⟩ (by simp) rfl
            have eg := eg.symm
            subst eg
            first | go_simp | skip
            try rw [if_neg (by simp [undef])]
            have hK' := hK.out
            simp only [putAll, Act.put, List.setIfInBounds_toArray, List.set_cons_zero, List.set_cons_succ] at hK'
            exact hK' _ _ rfl (Below.refl _ _) (by simp)
          · go_simp
            have eg : s20 = _ := hdep ⟨7, .guard⟩ (by simp) rfl
            have eg := eg.symm
            subst eg
            first | go_simp | skip
            try rw [if_neg (by simp [undef])]
            have hK' := hK.out
            simp only [putAll, Act.put, List.setIfInBounds_toArray, List.set_cons_zero, List.set_cons_succ] at hK'
            exact hK' _ _ rfl (Below.refl _ _) (by simp)
          · go_simp
            have eg : s20 = _ := hdep ⟨7, .guard⟩ (by simp) rfl
            have eg := eg.symm
            subst eg
            first | go_simp | skip
            try rw [if_neg (by simp [undef])]
            have hK' := hK.out
            simp only [putAll, Act.put, List.setIfInBounds_toArray, List.set_cons_zero, List.set_cons_succ] at hK'
            exact hK' _ _ rfl (Below.refl _ _) (by simp)
          · go_simp
            have eg : s20 = _ := hdep ⟨7, .guard⟩ (by simp) rfl
            have eg := eg.symm
            subst eg
            first | go_simp | skip
            try rw [if_neg (by simp [undef])]
            have hK' := hK.out
            simp only [putAll, Act.put, List.setIfInBounds_toArray, List.set_cons_zero, List.set_cons_succ] at hK'
            exact hK' _ _ rfl (Below.refl _ _) (by simp)
          · go_simp
            have eg : s20 = _ := hdep ⟨7, .guard⟩ (by simp) rfl
            have eg := eg.symm
            subst eg
            first | go_simp | skip
            try rw [if_neg (by simp [undef])]
            have hK' := hK.out
            simp only [putAll, Act.put, List.setIfInBounds_toArray, List.set_cons_zero, List.set_cons_succ] at hK'
            exact hK' _ _ rfl (Below.refl _ _) (by simp)
          · go_simp
            have eg : s17 = _ := hdep ⟨4, .guard⟩ (by simp) rfl
            have eg := eg.symm
            subst eg
            first | go_simp | skip
            try rw [if_neg (by simp [undef])]
            have hK' := hK.out
            simp only [putAll, Act.put, List.setIfInBounds_toArray, List.set_cons_zero, List.set_cons_succ] at hK'
            exact hK' _ _ rfl (Below.refl _ _) (by simp)
          · have e4 : s17 = _ := hdep ⟨4, .data⟩ (by simp) rfl
            have e4 := e4.symm
            subst e4
            go_simp
            have hK' := hK.out
            simp only [putAll, Act.put, List.setIfInBounds_toArray, List.set_cons_zero, List.set_cons_succ] at hK'
            exact hK' _ _ rfl (Below.refl _ _) (by simp)
          · omega
        · intro vs wx hvl hb hf hdist
          have hvs := vlen20 hvl
          obtain ⟨s13, s14, s15, s16, s17, s18, s19, s20, s21, s22, s23, s24, s25, s26, s27, s28, s29, s30, s31, s32, rfl⟩ := hvs
          have f19 : s32 = _ := hf 19 (by decide)
          have f19 := f19.symm
          subst f19
          have Hb9 := hid (lnGo hb HBw5.out)
          clear hf hvl hdist
          refine wpAny_done (by kernel_rfl) ?_ _
          try simp only [putAll, Act.put, List.setIfInBounds_toArray, List.set_cons_zero, List.set_cons_succ]
          have hd : decide (lnIs l) = false := by simpa using Hno.out
          go_wp2
          go_ret
          exact ⟨by rw [hd]; rfl, Hb9.out⟩
      · have hs0 : (c.sign == 0) = false := by
          rw [beq_eq_false_iff_ne]
          exact fun h => hc0 (Int.sign_eq_zero_iff_zero.1 h)
        have HSg := HSg0
        have HsE := hid hs0
        by_cases hk0 : k = 0
        · have HK0 := hid hk0
          have Hnx : Hid (lnIs (l.take (k + 1))) := hid ((Hstep.out).2 ⟨HI.out, hc0, fun h => absurd h (by omega)⟩)
          clear HSg0 hc0 Hstep hs0 hk0 HI
          go_upto_region 4 with fail
          rw [← hW5]
          clear hW5 y0 y1 y2
          refine wp_region_facts (w0 := W5) 20 0 [13, 14, 15, 16, 17, 18, 19, 20, 21, 22, 23, 24, 25, 26, 27, 28, 29, 30, 31, 32] [u13, u14, u15, u16, u17, u18, u19, u20, u21, u22, u23, u24, u25, u26, u27, u28, u29, u30, u31, u32]
            (fun i => match i with | 0 => lnE (.pointer (some ⟨wr.heap.size, 0, none⟩)) | 1 => lnE (.agg #[.bool d, .slice q n cq]) | 2 => lnE (.int .i64 c.sign) | 3 => lnE (.bool false) | 4 => lnE (.bool false) | 5 => lnE (.int .i64 (k : Nat)) | 6 => lnE (.bool false) | 7 => lnE (.bool false) | 8 => lnE (undef) | 9 => lnE (undef) | 10 => lnE (undef) | 11 => lnE (undef) | 12 => lnE (undef) | 13 => lnE (undef) | 14 => lnE (undef) | 15 => lnE (undef) | 16 => lnE (undef) | 17 => lnE (undef) | 18 => lnE (.bool false) | _ => lnE (.bool false)) [] (by kernel_rfl) (by kernel_rfl) (by kernel_rfl) (by kernel_rfl) (by decide) rfl (by kernel_rfl) rfl (by simp) ?he2 ?_ ?_ ?_
          case he2 => simp only [putAll, Act.put, List.setIfInBounds_toArray, List.set_cons_zero, List.set_cons_succ]
          · intro i hi; simp at hi
          · intro i o hi ho vs wx hvl hb hdep K hK
            have hvs := vlen20 hvl
            obtain ⟨s13, s14, s15, s16, s17, s18, s19, s20, s21, s22, s23, s24, s25, s26, s27, s28, s29, s30, s31, s32, rfl⟩ := hvs
            clear hvl
            have hk5 := HS.out wx hb
            obtain ⟨y3, y4, y5, y6, y7⟩ := hk5
            rcases i with _ | _ | _ | _ | _ | _ | _ | _ | _ | _ | _ | _ | _ | _ | _ | _ | _ | _ | _ | _ | i
            all_goals (simp only [List.getElem?_toArray, List.getElem?_cons_zero, List.getElem?_cons_succ, Option.some.injEq] at ho)
            all_goals try (subst ho)
            all_goals try simp only [putAll, Act.put, List.setIfInBounds_toArray, List.set_cons_zero, List.set_cons_succ]
            · go_simp
              have hK' := hK.out
              simp only [putAll, Act.put, List.setIfInBounds_toArray, List.set_cons_zero, List.set_cons_succ] at hK'
              exact hK' _ _ rfl (Below.refl _ _) (by simp)
            · have e0 : s13 = _ := hdep ⟨0, .data⟩ (by simp) rfl
              have e0 := e0.symm
              subst e0
              go_simp
              have hK' := hK.out
              simp only [putAll, Act.put, List.setIfInBounds_toArray, List.set_cons_zero, List.set_cons_succ] at hK'
              exact hK' _ _ rfl (Below.refl _ _) (by simp)
            · have e1 : s14 = _ := hdep ⟨1, .data⟩ (by simp) rfl
              have e1 := e1.symm
              subst e1
              go_simp
              go_simp
              refine (HSg.out wx hb).mono ?_
              rintro e wy ⟨rfl, hby⟩
              go_wp2_with fail
              have hK' := hK.out
              simp only [putAll, Act.put, List.setIfInBounds_toArray, List.set_cons_zero, List.set_cons_succ] at hK'
              exact hK' _ _ rfl hby (by simp)
            · have e2 : s15 = _ := hdep ⟨2, .data⟩ (by simp) rfl
              have e2 := e2.symm
              subst e2
              go_simp
              have hK' := hK.out
              simp only [putAll, Act.put, List.setIfInBounds_toArray, List.set_cons_zero, List.set_cons_succ] at hK'
              exact hK' _ _ (show Value.bool (c.sign == 0) = .bool false by rw [HsE.out]) (Below.refl _ _) (by simp)
            · have e3 : s16 = _ := hdep ⟨3, .data⟩ (by simp) rfl
              have e3 := e3.symm
              subst e3
              go_simp
              have hK' := hK.out
              simp only [putAll, Act.put, List.setIfInBounds_toArray, List.set_cons_zero, List.set_cons_succ] at hK'
              exact hK' _ _ rfl (Below.refl _ _) (by simp)
            · have eg : s17 = _ := hdep ⟨4, .guard⟩ (by simp) rfl
              have eg := eg.symm
              subst eg
              go_simp
              have hK' := hK.out
              simp only [putAll, Act.put, List.setIfInBounds_toArray, List.set_cons_zero, List.set_cons_succ] at hK'
              exact hK' _ _ rfl (Below.refl _ _) (by simp)
            · have e5 : s18 = _ := hdep ⟨5, .data⟩ (by simp) rfl
              have e5 := e5.symm
              subst e5
              have eg : s17 = _ := hdep ⟨4, .guard⟩ (by simp) rfl
              have eg := eg.symm
              subst eg
              go_simp
              have hK' := hK.out
              simp only [putAll, Act.put, List.setIfInBounds_toArray, List.set_cons_zero, List.set_cons_succ] at hK'
              exact hK' _ _ (show _ = Value.bool false by first | rfl | (have := HK0.out; simp [this])) (Below.refl _ _) (by simp)
            · have e6 : s19 = _ := hdep ⟨6, .data⟩ (by simp) rfl
              have e6 := e6.symm
              subst e6
              have eg : s17 = _ := hdep ⟨4, .guard⟩ (by simp) rfl
              have eg := eg.symm
              subst eg
              go_simp
              have hK' := hK.out
              simp only [putAll, Act.put, List.setIfInBounds_toArray, List.set_cons_zero, List.set_cons_succ] at hK'
              exact hK' _ _ rfl (Below.refl _ _) (by simp)
            · go_simp
              have eg : s20 = _ := hdep ⟨7, .guard⟩ (by simp) rfl
              have eg := eg.symm
              subst eg
              first | go_simp | skip
              try rw [if_neg (by simp [undef])]
              have hK' := hK.out
              simp only [putAll, Act.put, List.setIfInBounds_toArray, List.set_cons_zero, List.set_cons_succ] at hK'
              exact hK' _ _ rfl (Below.refl _ _) (by simp)
            · go_simp
              have eg : s20 = _ := hdep ⟨7, .guard⟩ (by simp) rfl
              have eg := eg.symm
              subst eg
              first | go_simp | skip
              try rw [if_neg (by simp [undef])]
              have hK' := hK.out
              simp only [putAll, Act.put, List.setIfInBounds_toArray, List.set_cons_zero, List.set_cons_succ] at hK'
              exact hK' _ _ rfl (Below.refl _ _) (by simp)
            · go_simp
              have eg : s20 = _ := hdep ⟨7, .guard⟩ (by simp) rfl
              have eg := eg.symm
              subst eg
              first | go_simp | skip
              try rw [if_neg (by simp [undef])]
              have hK' := hK.out
              simp only [putAll, Act.put, List.setIfInBounds_toArray, List.set_cons_zero, List.set_cons_succ] at hK'
              exact hK' _ _ rfl (Below.refl _ _) (by simp)
            · go_simp
              have eg : s20 = _ := hdep ⟨7, .guard⟩ (by simp) rfl
              have eg := eg.symm
              subst eg
              first | go_simp | skip
              try rw [if_neg (by simp [undef])]
              have hK' := hK.out
              simp only [putAll, Act.put, List.setIfInBounds_toArray, List.set_cons_zero, List.set_cons_succ] at hK'
              exact hK' _ _ rfl (Below.refl _ _) (by simp)
            · go_simp
              have eg : s20 = _ := hdep ⟨7, .guard⟩ (by simp) rfl
              have eg := eg.symm
              subst eg
              first | go_simp | skip
              try rw [if_neg (by simp [undef])]
              have hK' := hK.out
              simp only [putAll, Act.put, List.setIfInBounds_toArray, List.set_cons_zero, List.set_cons_succ] at hK'
              exact hK' _ _ rfl (Below.refl _ _) (by simp)
            · go_simp
              have eg : s20 = _ := hdep ⟨7, .guard⟩ (by simp) rfl
              have eg := eg.symm
              subst eg
              first | go_simp | skip
              try rw [if_neg (by simp [undef])]
              have hK' := hK.out
              simp only [putAll, Act.put, List.setIfInBounds_toArray, List.set_cons_zero, List.set_cons_succ] at hK'
              exact hK' _ _ rfl (Below.refl _ _) (by simp)
            · go_simp
              have eg : s20 = _ := hdep ⟨7, .guard⟩ (by simp) rfl
              have eg := eg.symm
              subst eg
              first | go_simp | skip
              try rw [if_neg (by simp [undef])]
              have hK' := hK.out
              simp only [putAll, Act.put, List.setIfInBounds_toArray, List.set_cons_zero, List.set_cons_succ] at hK'
              exact hK' _ _ rfl (Below.refl _ _) (by simp)
            · go_simp
              have eg : s20 = _ := hdep ⟨7, .guard⟩ (by simp) rfl
              have eg := eg.symm
              subst eg
              first | go_simp | skip
              try rw [if_neg (by simp [undef])]
              have hK' := hK.out
              simp only [putAll, Act.put, List.setIfInBounds_toArray, List.set_cons_zero, List.set_cons_succ] at hK'
              exact hK' _ _ rfl (Below.refl _ _) (by simp)
            · go_simp
              have eg : s20 = _ := hdep ⟨7, .guard⟩ (by simp) rfl
              have eg := eg.symm
              subst eg
              first | go_simp | skip
              try rw [if_neg (by simp [undef])]
              have hK' := hK.out
              simp only [putAll, Act.put, List.setIfInBounds_toArray, List.set_cons_zero, List.set_cons_succ] at hK'
              exact hK' _ _ rfl (Below.refl _ _) (by simp)
            · go_simp
              have eg : s20 = _ := hdep ⟨7, .guard⟩ (by simp) rfl
              have eg := eg.symm
              subst eg
              first | go_simp | skip
              try rw [if_neg (by simp [undef])]
              have hK' := hK.out
              simp only [putAll, Act.put, List.setIfInBounds_toArray, List.set_cons_zero, List.set_cons_succ] at hK'
              exact hK' _ _ rfl (Below.refl _ _) (by simp)
            · have e7 : s20 = _ := hdep ⟨7, .data⟩ (by simp) rfl
              have e7 := e7.symm
              subst e7
              have eg : s17 = _ := hdep ⟨4, .guard⟩ (by simp) rfl
              have eg := eg.symm
              subst eg
              go_simp
              have hK' := hK.out
              simp only [putAll, Act.put, List.setIfInBounds_toArray, List.set_cons_zero, List.set_cons_succ] at hK'
              exact hK' _ _ rfl (Below.refl _ _) (by simp)
            · have e4 : s17 = _ := hdep ⟨4, .data⟩ (by simp) rfl
              have e4 := e4.symm
              subst e4
              have e18 : s31 = _ := hdep ⟨18, .data⟩ (by simp) rfl
              have e18 := e18.symm
              subst e18
              go_simp
              have hK' := hK.out
              simp only [putAll, Act.put, List.setIfInBounds_toArray, List.set_cons_zero, List.set_cons_succ] at hK'
              exact hK' _ _ rfl (Below.refl _ _) (by simp)
            · omega
          · intro vs wx hvl hb hf hdist
            have hvs := vlen20 hvl
            obtain ⟨s13, s14, s15, s16, s17, s18, s19, s20, s21, s22, s23, s24, s25, s26, s27, s28, s29, s30, s31, s32, rfl⟩ := hvs
            have f19 : s32 = _ := hf 19 (by decide)
            have f19 := f19.symm
            subst f19
            have Hb9 := hid (lnGo hb HBw5.out)
            clear hf hvl hdist
            refine wpAny_done (by kernel_rfl) ?_ _
            try simp only [putAll, Act.put, List.setIfInBounds_toArray, List.set_cons_zero, List.set_cons_succ]
            have Hb9W := hid (lnGo hb HBW5.out)
            go_wp2_with fail
            go_roundw
            case rel => exact ⟨k + 1, by omega, by go_num, Hnx, Hb9W⟩
            case measure => simp [intOf] <;> omega
        · obtain ⟨k1, hk1⟩ : ∃ k1 : Nat, k = k1 + 1 := ⟨k - 1, by omega⟩
          have HK0 : Hid (0 < k) := hid (by omega)
          have hka : k ≤ k1 + 1 := by omega
          have hkb : k1 + 1 ≤ k := by omega
          have hk1t : k - 1 < l.length := by omega
          have hp1 := Hpre.out hk1t (by omega)
          rw [show o + (k - 1) * 3 + 2 = o + k1 * 3 + 2 by rw [hk1, Nat.add_sub_cancel]] at hp1
          obtain ⟨t', ht'⟩ : ∃ t', t' = l[k - 1].2 := ⟨_, rfl⟩
          have et' : l[k - 1].2 = t' := ht'.symm
          have hp1' : w.cell? ⟨b, o + k1 * 3 + 2, none⟩ = some (.int .i64 t') := by rw [hp1, ht']
          have HS0 := HS
          have HS : Hid (∀ w', Below W5.heap.size W5 w' → w'.cell? ⟨wr.heap.size, 0, none⟩ = some (.bool d) ∧ w'.cell? ⟨wr.heap.size, 1, none⟩ = some (.slice q n cq) ∧ w'.cell? ⟨wr.heap.size, 2, none⟩ = some (.int .i64 t) ∧ w'.cell? ⟨w.heap.size, 0, none⟩ = some (.slice (some ⟨b, o, none⟩) L cp) ∧ w'.cell? ⟨b, o + k1 * 3 + 2, none⟩ = some (.int .i64 t')) := hid fun w' hb' => by
            obtain ⟨t0, t1, t2, t3, -⟩ := HS0.out w' hb'
            exact ⟨t0, t1, t2, t3, ((lnGo hb' HBw5.out).cell (p := ⟨b, o + k1 * 3 + 2, none⟩) hb).trans hp1'⟩
          have hk1L : (k1 : Int) < (L : Int) := by omega
          clear HS0 hp1 hp1' Hpre HSg0 hs0 ht' hk1 hk0
          by_cases htt : t ≤ t'
          · have htt' : decide (t ≤ t') = true := by simpa using htt
            have Hno : Hid (¬ lnIs l) := hid fun hI => by
              have := ((Hstep.out).1 (lnIs_take hI _)).2.2 (by omega) hk1t
              rw [et'] at this
              omega
            clear hc0 Hstep htt HI et'
            go_upto_region 4 with fail
            rw [← hW5]
            clear hW5 y0 y1 y2
            refine wp_region_facts (w0 := W5) 20 0 [13, 14, 15, 16, 17, 18, 19, 20, 21, 22, 23, 24, 25, 26, 27, 28, 29, 30, 31, 32] [u13, u14, u15, u16, u17, u18, u19, u20, u21, u22, u23, u24, u25, u26, u27, u28, u29, u30, u31, u32]
              (fun i => match i with | 0 => lnE (.pointer (some ⟨wr.heap.size, 0, none⟩)) | 1 => lnE (.agg #[.bool d, .slice q n cq]) | 2 => lnE (.int .i64 c.sign) | 3 => lnE (.bool false) | 4 => lnE (.bool false) | 5 => lnE (.int .i64 (k : Nat)) | 6 => lnE (.bool true) | 7 => lnE (.bool true) | 8 => lnE (.pointer (some ⟨w.heap.size, 0, none⟩)) | 9 => lnE (.slice (some ⟨b, o, none⟩) L cp) | 10 => lnE (.int .i64 (k : Nat)) | 11 => lnE (.int .i64 (k1 : Nat)) | 12 => lnE (.pointer (some ⟨b, o + k1 * 3, none⟩)) | 13 => lnE (.pointer (some ⟨b, o + k1 * 3 + 2, none⟩)) | 14 => lnE (.int .i64 t') | 15 => lnE (.pointer (some ⟨wr.heap.size, 2, none⟩)) | 16 => lnE (.int .i64 t) | 17 => lnE (.bool true) | 18 => lnE (.bool true) | _ => lnE (.bool true)) [] (by kernel_rfl) (by kernel_rfl) (by kernel_rfl) (by kernel_rfl) (by decide) rfl (by kernel_rfl) rfl (by simp) ?he3 ?_ ?_ ?_
            case he3 => simp only [putAll, Act.put, List.setIfInBounds_toArray, List.set_cons_zero, List.set_cons_succ]
            · intro i hi; simp at hi
            · intro i o hi ho vs wx hvl hb hdep K hK
              have hvs := vlen20 hvl
              obtain ⟨s13, s14, s15, s16, s17, s18, s19, s20, s21, s22, s23, s24, s25, s26, s27, s28, s29, s30, s31, s32, rfl⟩ := hvs
              clear hvl
              have hk5 := HS.out wx hb
              obtain ⟨y3, y4, y5, y6, y7⟩ := hk5
              rcases i with _ | _ | _ | _ | _ | _ | _ | _ | _ | _ | _ | _ | _ | _ | _ | _ | _ | _ | _ | _ | i
              all_goals (simp only [List.getElem?_toArray, List.getElem?_cons_zero, List.getElem?_cons_succ, Option.some.injEq] at ho)
              all_goals try (subst ho)
              all_goals try simp only [putAll, Act.put, List.setIfInBounds_toArray, List.set_cons_zero, List.set_cons_succ]
              · go_simp
                have hK' := hK.out
                simp only [putAll, Act.put, List.setIfInBounds_toArray, List.set_cons_zero, List.set_cons_succ] at hK'
                exact hK' _ _ rfl (Below.refl _ _) (by simp)
              · have e0 : s13 = _ := hdep ⟨0, .data⟩ (by simp) rfl
                have e0 := e0.symm
                subst e0
                go_simp
                have hK' := hK.out
                simp only [putAll, Act.put, List.setIfInBounds_toArray, List.set_cons_zero, List.set_cons_succ] at hK'
                exact hK' _ _ rfl (Below.refl _ _) (by simp)
              · have e1 : s14 = _ := hdep ⟨1, .data⟩ (by simp) rfl
                have e1 := e1.symm
                subst e1
                go_simp
                go_simp
                refine (HSg.out wx hb).mono ?_
                rintro e wy ⟨rfl, hby⟩
                go_wp2_with fail
                have hK' := hK.out
                simp only [putAll, Act.put, List.setIfInBounds_toArray, List.set_cons_zero, List.set_cons_succ] at hK'
                exact hK' _ _ rfl hby (by simp)
              · have e2 : s15 = _ := hdep ⟨2, .data⟩ (by simp) rfl
                have e2 := e2.symm
                subst e2
                go_simp
                have hK' := hK.out
                simp only [putAll, Act.put, List.setIfInBounds_toArray, List.set_cons_zero, List.set_cons_succ] at hK'
                exact hK' _ _ (show Value.bool (c.sign == 0) = .bool false by rw [HsE.out]) (Below.refl _ _) (by simp)
              · have e3 : s16 = _ := hdep ⟨3, .data⟩ (by simp) rfl
                have e3 := e3.symm
                subst e3
                go_simp
                have hK' := hK.out
                simp only [putAll, Act.put, List.setIfInBounds_toArray, List.set_cons_zero, List.set_cons_succ] at hK'
                exact hK' _ _ rfl (Below.refl _ _) (by simp)
              · have eg : s17 = _ := hdep ⟨4, .guard⟩ (by simp) rfl
                have eg := eg.symm
                subst eg
                go_simp
                have hK' := hK.out
                simp only [putAll, Act.put, List.setIfInBounds_toArray, List.set_cons_zero, List.set_cons_succ] at hK'
                exact hK' _ _ rfl (Below.refl _ _) (by simp)
              · have e5 : s18 = _ := hdep ⟨5, .data⟩ (by simp) rfl
                have e5 := e5.symm
                subst e5
                have eg : s17 = _ := hdep ⟨4, .guard⟩ (by simp) rfl
                have eg := eg.symm
                subst eg
                go_simp
                have hK' := hK.out
                simp only [putAll, Act.put, List.setIfInBounds_toArray, List.set_cons_zero, List.set_cons_succ] at hK'
                exact hK' _ _ (show _ = Value.bool true by first | rfl | (have := HK0.out; simp [this])) (Below.refl _ _) (by simp)
              · have e6 : s19 = _ := hdep ⟨6, .data⟩ (by simp) rfl
                have e6 := e6.symm
                subst e6
                have eg : s17 = _ := hdep ⟨4, .guard⟩ (by simp) rfl
                have eg := eg.symm
                subst eg
                go_simp
                have hK' := hK.out
                simp only [putAll, Act.put, List.setIfInBounds_toArray, List.set_cons_zero, List.set_cons_succ] at hK'
                exact hK' _ _ rfl (Below.refl _ _) (by simp)
              · have eg : s20 = _ := hdep ⟨7, .guard⟩ (by simp) rfl
                have eg := eg.symm
                subst eg
                go_simp
                have hK' := hK.out
                simp only [putAll, Act.put, List.setIfInBounds_toArray, List.set_cons_zero, List.set_cons_succ] at hK'
                exact hK' _ _ rfl (Below.refl _ _) (by simp)
              · have e8 : s21 = _ := hdep ⟨8, .data⟩ (by simp) rfl
                have e8 := e8.symm
                subst e8
                have eg : s20 = _ := hdep ⟨7, .guard⟩ (by simp) rfl
                have eg := eg.symm
                subst eg
                go_simp
                have hK' := hK.out
                simp only [putAll, Act.put, List.setIfInBounds_toArray, List.set_cons_zero, List.set_cons_succ] at hK'
                exact hK' _ _ rfl (Below.refl _ _) (by simp)
              · have eg : s20 = _ := hdep ⟨7, .guard⟩ (by simp) rfl
                have eg := eg.symm
                subst eg
                go_simp
                have hK' := hK.out
                simp only [putAll, Act.put, List.setIfInBounds_toArray, List.set_cons_zero, List.set_cons_succ] at hK'
                exact hK' _ _ rfl (Below.refl _ _) (by simp)
              · have e10 : s23 = _ := hdep ⟨10, .data⟩ (by simp) rfl
                have e10 := e10.symm
                subst e10
                have eg : s20 = _ := hdep ⟨7, .guard⟩ (by simp) rfl
                have eg := eg.symm
                subst eg
                go_simp
                have hK' := hK.out
                simp only [putAll, Act.put, List.setIfInBounds_toArray, List.set_cons_zero, List.set_cons_succ] at hK'
                exact hK' _ _ (show _ = Value.int .i64 (k1 : Nat) by first | rfl | (congr 1; omega) | (rw [IntWalk.i64_in _ (by omega)]; congr 1; omega)) (Below.refl _ _) (by simp)
              · have e9 : s22 = _ := hdep ⟨9, .data⟩ (by simp) rfl
                have e9 := e9.symm
                subst e9
                have e11 : s24 = _ := hdep ⟨11, .data⟩ (by simp) rfl
                have e11 := e11.symm
                subst e11
                have eg : s20 = _ := hdep ⟨7, .guard⟩ (by simp) rfl
                have eg := eg.symm
                subst eg
                go_simp
                have hK' := hK.out
                simp only [putAll, Act.put, List.setIfInBounds_toArray, List.set_cons_zero, List.set_cons_succ] at hK'
                exact hK' _ _ rfl (Below.refl _ _) (by simp)
              · have e12 : s25 = _ := hdep ⟨12, .data⟩ (by simp) rfl
                have e12 := e12.symm
                subst e12
                have eg : s20 = _ := hdep ⟨7, .guard⟩ (by simp) rfl
                have eg := eg.symm
                subst eg
                go_simp
                have hK' := hK.out
                simp only [putAll, Act.put, List.setIfInBounds_toArray, List.set_cons_zero, List.set_cons_succ] at hK'
                exact hK' _ _ rfl (Below.refl _ _) (by simp)
              · have e13 : s26 = _ := hdep ⟨13, .data⟩ (by simp) rfl
                have e13 := e13.symm
                subst e13
                have eg : s20 = _ := hdep ⟨7, .guard⟩ (by simp) rfl
                have eg := eg.symm
                subst eg
                go_simp
                have hK' := hK.out
                simp only [putAll, Act.put, List.setIfInBounds_toArray, List.set_cons_zero, List.set_cons_succ] at hK'
                exact hK' _ _ rfl (Below.refl _ _) (by simp)
              · have eg : s20 = _ := hdep ⟨7, .guard⟩ (by simp) rfl
                have eg := eg.symm
                subst eg
                go_simp
                have hK' := hK.out
                simp only [putAll, Act.put, List.setIfInBounds_toArray, List.set_cons_zero, List.set_cons_succ] at hK'
                exact hK' _ _ rfl (Below.refl _ _) (by simp)
              · have e15 : s28 = _ := hdep ⟨15, .data⟩ (by simp) rfl
                have e15 := e15.symm
                subst e15
                have eg : s20 = _ := hdep ⟨7, .guard⟩ (by simp) rfl
                have eg := eg.symm
                subst eg
                go_simp
                have hK' := hK.out
                simp only [putAll, Act.put, List.setIfInBounds_toArray, List.set_cons_zero, List.set_cons_succ] at hK'
                exact hK' _ _ rfl (Below.refl _ _) (by simp)
              · have e14 : s27 = _ := hdep ⟨14, .data⟩ (by simp) rfl
                have e14 := e14.symm
                subst e14
                have e16 : s29 = _ := hdep ⟨16, .data⟩ (by simp) rfl
                have e16 := e16.symm
                subst e16
                have eg : s20 = _ := hdep ⟨7, .guard⟩ (by simp) rfl
                have eg := eg.symm
                subst eg
                go_simp
                have hK' := hK.out
                simp only [putAll, Act.put, List.setIfInBounds_toArray, List.set_cons_zero, List.set_cons_succ] at hK'
                exact hK' _ _ rfl (Below.refl _ _) (by simp)
              · have e7 : s20 = _ := hdep ⟨7, .data⟩ (by simp) rfl
                have e7 := e7.symm
                subst e7
                have e17 : s30 = _ := hdep ⟨17, .data⟩ (by simp) rfl
                have e17 := e17.symm
                subst e17
                have eg : s17 = _ := hdep ⟨4, .guard⟩ (by simp) rfl
                have eg := eg.symm
                subst eg
                go_simp
                have hK' := hK.out
                simp only [putAll, Act.put, List.setIfInBounds_toArray, List.set_cons_zero, List.set_cons_succ] at hK'
                exact hK' _ _ rfl (Below.refl _ _) (by simp)
              · have e4 : s17 = _ := hdep ⟨4, .data⟩ (by simp) rfl
                have e4 := e4.symm
                subst e4
                have e18 : s31 = _ := hdep ⟨18, .data⟩ (by simp) rfl
                have e18 := e18.symm
                subst e18
                go_simp
                have hK' := hK.out
                simp only [putAll, Act.put, List.setIfInBounds_toArray, List.set_cons_zero, List.set_cons_succ] at hK'
                exact hK' _ _ rfl (Below.refl _ _) (by simp)
              · omega
            · intro vs wx hvl hb hf hdist
              have hvs := vlen20 hvl
              obtain ⟨s13, s14, s15, s16, s17, s18, s19, s20, s21, s22, s23, s24, s25, s26, s27, s28, s29, s30, s31, s32, rfl⟩ := hvs
              have f19 : s32 = _ := hf 19 (by decide)
              have f19 := f19.symm
              subst f19
              have Hb9 := hid (lnGo hb HBw5.out)
              clear hf hvl hdist
              refine wpAny_done (by kernel_rfl) ?_ _
              try simp only [putAll, Act.put, List.setIfInBounds_toArray, List.set_cons_zero, List.set_cons_succ]
              have hd : decide (lnIs l) = false := by simpa using Hno.out
              go_wp2
              go_ret
              exact ⟨by rw [hd]; rfl, Hb9.out⟩
          · have htt' : decide (t ≤ t') = false := by simpa using htt
            have Hnx : Hid (lnIs (l.take (k + 1))) := hid ((Hstep.out).2 ⟨HI.out, hc0, fun _ _ => by rw [et']; omega⟩)
            clear hc0 Hstep htt HI et'
            go_upto_region 4 with fail
            rw [← hW5]
            clear hW5 y0 y1 y2
            refine wp_region_facts (w0 := W5) 20 0 [13, 14, 15, 16, 17, 18, 19, 20, 21, 22, 23, 24, 25, 26, 27, 28, 29, 30, 31, 32] [u13, u14, u15, u16, u17, u18, u19, u20, u21, u22, u23, u24, u25, u26, u27, u28, u29, u30, u31, u32]
              (fun i => match i with | 0 => lnE (.pointer (some ⟨wr.heap.size, 0, none⟩)) | 1 => lnE (.agg #[.bool d, .slice q n cq]) | 2 => lnE (.int .i64 c.sign) | 3 => lnE (.bool false) | 4 => lnE (.bool false) | 5 => lnE (.int .i64 (k : Nat)) | 6 => lnE (.bool true) | 7 => lnE (.bool true) | 8 => lnE (.pointer (some ⟨w.heap.size, 0, none⟩)) | 9 => lnE (.slice (some ⟨b, o, none⟩) L cp) | 10 => lnE (.int .i64 (k : Nat)) | 11 => lnE (.int .i64 (k1 : Nat)) | 12 => lnE (.pointer (some ⟨b, o + k1 * 3, none⟩)) | 13 => lnE (.pointer (some ⟨b, o + k1 * 3 + 2, none⟩)) | 14 => lnE (.int .i64 t') | 15 => lnE (.pointer (some ⟨wr.heap.size, 2, none⟩)) | 16 => lnE (.int .i64 t) | 17 => lnE (.bool false) | 18 => lnE (.bool false) | _ => lnE (.bool false)) [] (by kernel_rfl) (by kernel_rfl) (by kernel_rfl) (by kernel_rfl) (by decide) rfl (by kernel_rfl) rfl (by simp) ?he4 ?_ ?_ ?_
            case he4 => simp only [putAll, Act.put, List.setIfInBounds_toArray, List.set_cons_zero, List.set_cons_succ]
            · intro i hi; simp at hi
            · intro i o hi ho vs wx hvl hb hdep K hK
              have hvs := vlen20 hvl
              obtain ⟨s13, s14, s15, s16, s17, s18, s19, s20, s21, s22, s23, s24, s25, s26, s27, s28, s29, s30, s31, s32, rfl⟩ := hvs
              clear hvl
              have hk5 := HS.out wx hb
              obtain ⟨y3, y4, y5, y6, y7⟩ := hk5
              rcases i with _ | _ | _ | _ | _ | _ | _ | _ | _ | _ | _ | _ | _ | _ | _ | _ | _ | _ | _ | _ | i
              all_goals (simp only [List.getElem?_toArray, List.getElem?_cons_zero, List.getElem?_cons_succ, Option.some.injEq] at ho)
              all_goals try (subst ho)
              all_goals try simp only [putAll, Act.put, List.setIfInBounds_toArray, List.set_cons_zero, List.set_cons_succ]
              · go_simp
                have hK' := hK.out
                simp only [putAll, Act.put, List.setIfInBounds_toArray, List.set_cons_zero, List.set_cons_succ] at hK'
                exact hK' _ _ rfl (Below.refl _ _) (by simp)
              · have e0 : s13 = _ := hdep ⟨0, .data⟩ (by simp) rfl
                have e0 := e0.symm
                subst e0
                go_simp
                have hK' := hK.out
                simp only [putAll, Act.put, List.setIfInBounds_toArray, List.set_cons_zero, List.set_cons_succ] at hK'
                exact hK' _ _ rfl (Below.refl _ _) (by simp)
              · have e1 : s14 = _ := hdep ⟨1, .data⟩ (by simp) rfl
                have e1 := e1.symm
                subst e1
                go_simp
                go_simp
                refine (HSg.out wx hb).mono ?_
                rintro e wy ⟨rfl, hby⟩
                go_wp2_with fail
                have hK' := hK.out
                simp only [putAll, Act.put, List.setIfInBounds_toArray, List.set_cons_zero, List.set_cons_succ] at hK'
                exact hK' _ _ rfl hby (by simp)
              · have e2 : s15 = _ := hdep ⟨2, .data⟩ (by simp) rfl
                have e2 := e2.symm
                subst e2
                go_simp
                have hK' := hK.out
                simp only [putAll, Act.put, List.setIfInBounds_toArray, List.set_cons_zero, List.set_cons_succ] at hK'
                exact hK' _ _ (show Value.bool (c.sign == 0) = .bool false by rw [HsE.out]) (Below.refl _ _) (by simp)
              · have e3 : s16 = _ := hdep ⟨3, .data⟩ (by simp) rfl
                have e3 := e3.symm
                subst e3
                go_simp
                have hK' := hK.out
                simp only [putAll, Act.put, List.setIfInBounds_toArray, List.set_cons_zero, List.set_cons_succ] at hK'
                exact hK' _ _ rfl (Below.refl _ _) (by simp)
              · have eg : s17 = _ := hdep ⟨4, .guard⟩ (by simp) rfl
                have eg := eg.symm
                subst eg
                go_simp
                have hK' := hK.out
                simp only [putAll, Act.put, List.setIfInBounds_toArray, List.set_cons_zero, List.set_cons_succ] at hK'
                exact hK' _ _ rfl (Below.refl _ _) (by simp)
              · have e5 : s18 = _ := hdep ⟨5, .data⟩ (by simp) rfl
                have e5 := e5.symm
                subst e5
                have eg : s17 = _ := hdep ⟨4, .guard⟩ (by simp) rfl
                have eg := eg.symm
                subst eg
                go_simp
                have hK' := hK.out
                simp only [putAll, Act.put, List.setIfInBounds_toArray, List.set_cons_zero, List.set_cons_succ] at hK'
                exact hK' _ _ (show _ = Value.bool true by first | rfl | (have := HK0.out; simp [this])) (Below.refl _ _) (by simp)
              · have e6 : s19 = _ := hdep ⟨6, .data⟩ (by simp) rfl
                have e6 := e6.symm
                subst e6
                have eg : s17 = _ := hdep ⟨4, .guard⟩ (by simp) rfl
                have eg := eg.symm
                subst eg
                go_simp
                have hK' := hK.out
                simp only [putAll, Act.put, List.setIfInBounds_toArray, List.set_cons_zero, List.set_cons_succ] at hK'
                exact hK' _ _ rfl (Below.refl _ _) (by simp)
              · have eg : s20 = _ := hdep ⟨7, .guard⟩ (by simp) rfl
                have eg := eg.symm
                subst eg
                go_simp
                have hK' := hK.out
                simp only [putAll, Act.put, List.setIfInBounds_toArray, List.set_cons_zero, List.set_cons_succ] at hK'
                exact hK' _ _ rfl (Below.refl _ _) (by simp)
              · have e8 : s21 = _ := hdep ⟨8, .data⟩ (by simp) rfl
                have e8 := e8.symm
                subst e8
                have eg : s20 = _ := hdep ⟨7, .guard⟩ (by simp) rfl
                have eg := eg.symm
                subst eg
                go_simp
                have hK' := hK.out
                simp only [putAll, Act.put, List.setIfInBounds_toArray, List.set_cons_zero, List.set_cons_succ] at hK'
                exact hK' _ _ rfl (Below.refl _ _) (by simp)
              · have eg : s20 = _ := hdep ⟨7, .guard⟩ (by simp) rfl
                have eg := eg.symm
                subst eg
                go_simp
                have hK' := hK.out
                simp only [putAll, Act.put, List.setIfInBounds_toArray, List.set_cons_zero, List.set_cons_succ] at hK'
                exact hK' _ _ rfl (Below.refl _ _) (by simp)
              · have e10 : s23 = _ := hdep ⟨10, .data⟩ (by simp) rfl
                have e10 := e10.symm
                subst e10
                have eg : s20 = _ := hdep ⟨7, .guard⟩ (by simp) rfl
                have eg := eg.symm
                subst eg
                go_simp
                have hK' := hK.out
                simp only [putAll, Act.put, List.setIfInBounds_toArray, List.set_cons_zero, List.set_cons_succ] at hK'
                exact hK' _ _ (show _ = Value.int .i64 (k1 : Nat) by first | rfl | (congr 1; omega) | (rw [IntWalk.i64_in _ (by omega)]; congr 1; omega)) (Below.refl _ _) (by simp)
              · have e9 : s22 = _ := hdep ⟨9, .data⟩ (by simp) rfl
                have e9 := e9.symm
                subst e9
                have e11 : s24 = _ := hdep ⟨11, .data⟩ (by simp) rfl
                have e11 := e11.symm
                subst e11
                have eg : s20 = _ := hdep ⟨7, .guard⟩ (by simp) rfl
                have eg := eg.symm
                subst eg
                go_simp
                have hK' := hK.out
                simp only [putAll, Act.put, List.setIfInBounds_toArray, List.set_cons_zero, List.set_cons_succ] at hK'
                exact hK' _ _ rfl (Below.refl _ _) (by simp)
              · have e12 : s25 = _ := hdep ⟨12, .data⟩ (by simp) rfl
                have e12 := e12.symm
                subst e12
                have eg : s20 = _ := hdep ⟨7, .guard⟩ (by simp) rfl
                have eg := eg.symm
                subst eg
                go_simp
                have hK' := hK.out
                simp only [putAll, Act.put, List.setIfInBounds_toArray, List.set_cons_zero, List.set_cons_succ] at hK'
                exact hK' _ _ rfl (Below.refl _ _) (by simp)
              · have e13 : s26 = _ := hdep ⟨13, .data⟩ (by simp) rfl
                have e13 := e13.symm
                subst e13
                have eg : s20 = _ := hdep ⟨7, .guard⟩ (by simp) rfl
                have eg := eg.symm
                subst eg
                go_simp
                have hK' := hK.out
                simp only [putAll, Act.put, List.setIfInBounds_toArray, List.set_cons_zero, List.set_cons_succ] at hK'
                exact hK' _ _ rfl (Below.refl _ _) (by simp)
              · have eg : s20 = _ := hdep ⟨7, .guard⟩ (by simp) rfl
                have eg := eg.symm
                subst eg
                go_simp
                have hK' := hK.out
                simp only [putAll, Act.put, List.setIfInBounds_toArray, List.set_cons_zero, List.set_cons_succ] at hK'
                exact hK' _ _ rfl (Below.refl _ _) (by simp)
              · have e15 : s28 = _ := hdep ⟨15, .data⟩ (by simp) rfl
                have e15 := e15.symm
                subst e15
                have eg : s20 = _ := hdep ⟨7, .guard⟩ (by simp) rfl
                have eg := eg.symm
                subst eg
                go_simp
                have hK' := hK.out
                simp only [putAll, Act.put, List.setIfInBounds_toArray, List.set_cons_zero, List.set_cons_succ] at hK'
                exact hK' _ _ rfl (Below.refl _ _) (by simp)
              · have e14 : s27 = _ := hdep ⟨14, .data⟩ (by simp) rfl
                have e14 := e14.symm
                subst e14
                have e16 : s29 = _ := hdep ⟨16, .data⟩ (by simp) rfl
                have e16 := e16.symm
                subst e16
                have eg : s20 = _ := hdep ⟨7, .guard⟩ (by simp) rfl
                have eg := eg.symm
                subst eg
                go_simp
                have hK' := hK.out
                simp only [putAll, Act.put, List.setIfInBounds_toArray, List.set_cons_zero, List.set_cons_succ] at hK'
                exact hK' _ _ rfl (Below.refl _ _) (by simp)
              · have e7 : s20 = _ := hdep ⟨7, .data⟩ (by simp) rfl
                have e7 := e7.symm
                subst e7
                have e17 : s30 = _ := hdep ⟨17, .data⟩ (by simp) rfl
                have e17 := e17.symm
                subst e17
                have eg : s17 = _ := hdep ⟨4, .guard⟩ (by simp) rfl
                have eg := eg.symm
                subst eg
                go_simp
                have hK' := hK.out
                simp only [putAll, Act.put, List.setIfInBounds_toArray, List.set_cons_zero, List.set_cons_succ] at hK'
                exact hK' _ _ rfl (Below.refl _ _) (by simp)
              · have e4 : s17 = _ := hdep ⟨4, .data⟩ (by simp) rfl
                have e4 := e4.symm
                subst e4
                have e18 : s31 = _ := hdep ⟨18, .data⟩ (by simp) rfl
                have e18 := e18.symm
                subst e18
                go_simp
                have hK' := hK.out
                simp only [putAll, Act.put, List.setIfInBounds_toArray, List.set_cons_zero, List.set_cons_succ] at hK'
                exact hK' _ _ rfl (Below.refl _ _) (by simp)
              · omega
            · intro vs wx hvl hb hf hdist
              have hvs := vlen20 hvl
              obtain ⟨s13, s14, s15, s16, s17, s18, s19, s20, s21, s22, s23, s24, s25, s26, s27, s28, s29, s30, s31, s32, rfl⟩ := hvs
              have f19 : s32 = _ := hf 19 (by decide)
              have f19 := f19.symm
              subst f19
              have Hb9 := hid (lnGo hb HBw5.out)
              clear hf hvl hdist
              refine wpAny_done (by kernel_rfl) ?_ _
              try simp only [putAll, Act.put, List.setIfInBounds_toArray, List.set_cons_zero, List.set_cons_succ]
              have Hb9W := hid (lnGo hb HBW5.out)
              go_wp2_with fail
              go_roundw
              case rel => exact ⟨k + 1, by omega, by go_num, Hnx, Hb9W⟩
              case measure => simp [intOf] <;> omega
    · obtain rfl : k = L := by omega
      have hfin : l.take k = l := by rw [HLL.out, List.take_length]
      have HI' := HI.out
      rw [hfin] at HI'
      have hd : decide (lnIs l) = true := by simpa using HI'
      have HBf := hid (lnGo HB.out B0.out)
      clear HI HI' hfin HB
      go_wp2
      go_ret
      exact ⟨by rw [hd]; rfl, HBf.out⟩
end Go.Proofs.YtjfcocadohgneaaGreat
/- An append to a row of one's own whose block holds no word: it holds none then, either. -/
namespace Go.Proofs.YtjfcocadohgneaaGreat
open Go.RowKit Big

/-- a row of one's own whose block holds no word -/
def RowW (w : World) (base : Nat) (e : TypeId) (size : Nat) (v : Value) (n : Nat) (xs : List Value) : Prop := w.ownsRow base e size v n xs ∧ ∀ g, v.ownBlock = some g → NoWd w g
theorem RowW.nil (w : World) (base : Nat) (e : TypeId) (size : Nat) : RowW w base e size (.slice none 0 0) 0 [] := ⟨World.ownsRow_nil w base e size, fun g h => by cases h⟩
theorem NoWd.keep {w w' : World} {g : Nat} (h : NoWd w g) (e : w'.heap[g]? = w.heap[g]?) : NoWd w' g := fun j n hc => h j n ((World.cell?_of_block (w := w) (a := ⟨g, j, none⟩) e).symm.trans hc)
theorem RowW.stays {w w' : World} {base : Nat} {e : TypeId} {size : Nat} {v : Value} {n : Nat} {xs : List Value} (h : RowW w base e size v n xs) (hb : ∀ g, v.ownBlock = some g → w'.heap[g]? = w.heap[g]?) : RowW w' base e size v n xs :=
  ⟨row_stays h.1 hb, fun g hg => (h.2 g hg).keep (hb g hg)⟩
theorem zeroCells_mem (z : Array Value) : ∀ (k : Nat) (x : Value), x ∈ Builtin.zeroCells z k → x ∈ z := by
  intro k x hx
  unfold Builtin.zeroCells at hx
  obtain ⟨i, hi, rfl⟩ := Array.mem_map.1 hx
  have h0 : 0 < z.size := by
    rcases Nat.eq_zero_or_pos z.size with h | h
    · rw [h] at hi; simp at hi
    · exact h
  have h1 := Nat.mod_lt i h0
  rw [getElem!_pos z _ h1]
  exact Array.getElem_mem h1
theorem run_append_w {P : Program} {w : World} (base : Nat) (t ty e : TypeId) (i : TypeInfo) (z : Value) (size bytes : Nat) (ht : P.underlying t = some (.slice e)) (hi : P.info? e = some i) (hz : i.zero = some z)
    (hsize : i.size = size) (hby : i.bytes = bytes) (hzs : z.cells.size = size) (hsz : 0 < size) (hz0 : ∀ n, .int .u64 n ∉ z.cells)
    (v : Value) (n : Nat) (xs : List Value) (hown : RowW w base e size v n xs)
    (a : Addr) (m c : Nat) (news : List Value) (hl : news.length = m * size) (hnews : ∀ j u, news[j]? = some u → w.cell? (a.add j) = some u) (h1 : ∀ u ∈ news, u.oneCell' = true) (hn0 : ∀ n, .int .u64 n ∉ news)
    (h63 : n + m ≤ maxLen) (hbytes : (n + m) * bytes ≤ 140737488355328) (hbase : base ≤ w.heap.size) :
    ∃ v' w', (Builtin.append_ #[t, t] ty #[v, .slice (some a) m c]).run P w = .ok v' w' ∧ RowW w' base e size v' (n + m) (xs ++ news) ∧ w.grownBy w' v.ownBlock := by
  subst hsize
  subst hby
  obtain ⟨hown, hw⟩ := hown
  have hsmall : n + m ≤ 9223372036854775807 := by simp only [maxLen] at h63; omega
  have hlen : (xs ++ news).length = (n + m) * i.size := by rw [List.length_append, hown.1, hl, Nat.add_mul]
  have hx0 : ∀ q, .int .u64 q ∉ xs := by
    intro q hq
    rcases hown.2 with ⟨rfl, rfl⟩ | ⟨g, cap, cur, rfl, hbg, hg, hnc, hcm, hcs, htake⟩
    · have hx : xs = [] := List.eq_nil_of_length_eq_zero (by simpa using hown.1)
      rw [hx] at hq; cases hq
    · obtain ⟨j, hj, hjq⟩ := List.mem_iff_getElem.1 hq
      have hc := hown.cells (g := g) rfl j (.int .u64 q) (by rw [List.getElem?_eq_getElem hj, hjq])
      rw [Go.WideShapes.add_plain] at hc
      exact hw g rfl _ _ hc
  have grown : ∀ (old : Nat), old < n + m → ∀ (row : Option Nat),
      RowW (w.drew.alloc (.cells (xs.toArray ++ news.toArray ++ Builtin.zeroCells z.cells (grownCap w (n + m) old e - (n + m))) e)) base e i.size
        (.slice (some ⟨w.heap.size, 0, none⟩) (n + m) (grownCap w (n + m) old e)) (n + m) (xs ++ news) ∧
      w.grownBy (w.drew.alloc (.cells (xs.toArray ++ news.toArray ++ Builtin.zeroCells z.cells (grownCap w (n + m) old e - (n + m))) e)) row := by
    intro old ho row
    have hge := grownCap_ge w (n + m) old e
    have hcm : grownCap w (n + m) old e ≤ maxLen := grownCap_le_maxLen w (n + m) old e h63
    refine ⟨⟨⟨hlen, .inr ⟨w.heap.size, _, _, rfl, hbase, heap_alloc_new w.drew _, hge, hcm, ?_, ?_⟩⟩, ?_⟩, ⟨rfl, rfl, rfl, by simp, fun k hk _ => heap_alloc_old w.drew _ hk⟩⟩
    · simp only [Array.size_append, List.size_toArray, size_zeroCells, hzs, hown.1, hl, ← Nat.add_mul]
      congr 1
      omega
    · simp only [Array.toList_append, List.append_assoc]
      rw [← List.append_assoc, ← hlen]
      exact List.take_left
    · intro g hg
      obtain rfl : w.heap.size = g := by simpa [Value.ownBlock] using hg
      refine NoWd.cells (heap_alloc_new w.drew _) (fun q hq => ?_)
      rcases Array.mem_append.1 hq with hq | hq
      · rcases Array.mem_append.1 hq with hq | hq
        · exact hx0 q (by simpa using hq)
        · exact hn0 q (by simpa using hq)
      · exact hz0 q (zeroCells_mem _ _ _ hq)
  rcases hown.2 with ⟨rfl, rfl⟩ | ⟨g, cap, cur, rfl, hbg, hg, hnc, hcm, hcs, htake⟩
  · have hx : xs = [] := List.eq_nil_of_length_eq_zero (by simpa using hown.1)
    subst hx
    by_cases hm : m = 0
    · subst hm
      have hn : news = [] := List.eq_nil_of_length_eq_zero (by simpa using hl)
      subst hn
      refine ⟨.slice none 0 0, w, ?_, RowW.nil w base e i.size, ⟨rfl, rfl, rfl, Nat.le_refl _, fun _ _ _ => rfl⟩⟩
      simp [Builtin.append_, run_underlying ht, sizeOf, typeInfo, hi, Builtin.lenOf, Builtin.firstCells, loadCells, loadCellsFrom]
    · have hr := run_append_nil (P := P) w t ty e i z ht hi hz a m c news hl hnews (by omega) (by omega) (by have hb := hbytes; simp only [Nat.zero_add] at hb; omega)
      have hgr := grown 0 (by omega) (Value.ownBlock (.slice none 0 0))
      simp only [Nat.zero_add, List.nil_append, Array.empty_append] at hgr ⊢
      exact ⟨_, _, hr, hgr.1, hgr.2⟩
  · by_cases hroom : n + m ≤ cap
    · have hfit : n * i.size + news.length ≤ cur.size := by rw [hl, hcs, ← Nat.add_mul]; exact Nat.mul_le_mul_right _ hroom
      have hr := run_append_room (P := P) w t ty e i ht hi g n cap cur hg a m c news hl hnews h1 hroom hfit
      refine ⟨_, _, hr, ⟨⟨hlen, .inr ⟨g, cap, _, rfl, hbg, setRow_heap w g cur _ e _ hg, hroom, hcm, ?_, ?_⟩⟩, ?_⟩, ⟨rfl, rfl, rfl, by simp, fun k _ hk => setRow_other w g k _ (fun e => hk (by simp [Value.ownBlock, e]))⟩⟩
      · simp only [List.size_toArray, List.length_append, List.length_take, List.length_drop, Array.length_toList]
        omega
      · rw [htake, ← hlen]
        exact List.take_left
      · intro g' hg'
        obtain rfl : g = g' := by simpa [Value.ownBlock] using hg'
        have hcur : ∀ q, .int .u64 q ∉ cur.toList := by
          intro q hq
          obtain ⟨j, hj, hjq⟩ := List.mem_iff_getElem.1 hq
          refine hw g rfl j q ?_
          rw [cell_of_row w g j cur e (0, 0) hg]
          simp at hj hjq
          rw [Array.getElem?_eq_getElem hj, hjq]
        refine NoWd.cells (setRow_heap w g cur _ e _ hg) (fun q hq => ?_)
        simp only [List.mem_toArray, List.mem_append] at hq
        rcases hq with hq | hq
        · rcases hq with hq | hq
          · exact hcur q (List.mem_of_mem_take hq)
          · exact hn0 q hq
        · exact hcur q (List.mem_of_mem_drop hq)
    · have holds : ∀ j u, xs[j]? = some u → w.cell? ((⟨g, 0, none⟩ : Addr).add j) = some u := hown.cells (g := g) rfl
      have hr := run_append_grow (P := P) w t ty e i z ht hi hz ⟨g, 0, none⟩ n cap xs hown.1 holds a m c news hl hnews (by omega) (by omega) (growslice_fits (by omega) hbytes)
      have hgr := grown cap (by omega) (Value.ownBlock (.slice (some ⟨g, 0, none⟩) n cap))
      exact ⟨_, _, hr, hgr.1, hgr.2⟩
theorem wpList_append_w {P : Program} {w : World} {ops : Array Oper} {rest : List Oper} {o : Oper} {a : Act} {Q : Exit → Act → World → Prop} (hgd : o.guard = none) (s x : Operand) (t : TypeId)
    (ho : o.op = .call { callee := .builtin .append, args := #[s, x], argTypes := #[t, t] })
    (base : Nat) (e : TypeId) (i : TypeInfo) (z : Value) (size bytes : Nat) (ht : P.underlying t = some (.slice e)) (hi : P.info? e = some i) (hz : i.zero = some z)
    (hsize : i.size = size) (hby : i.bytes = bytes) (hzs : z.cells.size = size) (hsz : 0 < size) (hz0 : ∀ n, .int .u64 n ∉ z.cells)
    (v : Value) (n : Nat) (xs : List Value) (hs : a.eval s = v) (hown : RowW w base e size v n xs)
    (ad : Addr) (m c : Nat) (news : List Value) (hx : a.eval x = .slice (some ad) m c) (hl : news.length = m * size) (hnews : ∀ j u, news[j]? = some u → w.cell? (ad.add j) = some u) (h1 : ∀ u ∈ news, u.oneCell' = true) (hn0 : ∀ n, .int .u64 n ∉ news)
    (h63 : n + m ≤ maxLen) (hbytes : (n + m) * bytes ≤ 140737488355328) (hbase : base ≤ w.heap.size)
    (h : ∀ v' w', RowW w' base e size v' (n + m) (xs ++ news) → w.grownBy w' v.ownBlock → wpList P ops Q rest (a.put o.dst v') w') : wpList P ops Q (o :: rest) a w := by
  refine wpList_plain hgd fun K' hK' => ?_
  obtain ⟨v', w', hr, h2, h3⟩ := run_append_w (P := P) base t o.type e i z size bytes ht hi hz hsize hby hzs hsz hz0 v n xs hown ad m c news hl hnews h1 hn0 h63 hbytes hbase
  unfold Oper.wp
  simp [execOp, ho, resolve, invoke, builtin, hs, hx, hr, Result.andThen]
  exact hK' _ _ (h v' w' h2 h3)
/-- parts in a row of one's own that holds no word -/
def LsW (B : Nat) (w : World) (v : Value) (l : List (Int × Int)) : Prop :=
  ∃ css : List (List Value), css.length = l.length ∧ RowW w B 48 3 v l.length css.flatten ∧ (∀ c ∈ css, c.length = 3) ∧ ∀ i (h : i < l.length) (h' : i < css.length), PtT w css[i] l[i]
theorem LsW.nil (B : Nat) (w : World) : LsW B w (.slice none 0 0) [] := ⟨[], rfl, RowW.nil w B _ _, nofun, fun i h => absurd h (by simp)⟩
theorem LsW.shape {B : Nat} {w : World} {v : Value} {l : List (Int × Int)} (h : LsW B w v l) : ∃ p c, v = .slice p l.length c := by
  obtain ⟨css, h1, h2, h3, h4⟩ := h
  exact ownsRow_shape h2.1
theorem PtT.quiet {w w' : World} {c : List Value} {p : Int × Int} {S : Nat → Prop} (h : PtT w c p) (ha : Apart S w w') (hS : ∀ b, S b → NoWd w b) : PtT w' c p := by
  obtain ⟨s, e, h, k⟩ := h
  exact ⟨s, e, h.quiet ha hS, k⟩
theorem LsW.apart {B : Nat} {w w' : World} {v : Value} {l : List (Int × Int)} {S : Nat → Prop} (h : LsW B w v l) (ha : Apart S w w') (hS : ∀ b, S b → NoWd w b) (hv : ∀ g, v.ownBlock = some g → ¬ S g) : LsW B w' v l := by
  obtain ⟨css, h1, h2, h3, h4⟩ := h
  exact ⟨css, h1, h2.stays (fun g hg => ha.block g (World.ownsRow.lt h2.1 g hg).2 (hv g hg)), h3, fun i hi hi' => (h4 i hi hi').quiet ha hS⟩
theorem LsW.below {B : Nat} {w w' : World} {v : Value} {l : List (Int × Int)} (h : LsW B w v l) (hb : Below w.heap.size w w') : LsW B w' v l := h.apart (S := fun _ => False) (Apart.of_below hb) (fun _ hf => hf.elim) (fun _ _ hf => hf)
theorem LsW.base {B : Nat} {w : World} {v : Value} {l : List (Int × Int)} (h : LsW B w v l) : ∀ g, v.ownBlock = some g → B ≤ g ∧ g < w.heap.size ∧ NoWd w g := by
  obtain ⟨css, h1, h2, h3, h4⟩ := h
  exact fun g hg => ⟨(World.ownsRow.lt h2.1 g hg).1, (World.ownsRow.lt h2.1 g hg).2, h2.2 g hg⟩
theorem LsW.row {B : Nat} {w : World} {v : Value} {l : List (Int × Int)} (h : LsW B w v l) : ∃ xs, RowW w B 48 3 v l.length xs ∧
    ∀ w' v' c x, RowW w' B 48 3 v' (l.length + 1) (xs ++ c) → w.grownBy w' v.ownBlock → c.length = 3 → PtT w c x → LsW B w' v' (l ++ [x]) := by
  obtain ⟨css, h1, h2, h3, h4⟩ := h
  refine ⟨css.flatten, h2, fun w' v' c x hr hg hc hx => ?_⟩
  have ha : Apart (fun k => v.ownBlock = some k) w w' := (Apart.refl _ w).grown hg (fun k e => e)
  refine ⟨css ++ [c], by simp [h1], by simpa using hr, fun d hd => ?_, fun i hi hi' => ?_⟩
  · rcases List.mem_append.1 hd with hd | hd
    · exact h3 d hd
    · rw [List.mem_singleton.1 hd]; exact hc
  · by_cases hlt : i < l.length
    · rw [List.getElem_append_left hlt, List.getElem_append_left (by omega)]
      exact (h4 i hlt (by omega)).quiet ha (fun b hb => h2.2 b hb)
    · have e1 : i = l.length := by simp at hi; omega
      subst e1
      rw [List.getElem_append_right (Nat.le_refl _), List.getElem_append_right (by omega)]
      simpa [h1] using hx.quiet ha (fun b hb => h2.2 b hb)
theorem LsW.pts {B : Nat} {w : World} {v : Value} {l : List (Int × Int)} (h : LsW B w v l) : PtsT w v l := by
  obtain ⟨css, h1, h2, h3, h4⟩ := h
  exact OwnLs.in (e := 48) (B := B) ⟨css, h1, h2.1, h3, h4⟩
end Go.Proofs.YtjfcocadohgneaaGreat
/- elenchusref06.Tight of a sum with parts. -/
namespace Go.Proofs.YtjfcocadohgneaaGreat
open Go.RowKit Big

def lnD (q r : Int) : SFact := ⟨fun v w => ∃ d p n c d' p' n' c', v = .tuple #[.agg #[.bool d, .slice p n c], .agg #[.bool d', .slice p' n' c']] ∧ IntAt w (.agg #[.bool d, .slice p n c]) q ∧ IntAt w (.agg #[.bool d', .slice p' n' c']) r,
  fun _ _ _ ⟨d, p, n, c, d', p', n', c', h1, h2, h3⟩ hb => ⟨d, p, n, c, d', p', n', c', h1, h2.below hb, h3.below hb⟩⟩
/-- a fresh variable of type api.Int -/
def lnP (B : Nat) : SFact := ⟨fun v w => ∃ g, v = .pointer (some ⟨g, 0, none⟩) ∧ Pair w g 39 ∧ B ≤ g, fun _ _ _ ⟨g, h1, h2, h3⟩ hb => ⟨g, h1, h2.below hb, h3⟩⟩
def RTight2 (a : List (Int × Int) × Int) (z : Int) (w : World) (e : Ending) (w' : World) : Prop := ∃ v1 v2, e = .returned (.tuple #[v1, v2]) ∧ LnT w' v1 a ∧ IntAt w' v2 z ∧ Below w.heap.size w w'
theorem lnOver_take (g : Int) (l : List (Int × Int)) (k : Nat) (h : k < l.length) : lnOver g (l.take (k + 1)) = lnOver g (l.take k) ++ [(l[k].1 / g, l[k].2)] := by
  unfold lnOver
  rw [List.take_succ_eq_append_getElem h, List.map_append]
  rfl
set_option maxRecDepth 100000 in
set_option maxHeartbeats 6400000 in
theorem RTight_lin (v : Value) (l : List (Int × Int)) (x : Int) (w : World) {N : Nat} (h : LnR w v (l, x)) (hs : LnSz N (l, x)) (hl : N + N + l.length ≤ 549755813000) (hI : lnIs l) (hl0 : l ≠ []) :
    Calls Tryz.prog 33 #[v] w (RTight2 (lnOver (lnGcd l : Nat) l, 0) ((-x) / (lnGcd l : Nat)) w) := by
  obtain ⟨p0, n0, c0, b0, q0, k0, d0, rfl⟩ := h.agg3
  have HS := hid hs; have HL := hid hl
  obtain ⟨pv, n1, s1, ev, hp, hx⟩ := h
  injection ev with ev
  simp only [Array.mk.injEq, List.cons.injEq, and_true] at ev
  obtain ⟨rfl, e2, rfl⟩ := ev
  injection e2 with e2
  subst e2
  have HX0 := hid (show RawAt w (.agg #[.bool b0, .slice q0 k0 d0]) x from hx)
  obtain ⟨p, cp, ep, j1, j2, -, j4⟩ := (show PtsR w (.slice p0 n0 c0) l from hp)
  injection ep with e1 e2 e3
  subst e1 e2 e3
  have J4 := hid j4
  have hgp := lnGcd_pos hl0 hI.2
  have HG0 : Hid ((lnGcd l : Int) ≠ 0) := hid (by omega)
  have HGz := hid (lnGcd_sz l HS.out.1)
  obtain ⟨W3, hW⟩ : ∃ W3, W3 = (((w.alloc (.cells #[.slice p0 l.length c0, .bool b0, .slice q0 k0 d0] 46)).alloc (.cells #[.slice none 0 0, .bool false, .slice none 0 0] 46)).alloc (.cells #[.bool false, .slice none 0 0] 39)).alloc (.cells #[.bool false, .slice none 0 0] 39) := ⟨_, rfl⟩
  have hb3 : Below w.heap.size w W3 := by rw [hW]; exact (((below1 _ _).alloc (by simp) _).alloc (by simp; omega) _).alloc (by simp; omega) _
  have z3 : W3.heap.size = w.heap.size + 4 := by rw [hW]; simp
  have e0 : W3.heap[w.heap.size]? = some (.cells #[.slice p0 l.length c0, .bool b0, .slice q0 k0 d0] 46 (0, 0)) := by rw [hW, heap_alloc_old _ _ (by simp; omega), heap_alloc_old _ _ (by simp; omega), heap_alloc_old _ _ (by simp)]; exact heap_alloc_new _ _
  have e1 : W3.heap[w.heap.size + 1]? = some (.cells #[.slice none 0 0, .bool false, .slice none 0 0] 46 (0, 0)) := by
    rw [hW, heap_alloc_old _ _ (by simp), heap_alloc_old _ _ (by simp)]
    have := heap_alloc_new (w.alloc (.cells #[.slice p0 l.length c0, .bool b0, .slice q0 k0 d0] 46)) (.cells #[.slice none 0 0, .bool false, .slice none 0 0] 46)
    rwa [size_alloc] at this
  have e2 : W3.heap[w.heap.size + 1 + 1]? = some (.cells #[.bool false, .slice none 0 0] 39 (0, 0)) := by
    rw [hW, heap_alloc_old _ _ (by simp)]
    have := heap_alloc_new ((w.alloc (.cells #[.slice p0 l.length c0, .bool b0, .slice q0 k0 d0] 46)).alloc (.cells #[.slice none 0 0, .bool false, .slice none 0 0] 46)) (.cells #[.bool false, .slice none 0 0] 39)
    rwa [size_alloc, size_alloc] at this
  have e3 : W3.heap[w.heap.size + 1 + 1 + 1]? = some (.cells #[.bool false, .slice none 0 0] 39 (0, 0)) := by
    have := heap_alloc_new (((w.alloc (.cells #[.slice p0 l.length c0, .bool b0, .slice q0 k0 d0] 46)).alloc (.cells #[.slice none 0 0, .bool false, .slice none 0 0] 46)).alloc (.cells #[.bool false, .slice none 0 0] 39)) (.cells #[.bool false, .slice none 0 0] 39)
    rw [size_alloc, size_alloc, size_alloc] at this
    rw [hW]; exact this
  obtain ⟨gG, hgG⟩ : ∃ g, g = w.heap.size + 1 + 1 + 1 := ⟨_, rfl⟩
  have H3 := hid hb3; have E0 := hid e0; have E1 := hid e1; have E2 := hid e2; have Z3 := hid z3
  have HC3 : Hid (LnCell W3 (w.heap.size + 1 + 1 + 1) 0) := hid ⟨none, 0, 0, e3, IntAt.zero _⟩
  obtain ⟨L, hLL⟩ : ∃ L, L = l.length := ⟨_, rfl⟩
  have HLL := hid hLL
  have hLb : L ≤ 549755813000 := by omega
  have hNN : N + N ≤ 549755813000 := by omega
  have y0 := (lnCells3 e0).1
  rw [← hLL] at E0 hW j1 y0 ⊢
  clear e0 e1 e2 e3 hp hx hs hl j4 hb3 hgG gG hLL hgp hI hl0
  go_enter Tryz.func33, Tryz.ntmps33
  go_upto_region 2 with fail
  rw [← hW]
  clear hW
  go_wp2_with fail
  clear y0
  go_loopw [18] (fun i wr => ∃ (k : Nat), k ≤ L ∧ i = .int .i64 (k : Nat) ∧ Hid (LnCell wr (w.heap.size + 1 + 1 + 1) (lnGcd (l.take k) : Nat)) ∧ Hid (Apart (fun k => k = w.heap.size + 1 + 1 + 1) W3 wr)) (fun i _ => L - (intOf i).toNat)
  case atStart => exact ⟨0, Nat.zero_le _, rfl, HC3, hid (Apart.refl _ _)⟩
  case round =>
    obtain ⟨k, hk, rfl, HC, HA⟩ := hrel
    have HBr : Hid (Below w.heap.size w wr) := hid (apart_below (g := w.heap.size + 1 + 1 + 1) (m := w.heap.size + 1 + 1 + 1) H3.out (HA.out.mono (fun k hk => .inl hk)) (by omega) (by omega))
    by_cases hlt : k < L
    · have hkt : k < l.length := by rw [← HLL.out]; exact hlt
      have hlt' : (k : Int) < (L : Int) := by omega
      obtain ⟨b, o, rfl, hb, hc⟩ := J4.out (by omega)
      obtain ⟨cs, kk0, d, s, ecs, hraw, hwf⟩ := hc k hkt
      have hsh := hraw.agg2
      obtain ⟨d', q, n, cq, e2⟩ := hsh
      obtain ⟨rfl, rfl⟩ : s = .slice q n cq ∧ d = d' := by
        injection e2 with e2
        simpa [and_comm] using e2
      clear e2
      subst ecs
      have y0 := (HBr.out.cell (p := ⟨b, o + k * 3, none⟩) hb).trans (kk0 0 _ rfl)
      have y1 := (HBr.out.cell (p := ⟨b, o + k * 3 + 1, none⟩) hb).trans (kk0 1 _ rfl)
      have y2 := (HBr.out.cell (p := ⟨b, o + k * 3 + 2, none⟩) hb).trans (kk0 2 _ rfl)
      have Hnext : Hid (lnGcd (l.take (k + 1)) = Nat.gcd (lnGcd (l.take k)) l[k].1.natAbs) := hid (by rw [List.take_succ_eq_append_getElem hkt, lnGcd_snoc])
      have Hsz := hid (HGz.out k)
      have Hsc := hid (HS.out.1 l[k] (List.getElem_mem hkt))
      have hraw := hraw.below HBr.out
      generalize lnGcd (l.take k) = gg at *
      generalize l[k].1 = c at *
      generalize l[k].2 = t at *
      clear kk0
      have HCo := HC.out
      obtain ⟨pc, nc, cc, hcb, hci⟩ := HCo
      have hlw2 : w.heap.size + 1 + 1 + 1 < wr.heap.size := (Array.getElem?_eq_some_iff.1 hcb).1
      obtain ⟨W5, hW5⟩ : ∃ W5, W5 = wr.alloc (.cells #[.bool d, .slice q n cq, .int .i64 t] 48) := ⟨_, rfl⟩
      have b5 : Below wr.heap.size wr W5 := by rw [hW5]; exact below1 wr _
      have e5 : W5.heap[wr.heap.size]? = some (.cells #[.bool d, .slice q n cq, .int .i64 t] 48 (0, 0)) := by rw [hW5]; exact heap_alloc_new wr _
      obtain ⟨t0, t1, t2⟩ := lnCells3 e5
      obtain ⟨u0, u1, -, -⟩ := two_cells ((b5.block _ hlw2).trans hcb)
      have HGc := hid (RGcd_any _ _ _ _ W5 ((hci.below b5).rawL (by have := Hsz.out; rw [Int.natAbs_natCast]; omega)) (hraw.below b5) (by have := Hsz.out; rw [Int.natAbs_natCast]; omega) (by have := Hsc.out; omega))
      have HB5 := hid b5
      have HC5 := hid (HC.out.below b5)
      have HA5 : Hid (Apart (fun k => k = w.heap.size + 1 + 1 + 1) W3 W5) := hid (HA.out.go (Apart.of_below b5))
      clear hcb hci hraw hwf hc HC b5 e5
      go_upto_region 5 with fail
      rw [← hW5]
      clear hW5
      go_wp2_with fail
      refine HGc.out.mono ?_
      rintro e w6 ⟨v6, rfl, i6, b6⟩
      rw [Int.natAbs_natCast] at i6
      obtain ⟨p6, n6, c6, rfl, i6⟩ := i6.shape
      have hp6 := (HC5.out.below b6).pair
      obtain ⟨_, _, q0, q1, q2, q3⟩ := hp6.cells
      have HC6 := hid (LnCell.put hp6 i6)
      have HA6 := hid ((HA5.out.go (Apart.of_below b6)).go ((apart_set w6 (w.heap.size + 1 + 1 + 1) 0 (.bool (decide (((gg.gcd c.natAbs : Nat) : Int) < 0)))).go (apart_set _ _ 1 (.slice p6 n6 c6))))
      clear i6 hp6 b6 t0 t1 t2 u0 u1 y0 y1 y2
      go_wp2_with fail
      go_roundw
      case rel => exact ⟨k + 1, by omega, by go_num, hid (by rw [Hnext.out]; exact HC6.out), HA6⟩
      case measure => simp [intOf] <;> omega
    · obtain rfl : k = L := by omega
      obtain ⟨wo, rfl⟩ : ∃ wo, wo = wr := ⟨_, rfl⟩
      have hfin : l.take k = l := by rw [HLL.out, List.take_length]
      have hC := HC.out
      have hGs := HGz.out l.length
      rw [List.take_length] at hGs
      rw [hfin] at hC
      obtain ⟨G, hG⟩ : ∃ G : Int, G = (lnGcd l : Nat) := ⟨_, rfl⟩
      have HGs : Hid (sz W G.natAbs ≤ N) := hid (by rw [hG, Int.natAbs_natCast]; exact hGs)
      have hG' := hG
      rw [← hG] at hC HG0
      have HCw := hid hC
      have HGe := hid hG
      have hzr := HA.out.size
      have E0r := hid ((HA.out.block w.heap.size (by have := Z3.out; omega) (by omega)).trans E0.out)
      have E1r := hid ((HA.out.block (w.heap.size + 1) (by have := Z3.out; omega) (by omega)).trans E1.out)
      have E2r := hid ((HA.out.block (w.heap.size + 1 + 1) (by have := Z3.out; omega) (by omega)).trans E2.out)
      obtain ⟨W7, hW7⟩ : ∃ W7, W7 = wo.alloc (.cells #[.slice none 0 0, .bool false, .slice none 0 0] 46) := ⟨_, rfl⟩
      have b7 : Below wo.heap.size wo W7 := by rw [hW7]; exact below1 _ _
      have z7 : W7.heap.size = wo.heap.size + 1 := by rw [hW7, size_alloc]
      have eO : W7.heap[wo.heap.size]? = some (.cells #[.slice none 0 0, .bool false, .slice none 0 0] 46 (0, 0)) := by rw [hW7]; exact heap_alloc_new _ _
      have HO7 := hid eO
      have HC7 := hid (HCw.out.below b7)
      have E0s := hid ((b7.block w.heap.size (by have := Z3.out; omega)).trans E0r.out)
      have E1s := hid ((b7.block (w.heap.size + 1) (by have := Z3.out; omega)).trans E1r.out)
      have E2s := hid ((b7.block (w.heap.size + 1 + 1) (by have := Z3.out; omega)).trans E2r.out)
      have HB7 := hid (lnGo b7 HBr.out)
      obtain ⟨y0, y1, y2⟩ := lnCells3 E0s.out
      clear hC hfin hGs hG hG' HC HA E0 E1 E2 E0r E1r E2r b7 eO
      go_upto_region 8 with fail
      rw [← hW7]
      clear hW7
      go_wp2_with fail
      clear y0 y1 y2
      obtain ⟨i0, hij, hz0, hz1, hz2⟩ := info_parts infoPart
      have zW : w.heap.size + 4 ≤ wo.heap.size := by have := Z3.out; omega
      go_loopw [31] (fun i wr => ∃ (k2 : Nat) (vp : Value), k2 ≤ k ∧ i = .int .i64 (k2 : Nat) ∧ Hid (wr.heap[wo.heap.size]? = some (.cells #[vp, .bool false, .slice none 0 0] 46 (0, 0))) ∧ Hid (LsW W7.heap.size wr vp (lnOver G (l.take k2))) ∧ Hid (Apart (fun j => j = wo.heap.size) W7 wr)) (fun i _ => k - (intOf i).toNat)
      case atStart => exact ⟨0, _, Nat.zero_le _, rfl, HO7, hid (LsW.nil _ _), hid (Apart.refl _ _)⟩
      case round =>
        obtain ⟨k2, vp, hk2, rfl, HO, HLs, HA⟩ := hrel
        have HBr : Hid (Below w.heap.size w wr) := hid (apart_below (g := wo.heap.size) (m := wo.heap.size) HB7.out (HA.out.mono (fun j hj => .inl hj)) (by omega) (by omega))
        have hsr := HA.out.size
        have HCr : Hid (LnCell wr (w.heap.size + 1 + 1 + 1) G) := hid (by
          obtain ⟨pc, nc, cc, hcb, hci⟩ := HC7.out
          have hlt3 := (Array.getElem?_eq_some_iff.1 hcb).1
          exact ⟨pc, nc, cc, (HA.out.block _ hlt3 (by omega)).trans hcb, hci.quiet HA.out (fun b hb => by rw [hb]; exact NoWd.cells HO7.out (by simp))⟩)
        by_cases hlt2 : k2 < k
        · have hkt : k2 < l.length := by rw [← HLL.out]; exact hlt2
          have hlt' : (k2 : Int) < (k : Int) := by omega
          obtain ⟨b, o, rfl, hb, hc⟩ := J4.out (by omega)
          obtain ⟨cs, kk0, d, s, ecs, hraw, hwf⟩ := hc k2 hkt
          have hsh := hraw.agg2
          obtain ⟨d', q, n, cq, e2⟩ := hsh
          obtain ⟨rfl, rfl⟩ : s = .slice q n cq ∧ d = d' := by
            injection e2 with e2
            simpa [and_comm] using e2
          clear e2
          subst ecs
          have y0 := (HBr.out.cell (p := ⟨b, o + k2 * 3, none⟩) hb).trans (kk0 0 _ rfl)
          have y1 := (HBr.out.cell (p := ⟨b, o + k2 * 3 + 1, none⟩) hb).trans (kk0 1 _ rfl)
          have y2 := (HBr.out.cell (p := ⟨b, o + k2 * 3 + 2, none⟩) hb).trans (kk0 2 _ rfl)
          have Hnext := hid (lnOver_take G l k2 hkt)
          have hll : (lnOver G (l.take k2)).length ≤ k2 := by unfold lnOver; rw [List.length_map, List.length_take]; omega
          have Hsc := hid (HS.out.1 l[k2] (List.getElem_mem hkt))
          have hraw := hraw.below HBr.out
          have Hwf := hid hwf
          generalize lnOver G (l.take k2) = qs at *
          generalize l[k2].1 = c at *
          generalize l[k2].2 = t at *
          clear kk0 hc hwf
          have HCo := HCr.out
          obtain ⟨pc, nc, cc, hcb, hci⟩ := HCo
          have hlw2 : w.heap.size + 1 + 1 + 1 < wr.heap.size := (Array.getElem?_eq_some_iff.1 hcb).1
          obtain ⟨W5, hW5⟩ : ∃ W5, W5 = wr.alloc (.cells #[.bool d, .slice q n cq, .int .i64 t] 48) := ⟨_, rfl⟩
          have b5 : Below wr.heap.size wr W5 := by rw [hW5]; exact below1 wr _
          have e5 : W5.heap[wr.heap.size]? = some (.cells #[.bool d, .slice q n cq, .int .i64 t] 48 (0, 0)) := by rw [hW5]; exact heap_alloc_new wr _
          obtain ⟨t0, t1, t2⟩ := lnCells3 e5
          obtain ⟨u0, u1, -, -⟩ := two_cells ((b5.block _ hlw2).trans hcb)
          have HDv := hid (RDiv_any _ _ _ _ W5 (hraw.below b5) ((hci.below b5).rawL (by have := HGs.out; omega)) HG0.out (by have := Hsc.out; omega) (by have := HGs.out; omega))
          have HB5 := hid b5
          have E5 := hid e5
          clear hcb hci hraw b5 e5
          go_upto_region 11 with fail
          rw [← hW5]
          clear hW5
          go_wp2_with fail
          refine HDv.out.mono ?_
          rintro e w6 ⟨v6, u6, rfl, i6, j6, b6⟩
          obtain ⟨p6, n6, c6, rfl, i6⟩ := i6.shape
          obtain ⟨p7, n7, c7, rfl, j6⟩ := j6.shape
          have z6 := b6.size
          obtain ⟨W8, hW8⟩ : ∃ W8, W8 = (w6.alloc (.cells #[.bool (decide (c / G < 0)), .slice p6 n6 c6] 39)).alloc (.cells #[.bool (decide (c % G < 0)), .slice p7 n7 c7] 39) := ⟨_, rfl⟩
          have b8 : Below w6.heap.size w6 W8 := by rw [hW8]; exact (below1 _ _).alloc (by simp) _
          have e8 : W8.heap[w6.heap.size]? = some (.cells #[.bool (decide (c / G < 0)), .slice p6 n6 c6] 39 (0, 0)) := by rw [hW8, heap_alloc_old _ _ (by simp)]; exact heap_alloc_new _ _
          have I8 := hid (i6.below b8)
          have B8 := hid (lnGo b8 (lnGo b6 HB5.out))
          obtain ⟨u0, u1, -, -⟩ := two_cells e8
          have hs8 := B8.out.size
          obtain ⟨t0, t1, t2⟩ := lnCells3 ((b8.block wr.heap.size (by have := HB5.out.size; have h := (Array.getElem?_eq_some_iff.1 E5.out).1; omega)).trans ((b6.block wr.heap.size ((Array.getElem?_eq_some_iff.1 E5.out).1)).trans E5.out))
          have HO8 := hid ((B8.out.block wo.heap.size (by omega)).trans HO.out)
          have HLs8 := hid (HLs.out.below B8.out)
          have HA8 : Hid (Apart (fun j => j = wo.heap.size) W7 W8) := hid (HA.out.go (Apart.of_below B8.out))
          clear i6 j6 b6 b8 e8
          go_upto_region 12 with fail
          rw [← hW8]
          clear hW8 y0 y1 y2
          obtain ⟨y0, y1, y2⟩ := lnCells3 HO8.out
          obtain ⟨W9, hW9⟩ : ∃ W9, W9 = W8.alloc (.cells #[.bool (decide (c / G < 0)), .slice p6 n6 c6, .int .i64 t] 48) := ⟨_, rfl⟩
          have b9 : Below W8.heap.size W8 W9 := by rw [hW9]; exact below1 _ _
          have e9 : W9.heap[W8.heap.size]? = some (.cells #[.bool (decide (c / G < 0)), .slice p6 n6 c6, .int .i64 t] 48 (0, 0)) := by rw [hW9]; exact heap_alloc_new _ _
          have HLs9 := HLs8.out.below b9
          obtain ⟨xs, hrow, hgo⟩ := HLs9.row
          have Hgo := hid hgo; have Hrow := hid hrow
          have Hbase := hid HLs9.base
          have Hpt : Hid (PtT W9 [.bool (decide (c / G < 0)), .slice p6 n6 c6, .int .i64 t] (c / G, t)) := hid ⟨_, rfl, I8.out.below b9, Hwf.out⟩
          have hnews : ∀ j u, ([.bool (decide (c / G < 0)), .slice p6 n6 c6, .int .i64 t] : List Value)[j]? = some u → W9.cell? ((⟨W8.heap.size, 0, none⟩ : Addr).add j) = some u := by
            intro j u hj
            rw [Go.WideShapes.add_plain, Nat.zero_add, cell_of_row _ _ _ _ _ _ e9]
            simpa using hj
          have HO9 := hid ((b9.block wo.heap.size (by omega)).trans HO8.out)
          have HA9 : Hid (Apart (fun j => j = wo.heap.size) W7 W9) := hid (HA8.out.go (Apart.of_below b9))
          have hs9 := b9.size
          have hshv := HLs9.shape
          obtain ⟨pvp, cvp, evp⟩ := hshv
          obtain ⟨nn, hnn⟩ : ∃ nn, nn = qs.length := ⟨_, rfl⟩
          rw [← hnn] at Hrow evp hll
          have Hgo : Hid (∀ (w' : World) (v' : Value) (c' : List Value) (x' : Int × Int), RowW w' W7.heap.size 48 3 v' (nn + 1) (xs ++ c') → W9.grownBy w' vp.ownBlock → c'.length = 3 → PtT W9 c' x' → LsW W7.heap.size w' v' (qs ++ [x'])) := hid (by rw [hnn]; exact Hgo.out)
          clear hrow hgo b9 e9 HLs9 hnn
          subst evp
          go_wp2_with (at_builtin; rw [← hW9]; refine wpList_append_w rfl _ _ 44 rfl W7.heap.size 48 i0 _ 3 40 Tryz.underlying44 hij hz0 hz1 hz2 rfl (by decide) (by intro n h; simp [Value.cells] at h) _ nn xs rfl Hrow.out ⟨W8.heap.size, 0, none⟩ 1 1 [.bool (decide (c / G < 0)), .slice p6 n6 c6, .int .i64 t] rfl rfl hnews (by intro u hu; simp at hu; rcases hu with rfl | rfl | rfl <;> rfl) (by intro n h; simp at h) (by simp [maxLen]; omega) (by omega) (by omega) ?_; intro v10 w10 ho10 hg10; have hsh10 := ownsRow_shape ho10.1; obtain ⟨pv10, cv10, ev10⟩ := hsh10; subst ev10; have hO10 := (hg10.block wo.heap.size (by omega) (by intro e; have := (Hbase.out _ e.symm).1; omega)).trans HO9.out; obtain ⟨z0, z1, z2⟩ := lnCells3 hO10; have fz10 := frozen_of_row w10 wo.heap.size 0 _ _ hO10)
          have HL10 := Hgo.out _ _ _ (c / G, t) ho10 hg10 rfl Hpt.out
          have HL11 := hid (HL10.apart (apart_set w10 wo.heap.size 0 (.slice pv10 (nn + 1) cv10)) (fun b hb => by rw [hb]; exact NoWd.cells hO10 (by simp)) (fun g hg hs => by have := (HL10.base g hg).1; omega))
          have HO11 := hid (heap_setCell_same w10 wo.heap.size 0 _ _ (.slice pv10 (nn + 1) cv10) hO10)
          have HA11 : Hid (Apart (fun j => j = wo.heap.size) W7 (w10.setCell ⟨wo.heap.size, 0, none⟩ (.slice pv10 (nn + 1) cv10))) := hid ((HA9.out.trans ((Apart.refl (fun k => (Value.slice pvp nn cvp).ownBlock = some k) W9).grown hg10 (fun k e => e)) (fun i hi => .inr (Hbase.out i hi).1)).go (apart_set _ _ _ _))
          clear HL10
          go_roundw
          case rel => exact ⟨k2 + 1, _, by omega, by go_num, HO11, hid (by rw [Hnext.out]; exact HL11.out), HA11⟩
          case measure => simp [intOf] <;> omega
        · obtain rfl : k2 = k := by omega
          have hfin2 : l.take k2 = l := by rw [HLL.out, List.take_length]
          have HLf := HLs.out
          rw [hfin2] at HLf
          have HLF := hid HLf
          have hshv := HLf.shape
          obtain ⟨pvp, cvp, evp⟩ := hshv
          subst evp
          generalize (lnOver G l).length = nn at *
          have HCo := HCr.out
          obtain ⟨pc, nc, cc, hcb, hci⟩ := HCo
          have Hcb := hid hcb; have Hci := hid hci
          have E0t := hid ((HA.out.block w.heap.size (by omega) (by omega)).trans E0s.out)
          have E1t := hid ((HA.out.block (w.heap.size + 1) (by omega) (by omega)).trans E1s.out)
          have E2t := hid ((HA.out.block (w.heap.size + 1 + 1) (by omega) (by omega)).trans E2s.out)
          have hltG := (Array.getElem?_eq_some_iff.1 hcb).1
          obtain ⟨nx, hnx⟩ : ∃ nx, nx = -x := ⟨_, rfl⟩
          have HNeg : Hid (∀ w', Below wr.heap.size wr w' → Calls Tryz.prog 20 #[.agg #[.bool b0, .slice q0 k0 d0]] w' (RInt nx w')) := hid (fun w' hb => by rw [hnx]; exact RNeg_any _ x w' ((HX0.out.below HBr.out).below hb))
          have HXs : Hid (sz W nx.natAbs ≤ 549755813888) := hid (by rw [hnx, Int.natAbs_neg]; have := HS.out.2; exact Nat.le_trans this (by omega))
          have Hnx := hid hnx
          clear hcb hci hfin2 HLf HC7 E0s E1s E2s HCr hnx
          go_upto_region 14 with fail
          go_cut [12] (fun s12 wz => ∃ g12, s12 = .pointer (some ⟨g12, 0, none⟩) ∧ LnCell wz g12 (nx / G) ∧ wr.heap.size ≤ g12 ∧ Below wr.heap.size wr wz)
          case first =>
            rename_i Jc Kc hJc hKc
            refine wp_region_late (w0 := wr) 10 2 [53, 54, 55, 56, 57, 52, 58, 59, 12, 13] [undef, undef, undef, undef, undef, undef, undef, undef, undef, undef]
              (fun i => match i with | 0 => lnE (.pointer (some ⟨w.heap.size, 1, none⟩)) | 1 => lnE (.agg #[.bool b0, .slice q0 k0 d0]) | 2 => lnI nx | 3 => lnE (.agg #[.bool (decide (G < 0)), .slice pc nc cc]) | 4 => lnD (nx / G) (nx % G) | 5 => lnD (nx / G) (nx % G) | 6 => lnI (nx / G) | 7 => lnI (nx % G) | 8 => lnP wr.heap.size | _ => lnP wr.heap.size) [8, 9] (by kernel_rfl) (by kernel_rfl) (by kernel_rfl) 7 (by decide) (by kernel_rfl) (by decide) rfl (by kernel_rfl) rfl (by simp) ?he1 ?_ ?_ ?_ ?_
            case he1 => simp only [putAll, Act.put, List.setIfInBounds_toArray, List.set_cons_zero, List.set_cons_succ]
            · intro i hi v w' h
              simp only [List.mem_cons, List.not_mem_nil, or_false] at hi
              rcases hi with rfl | rfl
              · obtain ⟨g, hg, hp, -⟩ := (show (lnP wr.heap.size).P v w' from h); exact ⟨g, hg, hp.lt⟩
              · obtain ⟨g, hg, hp, -⟩ := (show (lnP wr.heap.size).P v w' from h); exact ⟨g, hg, hp.lt⟩
            · intro i o hi ho vs wx hvl hb hdep K hK
              have hvs := vlen10 hvl
              obtain ⟨s53, s54, s55, s56, s57, s52, s58, s59, s12, s13, rfl⟩ := hvs
              clear hvl
              obtain ⟨y0, y1, y2⟩ := lnCells3 ((hb.block w.heap.size (by omega)).trans E0t.out)
              obtain ⟨y3, y4, -, -⟩ := two_cells ((hb.block (w.heap.size + 1 + 1 + 1) hltG).trans Hcb.out)
              rcases i with _ | _ | _ | _ | _ | _ | _ | _ | _ | _ | i
              all_goals (simp only [List.getElem?_toArray, List.getElem?_cons_zero, List.getElem?_cons_succ, Option.some.injEq] at ho)
              all_goals try (subst ho)
              all_goals try simp only [putAll, Act.put, List.setIfInBounds_toArray, List.set_cons_zero, List.set_cons_succ]
              · go_simp
                have hK' := hK.out
                simp only [putAll, Act.put, List.setIfInBounds_toArray, List.set_cons_zero, List.set_cons_succ] at hK'
                exact hK' _ _ rfl (Below.refl _ _) (by simp)
              · have e0 : s53 = _ := hdep ⟨0, .data⟩ (by simp) rfl
                have e0 := e0.symm
                subst e0
                go_simp
                have hK' := hK.out
                simp only [putAll, Act.put, List.setIfInBounds_toArray, List.set_cons_zero, List.set_cons_succ] at hK'
                exact hK' _ _ rfl (Below.refl _ _) (by simp)
              · have e1 : s54 = _ := hdep ⟨1, .data⟩ (by simp) rfl
                have e1 := e1.symm
                subst e1
                go_simp
                refine (HNeg.out wx hb).mono ?_
                rintro e wy ⟨vy, rfl, iy, hby⟩
                have hsh := iy.shape
                obtain ⟨p5, n5, c5, rfl, iy⟩ := hsh
                go_wp2_with fail
                have hK' := hK.out
                simp only [putAll, Act.put, List.setIfInBounds_toArray, List.set_cons_zero, List.set_cons_succ] at hK'
                exact hK' _ _ ⟨_, _, _, _, rfl, iy⟩ hby (by simp)
              · go_simp
                have hK' := hK.out
                simp only [putAll, Act.put, List.setIfInBounds_toArray, List.set_cons_zero, List.set_cons_succ] at hK'
                exact hK' _ _ rfl (Below.refl _ _) (by simp)
              · have e2 : (lnI nx).P s55 wx := hdep ⟨2, .data⟩ (by simp) rfl
                obtain ⟨da2, pa2, na2, ca2, rfl, ia2⟩ := e2
                have e3 : s56 = _ := hdep ⟨3, .data⟩ (by simp) rfl
                have e3 := e3.symm
                subst e3
                go_simp
                refine (RDiv_any _ _ nx G wx (ia2.rawL (Nat.le_trans HXs.out (by decide))) ((Hci.out.below hb).rawL (by have := HGs.out; omega)) HG0.out HXs.out (by have := HGs.out; omega)).mono ?_
                rintro e wy ⟨vy, vz, rfl, iy, iz, hby⟩
                have hsh := iy.shape
                obtain ⟨p5, n5, c5, rfl, iy⟩ := hsh
                have hsh := iz.shape
                obtain ⟨p6, n6, c6, rfl, iz⟩ := hsh
                go_wp2_with fail
                have hK' := hK.out
                simp only [putAll, Act.put, List.setIfInBounds_toArray, List.set_cons_zero, List.set_cons_succ] at hK'
                exact hK' _ _ ⟨_, _, _, _, _, _, _, _, rfl, iy, iz⟩ hby (by simp)
              · have e4 : (lnD (nx / G) (nx % G)).P s57 wx := hdep ⟨4, .data⟩ (by simp) rfl
                obtain ⟨da, pa, na, ca, db, pb, nb, cb, rfl, ia, ib⟩ := e4
                go_simp
                go_simp
                have hK' := hK.out
                simp only [putAll, Act.put, List.setIfInBounds_toArray, List.set_cons_zero, List.set_cons_succ] at hK'
                exact hK' _ _ ⟨_, _, _, _, _, _, _, _, rfl, ia, ib⟩ (Below.refl _ _) (by simp)
              · have e5 : (lnD (nx / G) (nx % G)).P s52 wx := hdep ⟨5, .data⟩ (by simp) rfl
                obtain ⟨da, pa, na, ca, db, pb, nb, cb, rfl, ia, ib⟩ := e5
                go_simp
                go_simp
                have hK' := hK.out
                simp only [putAll, Act.put, List.setIfInBounds_toArray, List.set_cons_zero, List.set_cons_succ] at hK'
                exact hK' _ _ ⟨_, _, _, _, rfl, ia⟩ (Below.refl _ _) (by simp)
              · have e5 : (lnD (nx / G) (nx % G)).P s52 wx := hdep ⟨5, .data⟩ (by simp) rfl
                obtain ⟨da, pa, na, ca, db, pb, nb, cb, rfl, ia, ib⟩ := e5
                go_simp
                go_simp
                have hK' := hK.out
                simp only [putAll, Act.put, List.setIfInBounds_toArray, List.set_cons_zero, List.set_cons_succ] at hK'
                exact hK' _ _ ⟨_, _, _, _, rfl, ib⟩ (Below.refl _ _) (by simp)
              · go_simp
                go_simp
                have hK' := hK.out
                simp only [putAll, Act.put, List.setIfInBounds_toArray, List.set_cons_zero, List.set_cons_succ] at hK'
                exact hK' _ _ ⟨_, rfl, Pair.new .., hb.size⟩ (below1 _ _) (fun _ => rfl)
              · go_simp
                go_simp
                have hK' := hK.out
                simp only [putAll, Act.put, List.setIfInBounds_toArray, List.set_cons_zero, List.set_cons_succ] at hK'
                exact hK' _ _ ⟨_, rfl, Pair.new .., hb.size⟩ (below1 _ _) (fun _ => rfl)
              · omega
            · intro vs wx hvl hb hf hdist
              have hvs := vlen10 hvl
              obtain ⟨s53, s54, s55, s56, s57, s52, s58, s59, s12, s13, rfl⟩ := hvs
              have f6 : (lnI (nx / G)).P s58 wx := hf 6 (by decide)
              have f8 : (lnP wr.heap.size).P s12 wx := hf 8 (by decide)
              have f9 : (lnP wr.heap.size).P s13 wx := hf 9 (by decide)
              have hne0 : s12 ≠ s13 := hdist 8 (by simp) 9 (by simp) (by decide)
              have f7 : (lnI (nx % G)).P s59 wx := hf 7 (by decide)
              obtain ⟨d7, p7, n7, c7, rfl, -⟩ := f7
              obtain ⟨d6, p6, n6, c6, e6, i6⟩ := f6
              obtain ⟨g12, rfl, hp12, hg12⟩ := f8
              obtain ⟨g13, rfl, hp13, hg13⟩ := f9
              have hne : g12 ≠ g13 := fun e => hne0 (by rw [e])
              subst e6
              have hsh := i6.shape
              obtain ⟨px9, nx9, cx9, e9, i9⟩ := hsh
              injection e9 with e9
              obtain ⟨rfl, rfl, rfl, rfl⟩ : d6 = decide (nx / G < 0) ∧ p6 = px9 ∧ n6 = nx9 ∧ c6 = cx9 := by simpa using e9
              have hcc := hp12.cells
              obtain ⟨_, _, q0, q1, q2, q3⟩ := hcc
              have hsx := hb.size
              have hBx := hid (hb.mono (B' := wr.heap.size) (Nat.le_refl _))
              clear hf hdist hvl hne0 i6 e9
              refine wpAny_one (i := 10) (by kernel_rfl) rfl ?_
              intro K hK
              simp only [putAll, Act.put, List.setIfInBounds_toArray, List.set_cons_zero, List.set_cons_succ]
              go_simp
              have hK' := hK.out
              apply hK'
              clear hK hK'
              have hC12 := LnCell.put hp12 i9
              have hp13' := (hp13.other (g' := g12) (fun e => hne e.symm) 0 (.bool (decide (nx / G < 0)))).other (g' := g12) (fun e => hne e.symm) 1 (.slice p6 n6 c6)
              have HBy := hid (Below.stored hBx.out (g := g12) hg12 (.bool (decide (nx / G < 0))) (.slice p6 n6 c6))
              clear q0 q1 q2 q3 hp12 hp13 i9 hBx hb
              generalize ((wx.setCell ⟨g12, 0, none⟩ (.bool (decide (nx / G < 0)))).setCell ⟨g12, 1, none⟩ (.slice p6 n6 c6)) = wy at *
              have hcc := hp13'.cells
              obtain ⟨_, _, q0, q1, q2, q3⟩ := hcc
              refine wpAny_one (i := 11) (by kernel_rfl) rfl ?_
              intro K hK
              go_simp
              have hK' := hK.out
              apply hK'
              clear hK hK'
              refine wpAny_done (by kernel_rfl) ?_ _
              have hnw13 : NoWd wy g13 := by
                obtain ⟨x', p', n', c', h'⟩ := hp13'
                exact NoWd.cells h' (by simp)
              have hA13 := (apart_set wy g13 0 (.bool d7)).go (apart_set _ g13 1 (.slice p7 n7 c7))
              have HBz := Below.stored HBy.out (g := g13) hg13 (.bool d7) (.slice p7 n7 c7)
              have hC13 : LnCell ((wy.setCell ⟨g13, 0, none⟩ (.bool d7)).setCell ⟨g13, 1, none⟩ (.slice p7 n7 c7)) g12 (nx / G) := by
                obtain ⟨pc', nc', cc', hcb', hci'⟩ := hC12
                exact ⟨pc', nc', cc', (hA13.block g12 (Array.getElem?_eq_some_iff.1 hcb').1 hne).trans hcb', hci'.quiet hA13 (fun b hb => by rw [hb]; exact hnw13)⟩
              refine hKc _ _ (Met.intro (hJc _ _ ?_))
              (repeat apply Exists.intro)
              exact ⟨⟨g12, rfl, hC13, hg12, HBz⟩, rfl⟩
            · intro vs wx hvl hb hf hdist
              have hvs := vlen10 hvl
              obtain ⟨s53, s54, s55, s56, s57, s52, s58, s59, s12, s13, rfl⟩ := hvs
              have f6 : (lnI (nx / G)).P s58 wx := hf 6 (by decide) (by decide)
              have f8 : (lnP wr.heap.size).P s12 wx := hf 8 (by decide) (by decide)
              have f9 : (lnP wr.heap.size).P s13 wx := hf 9 (by decide) (by decide)
              have hne0 : s12 ≠ s13 := hdist 8 (by simp) 9 (by simp) (by decide) (by decide) (by decide)
              have f5 : (lnD (nx / G) (nx % G)).P s52 wx := hf 5 (by decide) (by decide)
              obtain ⟨d9, p9, m9, c9, d7, p7, n7, c7, rfl, -, -⟩ := f5
              obtain ⟨d6, p6, n6, c6, e6, i6⟩ := f6
              obtain ⟨g12, rfl, hp12, hg12⟩ := f8
              obtain ⟨g13, rfl, hp13, hg13⟩ := f9
              have hne : g12 ≠ g13 := fun e => hne0 (by rw [e])
              subst e6
              have hsh := i6.shape
              obtain ⟨px9, nx9, cx9, e9, i9⟩ := hsh
              injection e9 with e9
              obtain ⟨rfl, rfl, rfl, rfl⟩ : d6 = decide (nx / G < 0) ∧ p6 = px9 ∧ n6 = nx9 ∧ c6 = cx9 := by simpa using e9
              have hcc := hp12.cells
              obtain ⟨_, _, q0, q1, q2, q3⟩ := hcc
              have hsx := hb.size
              have hBx := hid (hb.mono (B' := wr.heap.size) (Nat.le_refl _))
              clear hf hdist hvl hne0 i6 e9
              refine wpAny_two (i := 7) (j := 10) (by kernel_rfl) rfl rfl ?_ ?_
              · intro K hK
                simp only [putAll, Act.put, List.setIfInBounds_toArray, List.set_cons_zero, List.set_cons_succ]
                go_simp
                have hK' := hK.out
                apply hK'
                clear hK hK'
                refine wpAny_one (i := 10) (by kernel_rfl) rfl ?_
                intro K hK
                go_simp
                have hK' := hK.out
                apply hK'
                clear hK hK'
                have hC12 := LnCell.put hp12 i9
                have hp13' := (hp13.other (g' := g12) (fun e => hne e.symm) 0 (.bool (decide (nx / G < 0)))).other (g' := g12) (fun e => hne e.symm) 1 (.slice p6 n6 c6)
                have HBy := hid (Below.stored hBx.out (g := g12) hg12 (.bool (decide (nx / G < 0))) (.slice p6 n6 c6))
                clear q0 q1 q2 q3 hp12 hp13 i9 hBx hb
                generalize ((wx.setCell ⟨g12, 0, none⟩ (.bool (decide (nx / G < 0)))).setCell ⟨g12, 1, none⟩ (.slice p6 n6 c6)) = wy at *
                have hcc := hp13'.cells
                obtain ⟨_, _, q0, q1, q2, q3⟩ := hcc
                refine wpAny_one (i := 11) (by kernel_rfl) rfl ?_
                intro K hK
                go_simp
                have hK' := hK.out
                apply hK'
                clear hK hK'
                refine wpAny_done (by kernel_rfl) ?_ _
                have hnw13 : NoWd wy g13 := by
                  obtain ⟨x', p', n', c', h'⟩ := hp13'
                  exact NoWd.cells h' (by simp)
                have hA13 := (apart_set wy g13 0 (.bool d7)).go (apart_set _ g13 1 (.slice p7 n7 c7))
                have HBz := Below.stored HBy.out (g := g13) hg13 (.bool d7) (.slice p7 n7 c7)
                have hC13 : LnCell ((wy.setCell ⟨g13, 0, none⟩ (.bool d7)).setCell ⟨g13, 1, none⟩ (.slice p7 n7 c7)) g12 (nx / G) := by
                  obtain ⟨pc', nc', cc', hcb', hci'⟩ := hC12
                  exact ⟨pc', nc', cc', (hA13.block g12 (Array.getElem?_eq_some_iff.1 hcb').1 hne).trans hcb', hci'.quiet hA13 (fun b hb => by rw [hb]; exact hnw13)⟩
                refine hKc _ _ (Met.intro (hJc _ _ ?_))
                (repeat apply Exists.intro)
                exact ⟨⟨g12, rfl, hC13, hg12, HBz⟩, rfl⟩
              · intro K hK
                simp only [putAll, Act.put, List.setIfInBounds_toArray, List.set_cons_zero, List.set_cons_succ]
                go_simp
                have hK' := hK.out
                apply hK'
                clear hK hK'
                have hC12 := LnCell.put hp12 i9
                have hp13' := (hp13.other (g' := g12) (fun e => hne e.symm) 0 (.bool (decide (nx / G < 0)))).other (g' := g12) (fun e => hne e.symm) 1 (.slice p6 n6 c6)
                have HBy := hid (Below.stored hBx.out (g := g12) hg12 (.bool (decide (nx / G < 0))) (.slice p6 n6 c6))
                clear q0 q1 q2 q3 hp12 hp13 i9 hBx hb
                generalize ((wx.setCell ⟨g12, 0, none⟩ (.bool (decide (nx / G < 0)))).setCell ⟨g12, 1, none⟩ (.slice p6 n6 c6)) = wy at *
                have hcc := hp13'.cells
                obtain ⟨_, _, q0, q1, q2, q3⟩ := hcc
                refine wpAny_one (i := 7) (by kernel_rfl) rfl ?_
                intro K hK
                go_simp
                have hK' := hK.out
                apply hK'
                clear hK hK'
                refine wpAny_one (i := 11) (by kernel_rfl) rfl ?_
                intro K hK
                go_simp
                have hK' := hK.out
                apply hK'
                clear hK hK'
                refine wpAny_done (by kernel_rfl) ?_ _
                have hnw13 : NoWd wy g13 := by
                  obtain ⟨x', p', n', c', h'⟩ := hp13'
                  exact NoWd.cells h' (by simp)
                have hA13 := (apart_set wy g13 0 (.bool d7)).go (apart_set _ g13 1 (.slice p7 n7 c7))
                have HBz := Below.stored HBy.out (g := g13) hg13 (.bool d7) (.slice p7 n7 c7)
                have hC13 : LnCell ((wy.setCell ⟨g13, 0, none⟩ (.bool d7)).setCell ⟨g13, 1, none⟩ (.slice p7 n7 c7)) g12 (nx / G) := by
                  obtain ⟨pc', nc', cc', hcb', hci'⟩ := hC12
                  exact ⟨pc', nc', cc', (hA13.block g12 (Array.getElem?_eq_some_iff.1 hcb').1 hne).trans hcb', hci'.quiet hA13 (fun b hb => by rw [hb]; exact hnw13)⟩
                refine hKc _ _ (Met.intro (hJc _ _ ?_))
                (repeat apply Exists.intro)
                exact ⟨⟨g12, rfl, hC13, hg12, HBz⟩, rfl⟩
          case rest =>
            obtain ⟨g12, rfl, hC12, hg12, hBz⟩ := hcut
            obtain ⟨pq, nq, cq', hqb, hqi⟩ := hC12
            have hwoz := (hBz.block wo.heap.size (by omega)).trans HO.out
            have he1 := (hBz.block (w.heap.size + 1) (by omega)).trans E1t.out
            have he2 := (hBz.block (w.heap.size + 1 + 1) (by omega)).trans E2t.out
            have hLz := HLF.out.below hBz
            have Hwoz := hid hwoz; have He1 := hid he1; have He2 := hid he2; have HLz := hid hLz; have Hqb := hid hqb; have Hqi := hid hqi
            have HBwz := hid (hBz.trans (Below.refl _ _))
            have HBww := hid (lnGo hBz HBr.out)
            have hzz := hBz.size
            have hl12 := (Array.getElem?_eq_some_iff.1 hqb).1
            clear hwoz he1 he2 hLz hqb hqi hBz HO HLs HLF HA E0t E1t E2t Hcb Hci HNeg HXs
            go_upto_region 15 with fail
            refine wp_region_late (w0 := _) 2 2 [60, 61] [u60, u61]
              (fun i => match i with | 0 => lnE (.agg #[.slice pvp nn cvp, .bool false, .slice none 0 0]) | _ => lnE (.agg #[.bool (decide (nx / G < 0)), .slice pq nq cq'])) [] (by kernel_rfl) (by kernel_rfl) (by kernel_rfl) 1 (by decide) (by kernel_rfl) (by decide) rfl (by kernel_rfl) rfl (by simp) ?he2 ?_ ?_ ?_ ?_
            case he2 => simp only [putAll, Act.put, List.setIfInBounds_toArray, List.set_cons_zero, List.set_cons_succ]
            · intro i hi; simp at hi
            · intro i o hi ho vs wx hvl hb hdep K hK
              have hvs := vlen2 hvl
              obtain ⟨s60, s61, rfl⟩ := hvs
              clear hvl
              obtain ⟨y0, y1, y2⟩ := lnCells3 ((hb.block wo.heap.size (by omega)).trans Hwoz.out)
              obtain ⟨y3, y4, -, -⟩ := two_cells ((hb.block g12 hl12).trans Hqb.out)
              rcases i with _ | _ | i
              all_goals (simp only [List.getElem?_toArray, List.getElem?_cons_zero, List.getElem?_cons_succ, Option.some.injEq] at ho)
              all_goals try (subst ho)
              all_goals try simp only [putAll, Act.put, List.setIfInBounds_toArray, List.set_cons_zero, List.set_cons_succ]
              · go_simp
                have hK' := hK.out
                simp only [putAll, Act.put, List.setIfInBounds_toArray, List.set_cons_zero, List.set_cons_succ] at hK'
                exact hK' _ _ rfl (Below.refl _ _) (by simp)
              · go_simp
                have hK' := hK.out
                simp only [putAll, Act.put, List.setIfInBounds_toArray, List.set_cons_zero, List.set_cons_succ] at hK'
                exact hK' _ _ rfl (Below.refl _ _) (by simp)
              · omega
            · intro vs wx hvl hb hf hdist
              have hvs := vlen2 hvl
              obtain ⟨s60, s61, rfl⟩ := hvs
              have f0 : s60 = _ := hf 0 (by decide)
              have f1 : s61 = _ := hf 1 (by decide)
              have f0 := f0.symm
              have f1 := f1.symm
              subst f0 f1
              clear hf hvl hdist
              have e1 := (hb.block (w.heap.size + 1) (by omega)).trans He1.out
              have e2 := (hb.block (w.heap.size + 1 + 1) (by omega)).trans He2.out
              obtain ⟨x0, x1, x2⟩ := lnCells3 e1
              have fz0 := frozen_of_row wx (w.heap.size + 1) 0 _ _ e1
              have fz1 := frozen_of_row wx (w.heap.size + 1) 1 _ _ e1
              have fz2 := frozen_of_row wx (w.heap.size + 1) 2 _ _ e1
              obtain ⟨x3, x4, fz3, fz4⟩ := two_cells e2
              have HLx := HLz.out.below hb
              have HBx := lnGo hb HBww.out
              have hsx := hb.size
              obtain ⟨wF, hwF⟩ : ∃ wF, wF = ((st3 wx (w.heap.size + 1) (.slice pvp nn cvp) (.bool false) (.slice none 0 0)).setCell ⟨w.heap.size + 1 + 1, 0, none⟩ (.bool (decide (nx / G < 0)))).setCell ⟨w.heap.size + 1 + 1, 1, none⟩ (.slice pq nq cq') := ⟨_, rfl⟩
              have hA : Apart (fun k => k = w.heap.size + 1 ∨ k = w.heap.size + 1 + 1) wx wF := by
                rw [hwF]
                exact ((st3_apart _ _ _ _ _).mono (fun k h => Or.inl h)).go (((apart_set _ _ _ _).go (apart_set _ _ _ _)).mono (fun k h => Or.inr h))
              have hni : ∀ b, (b = w.heap.size + 1 ∨ b = w.heap.size + 1 + 1) → NoWd wx b := by
                intro b hb'
                rcases hb' with rfl | rfl
                · exact NoWd.cells e1 (by simp)
                · exact NoWd.cells e2 (by simp)
              have HLF := hid ((HLx.apart hA hni (fun g hg hs => by have := (HLx.base g hg).1; omega)).pts)
              have HIF := hid ((Hqi.out.below hb).quiet hA hni)
              have HBF : Hid (Below w.heap.size w wF) := hid (by rw [hwF]; exact Below.stored (st3_below HBx (by omega) _ _ _) (by omega) _ _)
              clear HLx hA hni e1 e2
              refine wpAny_one (i := 2) (by kernel_rfl) rfl ?_
              intro K hK
              simp only [putAll, Act.put, List.setIfInBounds_toArray, List.set_cons_zero, List.set_cons_succ]
              have hK' := hK.out
              go_simp
              apply hK'
              clear hK hK'
              refine wpAny_one (i := 3) (by kernel_rfl) rfl ?_
              intro K hK
              have hK' := hK.out
              go_simp
              apply hK'
              clear hK hK'
              refine wpAny_done (by kernel_rfl) ?_ _
              go_wp2
              exact bodyPost_ret (v := .tuple #[.agg #[.slice pvp nn cvp, .bool false, .slice none 0 0], .agg #[.bool (decide (nx / G < 0)), .slice pq nq cq']]) (by simp [results, Tryz.results33, go_sem, x0, x1, x2, x3, x4]) rfl
                (by have h1 := HLF.out; have h2 := HIF.out; have h3 := HBF.out; rw [hwF] at h1 h2 h3; rw [← HGe.out, ← Hnx.out]; exact ⟨_, _, rfl, ⟨_, _, rfl, h1, IntAt.zero _⟩, h2, h3⟩)
            · intro vs wx hvl hb hf hdist
              have hvs := vlen2 hvl
              obtain ⟨s60, s61, rfl⟩ := hvs
              have f0 : s60 = _ := hf 0 (by decide) (by decide)
              have f0 := f0.symm
              subst f0
              clear hf hvl hdist
              obtain ⟨y0, y1, y2⟩ := lnCells3 ((hb.block wo.heap.size (by omega)).trans Hwoz.out)
              obtain ⟨y3, y4, -, -⟩ := two_cells ((hb.block g12 hl12).trans Hqb.out)
              have e1 := (hb.block (w.heap.size + 1) (by omega)).trans He1.out
              have e2 := (hb.block (w.heap.size + 1 + 1) (by omega)).trans He2.out
              obtain ⟨x0, x1, x2⟩ := lnCells3 e1
              have fz0 := frozen_of_row wx (w.heap.size + 1) 0 _ _ e1
              have fz1 := frozen_of_row wx (w.heap.size + 1) 1 _ _ e1
              have fz2 := frozen_of_row wx (w.heap.size + 1) 2 _ _ e1
              obtain ⟨x3, x4, fz3, fz4⟩ := two_cells e2
              have HLx := HLz.out.below hb
              have HBx := lnGo hb HBww.out
              have hsx := hb.size
              obtain ⟨wF, hwF⟩ : ∃ wF, wF = ((st3 wx (w.heap.size + 1) (.slice pvp nn cvp) (.bool false) (.slice none 0 0)).setCell ⟨w.heap.size + 1 + 1, 0, none⟩ (.bool (decide (nx / G < 0)))).setCell ⟨w.heap.size + 1 + 1, 1, none⟩ (.slice pq nq cq') := ⟨_, rfl⟩
              have hA : Apart (fun k => k = w.heap.size + 1 ∨ k = w.heap.size + 1 + 1) wx wF := by
                rw [hwF]
                exact ((st3_apart _ _ _ _ _).mono (fun k h => Or.inl h)).go (((apart_set _ _ _ _).go (apart_set _ _ _ _)).mono (fun k h => Or.inr h))
              have hni : ∀ b, (b = w.heap.size + 1 ∨ b = w.heap.size + 1 + 1) → NoWd wx b := by
                intro b hb'
                rcases hb' with rfl | rfl
                · exact NoWd.cells e1 (by simp)
                · exact NoWd.cells e2 (by simp)
              have HLF := hid ((HLx.apart hA hni (fun g hg hs => by have := (HLx.base g hg).1; omega)).pts)
              have HIF := hid ((Hqi.out.below hb).quiet hA hni)
              have HBF : Hid (Below w.heap.size w wF) := hid (by rw [hwF]; exact Below.stored (st3_below HBx (by omega) _ _ _) (by omega) _ _)
              clear HLx hA hni e1 e2
              have y3b := (World.cell?_of_block (w := wx) (a := ⟨g12, 0, none⟩) ((st3_apart wx (w.heap.size + 1) (.slice pvp nn cvp) (.bool false) (.slice none 0 0)).block g12 (by omega) (by omega))).trans y3
              have y4b := (World.cell?_of_block (w := wx) (a := ⟨g12, 1, none⟩) ((st3_apart wx (w.heap.size + 1) (.slice pvp nn cvp) (.bool false) (.slice none 0 0)).block g12 (by omega) (by omega))).trans y4
              simp only [st3] at y3b y4b
              refine wpAny_two (i := 1) (j := 2) (by kernel_rfl) rfl rfl ?_ ?_
              · intro K hK
                simp only [putAll, Act.put, List.setIfInBounds_toArray, List.set_cons_zero, List.set_cons_succ]
                have hK' := hK.out
                go_simp
                apply hK'
                clear hK hK'
                refine wpAny_one (i := 2) (by kernel_rfl) rfl ?_
                intro K hK
                have hK' := hK.out
                go_simp
                apply hK'
                clear hK hK'
                refine wpAny_one (i := 3) (by kernel_rfl) rfl ?_
                intro K hK
                have hK' := hK.out
                go_simp
                apply hK'
                clear hK hK'
                refine wpAny_done (by kernel_rfl) ?_ _
                go_wp2
                exact bodyPost_ret (v := .tuple #[.agg #[.slice pvp nn cvp, .bool false, .slice none 0 0], .agg #[.bool (decide (nx / G < 0)), .slice pq nq cq']]) (by simp [results, Tryz.results33, go_sem, x0, x1, x2, x3, x4]) rfl
                  (by have h1 := HLF.out; have h2 := HIF.out; have h3 := HBF.out; rw [hwF] at h1 h2 h3; rw [← HGe.out, ← Hnx.out]; exact ⟨_, _, rfl, ⟨_, _, rfl, h1, IntAt.zero _⟩, h2, h3⟩)
              · intro K hK
                simp only [putAll, Act.put, List.setIfInBounds_toArray, List.set_cons_zero, List.set_cons_succ]
                have hK' := hK.out
                go_simp
                apply hK'
                clear hK hK'
                refine wpAny_one (i := 1) (by kernel_rfl) rfl ?_
                intro K hK
                have hK' := hK.out
                go_simp
                apply hK'
                clear hK hK'
                refine wpAny_one (i := 3) (by kernel_rfl) rfl ?_
                intro K hK
                have hK' := hK.out
                go_simp
                apply hK'
                clear hK hK'
                refine wpAny_done (by kernel_rfl) ?_ _
                go_wp2
                exact bodyPost_ret (v := .tuple #[.agg #[.slice pvp nn cvp, .bool false, .slice none 0 0], .agg #[.bool (decide (nx / G < 0)), .slice pq nq cq']]) (by simp [results, Tryz.results33, go_sem, x0, x1, x2, x3, x4]) rfl
                  (by have h1 := HLF.out; have h2 := HIF.out; have h3 := HBF.out; rw [hwF] at h1 h2 h3; rw [← HGe.out, ← Hnx.out]; exact ⟨_, _, rfl, ⟨_, _, rfl, h1, IntAt.zero _⟩, h2, h3⟩)
end Go.Proofs.YtjfcocadohgneaaGreat
/- elenchusref06.Same of two told sums that are one. -/
namespace Go.Proofs.YtjfcocadohgneaaGreat
open Go.RowKit Big

theorem vlen29 {vs : List Value} (h : vs.length = 29) : ∃ v0 v1 v2 v3 v4 v5 v6 v7 v8 v9 v10 v11 v12 v13 v14 v15 v16 v17 v18 v19 v20 v21 v22 v23 v24 v25 v26 v27 v28, vs = [v0, v1, v2, v3, v4, v5, v6, v7, v8, v9, v10, v11, v12, v13, v14, v15, v16, v17, v18, v19, v20, v21, v22, v23, v24, v25, v26, v27, v28] := by
  match vs, h with
  | v0 :: v1 :: v2 :: v3 :: v4 :: v5 :: v6 :: v7 :: v8 :: v9 :: v10 :: v11 :: v12 :: v13 :: v14 :: v15 :: v16 :: v17 :: v18 :: v19 :: v20 :: v21 :: v22 :: v23 :: v24 :: v25 :: v26 :: v27 :: v28 :: [], _ => exact ⟨v0, v1, v2, v3, v4, v5, v6, v7, v8, v9, v10, v11, v12, v13, v14, v15, v16, v17, v18, v19, v20, v21, v22, v23, v24, v25, v26, v27, v28, rfl⟩
set_option maxRecDepth 100000 in
set_option maxHeartbeats 12800000 in
theorem Same6_true (va vb : Value) (a : List (Int × Int) × Int) (w : World) (ha : LnT w va a) (hb : LnT w vb a) (hl : a.1.length ≤ 1000000000000) : Calls Tryz.prog 25 #[va, vb] w (RBool true w) := by
  obtain ⟨l, x⟩ := a
  obtain ⟨pv, s, rfl, ⟨pa, ca, rfl, ia1, -, -, ia4⟩, hxa⟩ := ha
  obtain ⟨pv', s', rfl, ⟨pb, cb, rfl, ib1, -, -, ib4⟩, hxb⟩ := hb
  have hl : l.length ≤ 1000000000000 := hl
  have ia1 : l.length ≤ ca := ia1
  have ib1 : l.length ≤ cb := ib1
  have HA4 := hid ia4; have HB4 := hid ib4
  have hsh := hxa.shape
  obtain ⟨px, nx, cx, ex, hxa⟩ := hsh
  injection ex with ex
  obtain rfl : s = .slice px nx cx := by simpa using ex
  have hsh := hxb.shape
  obtain ⟨py, ny, cy, ey, hxb⟩ := hsh
  injection ey with ey
  obtain rfl : s' = .slice py ny cy := by simpa using ey
  clear ex ey
  show Calls Tryz.prog 25 #[.agg #[.slice pa l.length ca, .bool (decide (x < 0)), .slice px nx cx], .agg #[.slice pb l.length cb, .bool (decide (x < 0)), .slice py ny cy]] w (RBool true w)
  obtain ⟨W, hW⟩ : ∃ W, W = (w.alloc (.cells #[.slice pa l.length ca, .bool (decide (x < 0)), .slice px nx cx] 46)).alloc (.cells #[.slice pb l.length cb, .bool (decide (x < 0)), .slice py ny cy] 46) := ⟨_, rfl⟩
  have b0 : Below w.heap.size w W := by rw [hW]; exact (below1 w _).alloc (by simp) _
  have z0 : W.heap.size = w.heap.size + 2 := by rw [hW, size_alloc, size_alloc]
  have e0 : W.heap[w.heap.size]? = some (.cells #[.slice pa l.length ca, .bool (decide (x < 0)), .slice px nx cx] 46 (0, 0)) := by rw [hW, heap_alloc_old _ _ (by simp)]; exact heap_alloc_new w _
  have e1 : W.heap[w.heap.size + 1]? = some (.cells #[.slice pb l.length cb, .bool (decide (x < 0)), .slice py ny cy] 46 (0, 0)) := by
    have := heap_alloc_new (w.alloc (.cells #[.slice pa l.length ca, .bool (decide (x < 0)), .slice px nx cx] 46)) (.cells #[.slice pb l.length cb, .bool (decide (x < 0)), .slice py ny cy] 46)
    rw [size_alloc] at this
    rw [hW]; exact this
  have HXa := hid (hxa.below b0); have HXb := hid (hxb.below b0)
  have B0 := hid b0; have E0 := hid e0; have E1 := hid e1; have Z0 := hid z0
  obtain ⟨y0, y1, y2⟩ := lnCells3 e0
  obtain ⟨y3, y4, y5⟩ := lnCells3 e1
  obtain ⟨L, hLL⟩ : ∃ L, L = l.length := ⟨_, rfl⟩
  have HLL := hid hLL
  rw [← hLL] at y0 y3 hl E0 E1 hW ia1 ib1 ⊢
  generalize decide (x < 0) = nn at *
  clear hxa hxb ia4 ib4 b0 e0 e1 z0 hLL
  go_enter Tryz.func25, Tryz.ntmps25
  go_upto_region 1 with fail
  rw [← hW]
  clear hW
  go_wp2_with fail
  refine (SameInt_same _ _ x W HXa.out HXb.out).mono ?_
  rintro e w1 ⟨rfl, b1⟩
  have HB1 := hid b1
  have hz1 := b1.size
  obtain ⟨y0, y1, y2⟩ := lnCells3 ((b1.block w.heap.size (by have := Z0.out; omega)).trans E0.out)
  clear b1 y3 y4 y5
  go_wp2_with fail
  clear y0 y1 y2
  go_loopw [24] (fun i wr => ∃ (k : Nat), k ≤ L ∧ i = .int .i64 (k : Nat) ∧ Hid (Below W.heap.size W wr)) (fun i _ => L - (intOf i).toNat)
  case atStart => exact ⟨0, Nat.zero_le _, rfl, HB1⟩
  case round =>
    obtain ⟨k, hk, rfl, HB⟩ := hrel
    have HBw := hid (lnGo HB.out B0.out)
    by_cases hlt : k < L
    · have hkt : k < l.length := by rw [← HLL.out]; exact hlt
      have hlt' : (k : Int) < (L : Int) := by omega
      obtain ⟨ba, oa, rfl, hba, hca⟩ := HA4.out (by show 0 < l.length; omega)
      obtain ⟨bb, ob, rfl, hbb, hcb⟩ := HB4.out (by show 0 < l.length; omega)
      obtain ⟨cs, ka, s1, ecs, i1, -⟩ := hca k hkt
      obtain ⟨cs', kb, s2, ecs', i2, -⟩ := hcb k hkt
      have hsh := i1.shape
      obtain ⟨qa, na, da, e1, i1⟩ := hsh
      injection e1 with e1
      obtain rfl : s1 = .slice qa na da := by simpa using e1
      have hsh := i2.shape
      obtain ⟨qb, nb, db, e2, i2⟩ := hsh
      injection e2 with e2
      obtain rfl : s2 = .slice qb nb db := by simpa using e2
      clear e1 e2
      have ecs : cs = [.bool (decide ((l[k]'hkt).1 < 0)), .slice qa na da, .int .i64 (l[k]'hkt).2] := ecs
      have ecs' : cs' = [.bool (decide ((l[k]'hkt).1 < 0)), .slice qb nb db, .int .i64 (l[k]'hkt).2] := ecs'
      subst ecs ecs'
      have a0 := (HBw.out.cell (p := ⟨ba, oa + k * 3, none⟩) hba).trans (ka 0 _ rfl)
      have a1 := (HBw.out.cell (p := ⟨ba, oa + k * 3 + 1, none⟩) hba).trans (ka 1 _ rfl)
      have a2 := (HBw.out.cell (p := ⟨ba, oa + k * 3 + 2, none⟩) hba).trans (ka 2 _ rfl)
      have b0 := (HBw.out.cell (p := ⟨bb, ob + k * 3, none⟩) hbb).trans (kb 0 _ rfl)
      have b1 := (HBw.out.cell (p := ⟨bb, ob + k * 3 + 1, none⟩) hbb).trans (kb 1 _ rfl)
      have b2 := (HBw.out.cell (p := ⟨bb, ob + k * 3 + 2, none⟩) hbb).trans (kb 2 _ rfl)
      have HIa : Hid (IntAt wr (.agg #[.bool (decide ((l[k]'hkt).1 < 0)), .slice qa na da]) (l[k]'hkt).1) := hid (i1.below HBw.out)
      have HIb : Hid (IntAt wr (.agg #[.bool (decide ((l[k]'hkt).1 < 0)), .slice qb nb db]) (l[k]'hkt).1) := hid (i2.below HBw.out)
      have hzr := HB.out.size
      generalize (l[k]'hkt).1 = c at *
      generalize (l[k]'hkt).2 = t at *
      have hbar : ba < wr.heap.size := Nat.lt_of_lt_of_le hba HBw.out.size
      have hbbr : bb < wr.heap.size := Nat.lt_of_lt_of_le hbb HBw.out.size
      have HS : Hid (∀ w', Below wr.heap.size wr w' → w'.cell? ⟨w.heap.size, 0, none⟩ = some (.slice (some ⟨ba, oa, none⟩) L ca) ∧ w'.cell? ⟨w.heap.size + 1, 0, none⟩ = some (.slice (some ⟨bb, ob, none⟩) L cb) ∧
          (w'.cell? ⟨ba, oa + k * 3, none⟩ = some (.bool (decide (c < 0))) ∧ w'.cell? ⟨ba, oa + k * 3 + 1, none⟩ = some (.slice qa na da) ∧ w'.cell? ⟨ba, oa + k * 3 + 2, none⟩ = some (.int .i64 t)) ∧
          (w'.cell? ⟨bb, ob + k * 3, none⟩ = some (.bool (decide (c < 0))) ∧ w'.cell? ⟨bb, ob + k * 3 + 1, none⟩ = some (.slice qb nb db) ∧ w'.cell? ⟨bb, ob + k * 3 + 2, none⟩ = some (.int .i64 t))) := hid fun w' hb => by
        have hzz := Z0.out
        obtain ⟨t0, -, -⟩ := lnCells3 ((hb.block w.heap.size (by omega)).trans ((HB.out.block w.heap.size (by omega)).trans E0.out))
        obtain ⟨t1, -, -⟩ := lnCells3 ((hb.block (w.heap.size + 1) (by omega)).trans ((HB.out.block (w.heap.size + 1) (by omega)).trans E1.out))
        have ca' : ∀ o, w'.cell? ⟨ba, o, none⟩ = wr.cell? ⟨ba, o, none⟩ := fun o => hb.cell (p := ⟨ba, o, none⟩) hbar
        have cb' : ∀ o, w'.cell? ⟨bb, o, none⟩ = wr.cell? ⟨bb, o, none⟩ := fun o => hb.cell (p := ⟨bb, o, none⟩) hbbr
        exact ⟨t0, t1, ⟨(ca' _).trans a0, (ca' _).trans a1, (ca' _).trans a2⟩, (cb' _).trans b0, (cb' _).trans b1, (cb' _).trans b2⟩
      clear a0 a1 a2 b0 b1 b2 ka kb hca hcb i1 i2 HA4 HB4
      go_upto_region 6 with fail
      refine wp_region_facts (w0 := wr) 29 0 [27, 28, 29, 30, 31, 32, 33, 34, 35, 36, 37, 38, 39, 40, 41, 42, 43, 44, 45, 46, 47, 48, 49, 50, 51, 52, 53, 54, 55] [u27, u28, u29, u30, u31, u32, u33, u34, u35, u36, u37, u38, u39, u40, u41, u42, u43, u44, u45, u46, u47, u48, u49, u50, u51, u52, u53, u54, u55]
        (fun i => match i with | 0 => lnE (.pointer (some ⟨w.heap.size, 0, none⟩)) | 1 => lnE (.slice (some ⟨ba, oa, none⟩) L ca) | 2 => lnE (.int .i64 (k : Nat)) | 3 => lnE (.pointer (some ⟨ba, oa + k * 3, none⟩)) | 4 => lnE (.pointer (some ⟨ba, oa + k * 3 + 2, none⟩)) | 5 => lnE (.int .i64 t) | 6 => lnE (.pointer (some ⟨w.heap.size + 1, 0, none⟩)) | 7 => lnE (.slice (some ⟨bb, ob, none⟩) L cb) | 8 => lnE (.int .i64 (k : Nat)) | 9 => lnE (.pointer (some ⟨bb, ob + k * 3, none⟩)) | 10 => lnE (.pointer (some ⟨bb, ob + k * 3 + 2, none⟩)) | 11 => lnE (.int .i64 t) | 12 => lnE (.bool false) | 13 => lnE (.bool false) | 14 => lnE (.pointer (some ⟨w.heap.size, 0, none⟩)) | 15 => lnE (.slice (some ⟨ba, oa, none⟩) L ca) | 16 => lnE (.int .i64 (k : Nat)) | 17 => lnE (.pointer (some ⟨ba, oa + k * 3, none⟩)) | 18 => lnE (.pointer (some ⟨ba, oa + k * 3, none⟩)) | 19 => lnE (.agg #[.bool (decide (c < 0)), .slice qa na da]) | 20 => lnE (.pointer (some ⟨w.heap.size + 1, 0, none⟩)) | 21 => lnE (.slice (some ⟨bb, ob, none⟩) L cb) | 22 => lnE (.int .i64 (k : Nat)) | 23 => lnE (.pointer (some ⟨bb, ob + k * 3, none⟩)) | 24 => lnE (.pointer (some ⟨bb, ob + k * 3, none⟩)) | 25 => lnE (.agg #[.bool (decide (c < 0)), .slice qb nb db]) | 26 => lnE (.bool true) | 27 => lnE (.bool false) | _ => lnE (.bool false)) [] (by kernel_rfl) (by kernel_rfl) (by kernel_rfl) (by kernel_rfl) (by decide) rfl (by kernel_rfl) rfl (by simp) ?he1 ?_ ?_ ?_
      case he1 => simp only [putAll, Act.put, List.setIfInBounds_toArray, List.set_cons_zero, List.set_cons_succ]
      · intro i hi; simp at hi
      · intro i o hi ho vs wx hvl hb hdep K hK
        have hvs := vlen29 hvl
        obtain ⟨s27, s28, s29, s30, s31, s32, s33, s34, s35, s36, s37, s38, s39, s40, s41, s42, s43, s44, s45, s46, s47, s48, s49, s50, s51, s52, s53, s54, s55, rfl⟩ := hvs
        clear hvl
        have hk5 := HS.out wx hb
        obtain ⟨y0, y1, ⟨y2, y3, y4⟩, y5, y6, y7⟩ := hk5
        rcases i with _ | _ | _ | _ | _ | _ | _ | _ | _ | _ | _ | _ | _ | _ | _ | _ | _ | _ | _ | _ | _ | _ | _ | _ | _ | _ | _ | _ | _ | i
        all_goals (simp only [List.getElem?_toArray, List.getElem?_cons_zero, List.getElem?_cons_succ, Option.some.injEq] at ho)
        all_goals try (subst ho)
        all_goals try simp only [putAll, Act.put, List.setIfInBounds_toArray, List.set_cons_zero, List.set_cons_succ]
        · go_simp
          have hK' := hK.out
          simp only [putAll, Act.put, List.setIfInBounds_toArray, List.set_cons_zero, List.set_cons_succ] at hK'
          exact hK' _ _ rfl (Below.refl _ _) (by simp)
        · have e0 : s27 = _ := hdep ⟨0, .data⟩ (by simp) rfl
          have e0 := e0.symm
          subst e0
          go_simp
          have hK' := hK.out
          simp only [putAll, Act.put, List.setIfInBounds_toArray, List.set_cons_zero, List.set_cons_succ] at hK'
          exact hK' _ _ rfl (Below.refl _ _) (by simp)
        · go_simp
          have hK' := hK.out
          simp only [putAll, Act.put, List.setIfInBounds_toArray, List.set_cons_zero, List.set_cons_succ] at hK'
          exact hK' _ _ rfl (Below.refl _ _) (by simp)
        · have e1 : s28 = _ := hdep ⟨1, .data⟩ (by simp) rfl
          have e1 := e1.symm
          subst e1
          have e2 : s29 = _ := hdep ⟨2, .data⟩ (by simp) rfl
          have e2 := e2.symm
          subst e2
          go_simp
          have hK' := hK.out
          simp only [putAll, Act.put, List.setIfInBounds_toArray, List.set_cons_zero, List.set_cons_succ] at hK'
          exact hK' _ _ rfl (Below.refl _ _) (by simp)
        · have e3 : s30 = _ := hdep ⟨3, .data⟩ (by simp) rfl
          have e3 := e3.symm
          subst e3
          go_simp
          have hK' := hK.out
          simp only [putAll, Act.put, List.setIfInBounds_toArray, List.set_cons_zero, List.set_cons_succ] at hK'
          exact hK' _ _ rfl (Below.refl _ _) (by simp)
        · have e4 : s31 = _ := hdep ⟨4, .data⟩ (by simp) rfl
          have e4 := e4.symm
          subst e4
          go_simp
          have hK' := hK.out
          simp only [putAll, Act.put, List.setIfInBounds_toArray, List.set_cons_zero, List.set_cons_succ] at hK'
          exact hK' _ _ rfl (Below.refl _ _) (by simp)
        · go_simp
          have hK' := hK.out
          simp only [putAll, Act.put, List.setIfInBounds_toArray, List.set_cons_zero, List.set_cons_succ] at hK'
          exact hK' _ _ rfl (Below.refl _ _) (by simp)
        · have e6 : s33 = _ := hdep ⟨6, .data⟩ (by simp) rfl
          have e6 := e6.symm
          subst e6
          go_simp
          have hK' := hK.out
          simp only [putAll, Act.put, List.setIfInBounds_toArray, List.set_cons_zero, List.set_cons_succ] at hK'
          exact hK' _ _ rfl (Below.refl _ _) (by simp)
        · go_simp
          have hK' := hK.out
          simp only [putAll, Act.put, List.setIfInBounds_toArray, List.set_cons_zero, List.set_cons_succ] at hK'
          exact hK' _ _ rfl (Below.refl _ _) (by simp)
        · have e7 : s34 = _ := hdep ⟨7, .data⟩ (by simp) rfl
          have e7 := e7.symm
          subst e7
          have e8 : s35 = _ := hdep ⟨8, .data⟩ (by simp) rfl
          have e8 := e8.symm
          subst e8
          go_simp
          have hK' := hK.out
          simp only [putAll, Act.put, List.setIfInBounds_toArray, List.set_cons_zero, List.set_cons_succ] at hK'
          exact hK' _ _ rfl (Below.refl _ _) (by simp)
        · have e9 : s36 = _ := hdep ⟨9, .data⟩ (by simp) rfl
          have e9 := e9.symm
          subst e9
          go_simp
          have hK' := hK.out
          simp only [putAll, Act.put, List.setIfInBounds_toArray, List.set_cons_zero, List.set_cons_succ] at hK'
          exact hK' _ _ rfl (Below.refl _ _) (by simp)
        · have e10 : s37 = _ := hdep ⟨10, .data⟩ (by simp) rfl
          have e10 := e10.symm
          subst e10
          go_simp
          have hK' := hK.out
          simp only [putAll, Act.put, List.setIfInBounds_toArray, List.set_cons_zero, List.set_cons_succ] at hK'
          exact hK' _ _ rfl (Below.refl _ _) (by simp)
        · have e5 : s32 = _ := hdep ⟨5, .data⟩ (by simp) rfl
          have e5 := e5.symm
          subst e5
          have e11 : s38 = _ := hdep ⟨11, .data⟩ (by simp) rfl
          have e11 := e11.symm
          subst e11
          go_simp
          have hK' := hK.out
          simp only [putAll, Act.put, List.setIfInBounds_toArray, List.set_cons_zero, List.set_cons_succ] at hK'
          exact hK' _ _ (show _ = Value.bool false by first | rfl | simp) (Below.refl _ _) (by simp)
        · have e12 : s39 = _ := hdep ⟨12, .data⟩ (by simp) rfl
          have e12 := e12.symm
          subst e12
          go_simp
          have hK' := hK.out
          simp only [putAll, Act.put, List.setIfInBounds_toArray, List.set_cons_zero, List.set_cons_succ] at hK'
          exact hK' _ _ rfl (Below.refl _ _) (by simp)
        · have eg : s40 = _ := hdep ⟨13, .guard⟩ (by simp) rfl
          have eg := eg.symm
          subst eg
          go_simp
          have hK' := hK.out
          simp only [putAll, Act.put, List.setIfInBounds_toArray, List.set_cons_zero, List.set_cons_succ] at hK'
          exact hK' _ _ rfl (Below.refl _ _) (by simp)
        · have e14 : s41 = _ := hdep ⟨14, .data⟩ (by simp) rfl
          have e14 := e14.symm
          subst e14
          have eg : s40 = _ := hdep ⟨13, .guard⟩ (by simp) rfl
          have eg := eg.symm
          subst eg
          go_simp
          have hK' := hK.out
          simp only [putAll, Act.put, List.setIfInBounds_toArray, List.set_cons_zero, List.set_cons_succ] at hK'
          exact hK' _ _ rfl (Below.refl _ _) (by simp)
        · have eg : s40 = _ := hdep ⟨13, .guard⟩ (by simp) rfl
          have eg := eg.symm
          subst eg
          go_simp
          have hK' := hK.out
          simp only [putAll, Act.put, List.setIfInBounds_toArray, List.set_cons_zero, List.set_cons_succ] at hK'
          exact hK' _ _ rfl (Below.refl _ _) (by simp)
        · have e15 : s42 = _ := hdep ⟨15, .data⟩ (by simp) rfl
          have e15 := e15.symm
          subst e15
          have e16 : s43 = _ := hdep ⟨16, .data⟩ (by simp) rfl
          have e16 := e16.symm
          subst e16
          have eg : s40 = _ := hdep ⟨13, .guard⟩ (by simp) rfl
          have eg := eg.symm
          subst eg
          go_simp
          have hK' := hK.out
          simp only [putAll, Act.put, List.setIfInBounds_toArray, List.set_cons_zero, List.set_cons_succ] at hK'
          exact hK' _ _ rfl (Below.refl _ _) (by simp)
        · have e17 : s44 = _ := hdep ⟨17, .data⟩ (by simp) rfl
          have e17 := e17.symm
          subst e17
          have eg : s40 = _ := hdep ⟨13, .guard⟩ (by simp) rfl
          have eg := eg.symm
          subst eg
          go_simp
          have hK' := hK.out
          simp only [putAll, Act.put, List.setIfInBounds_toArray, List.set_cons_zero, List.set_cons_succ] at hK'
          exact hK' _ _ rfl (Below.refl _ _) (by simp)
        · have e18 : s45 = _ := hdep ⟨18, .data⟩ (by simp) rfl
          have e18 := e18.symm
          subst e18
          have eg : s40 = _ := hdep ⟨13, .guard⟩ (by simp) rfl
          have eg := eg.symm
          subst eg
          go_simp
          have hK' := hK.out
          simp only [putAll, Act.put, List.setIfInBounds_toArray, List.set_cons_zero, List.set_cons_succ] at hK'
          exact hK' _ _ rfl (Below.refl _ _) (by simp)
        · have eg : s40 = _ := hdep ⟨13, .guard⟩ (by simp) rfl
          have eg := eg.symm
          subst eg
          go_simp
          have hK' := hK.out
          simp only [putAll, Act.put, List.setIfInBounds_toArray, List.set_cons_zero, List.set_cons_succ] at hK'
          exact hK' _ _ rfl (Below.refl _ _) (by simp)
        · have e20 : s47 = _ := hdep ⟨20, .data⟩ (by simp) rfl
          have e20 := e20.symm
          subst e20
          have eg : s40 = _ := hdep ⟨13, .guard⟩ (by simp) rfl
          have eg := eg.symm
          subst eg
          go_simp
          have hK' := hK.out
          simp only [putAll, Act.put, List.setIfInBounds_toArray, List.set_cons_zero, List.set_cons_succ] at hK'
          exact hK' _ _ rfl (Below.refl _ _) (by simp)
        · have eg : s40 = _ := hdep ⟨13, .guard⟩ (by simp) rfl
          have eg := eg.symm
          subst eg
          go_simp
          have hK' := hK.out
          simp only [putAll, Act.put, List.setIfInBounds_toArray, List.set_cons_zero, List.set_cons_succ] at hK'
          exact hK' _ _ rfl (Below.refl _ _) (by simp)
        · have e21 : s48 = _ := hdep ⟨21, .data⟩ (by simp) rfl
          have e21 := e21.symm
          subst e21
          have e22 : s49 = _ := hdep ⟨22, .data⟩ (by simp) rfl
          have e22 := e22.symm
          subst e22
          have eg : s40 = _ := hdep ⟨13, .guard⟩ (by simp) rfl
          have eg := eg.symm
          subst eg
          go_simp
          have hK' := hK.out
          simp only [putAll, Act.put, List.setIfInBounds_toArray, List.set_cons_zero, List.set_cons_succ] at hK'
          exact hK' _ _ rfl (Below.refl _ _) (by simp)
        · have e23 : s50 = _ := hdep ⟨23, .data⟩ (by simp) rfl
          have e23 := e23.symm
          subst e23
          have eg : s40 = _ := hdep ⟨13, .guard⟩ (by simp) rfl
          have eg := eg.symm
          subst eg
          go_simp
          have hK' := hK.out
          simp only [putAll, Act.put, List.setIfInBounds_toArray, List.set_cons_zero, List.set_cons_succ] at hK'
          exact hK' _ _ rfl (Below.refl _ _) (by simp)
        · have e24 : s51 = _ := hdep ⟨24, .data⟩ (by simp) rfl
          have e24 := e24.symm
          subst e24
          have eg : s40 = _ := hdep ⟨13, .guard⟩ (by simp) rfl
          have eg := eg.symm
          subst eg
          go_simp
          have hK' := hK.out
          simp only [putAll, Act.put, List.setIfInBounds_toArray, List.set_cons_zero, List.set_cons_succ] at hK'
          exact hK' _ _ rfl (Below.refl _ _) (by simp)
        · have e19 : s46 = _ := hdep ⟨19, .data⟩ (by simp) rfl
          have e19 := e19.symm
          subst e19
          have e25 : s52 = _ := hdep ⟨25, .data⟩ (by simp) rfl
          have e25 := e25.symm
          subst e25
          have eg : s40 = _ := hdep ⟨13, .guard⟩ (by simp) rfl
          have eg := eg.symm
          subst eg
          go_simp
          go_simp
          refine (SameInt_same _ _ c wx (HIa.out.below hb) (HIb.out.below hb)).mono ?_
          rintro e wy ⟨rfl, hby⟩
          go_wp2_with fail
          have hK' := hK.out
          simp only [putAll, Act.put, List.setIfInBounds_toArray, List.set_cons_zero, List.set_cons_succ] at hK'
          exact hK' _ _ rfl hby (by simp)
        · have e26 : s53 = _ := hdep ⟨26, .data⟩ (by simp) rfl
          have e26 := e26.symm
          subst e26
          have eg : s40 = _ := hdep ⟨13, .guard⟩ (by simp) rfl
          have eg := eg.symm
          subst eg
          go_simp
          have hK' := hK.out
          simp only [putAll, Act.put, List.setIfInBounds_toArray, List.set_cons_zero, List.set_cons_succ] at hK'
          exact hK' _ _ rfl (Below.refl _ _) (by simp)
        · have e13 : s40 = _ := hdep ⟨13, .data⟩ (by simp) rfl
          have e13 := e13.symm
          subst e13
          have e27 : s54 = _ := hdep ⟨27, .data⟩ (by simp) rfl
          have e27 := e27.symm
          subst e27
          go_simp
          have hK' := hK.out
          simp only [putAll, Act.put, List.setIfInBounds_toArray, List.set_cons_zero, List.set_cons_succ] at hK'
          exact hK' _ _ rfl (Below.refl _ _) (by simp)
        · omega
      · intro vs wx hvl hb hf hdist
        have hvs := vlen29 hvl
        obtain ⟨s27, s28, s29, s30, s31, s32, s33, s34, s35, s36, s37, s38, s39, s40, s41, s42, s43, s44, s45, s46, s47, s48, s49, s50, s51, s52, s53, s54, s55, rfl⟩ := hvs
        have f28 : s55 = .bool false := hf 28 (by decide)
        subst f28
        have HB9 := hid (lnGo hb HB.out)
        clear hf hvl hdist
        refine wpAny_done (by kernel_rfl) ?_ _
        try simp only [putAll, Act.put, List.setIfInBounds_toArray, List.set_cons_zero, List.set_cons_succ]
        go_wp2_with fail
        go_roundw
        case rel => exact ⟨k + 1, by omega, by go_num, HB9⟩
        case measure => simp [intOf] <;> omega
    · obtain rfl : k = L := by omega
      go_wp2
      go_ret
      exact ⟨rfl, HBw.out⟩
end Go.Proofs.YtjfcocadohgneaaGreat
/- elenchuslaw06.LinearTight. -/
namespace Go.Proofs.YtjfcocadohgneaaGreat
open Go.RowKit Big

theorem LxQ.below {w w' : World} {v : Value} {x : Lx} (h : LxQ w v x) (hb : Below w.heap.size w w') : LxQ w' v x := by
  obtain ⟨p, n, cp, s, e, h1, h2, h3, h4⟩ := h
  exact ⟨p, n, cp, s, e, h1.below hb, h2.below hb, h3, h4⟩
theorem LxQ.agg3 {w : World} {v : Value} {x : Lx} (h : LxQ w v x) : ∃ p c q k d, v = .agg #[.slice p x.parts.length c, .bool x.rest.neg, .slice q k d] := by
  obtain ⟨p, n, cp, s, rfl, h1, h2, -⟩ := h
  obtain ⟨q, cq, e2, -⟩ := h2
  injection e2 with e1 e2
  injection e2 with e2 _
  subst e1 e2
  exact ⟨_, _, _, _, _, rfl⟩
theorem lnValue_sz {a : List (Int × Int) × Int} (vals : List Int) (ha : LnSz 6 a) (hv : ∀ z ∈ vals, sz W z.natAbs ≤ 6) (hl : a.1.length ≤ 1000000) : sz W (lnValue a vals).1.natAbs ≤ 549755813888 := by
  unfold lnValue
  split
  · have h1 := lnVal_sz (lnAtv vals) (lnAtv_sz hv) a.1 ha.1
    exact Nat.le_trans (sz_mono W2 (Int.natAbs_add_le _ _)) (Nat.le_trans (sz_add W2 (k := 1000020) (Nat.le_trans ha.2 (by decide)) (by omega)) (by decide))
  · exact Nat.le_trans (Nat.le_of_eq (sz_zero W)) (Nat.zero_le _)
set_option maxRecDepth 100000 in
set_option maxHeartbeats 6400000 in
theorem lawTight_any (v vv : Value) (x : Lx) (vals : List Nx) (w : World) (h : LxQ w v x) (hv : NxsIn w vv vals) : Calls Tryz.prog 8 #[v, vv] w (RBool true w) := by
  obtain ⟨p0, c0, q0, k0, d0, rfl⟩ := h.agg3
  have HH := hid h; have HV := hid hv
  obtain ⟨pw, cv, rfl, i1, i2, -, i4⟩ := hv
  have I4 := hid i4
  unfold maxLen at i2
  obtain ⟨n0, hn0⟩ : ∃ n0, n0 = x.parts.length := ⟨_, rfl⟩
  obtain ⟨b0, hb0⟩ : ∃ b0, b0 = x.rest.neg := ⟨_, rfl⟩
  rw [← hn0, ← hb0] at HH ⊢
  clear hn0 hb0 h i4
  obtain ⟨W1, hW⟩ : ∃ W1, W1 = w.alloc (.cells #[.slice p0 n0 c0, .bool b0, .slice q0 k0 d0] 46) := ⟨_, rfl⟩
  have b1 : Below w.heap.size w W1 := by rw [hW]; exact below1 w _
  have e1 : W1.heap[w.heap.size]? = some (.cells #[.slice p0 n0 c0, .bool b0, .slice q0 k0 d0] 46 (0, 0)) := by rw [hW]; exact heap_alloc_new w _
  have z1 : W1.heap.size = w.heap.size + 1 := by rw [hW, size_alloc]
  have B1 := hid b1; have E1 := hid e1; have Z1 := hid z1
  obtain ⟨L, hLL⟩ : ∃ L, L = vals.length := ⟨_, rfl⟩
  have HLL := hid hLL
  rw [← hLL] at HV i1 ⊢
  clear b1 e1 z1 hLL
  go_enter Tryz.func8, Tryz.ntmps8
  go_upto_region 1 with fail
  rw [← hW]
  clear hW
  go_wp2_with fail
  refine (fixed6_any W1).mono ?_
  rintro e w2 ⟨rfl, b2⟩
  have z2 := b2.size
  have B2 := hid (lnGo b2 B1.out)
  have E2 := hid ((b2.block w.heap.size (by have := Z1.out; omega)).trans E1.out)
  obtain ⟨y0, y1, y2⟩ := lnCells3 E2.out
  have HF := hid (Few6_any _ x w2 (HH.out.below B2.out))
  clear b2 E1
  go_upto_region 3 with fail
  go_wp2_with fail
  refine HF.out.mono ?_
  rintro e w3 ⟨bf, rfl, hfit, b3⟩
  have z3 := b3.size
  have B3 := hid (lnGo b3 B2.out)
  have E3 := hid ((b3.block w.heap.size (by have := Z1.out; omega)).trans E2.out)
  clear y0 y1 y2 b3 E2 HF
  cases bf with
  | false =>
    clear hfit
    go_wp2
    go_ret
    exact ⟨rfl, B3.out⟩
  | true =>
  have Hfit := hid (hfit rfl)
  clear hfit
  by_cases hL : L ≤ 60
  case neg =>
    have hd : decide ((60 : Int) < (L : Int)) = true := by simp; omega
    go_wp2
    go_ret
    exact ⟨rfl, B3.out⟩
  have hd : decide ((60 : Int) < (L : Int)) = false := by simp; omega
  go_wp2_with fail
  go_loopw [28] (fun i wr => ∃ (k : Nat), k ≤ L ∧ i = .int .i64 (k : Nat) ∧ Hid (∀ y ∈ vals.take k, y.fit) ∧ Hid (Below w3.heap.size w3 wr)) (fun i _ => L - (intOf i).toNat)
  case atStart => exact ⟨0, Nat.zero_le _, rfl, hid (by simp), hid (Below.refl _ _)⟩
  case round =>
    obtain ⟨k, hk, rfl, HA, HB⟩ := hrel
    have HBw := hid (lnGo HB.out B3.out)
    by_cases hlt : k < L
    · have hkt : k < vals.length := by rw [← HLL.out]; exact hlt
      have hlt' : (k : Int) < (L : Int) := by omega
      obtain ⟨b, o, rfl, hb, hc⟩ := I4.out (by omega)
      obtain ⟨cs, kk, q1, cq1, ecs, -⟩ := hc k hkt
      subst ecs
      have y0 := (HBw.out.cell (p := ⟨b, o + k * 2, none⟩) hb).trans (kk 0 _ rfl)
      have y1 := (HBw.out.cell (p := ⟨b, o + k * 2 + 1, none⟩) hb).trans (kk 1 _ rfl)
      have Hsn : Hid (vals.take (k + 1) = vals.take k ++ [vals[k]]) := hid (List.take_succ_eq_append_getElem hkt)
      have Hf : Hid (vals[k].fit ↔ vals[k].words.length ≤ 6) := hid Iff.rfl
      clear kk hc
      generalize vals[k].words.length = m1 at *
      generalize vals[k].neg = g1 at *
      by_cases hm1 : m1 ≤ 6
      · have hd3 : decide ((6 : Int) < (m1 : Int)) = false := by simp; omega
        have HA2 : Hid (∀ y ∈ vals.take (k + 1), y.fit) := hid (fun p hp => by
          rcases List.mem_append.1 (Hsn.out ▸ hp) with hp | hp
          · exact HA.out p hp
          · rw [List.mem_singleton.1 hp]; exact Hf.out.2 hm1)
        have HB2 := hid (lnGo (below1 wr (.cells #[.bool g1, .slice q1 m1 cq1] 39)) HB.out)
        clear HA HB HBw Hsn Hf
        go_wp2_with fail
        go_roundw
        case rel => exact ⟨k + 1, by omega, by go_num, HA2, HB2⟩
        case measure => simp [intOf] <;> omega
      · have hd3 : decide ((6 : Int) < (m1 : Int)) = true := by simp; omega
        have HB2 := hid (lnGo (below1 wr (.cells #[.bool g1, .slice q1 m1 cq1] 39)) HBw.out)
        clear HA HB HBw Hsn Hf
        go_wp2
        go_ret
        exact ⟨rfl, HB2.out⟩
    · obtain rfl : k = L := by omega
      have hfin : vals.take k = vals := by rw [HLL.out, List.take_length]
      have hA := HA.out
      rw [hfin] at hA
      have HVf := hid hA
      have HLn := hid (HH.out.raw Hfit.out)
      have HSm := hid (HH.out.small Hfit.out)
      have HNm := hid (NxsIn.nms HV.out hA)
      have HSv := hid (NxsIn.small HV.out hA)
      have hpl : (x.a).1.length ≤ 40 := by show (x.parts.map Px6.p).length ≤ 40; rw [List.length_map]; exact Hfit.out.1
      obtain ⟨⟨l, c0'⟩, hxa⟩ : ∃ a, a = x.a := ⟨_, rfl⟩
      rw [← hxa] at HLn HSm hpl
      have hpl : l.length ≤ 40 := hpl
      have Hpl := hid hpl
      have HTi := hid (fun w' (hb : Below w.heap.size w w') => Tight_lin _ l c0' w' (N := 6) (by decide) (HLn.out.below hb) HSm.out (by omega))
      have HIs := hid (fun w' (hb : Below w.heap.size w w') => RIs_lin _ (l, c0') w' (HLn.out.below hb) (by show l.length ≤ _; omega))
      have Er := hid ((HB.out.block w.heap.size (by have := Z1.out; omega)).trans E3.out)
      obtain ⟨y0, y1, y2⟩ := lnCells3 Er.out
      clear hA hfin HA HB hxa
      have hsz : w.heap.size < wr.heap.size := (Array.getElem?_eq_some_iff.1 Er.out).1
      obtain ⟨⟨T, z, c⟩, hR⟩ : ∃ r, r = lnTight (l, c0') := ⟨_, rfl⟩
      rw [← hR] at HTi
      obtain ⟨t1, t2⟩ := T
      have HR := hid hR
      clear hR
      go_wp2_with fail
      refine (HTi.out wr HBw.out).mono ?_
      rintro e w5 ⟨v5, u5, rfl, T5, i5, b5⟩
      obtain ⟨p5, n5, c5, q5, k5, d5, rfl⟩ := T5.agg3
      have hn5 : n5 = t1.length := by
        obtain ⟨pv, s, ev, ⟨p, cc, rfl, -⟩, -⟩ := T5
        injection ev with ev
        simp only [Array.mk.injEq, List.cons.injEq, and_true] at ev
        have := ev.1
        injection this
      obtain ⟨p6, n6, c6, rfl, i5⟩ := i5.shape
      obtain ⟨g5, hg5⟩ : ∃ b, b = decide (((t1, t2), z, c).1.2 < 0) := ⟨_, rfl⟩
      obtain ⟨g6, hg6⟩ : ∃ b, b = decide (((t1, t2), z, c).2.1 < 0) := ⟨_, rfl⟩
      rw [← hg5] at T5
      rw [← hg6] at i5
      try rw [← hg5]
      try rw [← hg6]
      have z5 := b5.size
      obtain ⟨w6, hw6⟩ : ∃ w6, w6 = (w5.alloc (.cells #[.slice p5 n5 c5, .bool g5, .slice q5 k5 d5] 46)).alloc (.cells #[.bool g6, .slice p6 n6 c6] 39) := ⟨_, rfl⟩
      have b6 : Below w5.heap.size w5 w6 := by rw [hw6]; exact (below1 _ _).alloc (by simp) _
      have e6 : w6.heap[w5.heap.size]? = some (.cells #[.slice p5 n5 c5, .bool g5, .slice q5 k5 d5] 46 (0, 0)) := by rw [hw6, heap_alloc_old _ _ (by simp)]; exact heap_alloc_new _ _
      have e7 : w6.heap[w5.heap.size + 1]? = some (.cells #[.bool g6, .slice p6 n6 c6] 39 (0, 0)) := by
        have := heap_alloc_new (w5.alloc (.cells #[.slice p5 n5 c5, .bool g5, .slice q5 k5 d5] 46)) (.cells #[.bool g6, .slice p6 n6 c6] 39)
        rw [size_alloc] at this
        rw [hw6]; exact this
      have z6 : w6.heap.size = w5.heap.size + 2 := by rw [hw6, size_alloc, size_alloc]
      have T6 := hid (T5.below b6); have I6 := hid (i5.below b6)
      have B6 := hid (lnGo b6 (lnGo b5 HBw.out))
      have E6 := hid e6; have E7 := hid e7
      have Ex := hid ((b6.block w.heap.size (by omega)).trans ((b5.block w.heap.size (by omega)).trans Er.out))
      have Hg5 := hid hg5; have Hg6 := hid hg6; have Hn5 := hid hn5
      clear T5 i5 b5 b6 e6 e7 y0 y1 y2 hg5 hg6 hn5 HTi
      go_upto_region 12 with fail
      rw [← hw6]
      clear hw6
      obtain ⟨y0, y1, y2⟩ := lnCells3 Ex.out
      obtain ⟨y3, y4, y5⟩ := lnCells3 E6.out
      go_wp2_with fail
      refine (HIs.out w6 B6.out).mono ?_
      rintro e w7 ⟨rfl, b7⟩
      have z7 := b7.size
      have B7 := hid (lnGo b7 B6.out)
      have E67 := hid ((b7.block w5.heap.size (by omega)).trans E6.out)
      have E77 := hid ((b7.block (w5.heap.size + 1) (by omega)).trans E7.out)
      have Ex7 := hid ((b7.block w.heap.size (by omega)).trans Ex.out)
      have T7 := hid (T6.out.below b7); have I7 := hid (I6.out.below b7)
      clear y0 y1 y2 y3 y4 y5 b7 E6 E7 Ex T6 I6 HIs
      obtain ⟨y0, y1, y2⟩ := lnCells3 Ex7.out
      obtain ⟨y3, y4, y5⟩ := lnCells3 E67.out
      by_cases hI : lnIs l
      case neg =>
        have hd : decide (lnIs (l, c0').1) = false := by simpa using hI
        have hr : ((t1, t2), z, c) = (([], 0), 0, 6) := by rw [HR.out]; unfold lnTight; rw [if_neg hI]
        have hc6 : c = 6 := congrArg (fun r => r.2.2) hr
        have ht1 : t1 = [] := congrArg (fun r => r.1.1) hr
        have hn0 : (n5 == 0) = true := by rw [Hn5.out, ht1]; rfl
        subst hc6
        have hnI : ((n5 : Int) == 0) = true := by rw [beq_iff_eq] at hn0 ⊢; omega
        clear hr ht1 HR hI Hn5 HSm HLn T7 I7
        go_wp2
        go_ret
        exact ⟨rfl, B7.out⟩
      have hd : decide (lnIs (l, c0').1) = true := by simpa using hI
      have hpn : n0 = l.length := by
        obtain ⟨pv, n, s, ev, ⟨p, cc, rfl, -⟩, -⟩ := HLn.out
        injection ev with ev
        simp only [Array.mk.injEq, List.cons.injEq, and_true] at ev
        have := ev.1
        injection this
      by_cases hl0 : l = []
      · have hr : ((t1, t2), z, c) = (([], 0), 0, 1) := by rw [HR.out]; unfold lnTight; rw [if_pos hI, if_pos hl0]
        have hc6 : c = 1 := congrArg (fun r => r.2.2) hr
        have ht1 : t1 = [] := congrArg (fun r => r.1.1) hr
        have hn0 : (n5 == 0) = true := by rw [Hn5.out, ht1]; rfl
        have hn1 : (n0 == 0) = true := by rw [hpn, hl0]; rfl
        subst hc6
        have hnI : ((n5 : Int) == 0) = true := by rw [beq_iff_eq] at hn0 ⊢; omega
        clear hr ht1 HR hI Hn5 HSm HLn T7 I7 hpn hl0
        go_wp2
        go_ret
        exact ⟨rfl, B7.out⟩
      have hr : ((t1, t2), z, c) = ((lnOver (lnGcd l : Nat) l, 0), (-c0') / (lnGcd l : Nat), 0) := by rw [HR.out]; unfold lnTight; rw [if_pos hI, if_neg hl0]
      have hc6 : c = 0 := congrArg (fun r => r.2.2) hr
      have ht1 : t1 = lnOver (lnGcd l : Nat) l := congrArg (fun r => r.1.1) hr
      have ht2 : t2 = 0 := congrArg (fun r => r.1.2) hr
      have hz : z = (-c0') / (lnGcd l : Nat) := congrArg (fun r => r.2.1) hr
      have hn1 : (n0 == 0) = false := by rw [beq_eq_false_iff_ne, hpn]; have := List.length_pos_iff.2 hl0; omega
      have HRT := hid (fun w' (hb : Below w.heap.size w w') => RTight_lin _ l c0' w' (N := 6) (HLn.out.below hb) HSm.out (by omega) hI hl0)
      have HV1 := hid (fun w' (hb : Below w.heap.size w w') => RValue_lin _ _ (l, c0') (vals.map Nx.z) w' (N := 6) (HLn.out.below hb) (HNm.out.below hb) HSm.out HSv.out (by show 6 + 6 + l.length ≤ _; omega))
      have hst : LnSz 6 (t1, t2) := by
        refine ⟨fun p hp => ?_, by rw [ht2]; exact Nat.zero_le _⟩
        have hp : p ∈ t1 := hp
        rw [ht1] at hp
        obtain ⟨q, hq, rfl⟩ := List.mem_map.1 hp
        exact Nat.le_trans (sz_mono W2 (Int.natAbs_ediv_le_natAbs _ _)) (HSm.out.1 q hq)
      have htl : t1.length = l.length := by rw [ht1]; unfold lnOver; rw [List.length_map]
      have HV2 := hid (fun w' v' (hb : Below w.heap.size w w') (hv : LnT w' v' (t1, t2)) => RValue_lin v' _ (t1, t2) (vals.map Nx.z) w' (N := 6) (hv.raw hst (by decide)) (HNm.out.below hb) hst HSv.out (by show 6 + 6 + t1.length ≤ _; omega))
      have hgp := lnGcd_pos hl0 hI.2
      -- what the values say
      have HVal : Hid ((lnValue (l, c0') (vals.map Nx.z)).2 = 13 ∨ ((lnValue (l, c0') (vals.map Nx.z)).2 = 0 ∧ (lnValue (t1, t2) (vals.map Nx.z)).2 = 0 ∧ ((lnValue (l, c0') (vals.map Nx.z)).1 ≤ 0 ↔ (lnValue (t1, t2) (vals.map Nx.z)).1 ≤ z))) := hid (by
        unfold lnValue
        by_cases hin : ∀ p ∈ l, 0 ≤ p.2 ∧ p.2 < (vals.map Nx.z).length
        · right
          have hin2 : ∀ p ∈ t1, 0 ≤ p.2 ∧ p.2 < (vals.map Nx.z).length := by
            intro p hp
            rw [ht1] at hp
            obtain ⟨q, hq, rfl⟩ := List.mem_map.1 hp
            exact hin q hq
          rw [if_pos hin, if_pos hin2]
          refine ⟨rfl, rfl, ?_⟩
          show c0' + lnVal (lnAtv (vals.map Nx.z)) l ≤ 0 ↔ t2 + lnVal (lnAtv (vals.map Nx.z)) t1 ≤ z
          rw [ht1, ht2, hz, Int.zero_add, Int.add_comm]
          exact lnOver_tight _ (by omega) (fun p hp => lnGcd_dvd hp) c0'
        · left
          rw [if_neg hin])
      have hzs : sz W z.natAbs ≤ 6 := by
        rw [hz]
        exact Nat.le_trans (sz_mono W2 (Int.natAbs_ediv_le_natAbs _ _)) (by rw [Int.natAbs_neg]; exact HSm.out.2)
      have Hzs := hid hzs
      have HSa : Hid (sz W (lnValue (l, c0') (vals.map Nx.z)).1.natAbs ≤ 549755813888 ∧ sz W (lnValue (t1, t2) (vals.map Nx.z)).1.natAbs ≤ 549755813888) := hid ⟨lnValue_sz _ HSm.out HSv.out (by show l.length ≤ 1000000; omega), lnValue_sz _ hst HSv.out (by show t1.length ≤ 1000000; omega)⟩
      rw [← ht1, ← hz] at HRT
      have HRT' := HRT
      subst hc6
      have Ht2 := hid ht2; have Htl := hid htl
      have hlen9 : t1.length ≤ 1000000000000 := by omega
      have Hlen9 := hid hlen9
      clear hlen9 hr ht1 ht2 hz HR hI Hn5 HLn hpn hl0 hst hgp HRT hzs
      go_wp2_with fail
      refine (HRT'.out w7 B7.out).mono ?_
      rintro e w8 ⟨v8, u8, rfl, T8, i8, b8⟩
      rw [← Ht2.out] at T8
      obtain ⟨p8, n8, c8, q8, k8, d8, rfl⟩ := T8.agg3
      obtain ⟨p9, n9, c9, rfl, i8⟩ := i8.shape
      obtain ⟨g8, hg8⟩ : ∃ b, b = decide (((t1, t2) : List (Int × Int) × Int).2 < 0) := ⟨_, rfl⟩
      obtain ⟨g9, hg9⟩ : ∃ b, b = decide (z < 0) := ⟨_, rfl⟩
      rw [← hg8] at T8
      rw [← hg9] at i8
      try rw [← hg8]
      try rw [← hg9]
      have z8 := b8.size
      obtain ⟨wA, hwA⟩ : ∃ wA, wA = (w8.alloc (.cells #[.slice p8 n8 c8, .bool g8, .slice q8 k8 d8] 46)).alloc (.cells #[.bool g9, .slice p9 n9 c9] 39) := ⟨_, rfl⟩
      have bA : Below w8.heap.size w8 wA := by rw [hwA]; exact (below1 _ _).alloc (by simp) _
      have eA : wA.heap[w8.heap.size]? = some (.cells #[.slice p8 n8 c8, .bool g8, .slice q8 k8 d8] 46 (0, 0)) := by rw [hwA, heap_alloc_old _ _ (by simp)]; exact heap_alloc_new _ _
      have eB : wA.heap[w8.heap.size + 1]? = some (.cells #[.bool g9, .slice p9 n9 c9] 39 (0, 0)) := by
        have := heap_alloc_new (w8.alloc (.cells #[.slice p8 n8 c8, .bool g8, .slice q8 k8 d8] 46)) (.cells #[.bool g9, .slice p9 n9 c9] 39)
        rw [size_alloc] at this
        rw [hwA]; exact this
      have zA : wA.heap.size = w8.heap.size + 2 := by rw [hwA, size_alloc, size_alloc]
      have B8A := lnGo bA b8
      have TA := hid (T7.out.below B8A); have TB := hid (T8.below bA)
      have IA := hid (I7.out.below B8A); have IB := hid (i8.below bA)
      have BA := hid (lnGo B8A B7.out)
      have ELA := hid ((B8A.block w.heap.size (by omega)).trans Ex7.out)
      have ETA := hid ((B8A.block w5.heap.size (by omega)).trans E67.out)
      have EKA := hid ((B8A.block (w5.heap.size + 1) (by omega)).trans E77.out)
      have EA := hid eA; have EB := hid eB
      have HSame := hid (Same6_true _ _ _ wA TA.out TB.out Hlen9.out)
      clear T8 i8 b8 bA eA eB B8A hg8 hg9 y0 y1 y2 y3 y4 y5 T7 I7 Ex7 E67 E77
      go_upto_region 17 with fail
      rw [← hwA]
      clear hwA
      obtain ⟨y0, y1, y2⟩ := lnCells3 ETA.out
      obtain ⟨y3, y4, y5⟩ := lnCells3 EA.out
      go_wp2_with fail
      refine HSame.out.mono ?_
      rintro e wB ⟨rfl, bB⟩
      have zB := bB.size
      obtain ⟨x0, x1, -, -⟩ := two_cells ((bB.block (w5.heap.size + 1) (by omega)).trans EKA.out)
      obtain ⟨x2, x3, -, -⟩ := two_cells ((bB.block (w8.heap.size + 1) (by omega)).trans EB.out)
      have HSI := hid (SameInt_same _ _ z wB (IA.out.below bB) (IB.out.below bB))
      have BB := hid (lnGo bB BA.out)
      have ELB := hid ((bB.block w.heap.size (by omega)).trans ELA.out)
      have ETB := hid ((bB.block w5.heap.size (by omega)).trans ETA.out)
      have EKB := hid ((bB.block (w5.heap.size + 1) (by omega)).trans EKA.out)
      have TB' := hid (TA.out.below bB); have IKB := hid (IA.out.below bB)
      clear bB y0 y1 y2 y3 y4 y5 HSame ELA ETA EKA TA TB IA IB EA EB
      go_wp2_with fail
      refine HSI.out.mono ?_
      rintro e wC ⟨rfl, bC⟩
      have zC := bC.size
      have BC := hid (lnGo bC BB.out)
      have ELC := hid ((bC.block w.heap.size (by omega)).trans ELB.out)
      have ETC := hid ((bC.block w5.heap.size (by omega)).trans ETB.out)
      have EKC := hid ((bC.block (w5.heap.size + 1) (by omega)).trans EKB.out)
      have TC := hid (TB'.out.below bC); have IKC := hid (IKB.out.below bC)
      clear bC x0 x1 x2 x3 HSI ELB ETB EKB TB' IKB
      obtain ⟨y0, y1, y2⟩ := lnCells3 ELC.out
      generalize hr1 : lnValue (l, c0') (vals.map Nx.z) = r1 at *
      generalize hr2 : lnValue (t1, t2) (vals.map Nx.z) = r2 at *
      obtain ⟨a1, f1⟩ := r1
      obtain ⟨a2, f2⟩ := r2
      clear hr1 hr2
      go_upto_region 19 with fail
      go_wp2_with fail
      refine (HV1.out wC BC.out).mono ?_
      rintro e wD ⟨vD, rfl, iD, bD⟩
      obtain ⟨pD, nD, cD, rfl, iD⟩ := iD.shape
      have zD := bD.size
      obtain ⟨gD, hgD⟩ : ∃ b, b = decide (((a1, f1) : Int × Int).1 < 0) := ⟨_, rfl⟩
      rw [← hgD] at iD
      try rw [← hgD]
      obtain ⟨wE, hwE⟩ : ∃ wE, wE = wD.alloc (.cells #[.bool gD, .slice pD nD cD] 39) := ⟨_, rfl⟩
      have bE : Below wD.heap.size wD wE := by rw [hwE]; exact below1 _ _
      have eE : wE.heap[wD.heap.size]? = some (.cells #[.bool gD, .slice pD nD cD] 39 (0, 0)) := by rw [hwE]; exact heap_alloc_new _ _
      have zE : wE.heap.size = wD.heap.size + 1 := by rw [hwE, size_alloc]
      have BDE := lnGo bE bD
      have IE := hid (iD.below bE)
      have BE := hid (lnGo BDE BC.out)
      have ETE := hid ((BDE.block w5.heap.size (by omega)).trans ETC.out)
      have EKE := hid ((BDE.block (w5.heap.size + 1) (by omega)).trans EKC.out)
      have TE := hid (TC.out.below BDE); have IKE := hid (IKC.out.below BDE)
      have EE := hid eE
      clear iD bD bE eE BDE hgD y0 y1 y2 ELC ETC EKC TC IKC
      go_upto_region 20 with fail
      rw [← hwE]
      clear hwE
      obtain ⟨y0, y1, y2⟩ := lnCells3 ETE.out
      go_wp2_with fail
      refine (HV2.out wE _ BE.out TE.out).mono ?_
      rintro e wF ⟨vF, rfl, iF, bF⟩
      obtain ⟨pF, nF, cF, rfl, iF⟩ := iF.shape
      have zF := bF.size
      obtain ⟨gF, hgF⟩ : ∃ b, b = decide (((a2, f2) : Int × Int).1 < 0) := ⟨_, rfl⟩
      rw [← hgF] at iF
      try rw [← hgF]
      obtain ⟨wG, hwG⟩ : ∃ wG, wG = wF.alloc (.cells #[.bool gF, .slice pF nF cF] 39) := ⟨_, rfl⟩
      have bG : Below wF.heap.size wF wG := by rw [hwG]; exact below1 _ _
      have eG : wG.heap[wF.heap.size]? = some (.cells #[.bool gF, .slice pF nF cF] 39 (0, 0)) := by rw [hwG]; exact heap_alloc_new _ _
      have zG : wG.heap.size = wF.heap.size + 1 := by rw [hwG, size_alloc]
      have BFG := lnGo bG bF
      have IG := hid (iF.below bG)
      have IEG := hid (IE.out.below BFG)
      have IKG := hid (IKE.out.below BFG)
      have BG := hid (lnGo BFG BE.out)
      have EKG := hid ((BFG.block (w5.heap.size + 1) (by omega)).trans EKE.out)
      have EEG := hid ((BFG.block wD.heap.size (by omega)).trans EE.out)
      have EGG := hid eG
      have hSa1 : sz W a1.natAbs ≤ 549755813888 := HSa.out.1
      have hSa2 : sz W a2.natAbs ≤ 549755813888 := HSa.out.2
      have Hsa1 := hid hSa1; have Hsa2 := hid hSa2
      clear iF bF bG eG BFG hgF y0 y1 y2 ETE EKE TE IKE EE IE hSa1 hSa2
      go_upto_region 21 with fail
      rw [← hwG]
      clear hwG
      have HSgn := hid (fun w' (hb : Below wG.heap.size wG w') => RSign_any _ a1 w' ((IEG.out.below hb).rawL (Nat.le_trans Hsa1.out (by decide))))
      have HCmp := hid (fun w' (hb : Below wG.heap.size wG w') => RCmp_any _ _ a2 z w' ((IG.out.below hb).rawL (Nat.le_trans Hsa2.out (by decide))) ((IKG.out.below hb).rawL (Nat.le_trans Hzs.out (by decide))) Hsa2.out (Nat.le_trans Hzs.out (by decide)))
      obtain ⟨sv, hsv⟩ : ∃ sv, sv = a1.sign := ⟨_, rfl⟩
      obtain ⟨ov, hov⟩ : ∃ ov, ov = ord a2 z := ⟨_, rfl⟩
      rw [← hsv] at HSgn
      rw [← hov] at HCmp
      rcases HVal.out with hf1 | ⟨hf1, hf2, hiff⟩
      · have hf1 : f1 = 13 := hf1
        subst hf1
        refine wp_region_facts (w0 := wG) 16 1 [97, 98, 99, 100, 101, 102, 103, 104, 105, 106, 107, 108, 109, 110, 111, 112] [undef, undef, undef, undef, undef, undef, undef, undef, undef, undef, undef, undef, undef, undef, undef, undef]
          (fun i => match i with | 0 => lnE (.int .i64 13) | 1 => lnE (.bool true) | 2 => lnE (.bool true) | 3 => lnE (undef) | 4 => lnE (undef) | 5 => lnE (undef) | 6 => lnE (undef) | 7 => lnE (undef) | 8 => lnE (undef) | 9 => lnE (undef) | 10 => lnE (undef) | 11 => lnE (undef) | 12 => lnE (undef) | 13 => lnE (undef) | 14 => lnE (undef) | _ => lnE (.bool true)) [] (by kernel_rfl) (by kernel_rfl) (by kernel_rfl) (by kernel_rfl) (by decide) rfl (by kernel_rfl) rfl (by simp) ?he1 ?_ ?_ ?_
        case he1 => simp only [putAll, Act.put, List.setIfInBounds_toArray, List.set_cons_zero, List.set_cons_succ]
        · intro i hi; simp at hi
        · intro i o hi ho vs wx hvl hb hdep K hK
          have hvs := vlen16 hvl
          obtain ⟨s97, s98, s99, s100, s101, s102, s103, s104, s105, s106, s107, s108, s109, s110, s111, s112, rfl⟩ := hvs
          clear hvl
          obtain ⟨y0, y1, -, -⟩ := two_cells ((hb.block wD.heap.size (by omega)).trans EEG.out)
          obtain ⟨y2, y3, -, -⟩ := two_cells ((hb.block wF.heap.size (by omega)).trans EGG.out)
          obtain ⟨y4, y5, -, -⟩ := two_cells ((hb.block (w5.heap.size + 1) (by omega)).trans EKG.out)
          rcases i with _ | _ | _ | _ | _ | _ | _ | _ | _ | _ | _ | _ | _ | _ | _ | _ | i
          all_goals (simp only [List.getElem?_toArray, List.getElem?_cons_zero, List.getElem?_cons_succ, Option.some.injEq] at ho)
          all_goals try (subst ho)
          all_goals try simp only [putAll, Act.put, List.setIfInBounds_toArray, List.set_cons_zero, List.set_cons_succ]
          · go_simp
            have hK' := hK.out
            simp only [putAll, Act.put, List.setIfInBounds_toArray, List.set_cons_zero, List.set_cons_succ] at hK'
            exact hK' _ _ rfl (Below.refl _ _) (by simp)
          · have e0 : s97 = _ := hdep ⟨0, .data⟩ (by simp) rfl
            have e0 := e0.symm
            subst e0
            go_simp
            have hK' := hK.out
            simp only [putAll, Act.put, List.setIfInBounds_toArray, List.set_cons_zero, List.set_cons_succ] at hK'
            exact hK' _ _ rfl (Below.refl _ _) (by simp)
          · have e1 : s98 = _ := hdep ⟨1, .data⟩ (by simp) rfl
            have e1 := e1.symm
            subst e1
            go_simp
            have hK' := hK.out
            simp only [putAll, Act.put, List.setIfInBounds_toArray, List.set_cons_zero, List.set_cons_succ] at hK'
            exact hK' _ _ rfl (Below.refl _ _) (by simp)
          · go_simp
            have eg : s99 = _ := hdep ⟨2, .guard⟩ (by simp) rfl
            have eg := eg.symm
            subst eg
            first | go_simp | skip
            try rw [if_neg (by simp [undef])]
            have hK' := hK.out
            simp only [putAll, Act.put, List.setIfInBounds_toArray, List.set_cons_zero, List.set_cons_succ] at hK'
            exact hK' _ _ rfl (Below.refl _ _) (by simp)
          · go_simp
            have eg : s99 = _ := hdep ⟨2, .guard⟩ (by simp) rfl
            have eg := eg.symm
            subst eg
            first | go_simp | skip
            try rw [if_neg (by simp [undef])]
            have hK' := hK.out
            simp only [putAll, Act.put, List.setIfInBounds_toArray, List.set_cons_zero, List.set_cons_succ] at hK'
            exact hK' _ _ rfl (Below.refl _ _) (by simp)
          · go_simp
            have eg : s99 = _ := hdep ⟨2, .guard⟩ (by simp) rfl
            have eg := eg.symm
            subst eg
            first | go_simp | skip
            try rw [if_neg (by simp [undef])]
            have hK' := hK.out
            simp only [putAll, Act.put, List.setIfInBounds_toArray, List.set_cons_zero, List.set_cons_succ] at hK'
            exact hK' _ _ rfl (Below.refl _ _) (by simp)
          · go_simp
            have eg : s102 = _ := hdep ⟨5, .guard⟩ (by simp) rfl
            have eg := eg.symm
            subst eg
            first | go_simp | skip
            try rw [if_neg (by simp [undef])]
            have hK' := hK.out
            simp only [putAll, Act.put, List.setIfInBounds_toArray, List.set_cons_zero, List.set_cons_succ] at hK'
            exact hK' _ _ rfl (Below.refl _ _) (by simp)
          · go_simp
            have eg : s102 = _ := hdep ⟨5, .guard⟩ (by simp) rfl
            have eg := eg.symm
            subst eg
            first | go_simp | skip
            try rw [if_neg (by simp [undef])]
            have hK' := hK.out
            simp only [putAll, Act.put, List.setIfInBounds_toArray, List.set_cons_zero, List.set_cons_succ] at hK'
            exact hK' _ _ rfl (Below.refl _ _) (by simp)
          · go_simp
            have eg : s102 = _ := hdep ⟨5, .guard⟩ (by simp) rfl
            have eg := eg.symm
            subst eg
            first | go_simp | skip
            try rw [if_neg (by simp [undef])]
            have hK' := hK.out
            simp only [putAll, Act.put, List.setIfInBounds_toArray, List.set_cons_zero, List.set_cons_succ] at hK'
            exact hK' _ _ rfl (Below.refl _ _) (by simp)
          · go_simp
            have eg : s102 = _ := hdep ⟨5, .guard⟩ (by simp) rfl
            have eg := eg.symm
            subst eg
            first | go_simp | skip
            try rw [if_neg (by simp [undef])]
            have hK' := hK.out
            simp only [putAll, Act.put, List.setIfInBounds_toArray, List.set_cons_zero, List.set_cons_succ] at hK'
            exact hK' _ _ rfl (Below.refl _ _) (by simp)
          · go_simp
            have eg : s102 = _ := hdep ⟨5, .guard⟩ (by simp) rfl
            have eg := eg.symm
            subst eg
            first | go_simp | skip
            try rw [if_neg (by simp [undef])]
            have hK' := hK.out
            simp only [putAll, Act.put, List.setIfInBounds_toArray, List.set_cons_zero, List.set_cons_succ] at hK'
            exact hK' _ _ rfl (Below.refl _ _) (by simp)
          · go_simp
            have eg : s102 = _ := hdep ⟨5, .guard⟩ (by simp) rfl
            have eg := eg.symm
            subst eg
            first | go_simp | skip
            try rw [if_neg (by simp [undef])]
            have hK' := hK.out
            simp only [putAll, Act.put, List.setIfInBounds_toArray, List.set_cons_zero, List.set_cons_succ] at hK'
            exact hK' _ _ rfl (Below.refl _ _) (by simp)
          · go_simp
            have eg : s102 = _ := hdep ⟨5, .guard⟩ (by simp) rfl
            have eg := eg.symm
            subst eg
            first | go_simp | skip
            try rw [if_neg (by simp [undef])]
            have hK' := hK.out
            simp only [putAll, Act.put, List.setIfInBounds_toArray, List.set_cons_zero, List.set_cons_succ] at hK'
            exact hK' _ _ rfl (Below.refl _ _) (by simp)
          · go_simp
            have eg : s102 = _ := hdep ⟨5, .guard⟩ (by simp) rfl
            have eg := eg.symm
            subst eg
            first | go_simp | skip
            try rw [if_neg (by simp [undef])]
            have hK' := hK.out
            simp only [putAll, Act.put, List.setIfInBounds_toArray, List.set_cons_zero, List.set_cons_succ] at hK'
            exact hK' _ _ rfl (Below.refl _ _) (by simp)
          · go_simp
            have eg : s99 = _ := hdep ⟨2, .guard⟩ (by simp) rfl
            have eg := eg.symm
            subst eg
            first | go_simp | skip
            try rw [if_neg (by simp [undef])]
            have hK' := hK.out
            simp only [putAll, Act.put, List.setIfInBounds_toArray, List.set_cons_zero, List.set_cons_succ] at hK'
            exact hK' _ _ rfl (Below.refl _ _) (by simp)
          · have e2 : s99 = _ := hdep ⟨2, .data⟩ (by simp) rfl
            have e2 := e2.symm
            subst e2
            go_simp
            have hK' := hK.out
            simp only [putAll, Act.put, List.setIfInBounds_toArray, List.set_cons_zero, List.set_cons_succ] at hK'
            exact hK' _ _ rfl (Below.refl _ _) (by simp)
          · omega
        · intro vs wx hvl hb hf hdist
          have hvs := vlen16 hvl
          obtain ⟨s97, s98, s99, s100, s101, s102, s103, s104, s105, s106, s107, s108, s109, s110, s111, s112, rfl⟩ := hvs
          have f15 : s112 = .bool true := hf 15 (by decide)
          subst f15
          have HBX := hid (lnGo hb BG.out)
          clear hf hvl hdist
          refine wpAny_one (i := 16) (by kernel_rfl) rfl ?_
          intro K hK
          simp only [putAll, Act.put, List.setIfInBounds_toArray, List.set_cons_zero, List.set_cons_succ]
          have hK' := hK.out
          go_simp
          apply hK'
          clear hK hK'
          refine wpAny_done (by kernel_rfl) ?_ _
          go_wp2
          go_ret
          exact ⟨rfl, HBX.out⟩
      · have hf1 : f1 = 0 := hf1
        have hf2 : f2 = 0 := hf2
        have hiff : a1 ≤ 0 ↔ a2 ≤ z := hiff
        subst hf1 hf2
        obtain ⟨bb, hbb⟩ : ∃ bb, bb = decide (a1 ≤ 0) := ⟨_, rfl⟩
        have HB1 : Hid (decide (sv ≤ 0) = bb) := hid (by
          rw [hbb, hsv, decide_eq_decide]
          rcases Int.lt_trichotomy a1 0 with h | h | h
          · rw [Int.sign_eq_neg_one_of_neg h]; omega
          · rw [h]; decide
          · rw [Int.sign_eq_one_of_pos h]; omega)
        have HB2 : Hid (decide (ov ≤ 0) = bb) := hid (by
          rw [hbb, hov, decide_eq_decide, hiff]
          unfold ord
          split
          · omega
          · split <;> omega)
        clear hsv hov hbb hiff
        refine wp_region_facts (w0 := wG) 16 1 [97, 98, 99, 100, 101, 102, 103, 104, 105, 106, 107, 108, 109, 110, 111, 112] [undef, undef, undef, undef, undef, undef, undef, undef, undef, undef, undef, undef, undef, undef, undef, undef]
          (fun i => match i with | 0 => lnE (.int .i64 0) | 1 => lnE (.bool false) | 2 => lnE (.bool false) | 3 => lnE (.int .i64 0) | 4 => lnE (.bool true) | 5 => lnE (.bool true) | 6 => lnE (.agg #[.bool gD, .slice pD nD cD]) | 7 => lnE (.int .i64 sv) | 8 => lnE (.bool bb) | 9 => lnE (.agg #[.bool gF, .slice pF nF cF]) | 10 => lnE (.agg #[.bool g6, .slice p6 n6 c6]) | 11 => lnE (.int .i64 ov) | 12 => lnE (.bool bb) | 13 => lnE (.bool true) | 14 => lnE (.bool true) | _ => lnE (.bool true)) [] (by kernel_rfl) (by kernel_rfl) (by kernel_rfl) (by kernel_rfl) (by decide) rfl (by kernel_rfl) rfl (by simp) ?he2 ?_ ?_ ?_
        case he2 => simp only [putAll, Act.put, List.setIfInBounds_toArray, List.set_cons_zero, List.set_cons_succ]
        · intro i hi; simp at hi
        · intro i o hi ho vs wx hvl hb hdep K hK
          have hvs := vlen16 hvl
          obtain ⟨s97, s98, s99, s100, s101, s102, s103, s104, s105, s106, s107, s108, s109, s110, s111, s112, rfl⟩ := hvs
          clear hvl
          obtain ⟨y0, y1, -, -⟩ := two_cells ((hb.block wD.heap.size (by omega)).trans EEG.out)
          obtain ⟨y2, y3, -, -⟩ := two_cells ((hb.block wF.heap.size (by omega)).trans EGG.out)
          obtain ⟨y4, y5, -, -⟩ := two_cells ((hb.block (w5.heap.size + 1) (by omega)).trans EKG.out)
          rcases i with _ | _ | _ | _ | _ | _ | _ | _ | _ | _ | _ | _ | _ | _ | _ | _ | i
          all_goals (simp only [List.getElem?_toArray, List.getElem?_cons_zero, List.getElem?_cons_succ, Option.some.injEq] at ho)
          all_goals try (subst ho)
          all_goals try simp only [putAll, Act.put, List.setIfInBounds_toArray, List.set_cons_zero, List.set_cons_succ]
          · go_simp
            have hK' := hK.out
            simp only [putAll, Act.put, List.setIfInBounds_toArray, List.set_cons_zero, List.set_cons_succ] at hK'
            exact hK' _ _ rfl (Below.refl _ _) (by simp)
          · have e0 : s97 = _ := hdep ⟨0, .data⟩ (by simp) rfl
            have e0 := e0.symm
            subst e0
            go_simp
            have hK' := hK.out
            simp only [putAll, Act.put, List.setIfInBounds_toArray, List.set_cons_zero, List.set_cons_succ] at hK'
            exact hK' _ _ rfl (Below.refl _ _) (by simp)
          · have e1 : s98 = _ := hdep ⟨1, .data⟩ (by simp) rfl
            have e1 := e1.symm
            subst e1
            go_simp
            have hK' := hK.out
            simp only [putAll, Act.put, List.setIfInBounds_toArray, List.set_cons_zero, List.set_cons_succ] at hK'
            exact hK' _ _ rfl (Below.refl _ _) (by simp)
          · have eg : s99 = _ := hdep ⟨2, .guard⟩ (by simp) rfl
            have eg := eg.symm
            subst eg
            go_simp
            have hK' := hK.out
            simp only [putAll, Act.put, List.setIfInBounds_toArray, List.set_cons_zero, List.set_cons_succ] at hK'
            exact hK' _ _ rfl (Below.refl _ _) (by simp)
          · have e3 : s100 = _ := hdep ⟨3, .data⟩ (by simp) rfl
            have e3 := e3.symm
            subst e3
            have eg : s99 = _ := hdep ⟨2, .guard⟩ (by simp) rfl
            have eg := eg.symm
            subst eg
            go_simp
            have hK' := hK.out
            simp only [putAll, Act.put, List.setIfInBounds_toArray, List.set_cons_zero, List.set_cons_succ] at hK'
            exact hK' _ _ rfl (Below.refl _ _) (by simp)
          · have e4 : s101 = _ := hdep ⟨4, .data⟩ (by simp) rfl
            have e4 := e4.symm
            subst e4
            have eg : s99 = _ := hdep ⟨2, .guard⟩ (by simp) rfl
            have eg := eg.symm
            subst eg
            go_simp
            have hK' := hK.out
            simp only [putAll, Act.put, List.setIfInBounds_toArray, List.set_cons_zero, List.set_cons_succ] at hK'
            exact hK' _ _ rfl (Below.refl _ _) (by simp)
          · have eg : s102 = _ := hdep ⟨5, .guard⟩ (by simp) rfl
            have eg := eg.symm
            subst eg
            go_simp
            have hK' := hK.out
            simp only [putAll, Act.put, List.setIfInBounds_toArray, List.set_cons_zero, List.set_cons_succ] at hK'
            exact hK' _ _ rfl (Below.refl _ _) (by simp)
          · have e6 : s103 = _ := hdep ⟨6, .data⟩ (by simp) rfl
            have e6 := e6.symm
            subst e6
            have eg : s102 = _ := hdep ⟨5, .guard⟩ (by simp) rfl
            have eg := eg.symm
            subst eg
            go_simp
            go_simp
            refine (HSgn.out wx hb).mono ?_
            rintro e wy ⟨rfl, hby⟩
            go_wp2_with fail
            have hK' := hK.out
            simp only [putAll, Act.put, List.setIfInBounds_toArray, List.set_cons_zero, List.set_cons_succ] at hK'
            exact hK' _ _ rfl hby (by simp)
          · have e7 : s104 = _ := hdep ⟨7, .data⟩ (by simp) rfl
            have e7 := e7.symm
            subst e7
            have eg : s102 = _ := hdep ⟨5, .guard⟩ (by simp) rfl
            have eg := eg.symm
            subst eg
            go_simp
            have hK' := hK.out
            simp only [putAll, Act.put, List.setIfInBounds_toArray, List.set_cons_zero, List.set_cons_succ] at hK'
            exact hK' _ _ (show Value.bool (decide (sv ≤ 0)) = .bool bb by rw [HB1.out]) (Below.refl _ _) (by simp)
          · have eg : s102 = _ := hdep ⟨5, .guard⟩ (by simp) rfl
            have eg := eg.symm
            subst eg
            go_simp
            have hK' := hK.out
            simp only [putAll, Act.put, List.setIfInBounds_toArray, List.set_cons_zero, List.set_cons_succ] at hK'
            exact hK' _ _ rfl (Below.refl _ _) (by simp)
          · have eg : s102 = _ := hdep ⟨5, .guard⟩ (by simp) rfl
            have eg := eg.symm
            subst eg
            go_simp
            have hK' := hK.out
            simp only [putAll, Act.put, List.setIfInBounds_toArray, List.set_cons_zero, List.set_cons_succ] at hK'
            exact hK' _ _ rfl (Below.refl _ _) (by simp)
          · have e9 : s106 = _ := hdep ⟨9, .data⟩ (by simp) rfl
            have e9 := e9.symm
            subst e9
            have e10 : s107 = _ := hdep ⟨10, .data⟩ (by simp) rfl
            have e10 := e10.symm
            subst e10
            have eg : s102 = _ := hdep ⟨5, .guard⟩ (by simp) rfl
            have eg := eg.symm
            subst eg
            go_simp
            go_simp
            refine (HCmp.out wx hb).mono ?_
            rintro e wy ⟨rfl, hby⟩
            go_wp2_with fail
            have hK' := hK.out
            simp only [putAll, Act.put, List.setIfInBounds_toArray, List.set_cons_zero, List.set_cons_succ] at hK'
            exact hK' _ _ rfl hby (by simp)
          · have e11 : s108 = _ := hdep ⟨11, .data⟩ (by simp) rfl
            have e11 := e11.symm
            subst e11
            have eg : s102 = _ := hdep ⟨5, .guard⟩ (by simp) rfl
            have eg := eg.symm
            subst eg
            go_simp
            have hK' := hK.out
            simp only [putAll, Act.put, List.setIfInBounds_toArray, List.set_cons_zero, List.set_cons_succ] at hK'
            exact hK' _ _ (show Value.bool (decide (ov ≤ 0)) = .bool bb by rw [HB2.out]) (Below.refl _ _) (by simp)
          · have e8 : s105 = _ := hdep ⟨8, .data⟩ (by simp) rfl
            have e8 := e8.symm
            subst e8
            have e12 : s109 = _ := hdep ⟨12, .data⟩ (by simp) rfl
            have e12 := e12.symm
            subst e12
            have eg : s102 = _ := hdep ⟨5, .guard⟩ (by simp) rfl
            have eg := eg.symm
            subst eg
            go_simp
            have hK' := hK.out
            simp only [putAll, Act.put, List.setIfInBounds_toArray, List.set_cons_zero, List.set_cons_succ] at hK'
            exact hK' _ _ (show _ = Value.bool true by first | rfl | simp) (Below.refl _ _) (by simp)
          · have e5 : s102 = _ := hdep ⟨5, .data⟩ (by simp) rfl
            have e5 := e5.symm
            subst e5
            have e13 : s110 = _ := hdep ⟨13, .data⟩ (by simp) rfl
            have e13 := e13.symm
            subst e13
            have eg : s99 = _ := hdep ⟨2, .guard⟩ (by simp) rfl
            have eg := eg.symm
            subst eg
            go_simp
            have hK' := hK.out
            simp only [putAll, Act.put, List.setIfInBounds_toArray, List.set_cons_zero, List.set_cons_succ] at hK'
            exact hK' _ _ rfl (Below.refl _ _) (by simp)
          · have e2 : s99 = _ := hdep ⟨2, .data⟩ (by simp) rfl
            have e2 := e2.symm
            subst e2
            have e14 : s111 = _ := hdep ⟨14, .data⟩ (by simp) rfl
            have e14 := e14.symm
            subst e14
            go_simp
            have hK' := hK.out
            simp only [putAll, Act.put, List.setIfInBounds_toArray, List.set_cons_zero, List.set_cons_succ] at hK'
            exact hK' _ _ rfl (Below.refl _ _) (by simp)
          · omega
        · intro vs wx hvl hb hf hdist
          have hvs := vlen16 hvl
          obtain ⟨s97, s98, s99, s100, s101, s102, s103, s104, s105, s106, s107, s108, s109, s110, s111, s112, rfl⟩ := hvs
          have f15 : s112 = .bool true := hf 15 (by decide)
          subst f15
          have HBX := hid (lnGo hb BG.out)
          clear hf hvl hdist
          refine wpAny_one (i := 16) (by kernel_rfl) rfl ?_
          intro K hK
          simp only [putAll, Act.put, List.setIfInBounds_toArray, List.set_cons_zero, List.set_cons_succ]
          have hK' := hK.out
          go_simp
          apply hK'
          clear hK hK'
          refine wpAny_done (by kernel_rfl) ?_ _
          go_wp2
          go_ret
          exact ⟨rfl, HBX.out⟩
end Go.Proofs.YtjfcocadohgneaaGreat
