/- Texts put together: AtFix, LnRIs, AtLawMeans. -/
import Derived.Test.YtnfohbpgnbfmeaaGreatDoorAtomsMeansCardM5
/- elenchuslaw10's small functions: sum and fixed. Made by gen_atfix.py. -/
namespace Go.Proofs.YtnfohbpgnbfmeaaGreatDoor
open Go.RowKit Big

theorem vlen34 {vs : List Value} (h : vs.length = 34) : ∃ v0 v1 v2 v3 v4 v5 v6 v7 v8 v9 v10 v11 v12 v13 v14 v15 v16 v17 v18 v19 v20 v21 v22 v23 v24 v25 v26 v27 v28 v29 v30 v31 v32 v33, vs = [v0, v1, v2, v3, v4, v5, v6, v7, v8, v9, v10, v11, v12, v13, v14, v15, v16, v17, v18, v19, v20, v21, v22, v23, v24, v25, v26, v27, v28, v29, v30, v31, v32, v33] := by
  match vs, h with
  | v0 :: v1 :: v2 :: v3 :: v4 :: v5 :: v6 :: v7 :: v8 :: v9 :: v10 :: v11 :: v12 :: v13 :: v14 :: v15 :: v16 :: v17 :: v18 :: v19 :: v20 :: v21 :: v22 :: v23 :: v24 :: v25 :: v26 :: v27 :: v28 :: v29 :: v30 :: v31 :: v32 :: v33 :: [], _ => exact ⟨v0, v1, v2, v3, v4, v5, v6, v7, v8, v9, v10, v11, v12, v13, v14, v15, v16, v17, v18, v19, v20, v21, v22, v23, v24, v25, v26, v27, v28, v29, v30, v31, v32, v33, rfl⟩
set_option maxRecDepth 100000 in
theorem sum_any10 (k z : Int) (w : World) (hk0 : -9223372036854775808 ≤ k) (hk1 : k ≤ 9223372036854775807) (h0 : -9223372036854775808 ≤ z) (h1 : z ≤ 9223372036854775807) : Calls Tryz.prog 28 #[.int .i64 k, .int .i64 z] w (RLin ([(k, 0)], z) w) := by
  have hO := hid (fun w' => ROf_any z w' h0 h1)
  have hK := hid (fun w' => ROf_any k w' hk0 hk1)
  clear h0 h1 hk0 hk1
  obtain ⟨W1, hW⟩ : ∃ W1, W1 = w.alloc (.cells #[.slice none 0 0, .bool false, .slice none 0 0] 37) := ⟨_, rfl⟩
  have b1 : Below w.heap.size w W1 := by rw [hW]; exact below1 w _
  have z1 : W1.heap.size = w.heap.size + 1 := by rw [hW, size_alloc]
  have e1 : W1.heap[w.heap.size]? = some (.cells #[.slice none 0 0, .bool false, .slice none 0 0] 37 (0, 0)) := by rw [hW]; exact heap_alloc_new w _
  have B1 := hid b1; have E1 := hid e1
  clear b1 e1
  go_enter Tryz.func28, Tryz.ntmps28
  go_wp2_with fail
  rw [← hW]
  clear hW
  refine (hK.out W1).mono ?_
  rintro e w2 ⟨v2, rfl, i2, b2⟩
  obtain ⟨p2, n2, c2, rfl, i2⟩ := i2.shape
  obtain ⟨dk, hdk⟩ : ∃ d, d = decide (k < 0) := ⟨_, rfl⟩
  rw [← hdk] at i2 ⊢
  have Hdk := hid hdk
  clear hdk
  have z2 := b2.size
  obtain ⟨W3, hW3⟩ : ∃ W3, W3 = w2.alloc (.cells #[.bool dk, .slice p2 n2 c2, .int .i64 0] 63) := ⟨_, rfl⟩
  have b3 : Below w2.heap.size w2 W3 := by rw [hW3]; exact below1 _ _
  have e3 : W3.heap[w2.heap.size]? = some (.cells #[.bool dk, .slice p2 n2 c2, .int .i64 0] 63 (0, 0)) := by rw [hW3]; exact heap_alloc_new _ _
  have z3 : W3.heap.size = w2.heap.size + 1 := by rw [hW3, size_alloc]
  have I3 := hid (i2.below b3)
  have B3 := hid (lnGo b3 (lnGo b2 B1.out))
  have E13 := hid ((b3.block w.heap.size (by omega)).trans ((b2.block w.heap.size (by omega)).trans E1.out))
  have E3 := hid e3
  clear i2 b3 e3 b2
  go_wp2_with fail
  rw [← hW3]
  clear hW3
  refine (hO.out W3).mono ?_
  rintro e w4 ⟨v4, rfl, i4, b4⟩
  obtain ⟨p4, n4, c4, rfl, i4⟩ := i4.shape
  have e14 := (b4.block w.heap.size (by omega)).trans E13.out
  have e34 := (b4.block w2.heap.size (by omega)).trans E3.out
  obtain ⟨x0, x1, x2⟩ := lnCells3 e14
  have fz0 := frozen_of_row w4 w.heap.size 0 _ _ e14
  have fz1 := frozen_of_row w4 w.heap.size 1 _ _ e14
  have fz2 := frozen_of_row w4 w.heap.size 2 _ _ e14
  have hT : LnT w4 (.agg #[.slice (some ⟨w2.heap.size, 0, none⟩) 1 1, .bool (decide (z < 0)), .slice p4 n4 c4]) ([(k, 0)], z) :=
    ⟨_, _, rfl, ⟨_, 1, rfl, by simp, by simp [maxLen], (fun h => by cases h), fun _ => ⟨w2.heap.size, 0, rfl, (Array.getElem?_eq_some_iff.1 e34).1, fun i hi => by
      obtain rfl : i = 0 := by simp at hi; omega
      refine ⟨[.bool dk, .slice p2 n2 c2, .int .i64 0], fun j u hj => ?_, .slice p2 n2 c2, by rw [Hdk.out]; rfl, by have := I3.out.below b4; rw [Hdk.out] at this; exact this, (wfI_iff 0).2 (by decide)⟩
      rw [cell_of_row w4 w2.heap.size _ _ _ (0, 0) e34]
      simpa using hj⟩⟩, i4⟩
  have HT := hid (hT.quiet (st3_apart w4 w.heap.size (.slice (some ⟨w2.heap.size, 0, none⟩) 1 1) (.bool (decide (z < 0))) (.slice p4 n4 c4)) (fun b hb => by rw [hb]; exact NoInt.cells e14 (by simp)))
  have HB := hid (st3_below (lnGo b4 B3.out) (g := w.heap.size) (Nat.le_refl _) (.slice (some ⟨w2.heap.size, 0, none⟩) 1 1) (.bool (decide (z < 0))) (.slice p4 n4 c4))
  clear hT i4 b4 e14 e34
  go_wp2
  exact bodyPost_ret (v := .agg #[.slice (some ⟨w2.heap.size, 0, none⟩) 1 1, .bool (decide (z < 0)), .slice p4 n4 c4]) (by simp [results, Tryz.results28, go_sem, x0, x1, x2]) rfl ⟨_, rfl, HT.out, HB.out⟩

def atS1 : AtS := ⟨[[(1, 0)]], [(0, 3)]⟩
theorem AtS.same {a b : AtS} (h1 : a.rows = b.rows) (h2 : a.atoms = b.atoms) : a = b := by
  cases a; cases b
  simp only at h1 h2
  rw [h1, h2]
theorem atFix1 : atAsk1 ⟨[], []⟩ ([(2, 0)], -6) = atS1 ∧ atAns ⟨[], []⟩ [(2, 0)] (-6) = (0, true, 0) := ⟨AtS.same (by decide +kernel) (by decide +kernel), by decide +kernel⟩
theorem atFix2 : atAsk1 atS1 ([(-1, 0)], 4) = atS1 ∧ atAns atS1 [(-1, 0)] 4 = (0, false, 0) := ⟨AtS.same (by decide +kernel) (by decide +kernel), by decide +kernel⟩
theorem AtGood.one : AtGood 7 atS1 := by
  have h := (AtGood.nil 7).ask (l := [(2, 0)]) (c := -6) (by decide +kernel) (by decide +kernel) (by decide +kernel) (by decide) (by decide)
  rw [show (atAsk ⟨[], []⟩ [(2, 0)] (-6)).1 = atS1 from AtS.same (by decide +kernel) (by decide +kernel)] at h
  exact h
set_option maxRecDepth 100000 in
set_option maxHeartbeats 12800000 in
theorem fixed10_any (w : World) (htab : Tb w.heap.size w) : Calls Tryz.prog 9 #[] w (RBool true w) := by
  have Ht := hid htab
  clear htab
  go_enter Tryz.func9, Tryz.ntmps9
  go_wp2_with fail
  refine (New_any w).mono ?_
  rintro e w1 ⟨rfl, hA1, b1⟩
  have HA1 := hid hA1
  have B1 := hid b1
  clear hA1 b1
  go_wp2_with fail
  refine (sum_any10 2 (-6) w1 (by decide) (by decide) (by decide) (by decide)).mono ?_
  rintro e w2 ⟨v2, rfl, t2, b2⟩
  obtain ⟨vr, va, m1, m2, hI⟩ := HA1.out
  have s1 : LnSz 6 ([((2 : Int), (0 : Int))], (-6 : Int)) := ⟨by decide +kernel, by decide +kernel⟩
  have hb2 := lnGo b2 B1.out
  have z2 := hb2.size
  have HC := Ask_any w.heap.size w.heap.size vr va m1 m2 ⟨[], []⟩ v2 [(2, 0)] (-6) w2 (hI.below b2) (AtGood.nil 7) z2 (t2.raw s1 (by decide)) s1 (by decide) (by decide) (by decide) (tab_go Ht.out hb2)
  rw [atFix1.1, atFix1.2] at HC
  have HC := hid HC
  have HIo := hid ((hI.below b2).own)
  have HB2 := hid hb2
  clear t2 b2 hI HA1 hb2
  go_wp2_with fail
  refine HC.out.mono ?_
  rintro e w3 ⟨rfl, vr3, va3, m13, m23, hI3, hA3, -⟩
  have hb3 : Below w.heap.size w w3 := HB2.out.trans (Apart.below hA3 z2 (fun b hb => (HIo.out b hb).1))
  have z3 := hb3.size
  have HI3 := hid hI3; have HB3 := hid hb3
  clear hI3 hA3 hb3 HC HIo HB2
  go_wp2_with fail
  refine (sum_any10 (-1) 4 w3 (by decide) (by decide) (by decide) (by decide)).mono ?_
  rintro e w4 ⟨v4, rfl, t4, b4⟩
  have s4 : LnSz 6 ([((-1 : Int), (0 : Int))], (4 : Int)) := ⟨by decide +kernel, by decide +kernel⟩
  have hb4 := lnGo b4 HB3.out
  have z4 := hb4.size
  have HC := Ask_any w.heap.size w.heap.size vr3 va3 m13 m23 atS1 v4 [(-1, 0)] 4 w4 (HI3.out.below b4) AtGood.one z4 (t4.raw s4 (by decide)) s4 (by decide) (by decide) (by decide) (tab_go Ht.out hb4)
  rw [atFix2.1, atFix2.2] at HC
  have HC := hid HC
  have HIo := hid ((HI3.out.below b4).own)
  have HB4 := hid hb4
  clear t4 b4 HI3 hb4
  go_wp2_with fail
  refine HC.out.mono ?_
  rintro e w5 ⟨rfl, vr5, va5, m15, m25, hI5, hA5, -⟩
  have hb5 : Below w.heap.size w w5 := HB4.out.trans (Apart.below hA5 z4 (fun b hb => (HIo.out b hb).1))
  have HL := hid (List_any w.heap.size w.heap.size vr5 va5 m15 m25 atS1 w5 hI5 AtGood.one (by decide))
  have HB5 := hid hb5
  clear hI5 hA5 hb5 HC HIo HB4
  go_wp2_with fail
  refine HL.out.mono ?_
  rintro e w6 ⟨v6, rfl, hL6, b6⟩
  obtain ⟨p6, c6, rfl, i1, i2, -, i4⟩ := hL6
  obtain ⟨b, off, rfl, hb, hc⟩ := i4 (by decide)
  obtain ⟨cc, kk, sx, rfl, hI⟩ := hc 0 (by decide)
  have hI : IntAt w6 (.agg #[.bool false, sx]) 3 := hI
  obtain ⟨pk, nk, ck, eq1, hI⟩ := hI.shape
  obtain rfl : sx = .slice pk nk ck := by injection eq1 with eq1; simp at eq1; exact eq1
  have y1 := kk 1 _ rfl
  have y2 := kk 2 _ rfl
  simp only [Nat.zero_mul, Nat.add_zero] at y1 y2
  have HS : Hid (∀ w', Below w6.heap.size w6 w' → w'.cell? ⟨b, off + 1, none⟩ = some (.bool false) ∧ w'.cell? ⟨b, off + 2, none⟩ = some (.slice pk nk ck)) := hid fun w' hb' => ⟨(hb'.cell (p := ⟨b, off + 1, none⟩) hb).trans y1, (hb'.cell (p := ⟨b, off + 2, none⟩) hb).trans y2⟩
  have I6 := hid (show IntAt w6 (.agg #[.bool false, .slice pk nk ck]) 3 from hI)
  have HB6 := hid (lnGo b6 HB5.out)
  have i1 : 1 ≤ c6 := i1
  have hlen : (atS1.atoms.length : Nat) = 1 := rfl
  rw [hlen]
  clear hc kk hI eq1 y1 y2 b6 HL HB5 i4
  go_upto_region 5 with fail
  refine wp_region_facts (w0 := w6) 34 1 [26, 27, 28, 29, 30, 31, 32, 33, 34, 35, 36, 37, 38, 39, 40, 41, 42, 43, 44, 45, 46, 47, 48, 49, 50, 51, 52, 53, 54, 55, 56, 57, 58, 59] [undef, undef, undef, undef, undef, undef, undef, undef, undef, undef, undef, undef, undef, undef, undef, undef, undef, undef, undef, undef, undef, undef, undef, undef, undef, undef, undef, undef, undef, undef, undef, undef, undef, undef]
    (fun i => match i with | 0 => lnE (.int .i64 0) | 1 => lnE (.bool true) | 2 => lnE (.bool true) | 3 => lnE (.int .i64 0) | 4 => lnE (.bool true) | 5 => lnE (.bool true) | 6 => lnE (.bool true) | 7 => lnE (.int .i64 0) | 8 => lnE (.bool true) | 9 => lnE (.bool true) | 10 => lnE (.bool true) | 11 => lnE (.bool true) | 12 => lnE (.bool true) | 13 => lnE (.bool true) | 14 => lnE (.int .i64 0) | 15 => lnE (.bool true) | 16 => lnE (.bool true) | 17 => lnE (.bool true) | 18 => lnE (.bool false) | 19 => lnE (.bool true) | 20 => lnE (.bool true) | 21 => lnE (.bool true) | 22 => lnE (.slice (some ⟨b, off, none⟩) 1 c6) | 23 => lnE (.int .i64 1) | 24 => lnE (.bool true) | 25 => lnE (.bool true) | 26 => lnE (.bool true) | 27 => lnE (.slice (some ⟨b, off, none⟩) 1 c6) | 28 => lnE (.pointer (some ⟨b, off, none⟩)) | 29 => lnE (.pointer (some ⟨b, off + 1, none⟩)) | 30 => lnE (.agg #[.bool false, .slice pk nk ck]) | 31 => lnI 3 | 32 => lnE (.bool true) | _ => lnE (.bool true)) [] (by kernel_rfl) (by kernel_rfl) (by kernel_rfl) (by kernel_rfl) (by decide) rfl (by kernel_rfl) rfl (by simp) ?he1 ?_ ?_ ?_
  case he1 => simp only [putAll, Act.put, List.setIfInBounds_toArray, List.set_cons_zero, List.set_cons_succ]
  · intro i hi; simp at hi
  · intro i o hi ho vs wx hvl hb hdep K hK
    have hvs := vlen34 hvl
    obtain ⟨s26, s27, s28, s29, s30, s31, s32, s33, s34, s35, s36, s37, s38, s39, s40, s41, s42, s43, s44, s45, s46, s47, s48, s49, s50, s51, s52, s53, s54, s55, s56, s57, s58, s59, rfl⟩ := hvs
    clear hvl
    have hk5 := HS.out wx hb
    obtain ⟨y1, y2⟩ := hk5
    rcases i with _ | _ | _ | _ | _ | _ | _ | _ | _ | _ | _ | _ | _ | _ | _ | _ | _ | _ | _ | _ | _ | _ | _ | _ | _ | _ | _ | _ | _ | _ | _ | _ | _ | _ | i
    all_goals (simp only [List.getElem?_toArray, List.getElem?_cons_zero, List.getElem?_cons_succ, Option.some.injEq] at ho)
    all_goals try (subst ho)
    all_goals try simp only [putAll, Act.put, List.setIfInBounds_toArray, List.set_cons_zero, List.set_cons_succ]
    · go_simp
      have hK' := hK.out
      simp only [putAll, Act.put, List.setIfInBounds_toArray, List.set_cons_zero, List.set_cons_succ] at hK'
      exact hK' _ _ rfl (Below.refl _ _) (by simp)
    · have e0 : s26 = _ := hdep ⟨0, .data⟩ (by simp) rfl
      have e0 := e0.symm
      subst e0
      go_simp
      have hK' := hK.out
      simp only [putAll, Act.put, List.setIfInBounds_toArray, List.set_cons_zero, List.set_cons_succ] at hK'
      exact hK' _ _ rfl (Below.refl _ _) (by simp)
    · have e1 : s27 = _ := hdep ⟨1, .data⟩ (by simp) rfl
      have e1 := e1.symm
      subst e1
      go_simp
      have hK' := hK.out
      simp only [putAll, Act.put, List.setIfInBounds_toArray, List.set_cons_zero, List.set_cons_succ] at hK'
      exact hK' _ _ rfl (Below.refl _ _) (by simp)
    · have eg : s28 = _ := hdep ⟨2, .guard⟩ (by simp) rfl
      have eg := eg.symm
      subst eg
      go_simp
      have hK' := hK.out
      simp only [putAll, Act.put, List.setIfInBounds_toArray, List.set_cons_zero, List.set_cons_succ] at hK'
      exact hK' _ _ rfl (Below.refl _ _) (by simp)
    · have e3 : s29 = _ := hdep ⟨3, .data⟩ (by simp) rfl
      have e3 := e3.symm
      subst e3
      have eg : s28 = _ := hdep ⟨2, .guard⟩ (by simp) rfl
      have eg := eg.symm
      subst eg
      go_simp
      have hK' := hK.out
      simp only [putAll, Act.put, List.setIfInBounds_toArray, List.set_cons_zero, List.set_cons_succ] at hK'
      exact hK' _ _ rfl (Below.refl _ _) (by simp)
    · have e2 : s28 = _ := hdep ⟨2, .data⟩ (by simp) rfl
      have e2 := e2.symm
      subst e2
      have e4 : s30 = _ := hdep ⟨4, .data⟩ (by simp) rfl
      have e4 := e4.symm
      subst e4
      go_simp
      have hK' := hK.out
      simp only [putAll, Act.put, List.setIfInBounds_toArray, List.set_cons_zero, List.set_cons_succ] at hK'
      exact hK' _ _ rfl (Below.refl _ _) (by simp)
    · have e5 : s31 = _ := hdep ⟨5, .data⟩ (by simp) rfl
      have e5 := e5.symm
      subst e5
      go_simp
      have hK' := hK.out
      simp only [putAll, Act.put, List.setIfInBounds_toArray, List.set_cons_zero, List.set_cons_succ] at hK'
      exact hK' _ _ rfl (Below.refl _ _) (by simp)
    · have eg : s32 = _ := hdep ⟨6, .guard⟩ (by simp) rfl
      have eg := eg.symm
      subst eg
      go_simp
      have hK' := hK.out
      simp only [putAll, Act.put, List.setIfInBounds_toArray, List.set_cons_zero, List.set_cons_succ] at hK'
      exact hK' _ _ rfl (Below.refl _ _) (by simp)
    · have e7 : s33 = _ := hdep ⟨7, .data⟩ (by simp) rfl
      have e7 := e7.symm
      subst e7
      have eg : s32 = _ := hdep ⟨6, .guard⟩ (by simp) rfl
      have eg := eg.symm
      subst eg
      go_simp
      have hK' := hK.out
      simp only [putAll, Act.put, List.setIfInBounds_toArray, List.set_cons_zero, List.set_cons_succ] at hK'
      exact hK' _ _ rfl (Below.refl _ _) (by simp)
    · have e6 : s32 = _ := hdep ⟨6, .data⟩ (by simp) rfl
      have e6 := e6.symm
      subst e6
      have e8 : s34 = _ := hdep ⟨8, .data⟩ (by simp) rfl
      have e8 := e8.symm
      subst e8
      go_simp
      have hK' := hK.out
      simp only [putAll, Act.put, List.setIfInBounds_toArray, List.set_cons_zero, List.set_cons_succ] at hK'
      exact hK' _ _ rfl (Below.refl _ _) (by simp)
    · have e9 : s35 = _ := hdep ⟨9, .data⟩ (by simp) rfl
      have e9 := e9.symm
      subst e9
      go_simp
      have hK' := hK.out
      simp only [putAll, Act.put, List.setIfInBounds_toArray, List.set_cons_zero, List.set_cons_succ] at hK'
      exact hK' _ _ rfl (Below.refl _ _) (by simp)
    · have eg : s36 = _ := hdep ⟨10, .guard⟩ (by simp) rfl
      have eg := eg.symm
      subst eg
      go_simp
      have hK' := hK.out
      simp only [putAll, Act.put, List.setIfInBounds_toArray, List.set_cons_zero, List.set_cons_succ] at hK'
      exact hK' _ _ rfl (Below.refl _ _) (by simp)
    · have e10 : s36 = _ := hdep ⟨10, .data⟩ (by simp) rfl
      have e10 := e10.symm
      subst e10
      have e11 : s37 = _ := hdep ⟨11, .data⟩ (by simp) rfl
      have e11 := e11.symm
      subst e11
      go_simp
      have hK' := hK.out
      simp only [putAll, Act.put, List.setIfInBounds_toArray, List.set_cons_zero, List.set_cons_succ] at hK'
      exact hK' _ _ rfl (Below.refl _ _) (by simp)
    · have e12 : s38 = _ := hdep ⟨12, .data⟩ (by simp) rfl
      have e12 := e12.symm
      subst e12
      go_simp
      have hK' := hK.out
      simp only [putAll, Act.put, List.setIfInBounds_toArray, List.set_cons_zero, List.set_cons_succ] at hK'
      exact hK' _ _ rfl (Below.refl _ _) (by simp)
    · have eg : s39 = _ := hdep ⟨13, .guard⟩ (by simp) rfl
      have eg := eg.symm
      subst eg
      go_simp
      have hK' := hK.out
      simp only [putAll, Act.put, List.setIfInBounds_toArray, List.set_cons_zero, List.set_cons_succ] at hK'
      exact hK' _ _ rfl (Below.refl _ _) (by simp)
    · have e14 : s40 = _ := hdep ⟨14, .data⟩ (by simp) rfl
      have e14 := e14.symm
      subst e14
      have eg : s39 = _ := hdep ⟨13, .guard⟩ (by simp) rfl
      have eg := eg.symm
      subst eg
      go_simp
      have hK' := hK.out
      simp only [putAll, Act.put, List.setIfInBounds_toArray, List.set_cons_zero, List.set_cons_succ] at hK'
      exact hK' _ _ rfl (Below.refl _ _) (by simp)
    · have e13 : s39 = _ := hdep ⟨13, .data⟩ (by simp) rfl
      have e13 := e13.symm
      subst e13
      have e15 : s41 = _ := hdep ⟨15, .data⟩ (by simp) rfl
      have e15 := e15.symm
      subst e15
      go_simp
      have hK' := hK.out
      simp only [putAll, Act.put, List.setIfInBounds_toArray, List.set_cons_zero, List.set_cons_succ] at hK'
      exact hK' _ _ rfl (Below.refl _ _) (by simp)
    · have e16 : s42 = _ := hdep ⟨16, .data⟩ (by simp) rfl
      have e16 := e16.symm
      subst e16
      go_simp
      have hK' := hK.out
      simp only [putAll, Act.put, List.setIfInBounds_toArray, List.set_cons_zero, List.set_cons_succ] at hK'
      exact hK' _ _ rfl (Below.refl _ _) (by simp)
    · have eg : s43 = _ := hdep ⟨17, .guard⟩ (by simp) rfl
      have eg := eg.symm
      subst eg
      go_simp
      have hK' := hK.out
      simp only [putAll, Act.put, List.setIfInBounds_toArray, List.set_cons_zero, List.set_cons_succ] at hK'
      exact hK' _ _ rfl (Below.refl _ _) (by simp)
    · have e18 : s44 = _ := hdep ⟨18, .data⟩ (by simp) rfl
      have e18 := e18.symm
      subst e18
      have eg : s43 = _ := hdep ⟨17, .guard⟩ (by simp) rfl
      have eg := eg.symm
      subst eg
      go_simp
      have hK' := hK.out
      simp only [putAll, Act.put, List.setIfInBounds_toArray, List.set_cons_zero, List.set_cons_succ] at hK'
      exact hK' _ _ rfl (Below.refl _ _) (by simp)
    · have e17 : s43 = _ := hdep ⟨17, .data⟩ (by simp) rfl
      have e17 := e17.symm
      subst e17
      have e19 : s45 = _ := hdep ⟨19, .data⟩ (by simp) rfl
      have e19 := e19.symm
      subst e19
      go_simp
      have hK' := hK.out
      simp only [putAll, Act.put, List.setIfInBounds_toArray, List.set_cons_zero, List.set_cons_succ] at hK'
      exact hK' _ _ rfl (Below.refl _ _) (by simp)
    · have e20 : s46 = _ := hdep ⟨20, .data⟩ (by simp) rfl
      have e20 := e20.symm
      subst e20
      go_simp
      have hK' := hK.out
      simp only [putAll, Act.put, List.setIfInBounds_toArray, List.set_cons_zero, List.set_cons_succ] at hK'
      exact hK' _ _ rfl (Below.refl _ _) (by simp)
    · have eg : s47 = _ := hdep ⟨21, .guard⟩ (by simp) rfl
      have eg := eg.symm
      subst eg
      go_simp
      have hK' := hK.out
      simp only [putAll, Act.put, List.setIfInBounds_toArray, List.set_cons_zero, List.set_cons_succ] at hK'
      exact hK' _ _ rfl (Below.refl _ _) (by simp)
    · have e22 : s48 = _ := hdep ⟨22, .data⟩ (by simp) rfl
      have e22 := e22.symm
      subst e22
      have eg : s47 = _ := hdep ⟨21, .guard⟩ (by simp) rfl
      have eg := eg.symm
      subst eg
      go_simp
      have hK' := hK.out
      simp only [putAll, Act.put, List.setIfInBounds_toArray, List.set_cons_zero, List.set_cons_succ] at hK'
      exact hK' _ _ rfl (Below.refl _ _) (by simp)
    · have e23 : s49 = _ := hdep ⟨23, .data⟩ (by simp) rfl
      have e23 := e23.symm
      subst e23
      have eg : s47 = _ := hdep ⟨21, .guard⟩ (by simp) rfl
      have eg := eg.symm
      subst eg
      go_simp
      have hK' := hK.out
      simp only [putAll, Act.put, List.setIfInBounds_toArray, List.set_cons_zero, List.set_cons_succ] at hK'
      exact hK' _ _ rfl (Below.refl _ _) (by simp)
    · have e21 : s47 = _ := hdep ⟨21, .data⟩ (by simp) rfl
      have e21 := e21.symm
      subst e21
      have e24 : s50 = _ := hdep ⟨24, .data⟩ (by simp) rfl
      have e24 := e24.symm
      subst e24
      go_simp
      have hK' := hK.out
      simp only [putAll, Act.put, List.setIfInBounds_toArray, List.set_cons_zero, List.set_cons_succ] at hK'
      exact hK' _ _ rfl (Below.refl _ _) (by simp)
    · have e25 : s51 = _ := hdep ⟨25, .data⟩ (by simp) rfl
      have e25 := e25.symm
      subst e25
      go_simp
      have hK' := hK.out
      simp only [putAll, Act.put, List.setIfInBounds_toArray, List.set_cons_zero, List.set_cons_succ] at hK'
      exact hK' _ _ rfl (Below.refl _ _) (by simp)
    · have eg : s52 = _ := hdep ⟨26, .guard⟩ (by simp) rfl
      have eg := eg.symm
      subst eg
      go_simp
      have hK' := hK.out
      simp only [putAll, Act.put, List.setIfInBounds_toArray, List.set_cons_zero, List.set_cons_succ] at hK'
      exact hK' _ _ rfl (Below.refl _ _) (by simp)
    · have e27 : s53 = _ := hdep ⟨27, .data⟩ (by simp) rfl
      have e27 := e27.symm
      subst e27
      have eg : s52 = _ := hdep ⟨26, .guard⟩ (by simp) rfl
      have eg := eg.symm
      subst eg
      go_simp
      have hK' := hK.out
      simp only [putAll, Act.put, List.setIfInBounds_toArray, List.set_cons_zero, List.set_cons_succ] at hK'
      exact hK' _ _ rfl (Below.refl _ _) (by simp)
    · have e28 : s54 = _ := hdep ⟨28, .data⟩ (by simp) rfl
      have e28 := e28.symm
      subst e28
      have eg : s52 = _ := hdep ⟨26, .guard⟩ (by simp) rfl
      have eg := eg.symm
      subst eg
      go_simp
      have hK' := hK.out
      simp only [putAll, Act.put, List.setIfInBounds_toArray, List.set_cons_zero, List.set_cons_succ] at hK'
      exact hK' _ _ rfl (Below.refl _ _) (by simp)
    · have e29 : s55 = _ := hdep ⟨29, .data⟩ (by simp) rfl
      have e29 := e29.symm
      subst e29
      have eg : s52 = _ := hdep ⟨26, .guard⟩ (by simp) rfl
      have eg := eg.symm
      subst eg
      go_simp
      have hK' := hK.out
      simp only [putAll, Act.put, List.setIfInBounds_toArray, List.set_cons_zero, List.set_cons_succ] at hK'
      exact hK' _ _ rfl (Below.refl _ _) (by simp)
    · have eg : s52 = _ := hdep ⟨26, .guard⟩ (by simp) rfl
      have eg := eg.symm
      subst eg
      go_simp
      refine (ROf_any 3 wx (by decide) (by decide)).mono ?_
      rintro e wy ⟨vy, rfl, iy, hby⟩
      have hsh := iy.shape
      obtain ⟨p5', n5', c5', rfl, iy⟩ := hsh
      go_wp2_with fail
      have hK' := hK.out
      simp only [putAll, Act.put, List.setIfInBounds_toArray, List.set_cons_zero, List.set_cons_succ] at hK'
      exact hK' _ _ ⟨_, _, _, _, rfl, iy⟩ hby (by simp)
    · have e30 : s56 = _ := hdep ⟨30, .data⟩ (by simp) rfl
      have e30 := e30.symm
      subst e30
      have e31 : (lnI 3).P s57 wx := hdep ⟨31, .data⟩ (by simp) rfl
      obtain ⟨da31, pa31, na31, ca31, rfl, ia31⟩ := e31
      have eg : s52 = _ := hdep ⟨26, .guard⟩ (by simp) rfl
      have eg := eg.symm
      subst eg
      go_simp
      go_simp
      refine (SameInt_same _ _ 3 wx (I6.out.below hb) ia31).mono ?_
      rintro e wy ⟨rfl, hby⟩
      go_wp2_with fail
      have hK' := hK.out
      simp only [putAll, Act.put, List.setIfInBounds_toArray, List.set_cons_zero, List.set_cons_succ] at hK'
      exact hK' _ _ rfl hby (by simp)
    · have e26 : s52 = _ := hdep ⟨26, .data⟩ (by simp) rfl
      have e26 := e26.symm
      subst e26
      have e32 : s58 = _ := hdep ⟨32, .data⟩ (by simp) rfl
      have e32 := e32.symm
      subst e32
      go_simp
      have hK' := hK.out
      simp only [putAll, Act.put, List.setIfInBounds_toArray, List.set_cons_zero, List.set_cons_succ] at hK'
      exact hK' _ _ rfl (Below.refl _ _) (by simp)
    · omega
  · intro vs wx hvl hb hf hdist
    have hvs := vlen34 hvl
    obtain ⟨s26, s27, s28, s29, s30, s31, s32, s33, s34, s35, s36, s37, s38, s39, s40, s41, s42, s43, s44, s45, s46, s47, s48, s49, s50, s51, s52, s53, s54, s55, s56, s57, s58, s59, rfl⟩ := hvs
    have f33 : s59 = .bool true := hf 33 (by decide)
    subst f33
    have HBF := hid (lnGo hb HB6.out)
    clear hf hvl hdist
    refine wpAny_one (i := 34) (by kernel_rfl) rfl ?_
    intro K hK
    simp only [putAll, Act.put, List.setIfInBounds_toArray, List.set_cons_zero, List.set_cons_succ]
    have hK' := hK.out
    go_simp
    apply hK'
    clear hK hK'
    refine wpAny_done (by kernel_rfl) ?_ _
    go_wp2
    go_ret
    exact ⟨rfl, HBF.out⟩
end Go.Proofs.YtnfohbpgnbfmeaaGreatDoor
/- elenchusref06.Is. -/
namespace Go.Proofs.YtnfohbpgnbfmeaaGreatDoor
open Go.RowKit Big

set_option maxRecDepth 100000 in
set_option maxHeartbeats 6400000 in
theorem RIs_lin (v : Value) (a : List (Int × Int) × Int) (w : World) (h : LnR w v a) (hl : a.1.length ≤ 1000000000000) :
    Calls Tryz.prog 13 #[v] w (RBool (decide (lnIs a.1)) w) := by
  obtain ⟨pv, n0, s0, rfl, hp, h2⟩ := h
  have hsh := h2.agg2
  obtain ⟨d2, p2, n2, c2, e2⟩ := hsh
  obtain ⟨rfl, rfl⟩ : s0 = .slice p2 n2 c2 ∧ n0 = d2 := by
    injection e2 with e2
    simpa [and_comm] using e2
  clear e2 h2
  obtain ⟨l, x⟩ := a
  have hl : l.length ≤ 1000000000000 := hl
  show Calls Tryz.prog 13 _ w (RBool (decide (lnIs l)) w)
  obtain ⟨p, cp, rfl, j1, j2, -, j4⟩ := (show PtsR w pv l from hp)
  have J4 := hid j4
  obtain ⟨W, hW⟩ : ∃ W, W = w.alloc (.cells #[.slice p l.length cp, .bool n0, .slice p2 n2 c2] 37) := ⟨_, rfl⟩
  have b0 : Below w.heap.size w W := by rw [hW]; exact below1 w _
  have e0 : W.heap[w.heap.size]? = some (.cells #[.slice p l.length cp, .bool n0, .slice p2 n2 c2] 37 (0, 0)) := by rw [hW]; exact heap_alloc_new w _
  have z0 : W.heap.size = w.heap.size + 1 := by rw [hW, size_alloc]
  have B0 := hid b0; have E0 := hid e0; have Z0 := hid z0
  obtain ⟨L, hLL⟩ : ∃ L, L = l.length := ⟨_, rfl⟩
  have HLL := hid hLL
  rw [← hLL] at E0 hW j1 hl ⊢
  clear hp j4 b0 e0 z0 hLL
  go_enter Tryz.func13, Tryz.ntmps13
  go_upto_region 1 with fail
  rw [← hW]
  clear hW
  have y1 := (lnCells3 E0.out).1
  go_wp2_with fail
  clear y1
  go_loopw [8] (fun i wr => ∃ (k : Nat), k ≤ L ∧ i = .int .i64 (k : Nat) ∧ Hid (lnIs (l.take k)) ∧ Hid (Below W.heap.size W wr)) (fun i _ => L - (intOf i).toNat)
  case atStart => exact ⟨0, Nat.zero_le _, rfl, hid ⟨List.Pairwise.nil, by simp⟩, hid (Below.refl _ _)⟩
  case round =>
    obtain ⟨k, hk, rfl, HI, HB⟩ := hrel
    by_cases hlt : k < L
    · have hkt : k < l.length := by rw [← HLL.out]; exact hlt
      have hlt' : (k : Int) < (L : Int) := by omega
      have HBw := hid (lnGo HB.out B0.out)
      obtain ⟨b, o, rfl, hb, hc⟩ := J4.out (by omega)
      have hc' := hc
      obtain ⟨cs, k0, d, s, ecs, hraw, hwf⟩ := hc k hkt
      have hsh := hraw.agg2
      obtain ⟨d', q, n, cq, e2⟩ := hsh
      obtain ⟨rfl, rfl⟩ : s = .slice q n cq ∧ d = d' := by
        injection e2 with e2
        simpa [and_comm] using e2
      clear e2
      subst ecs
      have y0 := (HBw.out.cell (p := ⟨b, o + k * 3, none⟩) hb).trans (k0 0 _ rfl)
      have y1 := (HBw.out.cell (p := ⟨b, o + k * 3 + 1, none⟩) hb).trans (k0 1 _ rfl)
      have y2 := (HBw.out.cell (p := ⟨b, o + k * 3 + 2, none⟩) hb).trans (k0 2 _ rfl)
      have Hstep := hid (lnIs_step l k hkt)
      have hraw := hraw.below HBw.out
      have hpre : ∀ (hk1 : k - 1 < l.length), 0 < k → w.cell? ⟨b, o + (k - 1) * 3 + 2, none⟩ = some (.int .i64 l[k - 1].2) := by
        intro hk1 _
        obtain ⟨cs, k0, d, s, rfl, -, -⟩ := hc' (k - 1) hk1
        exact k0 2 _ rfl
      have Hpre := hid hpre
      generalize l[k].1 = c at *
      generalize l[k].2 = t at *
      clear k0 hc hc' hpre
      obtain ⟨W5, hW5⟩ : ∃ W5, W5 = wr.alloc (.cells #[.bool d, .slice q n cq, .int .i64 t] 63) := ⟨_, rfl⟩
      have b5 : Below wr.heap.size wr W5 := by rw [hW5]; exact below1 wr _
      have e5 : W5.heap[wr.heap.size]? = some (.cells #[.bool d, .slice q n cq, .int .i64 t] 63 (0, 0)) := by rw [hW5]; exact heap_alloc_new wr _
      have z5 : wr.heap.size < W5.heap.size := by rw [hW5, size_alloc]; omega
      have zr := HB.out.size
      have HBw5 : Hid (Below w.heap.size w W5) := hid (lnGo b5 HBw.out)
      have HBW5 : Hid (Below W.heap.size W W5) := hid (lnGo b5 HB.out)
      have HS : Hid (∀ w', Below W5.heap.size W5 w' → w'.cell? ⟨wr.heap.size, 0, none⟩ = some (.bool d) ∧ w'.cell? ⟨wr.heap.size, 1, none⟩ = some (.slice q n cq) ∧ w'.cell? ⟨wr.heap.size, 2, none⟩ = some (.int .i64 t) ∧ w'.cell? ⟨w.heap.size, 0, none⟩ = some (.slice (some ⟨b, o, none⟩) L cp) ∧ True) := hid fun w' hb' => by
        obtain ⟨t0, t1, t2⟩ := lnCells3 ((hb'.block wr.heap.size z5).trans e5)
        obtain ⟨t3, -, -⟩ := lnCells3 (((lnGo hb' HBW5.out).block w.heap.size (by have := Z0.out; omega)).trans E0.out)
        exact ⟨t0, t1, t2, t3, trivial⟩
      have HSg0 := hid (fun w' (hb' : Below W5.heap.size W5 w') => RSign_any _ c w' ((hraw.below b5).below hb'))
      clear b5 e5 hraw HB
      by_cases hc0 : c = 0
      · have HSg : Hid (∀ w', Below W5.heap.size W5 w' → Calls Tryz.prog 20 #[.agg #[.bool d, .slice q n cq]] w' (fun e w'' => e = .returned (.int .i64 0) ∧ Below w'.heap.size w' w'')) := hid fun w' hb' => by
          have := HSg0.out w' hb'
          rw [hc0] at this
          exact this
        have Hno : Hid (¬ lnIs l) := hid fun hI => ((Hstep.out).1 (lnIs_take hI _)).2.1 hc0
        clear HSg0 hc0 Hstep
        go_upto_region 4 with fail
        rw [← hW5]
        clear hW5 y0 y1 y2
        refine wp_region_facts (w0 := W5) 20 0 [13, 14, 15, 16, 17, 18, 19, 20, 21, 22, 23, 24, 25, 26, 27, 28, 29, 30, 31, 32] [u13, u14, u15, u16, u17, u18, u19, u20, u21, u22, u23, u24, u25, u26, u27, u28, u29, u30, u31, u32]
          (fun i => match i with | 0 => lnE (.pointer (some ⟨wr.heap.size, 0, none⟩)) | 1 => lnE (.agg #[.bool d, .slice q n cq]) | 2 => lnE (.int .i64 0) | 3 => lnE (.bool true) | 4 => lnE (.bool true) | 5 => lnE (undef) | 6 => lnE (undef) | 7 => lnE (undef) | 8 => lnE (undef) | 9 => lnE (undef) | 10 => lnE (undef) | 11 => lnE (undef) | 12 => lnE (undef) | 13 => lnE (undef) | 14 => lnE (undef) | 15 => lnE (undef) | 16 => lnE (undef) | 17 => lnE (undef) | 18 => lnE (undef) | _ => lnE (.bool true)) [] (by kernel_rfl) (by kernel_rfl) (by kernel_rfl) (by kernel_rfl) (by decide) rfl (by kernel_rfl) rfl (by simp) ?he1 ?_ ?_ ?_
        case he1 => simp only [putAll, Act.put, List.setIfInBounds_toArray, List.set_cons_zero, List.set_cons_succ]
        · intro i hi; simp at hi
        · intro i o hi ho vs wx hvl hb hdep K hK
          have hvs := vlen20 hvl
          obtain ⟨s13, s14, s15, s16, s17, s18, s19, s20, s21, s22, s23, s24, s25, s26, s27, s28, s29, s30, s31, s32, rfl⟩ := hvs
          clear hvl
          have hk5 := HS.out wx hb
          obtain ⟨y3, y4, y5, y6, y7⟩ := hk5
          rcases i with _ | _ | _ | _ | _ | _ | _ | _ | _ | _ | _ | _ | _ | _ | _ | _ | _ | _ | _ | _ | i
          all_goals (simp only [List.getElem?_toArray, List.getElem?_cons_zero, List.getElem?_cons_succ, Option.some.injEq] at ho)
          all_goals try (subst ho)
          all_goals try simp only [putAll, Act.put, List.setIfInBounds_toArray, List.set_cons_zero, List.set_cons_succ]
          · go_simp
            have hK' := hK.out
            simp only [putAll, Act.put, List.setIfInBounds_toArray, List.set_cons_zero, List.set_cons_succ] at hK'
            exact hK' _ _ rfl (Below.refl _ _) (by simp)
          · have e0 : s13 = _ := hdep ⟨0, .data⟩ (by simp) rfl
            have e0 := e0.symm
            subst e0
            go_simp
            have hK' := hK.out
            simp only [putAll, Act.put, List.setIfInBounds_toArray, List.set_cons_zero, List.set_cons_succ] at hK'
            exact hK' _ _ rfl (Below.refl _ _) (by simp)
          · have e1 : s14 = _ := hdep ⟨1, .data⟩ (by simp) rfl
            have e1 := e1.symm
            subst e1
            go_simp
            go_simp
            refine (HSg.out wx hb).mono ?_
            rintro e wy ⟨rfl, hby⟩
            go_wp2_with fail
            have hK' := hK.out
            simp only [putAll, Act.put, List.setIfInBounds_toArray, List.set_cons_zero, List.set_cons_succ] at hK'
            exact hK' _ _ rfl hby (by simp)
          · have e2 : s15 = _ := hdep ⟨2, .data⟩ (by simp) rfl
            have e2 := e2.symm
            subst e2
            go_simp
            have hK' := hK.out
            simp only [putAll, Act.put, List.setIfInBounds_toArray, List.set_cons_zero, List.set_cons_succ] at hK'
            exact hK' _ _ rfl (Below.refl _ _) (by simp)
          · have e3 : s16 = _ := hdep ⟨3, .data⟩ (by simp) rfl
            have e3 := e3.symm
            subst e3
            go_simp
            have hK' := hK.out
            simp only [putAll, Act.put, List.setIfInBounds_toArray, List.set_cons_zero, List.set_cons_succ] at hK'
            exact hK' _ _ rfl (Below.refl _ _) (by simp)
          · go_simp
            have eg : s17 = _ := hdep ⟨4, .guard⟩ (by simp) rfl
            have eg := eg.symm
            subst eg
            first | go_simp | skip
            try rw [if_neg (by simp [undef])]
            have hK' := hK.out
            simp only [putAll, Act.put, List.setIfInBounds_toArray, List.set_cons_zero, List.set_cons_succ] at hK'
            exact hK' _ _ rfl (Below.refl _ _) (by simp)
          · go_simp
            have eg : s17 = _ := hdep ⟨4, .guard⟩ (by simp) rfl
            have eg := eg.symm
            subst eg
            first | go_simp | skip
            try rw [if_neg (by simp [undef])]
            have hK' := hK.out
            simp only [putAll, Act.put, List.setIfInBounds_toArray, List.set_cons_zero, List.set_cons_succ] at hK'
            exact hK' _ _ rfl (Below.refl _ _) (by simp)
          · go_simp
            have eg : s17 = _ := hdep ⟨4, .guard⟩ (by simp) rfl
            have eg := eg.symm
            subst eg
            first | go_simp | skip
            try rw [if_neg (by simp [undef])]
            have hK' := hK.out
            simp only [putAll, Act.put, List.setIfInBounds_toArray, List.set_cons_zero, List.set_cons_succ] at hK'
            exact hK' _ _ rfl (Below.refl _ _) (by simp)
          · go_simp
            have eg : s20 = _ := hdep ⟨7, .guard⟩ (by simp) rfl
            have eg := eg.symm
            subst eg
            first | go_simp | skip
            try rw [if_neg (by simp [undef])]
            have hK' := hK.out
            simp only [putAll, Act.put, List.setIfInBounds_toArray, List.set_cons_zero, List.set_cons_succ] at hK'
            exact hK' _ _ rfl (Below.refl _ _) (by simp)
          · go_simp
            have eg : s20 = _ := hdep ⟨7, .guard⟩ (by simp) rfl
            have eg := eg.symm
            subst eg
            first | go_simp | skip
            try rw [if_neg (by simp [undef])]
            have hK' := hK.out
            simp only [putAll, Act.put, List.setIfInBounds_toArray, List.set_cons_zero, List.set_cons_succ] at hK'
            exact hK' _ _ rfl (Below.refl _ _) (by simp)
          · go_simp
            have eg : s20 = _ := hdep ⟨7, .guard⟩ (by simp) rfl
            have eg := eg.symm
            subst eg
            first | go_simp | skip
            try rw [if_neg (by simp [undef])]
            have hK' := hK.out
            simp only [putAll, Act.put, List.setIfInBounds_toArray, List.set_cons_zero, List.set_cons_succ] at hK'
            exact hK' _ _ rfl (Below.refl _ _) (by simp)
          · go_simp
            have eg : s20 = _ := hdep ⟨7, .guard⟩ (by simp) rfl
            have eg := eg.symm
            subst eg
            first | go_simp | skip
            try rw [if_neg (by simp [undef])]
            have hK' := hK.out
            simp only [putAll, Act.put, List.setIfInBounds_toArray, List.set_cons_zero, List.set_cons_succ] at hK'
            exact hK' _ _ rfl (Below.refl _ _) (by simp)
          · go_simp
            have eg : s20 = _ := hdep ⟨7, .guard⟩ (by simp) rfl
            have eg := eg.symm
            subst eg
            first | go_simp | skip
            try rw [if_neg (by simp [undef])]
            have hK' := hK.out
            simp only [putAll, Act.put, List.setIfInBounds_toArray, List.set_cons_zero, List.set_cons_succ] at hK'
            exact hK' _ _ rfl (Below.refl _ _) (by simp)
          · go_simp
            have eg : s20 = _ := hdep ⟨7, .guard⟩ (by simp) rfl
            have eg := eg.symm
            subst eg
            first | go_simp | skip
            try rw [if_neg (by simp [undef])]
            have hK' := hK.out
            simp only [putAll, Act.put, List.setIfInBounds_toArray, List.set_cons_zero, List.set_cons_succ] at hK'
            exact hK' _ _ rfl (Below.refl _ _) (by simp)
          · go_simp
            have eg : s20 = _ := hdep ⟨7, .guard⟩ (by simp) rfl
            have eg := eg.symm
            subst eg
            first | go_simp | skip
            try rw [if_neg (by simp [undef])]
            have hK' := hK.out
            simp only [putAll, Act.put, List.setIfInBounds_toArray, List.set_cons_zero, List.set_cons_succ] at hK'
            exact hK' _ _ rfl (Below.refl _ _) (by simp)
          · go_simp
            have eg : s20 = _ := hdep ⟨7, .guard⟩ (by simp) rfl
            have eg := eg.symm
            subst eg
            first | go_simp | skip
            try rw [if_neg (by simp [undef])]
            have hK' := hK.out
            simp only [putAll, Act.put, List.setIfInBounds_toArray, List.set_cons_zero, List.set_cons_succ] at hK'
            exact hK' _ _ rfl (Below.refl _ _) (by simp)
          · go_simp
            have eg : s20 = _ := hdep ⟨7, .guard⟩ (by simp) rfl
            have eg := eg.symm
            subst eg
            first | go_simp | skip
            try rw [if_neg (by simp [undef])]
            have hK' := hK.out
            simp only [putAll, Act.put, List.setIfInBounds_toArray, List.set_cons_zero, List.set_cons_succ] at hK'
            exact hK' _ _ rfl (Below.refl _ _) (by simp)
          · go_simp
            have eg : s20 = _ := hdep ⟨7, .guard⟩ (by simp) rfl
            have eg := eg.symm
            subst eg
            first | go_simp | skip
            try rw [if_neg (by simp [undef])]
            have hK' := hK.out
            simp only [putAll, Act.put, List.setIfInBounds_toArray, List.set_cons_zero, List.set_cons_succ] at hK'
            exact hK' _ _ rfl (Below.refl _ _) (by simp)
          · go_simp
            have eg : s17 = _ := hdep ⟨4, .guard⟩ (by simp) rfl
            have eg := eg.symm
            subst eg
            first | go_simp | skip
            try rw [if_neg (by simp [undef])]
            have hK' := hK.out
            simp only [putAll, Act.put, List.setIfInBounds_toArray, List.set_cons_zero, List.set_cons_succ] at hK'
            exact hK' _ _ rfl (Below.refl _ _) (by simp)
          · have e4 : s17 = _ := hdep ⟨4, .data⟩ (by simp) rfl
            have e4 := e4.symm
            subst e4
            go_simp
            have hK' := hK.out
            simp only [putAll, Act.put, List.setIfInBounds_toArray, List.set_cons_zero, List.set_cons_succ] at hK'
            exact hK' _ _ rfl (Below.refl _ _) (by simp)
          · omega
        · intro vs wx hvl hb hf hdist
          have hvs := vlen20 hvl
          obtain ⟨s13, s14, s15, s16, s17, s18, s19, s20, s21, s22, s23, s24, s25, s26, s27, s28, s29, s30, s31, s32, rfl⟩ := hvs
          have f19 : s32 = _ := hf 19 (by decide)
          have f19 := f19.symm
          subst f19
          have Hb9 := hid (lnGo hb HBw5.out)
          clear hf hvl hdist
          refine wpAny_done (by kernel_rfl) ?_ _
          try simp only [putAll, Act.put, List.setIfInBounds_toArray, List.set_cons_zero, List.set_cons_succ]
          have hd : decide (lnIs l) = false := by simpa using Hno.out
          go_wp2
          go_ret
          exact ⟨by rw [hd]; rfl, Hb9.out⟩
      · have hs0 : (c.sign == 0) = false := by
          rw [beq_eq_false_iff_ne]
          exact fun h => hc0 (Int.sign_eq_zero_iff_zero.1 h)
        have HSg := HSg0
        have HsE := hid hs0
        by_cases hk0 : k = 0
        · have HK0 := hid hk0
          have Hnx : Hid (lnIs (l.take (k + 1))) := hid ((Hstep.out).2 ⟨HI.out, hc0, fun h => absurd h (by omega)⟩)
          clear HSg0 hc0 Hstep hs0 hk0 HI
          go_upto_region 4 with fail
          rw [← hW5]
          clear hW5 y0 y1 y2
          refine wp_region_facts (w0 := W5) 20 0 [13, 14, 15, 16, 17, 18, 19, 20, 21, 22, 23, 24, 25, 26, 27, 28, 29, 30, 31, 32] [u13, u14, u15, u16, u17, u18, u19, u20, u21, u22, u23, u24, u25, u26, u27, u28, u29, u30, u31, u32]
            (fun i => match i with | 0 => lnE (.pointer (some ⟨wr.heap.size, 0, none⟩)) | 1 => lnE (.agg #[.bool d, .slice q n cq]) | 2 => lnE (.int .i64 c.sign) | 3 => lnE (.bool false) | 4 => lnE (.bool false) | 5 => lnE (.int .i64 (k : Nat)) | 6 => lnE (.bool false) | 7 => lnE (.bool false) | 8 => lnE (undef) | 9 => lnE (undef) | 10 => lnE (undef) | 11 => lnE (undef) | 12 => lnE (undef) | 13 => lnE (undef) | 14 => lnE (undef) | 15 => lnE (undef) | 16 => lnE (undef) | 17 => lnE (undef) | 18 => lnE (.bool false) | _ => lnE (.bool false)) [] (by kernel_rfl) (by kernel_rfl) (by kernel_rfl) (by kernel_rfl) (by decide) rfl (by kernel_rfl) rfl (by simp) ?he2 ?_ ?_ ?_
          case he2 => simp only [putAll, Act.put, List.setIfInBounds_toArray, List.set_cons_zero, List.set_cons_succ]
          · intro i hi; simp at hi
          · intro i o hi ho vs wx hvl hb hdep K hK
            have hvs := vlen20 hvl
            obtain ⟨s13, s14, s15, s16, s17, s18, s19, s20, s21, s22, s23, s24, s25, s26, s27, s28, s29, s30, s31, s32, rfl⟩ := hvs
            clear hvl
            have hk5 := HS.out wx hb
            obtain ⟨y3, y4, y5, y6, y7⟩ := hk5
            rcases i with _ | _ | _ | _ | _ | _ | _ | _ | _ | _ | _ | _ | _ | _ | _ | _ | _ | _ | _ | _ | i
            all_goals (simp only [List.getElem?_toArray, List.getElem?_cons_zero, List.getElem?_cons_succ, Option.some.injEq] at ho)
            all_goals try (subst ho)
            all_goals try simp only [putAll, Act.put, List.setIfInBounds_toArray, List.set_cons_zero, List.set_cons_succ]
            · go_simp
              have hK' := hK.out
              simp only [putAll, Act.put, List.setIfInBounds_toArray, List.set_cons_zero, List.set_cons_succ] at hK'
              exact hK' _ _ rfl (Below.refl _ _) (by simp)
            · have e0 : s13 = _ := hdep ⟨0, .data⟩ (by simp) rfl
              have e0 := e0.symm
              subst e0
              go_simp
              have hK' := hK.out
              simp only [putAll, Act.put, List.setIfInBounds_toArray, List.set_cons_zero, List.set_cons_succ] at hK'
              exact hK' _ _ rfl (Below.refl _ _) (by simp)
            · have e1 : s14 = _ := hdep ⟨1, .data⟩ (by simp) rfl
              have e1 := e1.symm
              subst e1
              go_simp
              go_simp
              refine (HSg.out wx hb).mono ?_
              rintro e wy ⟨rfl, hby⟩
              go_wp2_with fail
              have hK' := hK.out
              simp only [putAll, Act.put, List.setIfInBounds_toArray, List.set_cons_zero, List.set_cons_succ] at hK'
              exact hK' _ _ rfl hby (by simp)
            · have e2 : s15 = _ := hdep ⟨2, .data⟩ (by simp) rfl
              have e2 := e2.symm
              subst e2
              go_simp
              have hK' := hK.out
              simp only [putAll, Act.put, List.setIfInBounds_toArray, List.set_cons_zero, List.set_cons_succ] at hK'
              exact hK' _ _ (show Value.bool (c.sign == 0) = .bool false by rw [HsE.out]) (Below.refl _ _) (by simp)
            · have e3 : s16 = _ := hdep ⟨3, .data⟩ (by simp) rfl
              have e3 := e3.symm
              subst e3
              go_simp
              have hK' := hK.out
              simp only [putAll, Act.put, List.setIfInBounds_toArray, List.set_cons_zero, List.set_cons_succ] at hK'
              exact hK' _ _ rfl (Below.refl _ _) (by simp)
            · have eg : s17 = _ := hdep ⟨4, .guard⟩ (by simp) rfl
              have eg := eg.symm
              subst eg
              go_simp
              have hK' := hK.out
              simp only [putAll, Act.put, List.setIfInBounds_toArray, List.set_cons_zero, List.set_cons_succ] at hK'
              exact hK' _ _ rfl (Below.refl _ _) (by simp)
            · have e5 : s18 = _ := hdep ⟨5, .data⟩ (by simp) rfl
              have e5 := e5.symm
              subst e5
              have eg : s17 = _ := hdep ⟨4, .guard⟩ (by simp) rfl
              have eg := eg.symm
              subst eg
              go_simp
              have hK' := hK.out
              simp only [putAll, Act.put, List.setIfInBounds_toArray, List.set_cons_zero, List.set_cons_succ] at hK'
              exact hK' _ _ (show _ = Value.bool false by first | rfl | (have := HK0.out; simp [this])) (Below.refl _ _) (by simp)
            · have e6 : s19 = _ := hdep ⟨6, .data⟩ (by simp) rfl
              have e6 := e6.symm
              subst e6
              have eg : s17 = _ := hdep ⟨4, .guard⟩ (by simp) rfl
              have eg := eg.symm
              subst eg
              go_simp
              have hK' := hK.out
              simp only [putAll, Act.put, List.setIfInBounds_toArray, List.set_cons_zero, List.set_cons_succ] at hK'
              exact hK' _ _ rfl (Below.refl _ _) (by simp)
            · go_simp
              have eg : s20 = _ := hdep ⟨7, .guard⟩ (by simp) rfl
              have eg := eg.symm
              subst eg
              first | go_simp | skip
              try rw [if_neg (by simp [undef])]
              have hK' := hK.out
              simp only [putAll, Act.put, List.setIfInBounds_toArray, List.set_cons_zero, List.set_cons_succ] at hK'
              exact hK' _ _ rfl (Below.refl _ _) (by simp)
            · go_simp
              have eg : s20 = _ := hdep ⟨7, .guard⟩ (by simp) rfl
              have eg := eg.symm
              subst eg
              first | go_simp | skip
              try rw [if_neg (by simp [undef])]
              have hK' := hK.out
              simp only [putAll, Act.put, List.setIfInBounds_toArray, List.set_cons_zero, List.set_cons_succ] at hK'
              exact hK' _ _ rfl (Below.refl _ _) (by simp)
            · go_simp
              have eg : s20 = _ := hdep ⟨7, .guard⟩ (by simp) rfl
              have eg := eg.symm
              subst eg
              first | go_simp | skip
              try rw [if_neg (by simp [undef])]
              have hK' := hK.out
              simp only [putAll, Act.put, List.setIfInBounds_toArray, List.set_cons_zero, List.set_cons_succ] at hK'
              exact hK' _ _ rfl (Below.refl _ _) (by simp)
            · go_simp
              have eg : s20 = _ := hdep ⟨7, .guard⟩ (by simp) rfl
              have eg := eg.symm
              subst eg
              first | go_simp | skip
              try rw [if_neg (by simp [undef])]
              have hK' := hK.out
              simp only [putAll, Act.put, List.setIfInBounds_toArray, List.set_cons_zero, List.set_cons_succ] at hK'
              exact hK' _ _ rfl (Below.refl _ _) (by simp)
            · go_simp
              have eg : s20 = _ := hdep ⟨7, .guard⟩ (by simp) rfl
              have eg := eg.symm
              subst eg
              first | go_simp | skip
              try rw [if_neg (by simp [undef])]
              have hK' := hK.out
              simp only [putAll, Act.put, List.setIfInBounds_toArray, List.set_cons_zero, List.set_cons_succ] at hK'
              exact hK' _ _ rfl (Below.refl _ _) (by simp)
            · go_simp
              have eg : s20 = _ := hdep ⟨7, .guard⟩ (by simp) rfl
              have eg := eg.symm
              subst eg
              first | go_simp | skip
              try rw [if_neg (by simp [undef])]
              have hK' := hK.out
              simp only [putAll, Act.put, List.setIfInBounds_toArray, List.set_cons_zero, List.set_cons_succ] at hK'
              exact hK' _ _ rfl (Below.refl _ _) (by simp)
            · go_simp
              have eg : s20 = _ := hdep ⟨7, .guard⟩ (by simp) rfl
              have eg := eg.symm
              subst eg
              first | go_simp | skip
              try rw [if_neg (by simp [undef])]
              have hK' := hK.out
              simp only [putAll, Act.put, List.setIfInBounds_toArray, List.set_cons_zero, List.set_cons_succ] at hK'
              exact hK' _ _ rfl (Below.refl _ _) (by simp)
            · go_simp
              have eg : s20 = _ := hdep ⟨7, .guard⟩ (by simp) rfl
              have eg := eg.symm
              subst eg
              first | go_simp | skip
              try rw [if_neg (by simp [undef])]
              have hK' := hK.out
              simp only [putAll, Act.put, List.setIfInBounds_toArray, List.set_cons_zero, List.set_cons_succ] at hK'
              exact hK' _ _ rfl (Below.refl _ _) (by simp)
            · go_simp
              have eg : s20 = _ := hdep ⟨7, .guard⟩ (by simp) rfl
              have eg := eg.symm
              subst eg
              first | go_simp | skip
              try rw [if_neg (by simp [undef])]
              have hK' := hK.out
              simp only [putAll, Act.put, List.setIfInBounds_toArray, List.set_cons_zero, List.set_cons_succ] at hK'
              exact hK' _ _ rfl (Below.refl _ _) (by simp)
            · go_simp
              have eg : s20 = _ := hdep ⟨7, .guard⟩ (by simp) rfl
              have eg := eg.symm
              subst eg
              first | go_simp | skip
              try rw [if_neg (by simp [undef])]
              have hK' := hK.out
              simp only [putAll, Act.put, List.setIfInBounds_toArray, List.set_cons_zero, List.set_cons_succ] at hK'
              exact hK' _ _ rfl (Below.refl _ _) (by simp)
            · have e7 : s20 = _ := hdep ⟨7, .data⟩ (by simp) rfl
              have e7 := e7.symm
              subst e7
              have eg : s17 = _ := hdep ⟨4, .guard⟩ (by simp) rfl
              have eg := eg.symm
              subst eg
              go_simp
              have hK' := hK.out
              simp only [putAll, Act.put, List.setIfInBounds_toArray, List.set_cons_zero, List.set_cons_succ] at hK'
              exact hK' _ _ rfl (Below.refl _ _) (by simp)
            · have e4 : s17 = _ := hdep ⟨4, .data⟩ (by simp) rfl
              have e4 := e4.symm
              subst e4
              have e18 : s31 = _ := hdep ⟨18, .data⟩ (by simp) rfl
              have e18 := e18.symm
              subst e18
              go_simp
              have hK' := hK.out
              simp only [putAll, Act.put, List.setIfInBounds_toArray, List.set_cons_zero, List.set_cons_succ] at hK'
              exact hK' _ _ rfl (Below.refl _ _) (by simp)
            · omega
          · intro vs wx hvl hb hf hdist
            have hvs := vlen20 hvl
            obtain ⟨s13, s14, s15, s16, s17, s18, s19, s20, s21, s22, s23, s24, s25, s26, s27, s28, s29, s30, s31, s32, rfl⟩ := hvs
            have f19 : s32 = _ := hf 19 (by decide)
            have f19 := f19.symm
            subst f19
            have Hb9 := hid (lnGo hb HBw5.out)
            clear hf hvl hdist
            refine wpAny_done (by kernel_rfl) ?_ _
            try simp only [putAll, Act.put, List.setIfInBounds_toArray, List.set_cons_zero, List.set_cons_succ]
            have Hb9W := hid (lnGo hb HBW5.out)
            go_wp2_with fail
            go_roundw
            case rel => exact ⟨k + 1, by omega, by go_num, Hnx, Hb9W⟩
            case measure => simp [intOf] <;> omega
        · obtain ⟨k1, hk1⟩ : ∃ k1 : Nat, k = k1 + 1 := ⟨k - 1, by omega⟩
          have HK0 : Hid (0 < k) := hid (by omega)
          have hka : k ≤ k1 + 1 := by omega
          have hkb : k1 + 1 ≤ k := by omega
          have hk1t : k - 1 < l.length := by omega
          have hp1 := Hpre.out hk1t (by omega)
          rw [show o + (k - 1) * 3 + 2 = o + k1 * 3 + 2 by rw [hk1, Nat.add_sub_cancel]] at hp1
          obtain ⟨t', ht'⟩ : ∃ t', t' = l[k - 1].2 := ⟨_, rfl⟩
          have et' : l[k - 1].2 = t' := ht'.symm
          have hp1' : w.cell? ⟨b, o + k1 * 3 + 2, none⟩ = some (.int .i64 t') := by rw [hp1, ht']
          have HS0 := HS
          have HS : Hid (∀ w', Below W5.heap.size W5 w' → w'.cell? ⟨wr.heap.size, 0, none⟩ = some (.bool d) ∧ w'.cell? ⟨wr.heap.size, 1, none⟩ = some (.slice q n cq) ∧ w'.cell? ⟨wr.heap.size, 2, none⟩ = some (.int .i64 t) ∧ w'.cell? ⟨w.heap.size, 0, none⟩ = some (.slice (some ⟨b, o, none⟩) L cp) ∧ w'.cell? ⟨b, o + k1 * 3 + 2, none⟩ = some (.int .i64 t')) := hid fun w' hb' => by
            obtain ⟨t0, t1, t2, t3, -⟩ := HS0.out w' hb'
            exact ⟨t0, t1, t2, t3, ((lnGo hb' HBw5.out).cell (p := ⟨b, o + k1 * 3 + 2, none⟩) hb).trans hp1'⟩
          have hk1L : (k1 : Int) < (L : Int) := by omega
          clear HS0 hp1 hp1' Hpre HSg0 hs0 ht' hk1 hk0
          by_cases htt : t ≤ t'
          · have htt' : decide (t ≤ t') = true := by simpa using htt
            have Hno : Hid (¬ lnIs l) := hid fun hI => by
              have := ((Hstep.out).1 (lnIs_take hI _)).2.2 (by omega) hk1t
              rw [et'] at this
              omega
            clear hc0 Hstep htt HI et'
            go_upto_region 4 with fail
            rw [← hW5]
            clear hW5 y0 y1 y2
            refine wp_region_facts (w0 := W5) 20 0 [13, 14, 15, 16, 17, 18, 19, 20, 21, 22, 23, 24, 25, 26, 27, 28, 29, 30, 31, 32] [u13, u14, u15, u16, u17, u18, u19, u20, u21, u22, u23, u24, u25, u26, u27, u28, u29, u30, u31, u32]
              (fun i => match i with | 0 => lnE (.pointer (some ⟨wr.heap.size, 0, none⟩)) | 1 => lnE (.agg #[.bool d, .slice q n cq]) | 2 => lnE (.int .i64 c.sign) | 3 => lnE (.bool false) | 4 => lnE (.bool false) | 5 => lnE (.int .i64 (k : Nat)) | 6 => lnE (.bool true) | 7 => lnE (.bool true) | 8 => lnE (.pointer (some ⟨w.heap.size, 0, none⟩)) | 9 => lnE (.slice (some ⟨b, o, none⟩) L cp) | 10 => lnE (.int .i64 (k : Nat)) | 11 => lnE (.int .i64 (k1 : Nat)) | 12 => lnE (.pointer (some ⟨b, o + k1 * 3, none⟩)) | 13 => lnE (.pointer (some ⟨b, o + k1 * 3 + 2, none⟩)) | 14 => lnE (.int .i64 t') | 15 => lnE (.pointer (some ⟨wr.heap.size, 2, none⟩)) | 16 => lnE (.int .i64 t) | 17 => lnE (.bool true) | 18 => lnE (.bool true) | _ => lnE (.bool true)) [] (by kernel_rfl) (by kernel_rfl) (by kernel_rfl) (by kernel_rfl) (by decide) rfl (by kernel_rfl) rfl (by simp) ?he3 ?_ ?_ ?_
            case he3 => simp only [putAll, Act.put, List.setIfInBounds_toArray, List.set_cons_zero, List.set_cons_succ]
            · intro i hi; simp at hi
            · intro i o hi ho vs wx hvl hb hdep K hK
              have hvs := vlen20 hvl
              obtain ⟨s13, s14, s15, s16, s17, s18, s19, s20, s21, s22, s23, s24, s25, s26, s27, s28, s29, s30, s31, s32, rfl⟩ := hvs
              clear hvl
              have hk5 := HS.out wx hb
              obtain ⟨y3, y4, y5, y6, y7⟩ := hk5
              rcases i with _ | _ | _ | _ | _ | _ | _ | _ | _ | _ | _ | _ | _ | _ | _ | _ | _ | _ | _ | _ | i
              all_goals (simp only [List.getElem?_toArray, List.getElem?_cons_zero, List.getElem?_cons_succ, Option.some.injEq] at ho)
              all_goals try (subst ho)
              all_goals try simp only [putAll, Act.put, List.setIfInBounds_toArray, List.set_cons_zero, List.set_cons_succ]
              · go_simp
                have hK' := hK.out
                simp only [putAll, Act.put, List.setIfInBounds_toArray, List.set_cons_zero, List.set_cons_succ] at hK'
                exact hK' _ _ rfl (Below.refl _ _) (by simp)
              · have e0 : s13 = _ := hdep ⟨0, .data⟩ (by simp) rfl
                have e0 := e0.symm
                subst e0
                go_simp
                have hK' := hK.out
                simp only [putAll, Act.put, List.setIfInBounds_toArray, List.set_cons_zero, List.set_cons_succ] at hK'
                exact hK' _ _ rfl (Below.refl _ _) (by simp)
              · have e1 : s14 = _ := hdep ⟨1, .data⟩ (by simp) rfl
                have e1 := e1.symm
                subst e1
                go_simp
                go_simp
                refine (HSg.out wx hb).mono ?_
                rintro e wy ⟨rfl, hby⟩
                go_wp2_with fail
                have hK' := hK.out
                simp only [putAll, Act.put, List.setIfInBounds_toArray, List.set_cons_zero, List.set_cons_succ] at hK'
                exact hK' _ _ rfl hby (by simp)
              · have e2 : s15 = _ := hdep ⟨2, .data⟩ (by simp) rfl
                have e2 := e2.symm
                subst e2
                go_simp
                have hK' := hK.out
                simp only [putAll, Act.put, List.setIfInBounds_toArray, List.set_cons_zero, List.set_cons_succ] at hK'
                exact hK' _ _ (show Value.bool (c.sign == 0) = .bool false by rw [HsE.out]) (Below.refl _ _) (by simp)
              · have e3 : s16 = _ := hdep ⟨3, .data⟩ (by simp) rfl
                have e3 := e3.symm
                subst e3
                go_simp
                have hK' := hK.out
                simp only [putAll, Act.put, List.setIfInBounds_toArray, List.set_cons_zero, List.set_cons_succ] at hK'
                exact hK' _ _ rfl (Below.refl _ _) (by simp)
              · have eg : s17 = _ := hdep ⟨4, .guard⟩ (by simp) rfl
                have eg := eg.symm
                subst eg
                go_simp
                have hK' := hK.out
                simp only [putAll, Act.put, List.setIfInBounds_toArray, List.set_cons_zero, List.set_cons_succ] at hK'
                exact hK' _ _ rfl (Below.refl _ _) (by simp)
              · have e5 : s18 = _ := hdep ⟨5, .data⟩ (by simp) rfl
                have e5 := e5.symm
                subst e5
                have eg : s17 = _ := hdep ⟨4, .guard⟩ (by simp) rfl
                have eg := eg.symm
                subst eg
                go_simp
                have hK' := hK.out
                simp only [putAll, Act.put, List.setIfInBounds_toArray, List.set_cons_zero, List.set_cons_succ] at hK'
                exact hK' _ _ (show _ = Value.bool true by first | rfl | (have := HK0.out; simp [this])) (Below.refl _ _) (by simp)
              · have e6 : s19 = _ := hdep ⟨6, .data⟩ (by simp) rfl
                have e6 := e6.symm
                subst e6
                have eg : s17 = _ := hdep ⟨4, .guard⟩ (by simp) rfl
                have eg := eg.symm
                subst eg
                go_simp
                have hK' := hK.out
                simp only [putAll, Act.put, List.setIfInBounds_toArray, List.set_cons_zero, List.set_cons_succ] at hK'
                exact hK' _ _ rfl (Below.refl _ _) (by simp)
              · have eg : s20 = _ := hdep ⟨7, .guard⟩ (by simp) rfl
                have eg := eg.symm
                subst eg
                go_simp
                have hK' := hK.out
                simp only [putAll, Act.put, List.setIfInBounds_toArray, List.set_cons_zero, List.set_cons_succ] at hK'
                exact hK' _ _ rfl (Below.refl _ _) (by simp)
              · have e8 : s21 = _ := hdep ⟨8, .data⟩ (by simp) rfl
                have e8 := e8.symm
                subst e8
                have eg : s20 = _ := hdep ⟨7, .guard⟩ (by simp) rfl
                have eg := eg.symm
                subst eg
                go_simp
                have hK' := hK.out
                simp only [putAll, Act.put, List.setIfInBounds_toArray, List.set_cons_zero, List.set_cons_succ] at hK'
                exact hK' _ _ rfl (Below.refl _ _) (by simp)
              · have eg : s20 = _ := hdep ⟨7, .guard⟩ (by simp) rfl
                have eg := eg.symm
                subst eg
                go_simp
                have hK' := hK.out
                simp only [putAll, Act.put, List.setIfInBounds_toArray, List.set_cons_zero, List.set_cons_succ] at hK'
                exact hK' _ _ rfl (Below.refl _ _) (by simp)
              · have e10 : s23 = _ := hdep ⟨10, .data⟩ (by simp) rfl
                have e10 := e10.symm
                subst e10
                have eg : s20 = _ := hdep ⟨7, .guard⟩ (by simp) rfl
                have eg := eg.symm
                subst eg
                go_simp
                have hK' := hK.out
                simp only [putAll, Act.put, List.setIfInBounds_toArray, List.set_cons_zero, List.set_cons_succ] at hK'
                exact hK' _ _ (show _ = Value.int .i64 (k1 : Nat) by first | rfl | (congr 1; omega) | (rw [IntWalk.i64_in _ (by omega)]; congr 1; omega)) (Below.refl _ _) (by simp)
              · have e9 : s22 = _ := hdep ⟨9, .data⟩ (by simp) rfl
                have e9 := e9.symm
                subst e9
                have e11 : s24 = _ := hdep ⟨11, .data⟩ (by simp) rfl
                have e11 := e11.symm
                subst e11
                have eg : s20 = _ := hdep ⟨7, .guard⟩ (by simp) rfl
                have eg := eg.symm
                subst eg
                go_simp
                have hK' := hK.out
                simp only [putAll, Act.put, List.setIfInBounds_toArray, List.set_cons_zero, List.set_cons_succ] at hK'
                exact hK' _ _ rfl (Below.refl _ _) (by simp)
              · have e12 : s25 = _ := hdep ⟨12, .data⟩ (by simp) rfl
                have e12 := e12.symm
                subst e12
                have eg : s20 = _ := hdep ⟨7, .guard⟩ (by simp) rfl
                have eg := eg.symm
                subst eg
                go_simp
                have hK' := hK.out
                simp only [putAll, Act.put, List.setIfInBounds_toArray, List.set_cons_zero, List.set_cons_succ] at hK'
                exact hK' _ _ rfl (Below.refl _ _) (by simp)
              · have e13 : s26 = _ := hdep ⟨13, .data⟩ (by simp) rfl
                have e13 := e13.symm
                subst e13
                have eg : s20 = _ := hdep ⟨7, .guard⟩ (by simp) rfl
                have eg := eg.symm
                subst eg
                go_simp
                have hK' := hK.out
                simp only [putAll, Act.put, List.setIfInBounds_toArray, List.set_cons_zero, List.set_cons_succ] at hK'
                exact hK' _ _ rfl (Below.refl _ _) (by simp)
              · have eg : s20 = _ := hdep ⟨7, .guard⟩ (by simp) rfl
                have eg := eg.symm
                subst eg
                go_simp
                have hK' := hK.out
                simp only [putAll, Act.put, List.setIfInBounds_toArray, List.set_cons_zero, List.set_cons_succ] at hK'
                exact hK' _ _ rfl (Below.refl _ _) (by simp)
              · have e15 : s28 = _ := hdep ⟨15, .data⟩ (by simp) rfl
                have e15 := e15.symm
                subst e15
                have eg : s20 = _ := hdep ⟨7, .guard⟩ (by simp) rfl
                have eg := eg.symm
                subst eg
                go_simp
                have hK' := hK.out
                simp only [putAll, Act.put, List.setIfInBounds_toArray, List.set_cons_zero, List.set_cons_succ] at hK'
                exact hK' _ _ rfl (Below.refl _ _) (by simp)
              · have e14 : s27 = _ := hdep ⟨14, .data⟩ (by simp) rfl
                have e14 := e14.symm
                subst e14
                have e16 : s29 = _ := hdep ⟨16, .data⟩ (by simp) rfl
                have e16 := e16.symm
                subst e16
                have eg : s20 = _ := hdep ⟨7, .guard⟩ (by simp) rfl
                have eg := eg.symm
                subst eg
                go_simp
                have hK' := hK.out
                simp only [putAll, Act.put, List.setIfInBounds_toArray, List.set_cons_zero, List.set_cons_succ] at hK'
                exact hK' _ _ rfl (Below.refl _ _) (by simp)
              · have e7 : s20 = _ := hdep ⟨7, .data⟩ (by simp) rfl
                have e7 := e7.symm
                subst e7
                have e17 : s30 = _ := hdep ⟨17, .data⟩ (by simp) rfl
                have e17 := e17.symm
                subst e17
                have eg : s17 = _ := hdep ⟨4, .guard⟩ (by simp) rfl
                have eg := eg.symm
                subst eg
                go_simp
                have hK' := hK.out
                simp only [putAll, Act.put, List.setIfInBounds_toArray, List.set_cons_zero, List.set_cons_succ] at hK'
                exact hK' _ _ rfl (Below.refl _ _) (by simp)
              · have e4 : s17 = _ := hdep ⟨4, .data⟩ (by simp) rfl
                have e4 := e4.symm
                subst e4
                have e18 : s31 = _ := hdep ⟨18, .data⟩ (by simp) rfl
                have e18 := e18.symm
                subst e18
                go_simp
                have hK' := hK.out
                simp only [putAll, Act.put, List.setIfInBounds_toArray, List.set_cons_zero, List.set_cons_succ] at hK'
                exact hK' _ _ rfl (Below.refl _ _) (by simp)
              · omega
            · intro vs wx hvl hb hf hdist
              have hvs := vlen20 hvl
              obtain ⟨s13, s14, s15, s16, s17, s18, s19, s20, s21, s22, s23, s24, s25, s26, s27, s28, s29, s30, s31, s32, rfl⟩ := hvs
              have f19 : s32 = _ := hf 19 (by decide)
              have f19 := f19.symm
              subst f19
              have Hb9 := hid (lnGo hb HBw5.out)
              clear hf hvl hdist
              refine wpAny_done (by kernel_rfl) ?_ _
              try simp only [putAll, Act.put, List.setIfInBounds_toArray, List.set_cons_zero, List.set_cons_succ]
              have hd : decide (lnIs l) = false := by simpa using Hno.out
              go_wp2
              go_ret
              exact ⟨by rw [hd]; rfl, Hb9.out⟩
          · have htt' : decide (t ≤ t') = false := by simpa using htt
            have Hnx : Hid (lnIs (l.take (k + 1))) := hid ((Hstep.out).2 ⟨HI.out, hc0, fun _ _ => by rw [et']; omega⟩)
            clear hc0 Hstep htt HI et'
            go_upto_region 4 with fail
            rw [← hW5]
            clear hW5 y0 y1 y2
            refine wp_region_facts (w0 := W5) 20 0 [13, 14, 15, 16, 17, 18, 19, 20, 21, 22, 23, 24, 25, 26, 27, 28, 29, 30, 31, 32] [u13, u14, u15, u16, u17, u18, u19, u20, u21, u22, u23, u24, u25, u26, u27, u28, u29, u30, u31, u32]
              (fun i => match i with | 0 => lnE (.pointer (some ⟨wr.heap.size, 0, none⟩)) | 1 => lnE (.agg #[.bool d, .slice q n cq]) | 2 => lnE (.int .i64 c.sign) | 3 => lnE (.bool false) | 4 => lnE (.bool false) | 5 => lnE (.int .i64 (k : Nat)) | 6 => lnE (.bool true) | 7 => lnE (.bool true) | 8 => lnE (.pointer (some ⟨w.heap.size, 0, none⟩)) | 9 => lnE (.slice (some ⟨b, o, none⟩) L cp) | 10 => lnE (.int .i64 (k : Nat)) | 11 => lnE (.int .i64 (k1 : Nat)) | 12 => lnE (.pointer (some ⟨b, o + k1 * 3, none⟩)) | 13 => lnE (.pointer (some ⟨b, o + k1 * 3 + 2, none⟩)) | 14 => lnE (.int .i64 t') | 15 => lnE (.pointer (some ⟨wr.heap.size, 2, none⟩)) | 16 => lnE (.int .i64 t) | 17 => lnE (.bool false) | 18 => lnE (.bool false) | _ => lnE (.bool false)) [] (by kernel_rfl) (by kernel_rfl) (by kernel_rfl) (by kernel_rfl) (by decide) rfl (by kernel_rfl) rfl (by simp) ?he4 ?_ ?_ ?_
            case he4 => simp only [putAll, Act.put, List.setIfInBounds_toArray, List.set_cons_zero, List.set_cons_succ]
            · intro i hi; simp at hi
            · intro i o hi ho vs wx hvl hb hdep K hK
              have hvs := vlen20 hvl
              obtain ⟨s13, s14, s15, s16, s17, s18, s19, s20, s21, s22, s23, s24, s25, s26, s27, s28, s29, s30, s31, s32, rfl⟩ := hvs
              clear hvl
              have hk5 := HS.out wx hb
              obtain ⟨y3, y4, y5, y6, y7⟩ := hk5
              rcases i with _ | _ | _ | _ | _ | _ | _ | _ | _ | _ | _ | _ | _ | _ | _ | _ | _ | _ | _ | _ | i
              all_goals (simp only [List.getElem?_toArray, List.getElem?_cons_zero, List.getElem?_cons_succ, Option.some.injEq] at ho)
              all_goals try (subst ho)
              all_goals try simp only [putAll, Act.put, List.setIfInBounds_toArray, List.set_cons_zero, List.set_cons_succ]
              · go_simp
                have hK' := hK.out
                simp only [putAll, Act.put, List.setIfInBounds_toArray, List.set_cons_zero, List.set_cons_succ] at hK'
                exact hK' _ _ rfl (Below.refl _ _) (by simp)
              · have e0 : s13 = _ := hdep ⟨0, .data⟩ (by simp) rfl
                have e0 := e0.symm
                subst e0
                go_simp
                have hK' := hK.out
                simp only [putAll, Act.put, List.setIfInBounds_toArray, List.set_cons_zero, List.set_cons_succ] at hK'
                exact hK' _ _ rfl (Below.refl _ _) (by simp)
              · have e1 : s14 = _ := hdep ⟨1, .data⟩ (by simp) rfl
                have e1 := e1.symm
                subst e1
                go_simp
                go_simp
                refine (HSg.out wx hb).mono ?_
                rintro e wy ⟨rfl, hby⟩
                go_wp2_with fail
                have hK' := hK.out
                simp only [putAll, Act.put, List.setIfInBounds_toArray, List.set_cons_zero, List.set_cons_succ] at hK'
                exact hK' _ _ rfl hby (by simp)
              · have e2 : s15 = _ := hdep ⟨2, .data⟩ (by simp) rfl
                have e2 := e2.symm
                subst e2
                go_simp
                have hK' := hK.out
                simp only [putAll, Act.put, List.setIfInBounds_toArray, List.set_cons_zero, List.set_cons_succ] at hK'
                exact hK' _ _ (show Value.bool (c.sign == 0) = .bool false by rw [HsE.out]) (Below.refl _ _) (by simp)
              · have e3 : s16 = _ := hdep ⟨3, .data⟩ (by simp) rfl
                have e3 := e3.symm
                subst e3
                go_simp
                have hK' := hK.out
                simp only [putAll, Act.put, List.setIfInBounds_toArray, List.set_cons_zero, List.set_cons_succ] at hK'
                exact hK' _ _ rfl (Below.refl _ _) (by simp)
              · have eg : s17 = _ := hdep ⟨4, .guard⟩ (by simp) rfl
                have eg := eg.symm
                subst eg
                go_simp
                have hK' := hK.out
                simp only [putAll, Act.put, List.setIfInBounds_toArray, List.set_cons_zero, List.set_cons_succ] at hK'
                exact hK' _ _ rfl (Below.refl _ _) (by simp)
              · have e5 : s18 = _ := hdep ⟨5, .data⟩ (by simp) rfl
                have e5 := e5.symm
                subst e5
                have eg : s17 = _ := hdep ⟨4, .guard⟩ (by simp) rfl
                have eg := eg.symm
                subst eg
                go_simp
                have hK' := hK.out
                simp only [putAll, Act.put, List.setIfInBounds_toArray, List.set_cons_zero, List.set_cons_succ] at hK'
                exact hK' _ _ (show _ = Value.bool true by first | rfl | (have := HK0.out; simp [this])) (Below.refl _ _) (by simp)
              · have e6 : s19 = _ := hdep ⟨6, .data⟩ (by simp) rfl
                have e6 := e6.symm
                subst e6
                have eg : s17 = _ := hdep ⟨4, .guard⟩ (by simp) rfl
                have eg := eg.symm
                subst eg
                go_simp
                have hK' := hK.out
                simp only [putAll, Act.put, List.setIfInBounds_toArray, List.set_cons_zero, List.set_cons_succ] at hK'
                exact hK' _ _ rfl (Below.refl _ _) (by simp)
              · have eg : s20 = _ := hdep ⟨7, .guard⟩ (by simp) rfl
                have eg := eg.symm
                subst eg
                go_simp
                have hK' := hK.out
                simp only [putAll, Act.put, List.setIfInBounds_toArray, List.set_cons_zero, List.set_cons_succ] at hK'
                exact hK' _ _ rfl (Below.refl _ _) (by simp)
              · have e8 : s21 = _ := hdep ⟨8, .data⟩ (by simp) rfl
                have e8 := e8.symm
                subst e8
                have eg : s20 = _ := hdep ⟨7, .guard⟩ (by simp) rfl
                have eg := eg.symm
                subst eg
                go_simp
                have hK' := hK.out
                simp only [putAll, Act.put, List.setIfInBounds_toArray, List.set_cons_zero, List.set_cons_succ] at hK'
                exact hK' _ _ rfl (Below.refl _ _) (by simp)
              · have eg : s20 = _ := hdep ⟨7, .guard⟩ (by simp) rfl
                have eg := eg.symm
                subst eg
                go_simp
                have hK' := hK.out
                simp only [putAll, Act.put, List.setIfInBounds_toArray, List.set_cons_zero, List.set_cons_succ] at hK'
                exact hK' _ _ rfl (Below.refl _ _) (by simp)
              · have e10 : s23 = _ := hdep ⟨10, .data⟩ (by simp) rfl
                have e10 := e10.symm
                subst e10
                have eg : s20 = _ := hdep ⟨7, .guard⟩ (by simp) rfl
                have eg := eg.symm
                subst eg
                go_simp
                have hK' := hK.out
                simp only [putAll, Act.put, List.setIfInBounds_toArray, List.set_cons_zero, List.set_cons_succ] at hK'
                exact hK' _ _ (show _ = Value.int .i64 (k1 : Nat) by first | rfl | (congr 1; omega) | (rw [IntWalk.i64_in _ (by omega)]; congr 1; omega)) (Below.refl _ _) (by simp)
              · have e9 : s22 = _ := hdep ⟨9, .data⟩ (by simp) rfl
                have e9 := e9.symm
                subst e9
                have e11 : s24 = _ := hdep ⟨11, .data⟩ (by simp) rfl
                have e11 := e11.symm
                subst e11
                have eg : s20 = _ := hdep ⟨7, .guard⟩ (by simp) rfl
                have eg := eg.symm
                subst eg
                go_simp
                have hK' := hK.out
                simp only [putAll, Act.put, List.setIfInBounds_toArray, List.set_cons_zero, List.set_cons_succ] at hK'
                exact hK' _ _ rfl (Below.refl _ _) (by simp)
              · have e12 : s25 = _ := hdep ⟨12, .data⟩ (by simp) rfl
                have e12 := e12.symm
                subst e12
                have eg : s20 = _ := hdep ⟨7, .guard⟩ (by simp) rfl
                have eg := eg.symm
                subst eg
                go_simp
                have hK' := hK.out
                simp only [putAll, Act.put, List.setIfInBounds_toArray, List.set_cons_zero, List.set_cons_succ] at hK'
                exact hK' _ _ rfl (Below.refl _ _) (by simp)
              · have e13 : s26 = _ := hdep ⟨13, .data⟩ (by simp) rfl
                have e13 := e13.symm
                subst e13
                have eg : s20 = _ := hdep ⟨7, .guard⟩ (by simp) rfl
                have eg := eg.symm
                subst eg
                go_simp
                have hK' := hK.out
                simp only [putAll, Act.put, List.setIfInBounds_toArray, List.set_cons_zero, List.set_cons_succ] at hK'
                exact hK' _ _ rfl (Below.refl _ _) (by simp)
              · have eg : s20 = _ := hdep ⟨7, .guard⟩ (by simp) rfl
                have eg := eg.symm
                subst eg
                go_simp
                have hK' := hK.out
                simp only [putAll, Act.put, List.setIfInBounds_toArray, List.set_cons_zero, List.set_cons_succ] at hK'
                exact hK' _ _ rfl (Below.refl _ _) (by simp)
              · have e15 : s28 = _ := hdep ⟨15, .data⟩ (by simp) rfl
                have e15 := e15.symm
                subst e15
                have eg : s20 = _ := hdep ⟨7, .guard⟩ (by simp) rfl
                have eg := eg.symm
                subst eg
                go_simp
                have hK' := hK.out
                simp only [putAll, Act.put, List.setIfInBounds_toArray, List.set_cons_zero, List.set_cons_succ] at hK'
                exact hK' _ _ rfl (Below.refl _ _) (by simp)
              · have e14 : s27 = _ := hdep ⟨14, .data⟩ (by simp) rfl
                have e14 := e14.symm
                subst e14
                have e16 : s29 = _ := hdep ⟨16, .data⟩ (by simp) rfl
                have e16 := e16.symm
                subst e16
                have eg : s20 = _ := hdep ⟨7, .guard⟩ (by simp) rfl
                have eg := eg.symm
                subst eg
                go_simp
                have hK' := hK.out
                simp only [putAll, Act.put, List.setIfInBounds_toArray, List.set_cons_zero, List.set_cons_succ] at hK'
                exact hK' _ _ rfl (Below.refl _ _) (by simp)
              · have e7 : s20 = _ := hdep ⟨7, .data⟩ (by simp) rfl
                have e7 := e7.symm
                subst e7
                have e17 : s30 = _ := hdep ⟨17, .data⟩ (by simp) rfl
                have e17 := e17.symm
                subst e17
                have eg : s17 = _ := hdep ⟨4, .guard⟩ (by simp) rfl
                have eg := eg.symm
                subst eg
                go_simp
                have hK' := hK.out
                simp only [putAll, Act.put, List.setIfInBounds_toArray, List.set_cons_zero, List.set_cons_succ] at hK'
                exact hK' _ _ rfl (Below.refl _ _) (by simp)
              · have e4 : s17 = _ := hdep ⟨4, .data⟩ (by simp) rfl
                have e4 := e4.symm
                subst e4
                have e18 : s31 = _ := hdep ⟨18, .data⟩ (by simp) rfl
                have e18 := e18.symm
                subst e18
                go_simp
                have hK' := hK.out
                simp only [putAll, Act.put, List.setIfInBounds_toArray, List.set_cons_zero, List.set_cons_succ] at hK'
                exact hK' _ _ rfl (Below.refl _ _) (by simp)
              · omega
            · intro vs wx hvl hb hf hdist
              have hvs := vlen20 hvl
              obtain ⟨s13, s14, s15, s16, s17, s18, s19, s20, s21, s22, s23, s24, s25, s26, s27, s28, s29, s30, s31, s32, rfl⟩ := hvs
              have f19 : s32 = _ := hf 19 (by decide)
              have f19 := f19.symm
              subst f19
              have Hb9 := hid (lnGo hb HBw5.out)
              clear hf hvl hdist
              refine wpAny_done (by kernel_rfl) ?_ _
              try simp only [putAll, Act.put, List.setIfInBounds_toArray, List.set_cons_zero, List.set_cons_succ]
              have Hb9W := hid (lnGo hb HBW5.out)
              go_wp2_with fail
              go_roundw
              case rel => exact ⟨k + 1, by omega, by go_num, Hnx, Hb9W⟩
              case measure => simp [intOf] <;> omega
    · obtain rfl : k = L := by omega
      have hfin : l.take k = l := by rw [HLL.out, List.take_length]
      have HI' := HI.out
      rw [hfin] at HI'
      have hd : decide (lnIs l) = true := by simpa using HI'
      have HBf := hid (lnGo HB.out B0.out)
      clear HI HI' hfin HB
      go_wp2
      go_ret
      exact ⟨by rw [hd]; rfl, HBf.out⟩
end Go.Proofs.YtnfohbpgnbfmeaaGreatDoor
/- elenchuslaw10.AtomsMeans. -/
namespace Go.Proofs.YtnfohbpgnbfmeaaGreatDoor
open Go.RowKit Big

theorem ord_le {a b : Int} : ord a b ≤ 0 ↔ a ≤ b := by
  unfold ord
  split
  · omega
  · split <;> omega
theorem sign_le {a : Int} : a.sign ≤ 0 ↔ a ≤ 0 := by
  rcases Int.lt_trichotomy a 0 with h | h | h
  · rw [Int.sign_eq_neg_one_of_neg h]; omega
  · subst h; simp
  · rw [Int.sign_eq_one_of_pos h]; omega
/-- what was asked for lies at its place -/
theorem atAsk1_at {S : AtS} {l : AtRow} {c : Int} (hI : lnIs l) (h0 : l ≠ []) : ∃ (K : Nat) (hK : K < (atAsk1 S (l, c)).atoms.length) (hR : ((atAsk1 S (l, c)).atoms[K]).1 < (atAsk1 S (l, c)).rows.length), (atAns S l c).1 = (K : Int) ∧ (atAsk1 S (l, c)).rows[((atAsk1 S (l, c)).atoms[K]).1] = (atOne l c).1 ∧ ((atAsk1 S (l, c)).atoms[K]).2 = (atOne l c).2.1 := by
  rw [atAns_pos hI h0]
  have e : atAsk1 S (l, c) = (atLay S (atOne l c).1 (atOne l c).2.1).1 := atAsk1_pos hI h0
  simp only [e]
  unfold atLay
  obtain ⟨h1, e1⟩ := atAdd_at S.atoms (atIdx S.rows (atOne l c).1, (atOne l c).2.1)
  obtain ⟨h2, e2⟩ := atAdd_at S.rows (atOne l c).1
  refine ⟨_, h1, ?_, rfl, ?_, ?_⟩
  · simp only [e1]; exact h2
  · simp only [e1]; exact e2
  · simp only [e1]
theorem lnValue_ok {l : AtRow} {c : Int} {vals : List Int} (h : (lnValue (l, c) vals).2 = 0) : (∀ p ∈ l, 0 ≤ p.2 ∧ p.2 < vals.length) ∧ (lnValue (l, c) vals).1 = c + lnVal (lnAtv vals) l := by
  unfold lnValue at h ⊢
  by_cases hp : ∀ p ∈ (l, c).1, 0 ≤ p.2 ∧ p.2 < vals.length
  · rw [if_pos hp]; exact ⟨hp, rfl⟩
  · rw [if_neg hp] at h; simp at h
theorem atMeans {l : AtRow} {c : Int} {vals : List Int} (hI : lnIs l) (h0 : l ≠ []) (h : (lnValue (l, c) vals).2 = 0) :
    (lnValue ((atOne l c).1, 0) vals).2 = 0 ∧ (decide (ord (lnValue ((atOne l c).1, 0) vals).1 (atOne l c).2.1 ≤ 0) == (atOne l c).2.2) = decide ((lnValue (l, c) vals).1.sign ≤ 0) := by
  obtain ⟨h1, h2⟩ := lnValue_ok h
  have h3 : ∀ p ∈ (atOne l c).1, 0 ≤ p.2 ∧ p.2 < vals.length := fun p hp => by
    obtain ⟨q, hq, e, -⟩ := atOne_terms l c hI p hp
    rw [← e]
    exact h1 q hq
  have h4 : lnValue ((atOne l c).1, 0) vals = (0 + lnVal (lnAtv vals) (atOne l c).1, 0) := by
    unfold lnValue
    rw [if_pos h3]
  have hm := atOne_means hI h0 c (lnAtv vals)
  refine ⟨by rw [h4], ?_⟩
  rw [h4, h2]
  have e1 : decide (ord (0 + lnVal (lnAtv vals) (atOne l c).1) (atOne l c).2.1 ≤ 0) = decide (lnVal (lnAtv vals) (atOne l c).1 ≤ (atOne l c).2.1) := by
    rw [Int.zero_add]
    exact decide_eq_decide.2 ord_le
  have e2 : decide ((c + lnVal (lnAtv vals) l).sign ≤ 0) = decide (lnVal (lnAtv vals) l + c ≤ 0) := by
    rw [Int.add_comm]
    exact decide_eq_decide.2 sign_le
  rw [show (0 + lnVal (lnAtv vals) (atOne l c).1, (0 : Int)).1 = 0 + lnVal (lnAtv vals) (atOne l c).1 from rfl, e1, e2, hm]
theorem atMeans_nil {c : Int} {vals : List Int} : lnValue ([], c) vals = (c, 0) := by
  unfold lnValue
  rw [if_pos (by simp)]
  simp [lnVal]
theorem lnValue_szC {N : Nat} {l : AtRow} {c : Int} {vals : List Int} (hl : ∀ p ∈ l, sz W p.1.natAbs ≤ N) (hc : sz W c.natAbs ≤ N) (hv : ∀ z ∈ vals, sz W z.natAbs ≤ N) : sz W (lnValue (l, c) vals).1.natAbs ≤ N + N + l.length + 1 := by
  unfold lnValue
  split
  · show sz W (c + lnVal (lnAtv vals) l).natAbs ≤ _
    exact Nat.le_trans (sz_mono W2 (Int.natAbs_add_le _ _)) (sz_add W2 (Nat.le_trans hc (by omega)) (lnVal_sz _ (lnAtv_sz hv) l hl))
  · show sz W (0 : Int).natAbs ≤ _
    simp [sz_zero]
set_option maxRecDepth 100000 in
set_option maxHeartbeats 25600000 in
theorem lawMeans_any (v vv : Value) (l : List Lx) (vs : List Nx) (w : World) (h : LxsIn w v l) (hv : NxsIn w vv vs) (htab : Tb w.heap.size w) : Calls Tryz.prog 4 #[v, vv] w (RBool true w) := by
  have HH := hid h; have HV := hid hv
  have HFx := hid (fixed10_any w htab)
  have Ht := hid htab
  have HFw := hid (fun w' (hb : Below w.heap.size w w') => few10_any v l w' (h.below hb))
  obtain ⟨p, cp, rfl, j1, j2, -, j4⟩ := h
  have J4 := hid j4
  unfold maxLen at j2
  obtain ⟨pw, cv, rfl, i1, i2, -, i4⟩ := hv
  have I4 := hid i4
  unfold maxLen at i2
  obtain ⟨L, hLL⟩ : ∃ L, L = l.length := ⟨_, rfl⟩
  obtain ⟨M, hMM⟩ : ∃ L, L = vs.length := ⟨_, rfl⟩
  have HLL := hid hLL; have HMM := hid hMM
  have i1 : vs.length ≤ cv := i1
  have j1 : l.length ≤ cp := j1
  rw [← hLL] at j1
  rw [← hMM] at i1
  rw [← hLL] at HH HFw ⊢
  rw [← hMM] at HV ⊢
  clear j4 i4 hLL hMM htab
  go_enter Tryz.func4, Tryz.ntmps4
  go_wp2_with fail
  refine HFx.out.mono ?_
  rintro e w1 ⟨rfl, b1⟩
  have B1 := hid b1
  have HFw1 := hid (HFw.out w1 b1)
  clear b1 HFx HFw
  go_wp2_with fail
  refine HFw1.out.mono ?_
  rintro e w2 ⟨bf, rfl, hfit, b2⟩
  have B2 := hid (lnGo b2 B1.out)
  clear b2 HFw1
  cases bf with
  | false =>
    clear hfit
    go_wp2
    go_ret
    exact ⟨rfl, B2.out⟩
  | true =>
  have Hfit := hid (hfit rfl)
  clear hfit
  have hL40 : L ≤ 40 := Hfit.out.1
  by_cases hM : M ≤ 60
  case neg =>
    have hd : decide ((60 : Int) < (M : Int)) = true := by simp; omega
    go_wp2
    go_ret
    exact ⟨rfl, B2.out⟩
  have hd : decide ((60 : Int) < (M : Int)) = false := by simp; omega
  go_wp2_with fail
  go_loopw [30] (fun i wr => ∃ (k : Nat), k ≤ M ∧ i = .int .i64 (k : Nat) ∧ Hid (∀ y ∈ vs.take k, y.fit) ∧ Hid (Below w2.heap.size w2 wr)) (fun i _ => M - (intOf i).toNat)
  case atStart => exact ⟨0, Nat.zero_le _, rfl, hid (by simp), hid (Below.refl _ _)⟩
  case round =>
    obtain ⟨k, hk, rfl, HA, HB⟩ := hrel
    have HBw := hid (lnGo HB.out B2.out)
    by_cases hlt : k < M
    · have hkt : k < vs.length := by rw [← HMM.out]; exact hlt
      have hlt' : (k : Int) < (M : Int) := by omega
      obtain ⟨b, o, rfl, hb, hc⟩ := I4.out (by omega)
      obtain ⟨cs, kk, q1, cq1, ecs, -⟩ := hc k hkt
      subst ecs
      have y0 := (HBw.out.cell (p := ⟨b, o + k * 2, none⟩) hb).trans (kk 0 _ rfl)
      have y1 := (HBw.out.cell (p := ⟨b, o + k * 2 + 1, none⟩) hb).trans (kk 1 _ rfl)
      have Hsn : Hid (vs.take (k + 1) = vs.take k ++ [vs[k]]) := hid (List.take_succ_eq_append_getElem hkt)
      have Hf : Hid (vs[k].fit ↔ vs[k].words.length ≤ 6) := hid Iff.rfl
      clear kk hc
      generalize vs[k].words.length = n1 at *
      generalize vs[k].neg = g1 at *
      by_cases hm1 : n1 ≤ 6
      · have hd3 : decide ((6 : Int) < (n1 : Int)) = false := by simp; omega
        have HA2 : Hid (∀ y ∈ vs.take (k + 1), y.fit) := hid (fun p hp => by
          rcases List.mem_append.1 (Hsn.out ▸ hp) with hp | hp
          · exact HA.out p hp
          · rw [List.mem_singleton.1 hp]; exact Hf.out.2 hm1)
        have HB2 := hid (lnGo (below1 wr (.cells #[.bool g1, .slice q1 n1 cq1] 35)) HB.out)
        clear HA HB HBw Hsn Hf
        go_wp2_with fail
        go_roundw
        case rel => exact ⟨k + 1, by omega, by go_num, HA2, HB2⟩
        case measure => simp [intOf] <;> omega
      · have hd3 : decide ((6 : Int) < (n1 : Int)) = true := by simp; omega
        have HB2 := hid (lnGo (below1 wr (.cells #[.bool g1, .slice q1 n1 cq1] 35)) HBw.out)
        clear HA HB HBw Hsn Hf
        go_wp2
        go_ret
        exact ⟨rfl, HB2.out⟩
    · obtain rfl : k = M := by omega
      have hfin : vs.take k = vs := by rw [HMM.out, List.take_length]
      have hA := HA.out
      rw [hfin] at hA
      have HNm := hid (NxsIn.nms HV.out (by exact hA))
      have HSv := hid (NxsIn.small HV.out (by exact hA))
      obtain ⟨vals, hvals⟩ : ∃ x, x = vs.map Nx.z := ⟨_, rfl⟩
      rw [← hvals] at HNm HSv
      clear hA hfin HA HB HV I4 hvals
      obtain ⟨wo, hwo⟩ : ∃ wo, wo = wr := ⟨_, rfl⟩
      subst hwo
      go_wp2_with fail
      refine (New_any wo).mono ?_
      rintro e w3 ⟨rfl, hA3, b3⟩
      have HTb := hid (tab_later Ht.out HBw.out)
      have HA3 := hid hA3
      have HB3 := hid b3
      clear hA3 b3
      go_wp2_with fail
      go_loopw [42] (fun i wr => ∃ (k : Nat), k ≤ L ∧ i = .int .i64 (k : Nat) ∧ Hid (∃ S, AtAt wo.heap.size wr wo.heap.size S ∧ AtGood 7 S ∧ S.rows.length ≤ k ∧ S.atoms.length ≤ k) ∧ Hid (Below wo.heap.size wo wr)) (fun i _ => L - (intOf i).toNat)
      case atStart => exact ⟨0, Nat.zero_le _, rfl, hid ⟨⟨[], []⟩, HA3.out, AtGood.nil 7, by simp, by simp⟩, hid HB3.out⟩
      case round =>
        obtain ⟨j, hj, rfl, HT, HB⟩ := hrel
        have HBw0 := hid (HBw.out.trans (HB.out.mono HBw.out.size))
        by_cases hlt : j < L
        · have hkt : j < l.length := by rw [← HLL.out]; exact hlt
          have hlt' : (j : Int) < (L : Int) := by omega
          obtain ⟨b, o, rfl, hb, hc⟩ := J4.out (by show 0 < l.length; omega)
          obtain ⟨cs, k0, a1, b1, d1, ecs, hq⟩ := hc j hkt
          subst ecs
          obtain ⟨pp, cc, qq, kk, dd, eag⟩ := hq.agg3
          injection eag with eag
          simp only [Array.mk.injEq, List.cons.injEq, and_true] at eag
          obtain ⟨ea1, eb1, ed1⟩ := eag
          obtain ⟨nn, hnn⟩ : ∃ n, n = (l[j]'hkt).parts.length := ⟨_, rfl⟩
          obtain ⟨bb, hbb⟩ : ∃ n, n = (l[j]'hkt).rest.neg := ⟨_, rfl⟩
          rw [← hnn] at ea1
          rw [← hbb] at eb1
          subst ea1 eb1 ed1
          have y0 : wr.cell? ⟨b, o + j * 3, none⟩ = some (.slice pp nn cc) := (HBw0.out.cell (p := ⟨b, o + j * 3, none⟩) hb).trans (k0 0 _ rfl)
          have y1 : wr.cell? ⟨b, o + j * 3 + 1, none⟩ = some (.bool bb) := (HBw0.out.cell (p := ⟨b, o + j * 3 + 1, none⟩) hb).trans (k0 1 _ rfl)
          have y2 : wr.cell? ⟨b, o + j * 3 + 2, none⟩ = some (.slice qq kk dd) := (HBw0.out.cell (p := ⟨b, o + j * 3 + 2, none⟩) hb).trans (k0 2 _ rfl)
          have hft := Hfit.out.2 _ (List.getElem_mem hkt)
          have LA := hid (hq.raw hft)
          have SA := hid (hq.small hft)
          have la : ((l[j]'hkt).a).1.length ≤ 40 := by show ((l[j]'hkt).parts.map Px6.p).length ≤ 40; rw [List.length_map]; exact hft.1
          obtain ⟨⟨ll, c⟩, hxa⟩ : ∃ a, a = (l[j]'hkt).a := ⟨_, rfl⟩
          rw [← hxa] at LA SA la
          have la : ll.length ≤ 40 := la
          clear hxa hft hq k0 hc hnn hbb
          obtain ⟨W2, hW2⟩ : ∃ W2, W2 = wr.alloc (.cells #[.slice pp nn cc, .bool bb, .slice qq kk dd] 37) := ⟨_, rfl⟩
          have b2 : Below wr.heap.size wr W2 := by rw [hW2]; exact below1 _ _
          have e2 : W2.heap[wr.heap.size]? = some (.cells #[.slice pp nn cc, .bool bb, .slice qq kk dd] 37 (0, 0)) := by rw [hW2]; exact heap_alloc_new _ _
          have z2 : W2.heap.size = wr.heap.size + 1 := by rw [hW2, size_alloc]
          have Bo2 := hid (lnGo b2 HB.out)
          have B22 := hid (lnGo b2 HBw0.out)
          have Br2 := hid b2
          have E2 := hid e2
          have HIs := hid (RIs_lin _ (ll, c) W2 (LA.out.below B22.out) (by show ll.length ≤ _; omega))
          obtain ⟨x0, x1, x2⟩ := lnCells3 e2
          clear b2 e2
          go_upto_region 15 with fail
          rw [← hW2]
          clear hW2
          go_wp2_with fail
          refine HIs.out.mono ?_
          rintro e w4 ⟨rfl, b4⟩
          have Bo4 := hid (lnGo b4 Bo2.out)
          have B44 := hid (lnGo b4 B22.out)
          have Br4 := hid (lnGo b4 Br2.out)
          have z4 := b4.size
          have E4 := hid ((b4.block wr.heap.size (by omega)).trans E2.out)
          clear x0 x1 x2 y0 y1 y2 b4 HIs
          by_cases hI : lnIs ll
          case neg =>
            have hd : decide (lnIs (ll, c).1) = false := by simpa using hI
            have HT2 : Hid (∃ S, AtAt wo.heap.size w4 wo.heap.size S ∧ AtGood 7 S ∧ S.rows.length ≤ j + 1 ∧ S.atoms.length ≤ j + 1) := hid (by
              obtain ⟨S, h1, h2, h3, h4⟩ := HT.out
              exact ⟨S, h1.below Br4.out, h2, by omega, by omega⟩)
            clear hI
            go_wp2_with fail
            go_roundw
            case rel => exact ⟨j + 1, by omega, by go_num, HT2, Bo4⟩
            case measure => simp [intOf] <;> omega
          case pos =>
            have hd : decide (lnIs (ll, c).1) = true := by simpa using hI
            obtain ⟨S, hS1, hS2, hS3, hS4⟩ := HT.out
            obtain ⟨vr, va, m1, m2, hIn⟩ := hS1
            have HIn := hid hIn
            have HG := hid hS2
            have HS34 := hid (show S.rows.length ≤ j ∧ S.atoms.length ≤ j from ⟨hS3, hS4⟩)
            have hwf : ∀ p ∈ ll, -9223372036854775808 ≤ p.2 ∧ p.2 ≤ 9223372036854775807 := by
              obtain ⟨pv, n, s, e, hp, hx⟩ := LA.out
              exact hp.wf
            have HC := Ask_any wo.heap.size wo.heap.size vr va m1 m2 S _ ll c w4 (HIn.out.below Br4.out) HG.out Bo4.out.size (LA.out.below B44.out) SA.out (by omega) (by omega) (by omega) (tab_go HTb.out Bo4.out)
            have hE := atAns_err S c hI
            obtain ⟨NA, RA, EA, hAA⟩ : ∃ a b e, atAns S ll c = (a, b, e) := ⟨_, _, _, rfl⟩
            rw [hAA] at hE HC
            obtain rfl : EA = 0 := hE
            obtain ⟨S1, hS1⟩ : ∃ s, s = atAsk1 S (ll, c) := ⟨_, rfl⟩
            rw [← hS1] at HC
            have HC := hid HC
            have HG1 : Hid (AtGood 7 S1) := hid (by rw [hS1]; exact HG.out.ask1 SA.out.1 SA.out.2 (by omega) hwf)
            have hL1 : S1.rows.length ≤ j + 1 ∧ S1.atoms.length ≤ j + 1 := by
              have := atAsk1_len S (ll, c)
              rw [← hS1] at this
              omega
            have HL1 := hid hL1
            have HAA := hid hAA; have HS1 := hid hS1; have HI := hid hI
            have hOwn : ∀ x, atS wo.heap.size vr va m1 m2 x → wo.heap.size ≤ x ∧ x < wr.heap.size := fun x hx => ⟨(HIn.out.own x hx).1, (HIn.out.own x hx).2.1⟩
            have HOwn := hid hOwn
            obtain ⟨y0, y1, y2⟩ := lnCells3 E4.out
            clear hAA hS1 hI hL1 hS2 hS3 hS4 hIn hwf HT hOwn
            go_wp2_with fail
            refine HC.out.mono ?_
            rintro e w5 ⟨rfl, vr5, va5, m15, m25, hI5, hA5, -⟩
            have z5 := hA5.size
            have HIn5 := hid hI5
            have E5 : Hid (w5.heap[wr.heap.size]? = some (.cells #[.slice pp nn cc, .bool bb, .slice qq kk dd] 37 (0, 0))) := hid ((hA5.block wr.heap.size (by omega) (fun hs => by have := (HOwn.out _ hs).2; omega)).trans E4.out)
            have hbo5 : Below wo.heap.size wo w5 := Bo4.out.trans (Apart.below hA5 Bo4.out.size (fun b hb => (HOwn.out b hb).1))
            have hb55 : Below w.heap.size w w5 := HBw.out.trans (hbo5.mono HBw.out.size)
            have HVl := RValue_lin _ _ (ll, c) vals w5 (N := 6) (LA.out.below hb55) (HNm.out.below hb55) SA.out HSv.out (by show 6 + 6 + ll.length ≤ _; omega)
            have hrz : sz W (lnValue (ll, c) vals).1.natAbs ≤ 6 + 6 + ll.length + 1 := lnValue_szC SA.out.1 SA.out.2 HSv.out
            obtain ⟨⟨r1, r2⟩, hrr⟩ : ∃ x, x = lnValue (ll, c) vals := ⟨_, rfl⟩
            rw [← hrr] at HVl hrz
            have HVl := hid HVl
            have Hrz : Hid (sz W r1.natAbs ≤ 100) := hid (Nat.le_trans hrz (by omega))
            have HRR := hid hrr
            have Bo5 := hid hbo5
            have B55 := hid hb55
            clear hI5 hA5 hbo5 hb55 hrz hrr HC y0 y1 y2
            obtain ⟨y0, y1, y2⟩ := lnCells3 E5.out
            go_wp2_with fail
            refine HVl.out.mono ?_
            rintro e w6 ⟨v6, rfl, i6, b6⟩
            have i6 : IntAt w6 v6 r1 := i6
            obtain ⟨p6, n6, c6, rfl, i6⟩ := i6.shape
            obtain ⟨sg6, hsg6⟩ : ∃ b, b = decide (r1 < 0) := ⟨_, rfl⟩
            rw [← hsg6] at i6 ⊢
            obtain ⟨w7, hw7⟩ : ∃ w7, w7 = w6.alloc (.cells #[.bool sg6, .slice p6 n6 c6] 35) := ⟨_, rfl⟩
            have b7 : Below w6.heap.size w6 w7 := by rw [hw7]; exact below1 _ _
            have e7 : w7.heap[w6.heap.size]? = some (.cells #[.bool sg6, .slice p6 n6 c6] 35 (0, 0)) := by rw [hw7]; exact heap_alloc_new _ _
            have R7 := hid ((i6.below b7).rawL (Nat.le_trans Hrz.out (by decide)))
            have b57 := lnGo b7 b6
            have Bo7 := hid (lnGo b57 Bo5.out)
            have B77 := hid (lnGo b57 B55.out)
            have HIn7 := hid (HIn5.out.below b57)
            have HT7 : Hid (∃ S, AtAt wo.heap.size w7 wo.heap.size S ∧ AtGood 7 S ∧ S.rows.length ≤ j + 1 ∧ S.atoms.length ≤ j + 1) := hid ⟨S1, ⟨_, _, _, _, HIn7.out⟩, HG1.out, HL1.out⟩
            obtain ⟨t0, t1, -, -⟩ := two_cells e7
            have z57 := b57.size
            have HSg := RSign_any _ r1 w7 R7.out
            obtain ⟨sg, hsg⟩ : ∃ z, z = r1.sign := ⟨_, rfl⟩
            rw [← hsg] at HSg
            have HSg := hid HSg
            have HSG := hid hsg
            clear i6 b6 b7 e7 b57 hsg6 hsg HVl y0 y1 y2
            go_upto_region 18 with fail
            rw [← hw7]
            clear hw7
            by_cases hr2 : r2 = 0
            case neg =>
              have hd2 : (r2 == 0) = false := by rw [beq_eq_false_iff_ne]; exact hr2
              clear hr2
              go_wp2_with fail
              go_roundw
              case rel => exact ⟨j + 1, by omega, by go_num, HT7, Bo7⟩
              case measure => simp [intOf] <;> omega
            case pos =>
            subst hr2
            obtain ⟨WT, hWT⟩ : ∃ b, b = decide (sg ≤ 0) := ⟨_, rfl⟩
            by_cases h0 : ll = []
            case pos =>
              have hNA : NA = -1 ∧ RA = WT := by
                have e1 := HAA.out
                rw [h0, atAns_nil] at e1
                injection e1 with e1 e2
                injection e2 with e2 _
                refine ⟨e1.symm, ?_⟩
                rw [← e2, hWT, HSG.out]
                have e3 := HRR.out
                rw [h0, atMeans_nil] at e3
                injection e3 with e3 _
                rw [e3]
                exact decide_eq_decide.2 sign_le.symm
              obtain ⟨rfl, rfl⟩ := hNA
              have hdw := hWT.symm
              clear hWT h0
              go_wp2_with fail
              refine HSg.out.mono ?_
              rintro e w8 ⟨rfl, b8⟩
              have HT8 : Hid (∃ S, AtAt wo.heap.size w8 wo.heap.size S ∧ AtGood 7 S ∧ S.rows.length ≤ j + 1 ∧ S.atoms.length ≤ j + 1) := hid ⟨S1, ⟨_, _, _, _, HIn7.out.below b8⟩, HG1.out, HL1.out⟩
              have Bo8 := hid (lnGo b8 Bo7.out)
              clear b8 HSg
              cases RA
              all_goals
                go_wp2_with fail
                go_roundw
                case rel => exact ⟨j + 1, by omega, by go_num, HT8, Bo8⟩
                case measure => simp [intOf] <;> omega
            case neg =>
              have hat := atAsk1_at (S := S) (c := c) HI.out h0
              rw [← HS1.out] at hat
              obtain ⟨K, hK, hR, e1, e2, e3⟩ := hat
              have hm := atMeans (c := c) (vals := vals) HI.out h0 (by rw [← HRR.out])
              rw [← HRR.out] at hm
              have hNA : NA = (K : Int) ∧ (atOne ll c).2.2 = RA := by
                have e4 := HAA.out
                rw [e4] at e1
                refine ⟨e1, ?_⟩
                rw [atAns_pos HI.out h0] at e4
                injection e4 with _ e4
                injection e4 with e4 _
              obtain ⟨rfl, hRA⟩ := hNA
              obtain ⟨hm1, hm2⟩ := hm
              rw [hRA, show ((r1, (0 : Int)) : Int × Int).1 = r1 from rfl, ← HSG.out, ← hWT] at hm2
              have HHo := hid (fun w' (hb : Below w7.heap.size w7 w') => holds_any wo.heap.size wo.heap.size vr5 va5 m15 m25 S1 K _ vals w' (HIn7.out.below hb) HG1.out (by have := HL1.out; omega) (by have := HL1.out; omega) hK _ hR e2 (HNm.out.below (lnGo hb B77.out)) HSv.out)
              rw [e3, hm1] at HHo
              obtain ⟨QQ, hQQ⟩ : ∃ b, b = decide (ord (lnValue ((atOne ll c).1, 0) vals).1 (atOne ll c).2.1 ≤ 0) := ⟨_, rfl⟩
              rw [← hQQ] at HHo hm2
              have hdw := hWT.symm
              clear hWT h0 e1 e2 e3 hm1 hQQ hRA hR hK
              go_wp2_with fail
              refine HSg.out.mono ?_
              rintro e w8 ⟨rfl, b8⟩
              have HHo8 := hid (HHo.out w8 b8)
              have Bo8 := hid (lnGo b8 Bo7.out)
              have HIn8 := hid (HIn7.out.below b8)
              clear b8 HSg HHo
              cases QQ <;> cases RA <;> cases WT <;> first | (exfalso; revert hm2; decide) | skip
              all_goals
                go_wp2_with fail
                refine HHo8.out.mono ?_
                rintro e w9 ⟨rfl, b9⟩
                have HT9 : Hid (∃ S, AtAt wo.heap.size w9 wo.heap.size S ∧ AtGood 7 S ∧ S.rows.length ≤ j + 1 ∧ S.atoms.length ≤ j + 1) := hid ⟨S1, ⟨_, _, _, _, HIn8.out.below b9⟩, HG1.out, HL1.out⟩
                have Bo9 := hid (lnGo b9 Bo8.out)
                clear b9 HHo8
                go_wp2_with fail
                go_roundw
                case rel => exact ⟨j + 1, by omega, by go_num, HT9, Bo9⟩
                case measure => simp [intOf] <;> omega
        · obtain rfl : j = L := by omega
          go_wp2
          go_ret
          exact ⟨rfl, HBw0.out⟩
end Go.Proofs.YtnfohbpgnbfmeaaGreatDoor
