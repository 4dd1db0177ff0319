/- Texts put together: AtLawOpp. -/
import Derived.Test.YtnfohbpgnbfmeaaGreatDoorAtomsTimesCardM6
/- elenchuslaw10.AtomsOpposes. Made by gen_atlawtimes.py. -/
namespace Go.Proofs.YtnfohbpgnbfmeaaGreatDoor
open Go.RowKit Big

set_option maxRecDepth 100000 in
set_option maxHeartbeats 12800000 in
theorem lawOpp_any (v : Value) (x : Lx) (w : World) (h : LxQ w v x) (htab : Tb w.heap.size w) : Calls Tryz.prog 5 #[v] w (RBool true w) := by
  obtain ⟨p0, c0, q0, k0, d0, rfl⟩ := h.agg3
  have HX := hid h
  obtain ⟨n0, hn⟩ : ∃ n, n = x.parts.length := ⟨_, rfl⟩
  obtain ⟨b0, hb0⟩ : ∃ n, n = x.rest.neg := ⟨_, rfl⟩
  rw [← hn, ← hb0] at HX ⊢
  clear hn hb0 h
  obtain ⟨W1, hW⟩ : ∃ W1, W1 = w.alloc (.cells #[.slice p0 n0 c0, .bool b0, .slice q0 k0 d0] 37) := ⟨_, rfl⟩
  have b1 : Below w.heap.size w W1 := by rw [hW]; exact below1 w _
  have e1 : W1.heap[w.heap.size]? = some (.cells #[.slice p0 n0 c0, .bool b0, .slice q0 k0 d0] 37 (0, 0)) := by rw [hW]; exact heap_alloc_new w _
  have z1 : W1.heap.size = w.heap.size + 1 := by rw [hW, size_alloc]
  have HF := hid (fixed10_any W1 (tab_later htab b1))
  have B1 := hid b1; have E1 := hid e1; have Ht := hid htab
  clear b1 e1 htab
  go_enter Tryz.func5, Tryz.ntmps5
  go_upto_region 1 with fail
  rw [← hW]
  clear hW
  go_wp2_with fail
  refine HF.out.mono ?_
  rintro e w2 ⟨rfl, b2⟩
  have B2 := hid (lnGo b2 B1.out)
  have E2 := hid ((b2.block w.heap.size (by omega)).trans E1.out)
  have z2 := b2.size
  obtain ⟨y0, y1, y2⟩ := lnCells3 E2.out
  clear b2 HF
  have HFw := hid (Few6_any _ x w2 (HX.out.below B2.out))
  go_upto_region 3 with fail
  go_wp2_with fail
  refine HFw.out.mono ?_
  rintro e w3 ⟨bf, rfl, hfit, b3⟩
  have B3 := hid (lnGo b3 B2.out)
  have E3 := hid ((b3.block w.heap.size (by omega)).trans E2.out)
  have z3 := b3.size
  clear b3 HFw y0 y1 y2
  cases bf with
  | false =>
    clear hfit
    go_wp2
    go_ret
    exact ⟨rfl, B3.out⟩
  | true =>
  have Hfa := hid (hfit rfl)
  clear hfit
  obtain ⟨y0, y1, y2⟩ := lnCells3 E3.out
  have LA := hid (HX.out.raw Hfa.out)
  have SA := hid (HX.out.small Hfa.out)
  have la : (x.a).1.length ≤ 40 := by show (x.parts.map Px6.p).length ≤ 40; rw [List.length_map]; exact Hfa.out.1
  obtain ⟨⟨l, c⟩, hxa⟩ : ∃ a, a = x.a := ⟨_, rfl⟩
  rw [← hxa] at LA SA la
  have la : l.length ≤ 40 := la
  clear hxa HX Hfa
  have Hwf : Hid (∀ p ∈ l, -9223372036854775808 ≤ p.2 ∧ p.2 ≤ 9223372036854775807) := hid (by
    obtain ⟨pv, n, s, e, hp, hx⟩ := LA.out
    exact hp.wf)
  have HIs := hid (RIs_lin _ (l, c) w3 (LA.out.below B3.out) (by show l.length ≤ _; omega))
  go_wp2_with fail
  refine HIs.out.mono ?_
  rintro e w4 ⟨rfl, b4⟩
  have B4 := hid (lnGo b4 B3.out)
  have E4 := hid ((b4.block w.heap.size (by omega)).trans E3.out)
  have z4 := b4.size
  clear b4 HIs y0 y1 y2
  by_cases hI : lnIs l
  case neg =>
    have hd : decide (lnIs (l, c).1) = false := by simpa using hI
    clear hI
    go_wp2
    go_ret
    exact ⟨rfl, B4.out⟩
  case pos =>
  have hd : decide (lnIs (l, c).1) = true := by simpa using hI
  obtain ⟨LN, hLN⟩ : ∃ t, t = atNeg l := ⟨_, rfl⟩
  obtain ⟨cm, hcm⟩ : ∃ t, t = c * -1 := ⟨_, rfl⟩
  obtain ⟨cy, hcy⟩ : ∃ t, t = cm + 1 := ⟨_, rfl⟩
  have hLN1 : LN = atNeg1 l := by rw [hLN]; exact atNeg_eq hI
  have hLNi : lnIs LN := by rw [hLN]; exact atNeg_is hI
  have hLl : LN.length ≤ 40 := by rw [hLN1]; unfold atNeg1; rw [List.length_map]; exact la
  have hLz : ∀ p ∈ LN, sz W p.1.natAbs ≤ 6 := fun p hp => by
    rw [hLN1] at hp
    obtain ⟨q, hq, rfl⟩ := List.mem_map.1 hp
    show sz W (-q.1).natAbs ≤ 6
    rw [Int.natAbs_neg]
    exact SA.out.1 q hq
  have hcz : sz W cm.natAbs ≤ 6 := by
    rw [hcm, show c * -1 = -c by omega, Int.natAbs_neg]
    exact SA.out.2
  have h1z : sz W (1 : Nat) ≤ 1 := sz_le_of_lt W2 (by decide)
  have hyz : sz W cy.natAbs ≤ 7 := by
    rw [hcy]
    exact Nat.le_trans (sz_mono W2 (show _ ≤ cm.natAbs + (1 : Nat) by omega)) (sz_add W2 hcz (Nat.le_trans h1z (by decide)))
  have hS1 : LnSz 7 (LN, cm) := ⟨fun p hp => Nat.le_trans (hLz p hp) (by decide), Nat.le_trans hcz (by decide)⟩
  have hS2 : LnSz 7 (LN, cy) := ⟨fun p hp => Nat.le_trans (hLz p hp) (by decide), hyz⟩
  have hS3 : LnSz 7 (([] : AtRow), (1 : Int)) := ⟨by simp, by show sz W (1 : Int).natAbs ≤ 7; exact Nat.le_trans h1z (by decide)⟩
  have HLz := hid hLz; have HLl := hid hLl; have HS2 := hid hS2; have HLN := hid hLN; have HLi := hid hLNi
  have HCy : Hid (cy = c * -1 + 1) := hid (by rw [hcy, hcm])
  have hm1 : sz W (-1 : Int).natAbs ≤ 6 := by decide +kernel
  have HSc : Hid (∀ v w', Below w4.heap.size w4 w' → IntAt w' v (-1) → Calls Tryz.prog 24 #[.agg #[.slice p0 n0 c0, .bool b0, .slice q0 k0 d0], v] w' (RLin (LN, cm) w')) := hid (fun v w' hb hv => by
    have hh := RScale_lin _ v (l, c) (-1) w' (N := 6) (by decide) (LA.out.below (lnGo hb B4.out)) (hv.rawL (Nat.le_trans hm1 (by decide))) SA.out hm1 (by show 6 + 6 + l.length ≤ _; omega)
    rw [show ((l, c) : AtRow × Int).1 = l from rfl, show ((l, c) : AtRow × Int).2 = c from rfl, ← hcm, show lnSum (lnTimes (-1) l) = atNeg l from rfl, ← hLN] at hh
    exact hh)
  have HAd : Hid (∀ va vb w', LnT w' va (LN, cm) → LnT w' vb ([], 1) → Calls Tryz.prog 23 #[va, vb] w' (RLin (LN, cy) w')) := hid (fun va vb w' ha hb => by
    have hh := RAdd_lin va vb (LN, cm) ([], 1) w' (N := 7) (by decide) (ha.raw hS1 (by decide)) (hb.raw hS3 (by decide)) hS1 hS3 (by show 7 + (LN.length + 0) ≤ _; omega)
    rw [show ((LN, cm) : AtRow × Int).1 ++ (([] : AtRow), (1 : Int)).1 = LN by simp, lnSum_self hLNi, show ((LN, cm) : AtRow × Int).2 + (([] : AtRow), (1 : Int)).2 = cy by rw [hcy]] at hh
    exact hh)
  have HX5 : Hid (∀ w', Below w4.heap.size w4 w' → w'.cell? ⟨w.heap.size, 0, none⟩ = some (.slice p0 n0 c0) ∧ w'.cell? ⟨w.heap.size, 1, none⟩ = some (.bool b0) ∧ w'.cell? ⟨w.heap.size, 2, none⟩ = some (.slice q0 k0 d0)) := hid fun w' ha => lnCells3 ((ha.block w.heap.size (by omega)).trans E4.out)
  obtain ⟨y0, y1, y2⟩ := lnCells3 E4.out
  clear hLN hcm hcy hLN1 hLNi hLl hLz hcz h1z hyz hS1 hS2 hS3 hm1
  have HId := hid hI
  clear hI
  go_upto_region 5 with fail
  clear y0 y1 y2
  refine wp_region_facts (w0 := w4) 7 1 [21, 22, 23, 24, 25, 26, 3] [undef, undef, undef, undef, undef, undef, undef]
    (fun i => match i with | 0 => lnE (.agg #[.slice p0 n0 c0, .bool b0, .slice q0 k0 d0]) | 1 => lnI (-1) | 2 => lnS (LN, cm) | 3 => lnI 1 | 4 => lnC10 1 | 5 => lnS (LN, cy) | _ => lnV10 w4.heap.size) [] (by kernel_rfl) (by kernel_rfl) (by kernel_rfl) (by kernel_rfl) (by decide) rfl (by kernel_rfl) rfl (by simp) ?he2 ?_ ?_ ?_
  case he2 => simp only [putAll, Act.put, List.setIfInBounds_toArray, List.set_cons_zero, List.set_cons_succ]
  · intro i hi; simp at hi
  · intro i o hi ho vs wx hvl hb hdep K hK
    have hvs := vlen7 hvl
    obtain ⟨s21, s22, s23, s24, s25, s26, s3, rfl⟩ := hvs
    clear hvl
    have hk5 := HX5.out wx hb
    obtain ⟨y0, y1, y2⟩ := hk5
    rcases i with _ | _ | _ | _ | _ | _ | _ | i
    all_goals (simp only [List.getElem?_toArray, List.getElem?_cons_zero, List.getElem?_cons_succ, Option.some.injEq] at ho)
    all_goals try (subst ho)
    all_goals try simp only [putAll, Act.put, List.setIfInBounds_toArray, List.set_cons_zero, List.set_cons_succ]
    · go_simp
      have hK' := hK.out
      simp only [putAll, Act.put, List.setIfInBounds_toArray, List.set_cons_zero, List.set_cons_succ] at hK'
      exact hK' _ _ rfl (Below.refl _ _) (by simp)
    · go_simp
      refine (ROf_any (-1) wx (by decide) (by decide)).mono ?_
      rintro e wy ⟨vy, rfl, iy, hby⟩
      have hsh := iy.shape
      obtain ⟨p5, n5, c5, rfl, iy⟩ := hsh
      go_wp2_with fail
      have hK' := hK.out
      simp only [putAll, Act.put, List.setIfInBounds_toArray, List.set_cons_zero, List.set_cons_succ] at hK'
      exact hK' _ _ ⟨_, _, _, _, rfl, iy⟩ hby (by simp)
    · have e0 : s21 = _ := hdep ⟨0, .data⟩ (by simp) rfl
      have e0 := e0.symm
      subst e0
      have e1 : (lnI (-1)).P s22 wx := hdep ⟨1, .data⟩ (by simp) rfl
      obtain ⟨da1, pa1, na1, ca1, rfl, ia1⟩ := e1
      go_simp
      go_simp
      refine (HSc.out _ wx hb ia1).mono ?_
      rintro e wy ⟨vy, rfl, iy, hby⟩
      obtain ⟨p5, n5, c5, q5, k5, d5, rfl⟩ := iy.agg3
      go_wp2_with fail
      have hK' := hK.out
      simp only [putAll, Act.put, List.setIfInBounds_toArray, List.set_cons_zero, List.set_cons_succ] at hK'
      exact hK' _ _ ⟨_, _, _, _, _, _, rfl, iy⟩ hby (by simp)
    · go_simp
      refine (ROf_any 1 wx (by decide) (by decide)).mono ?_
      rintro e wy ⟨vy, rfl, iy, hby⟩
      have hsh := iy.shape
      obtain ⟨p5, n5, c5, rfl, iy⟩ := hsh
      go_wp2_with fail
      have hK' := hK.out
      simp only [putAll, Act.put, List.setIfInBounds_toArray, List.set_cons_zero, List.set_cons_succ] at hK'
      exact hK' _ _ ⟨_, _, _, _, rfl, iy⟩ hby (by simp)
    · have e3 : (lnI 1).P s24 wx := hdep ⟨3, .data⟩ (by simp) rfl
      obtain ⟨da3, pa3, na3, ca3, rfl, ia3⟩ := e3
      go_simp
      go_simp
      have hK' := hK.out
      simp only [putAll, Act.put, List.setIfInBounds_toArray, List.set_cons_zero, List.set_cons_succ] at hK'
      exact hK' _ _ ⟨_, _, _, _, rfl, lnC10_mk ia3⟩ (Below.refl _ _) (by simp)
    · have e2 : (lnS (LN, cm)).P s23 wx := hdep ⟨2, .data⟩ (by simp) rfl
      have e4 : (lnC10 1).P s25 wx := hdep ⟨4, .data⟩ (by simp) rfl
      go_simp
      obtain ⟨pz2, nz2, cz2, qz2, kz2, dz2, rfl, tz2⟩ := e2
      obtain ⟨dz4, qz4, kz4, cz4, rfl, tz4⟩ := e4
      have HQ := hid (HAd.out _ _ wx tz2 tz4)
      generalize hsk : decide (((LN, cm) : AtRow × Int).2 < 0) = sk at *
      clear tz2
      go_simp
      refine HQ.out.mono ?_
      rintro e wy ⟨vy, rfl, iy, hby⟩
      obtain ⟨p5, n5, c5, q5, k5, d5, rfl⟩ := iy.agg3
      go_wp2_with fail
      have hK' := hK.out
      simp only [putAll, Act.put, List.setIfInBounds_toArray, List.set_cons_zero, List.set_cons_succ] at hK'
      exact hK' _ _ ⟨_, _, _, _, _, _, rfl, iy⟩ hby (by simp)
    · go_simp
      go_simp
      try go_simp
      have hK' := hK.out
      simp only [putAll, Act.put, List.setIfInBounds_toArray, List.set_cons_zero, List.set_cons_succ] at hK'
      exact hK' _ _ ⟨_, rfl, hb.size, heap_alloc_new _ _⟩ (below1 _ _) (by simp)
    · omega
  · intro vs wx hvl hb hf hdist
    have hvs := vlen7 hvl
    obtain ⟨s21, s22, s23, s24, s25, s26, s3, rfl⟩ := hvs
    have f1 : (lnS (LN, cy)).P s26 wx := hf 5 (by decide)
    have f2 : (lnV10 w4.heap.size).P s3 wx := hf 6 (by decide)
    obtain ⟨pA, nA, cA, qA, kA, dA, e1, T1⟩ := f1
    obtain ⟨gA, e2, hge, hgb⟩ := f2
    subst e1 e2
    clear hf hvl hdist
    have hsx := hb.size
    obtain ⟨x0, x1, x2⟩ := lnCells3 hgb
    have fz0 := frozen_of_row wx gA 0 _ _ hgb
    have fz1 := frozen_of_row wx gA 1 _ _ hgb
    have fz2 := frozen_of_row wx gA 2 _ _ hgb
    obtain ⟨sA, hsA⟩ : ∃ s, s = decide (((LN, cy) : AtRow × Int).2 < 0) := ⟨_, rfl⟩
    rw [← hsA] at T1
    try rw [← hsA]
    obtain ⟨w9, hw9⟩ : ∃ w', w' = st3 wx gA (.slice pA nA cA) (.bool sA) (.slice qA kA dA) := ⟨_, rfl⟩
    have hA := st3_apart wx gA (.slice pA nA cA) (.bool sA) (.slice qA kA dA)
    rw [← hw9] at hA
    have B9 : Hid (Below w.heap.size w w9) := hid (by rw [hw9]; exact st3_below (lnGo hb B4.out) (by omega) _ _ _)
    have E9 : Hid (w9.heap[w.heap.size]? = some (.cells #[.slice p0 n0 c0, .bool b0, .slice q0 k0 d0] 37 (0, 0))) := hid ((hA.block w.heap.size (by omega) (by omega)).trans ((hb.block w.heap.size (by omega)).trans E4.out))
    have TA : Hid (LnT w9 (.agg #[.slice pA nA cA, .bool sA, .slice qA kA dA]) (LN, cy)) := hid (T1.quiet hA (fun b hb' => by rw [hb']; exact NoInt.cells hgb (by simp)))
    have GA : Hid (w9.heap[gA]? = some (.cells #[.slice pA nA cA, .bool sA, .slice qA kA dA] 37 (0, 0))) := hid (by rw [hw9]; exact st3_at10 hgb _ _ _)
    have hgA : gA < w9.heap.size := Nat.lt_of_lt_of_le (Array.getElem?_eq_some_iff.1 hgb).1 hA.size
    have z9 := hA.size
    clear T1 hgb hA hsA
    refine wpAny_one (i := 7) (by kernel_rfl) rfl ?_
    intro K hK
    simp only [putAll, Act.put, List.setIfInBounds_toArray, List.set_cons_zero, List.set_cons_succ]
    have hK' := hK.out
    go_simp
    apply hK'
    clear hK hK' x0 x1 x2 fz0 fz1 fz2
    refine wpAny_done (by kernel_rfl) ?_ _
    go_upto_region 6 with fail
    change Code.wp _ _ _ _ (st3 _ _ _ _ _)
    rw [← hw9]
    clear hw9
    have hI := HId.out
    clear HId HX5 HSc HAd
    go_wp2_with fail
    refine (New_any w9).mono ?_
    rintro e w5 ⟨rfl, hA5, b5⟩
    obtain ⟨vr, va, m1, m2, hI5⟩ := hA5
    have hB5 := lnGo b5 B9.out
    have HtB := hid (tab_go (tab_later Ht.out B9.out) b5)
    have z5 := b5.size
    have E5 := hid ((b5.block w.heap.size (by omega)).trans E9.out)
    have HC := Ask_any w9.heap.size w9.heap.size vr va m1 m2 ⟨[], []⟩ _ l c w5 hI5 (AtGood.nil 7) z5 (LA.out.below hB5) SA.out (by omega) (by decide) (by decide) HtB.out
    have hE := atAns_err ⟨[], []⟩ c hI
    obtain ⟨NA, RA, EA, hAA⟩ : ∃ a b e, atAns ⟨[], []⟩ l c = (a, b, e) := ⟨_, _, _, rfl⟩
    rw [hAA] at hE HC
    obtain rfl : EA = 0 := hE
    obtain ⟨S1, hS1⟩ : ∃ s, s = atAsk1 ⟨[], []⟩ (l, c) := ⟨_, rfl⟩
    rw [← hS1] at HC
    have HC := hid HC
    have HG1 : Hid (AtGood 7 S1) := hid (by rw [hS1]; exact (AtGood.nil 7).ask1 SA.out.1 SA.out.2 (by omega) Hwf.out)
    have hL1 : S1.rows.length ≤ 1 ∧ S1.atoms.length ≤ 1 := by rw [hS1]; exact atAsk1_len _ _
    have HL1 := hid hL1
    have HAA := hid hAA; have HS1 := hid hS1; have HI := hid hI
    have B5 := hid hB5
    obtain ⟨y0, y1, y2⟩ := lnCells3 E5.out
    have HO5 := hid hI5.own
    have B45 := hid b5
    clear b5 hB5 hAA hS1 hI hL1 hI5
    go_wp2_with fail
    refine HC.out.mono ?_
    rintro e w6 ⟨rfl, vr6, va6, m16, m26, hI6, hA6, -⟩
    have z6 := hA6.size
    have HI6 := hid hI6
    have B6 := hid (B5.out.trans (Apart.below hA6 (show w.heap.size ≤ w5.heap.size by omega) (fun b hb => by have := (HO5.out b hb).1; omega)))
    have E6 : Hid (w6.heap[w.heap.size]? = some (.cells #[.slice p0 n0 c0, .bool b0, .slice q0 k0 d0] 37 (0, 0))) := hid ((hA6.block w.heap.size (by omega) (fun hs => by have := (HO5.out _ hs).1; omega)).trans E5.out)
    have HtB6 := hid (tab_go HtB.out (Apart.below hA6 z5 (fun b hb => (HO5.out b hb).1)))
    have HS6 := hid hI6.own
    have B46 := hid (B45.out.trans (Apart.below hA6 z5 (fun b hb => (HO5.out b hb).1)))
    clear hA6 hI6 HC B45 y0 y1 y2 HtB HO5
    have HY6 : Hid (w6.heap[gA]? = some (.cells #[.slice pA nA cA, .bool sA, .slice qA kA dA] 37 (0, 0))) := hid ((B46.out.block gA hgA).trans GA.out)
    have TA6 := hid (TA.out.below B46.out)
    have hans : atAns S1 LN cy = (NA, !RA, 0) := by
      have e := atAns_opp ⟨[], []⟩ c HI.out
      rw [HAA.out] at e
      rw [HS1.out, HLN.out, HCy.out]
      exact e
    have hsk : atAsk1 S1 (LN, cy) = S1 := by
      rw [HS1.out, HLN.out, HCy.out]
      exact atAsk1_opp _ c HI.out
    have hoz : sz W (atOne LN cy).2.1.natAbs ≤ 7 := by
      by_cases hl0 : l = []
      · rw [HLN.out, hl0]
        show sz W (-((-cy) / ((lnGcd [] : Nat) : Int)) - 1).natAbs ≤ 7
        rw [show ((lnGcd [] : Nat) : Int) = 0 from rfl, Int.ediv_zero]
        decide +kernel
      · rw [HLN.out, HCy.out, atOne_opposes HI.out hl0]
        exact atOne_val_sz (N := 6) (by decide) SA.out.2
    have HC2 := Ask_anyG w9.heap.size w9.heap.size vr6 va6 m16 m26 S1 _ LN cy w6 HI6.out HG1.out (by omega) (TA6.out.raw HS2.out (by decide)) (N := 7) (by decide) HS2.out
      (fun p hp => by
        obtain ⟨q, hq, rfl⟩ := List.mem_map.1 hp
        exact Nat.le_trans (sz_mono W2 (Int.natAbs_ediv_le_natAbs _ _)) (HLz.out q hq))
      (Nat.le_trans (sz_mono W2 (Int.natAbs_ediv_le_natAbs _ _)) (by rw [Int.natAbs_neg]; exact HS2.out.2)) hoz (by have := HLl.out; omega) (by have := HL1.out; omega) (by have := HL1.out; omega) HtB6.out
    rw [hans, hsk] at HC2
    have HC2 := hid HC2
    obtain ⟨y0, y1, y2⟩ := lnCells3 HY6.out
    clear hans hsk hoz
    go_wp2_with fail
    refine HC2.out.mono ?_
    rintro e w7 ⟨rfl, vr7, va7, m17, m27, hI7, hA7, -⟩
    have HEnd := hid (B6.out.trans (Apart.below hA7 (show w.heap.size ≤ w6.heap.size by omega) (fun b hb => by have := (HS6.out b hb).1; omega)))
    have HLs := hid (List_any w9.heap.size w9.heap.size vr7 va7 m17 m27 S1 w7 hI7 HG1.out (by have := HL1.out; omega))
    obtain ⟨NL, hNL⟩ : ∃ n, n = S1.atoms.length := ⟨_, rfl⟩
    have hNL1 : NL ≤ 1 := by rw [hNL]; exact HL1.out.2
    have HNL := hid hNL
    clear hA7 hI7 HC2 y0 y1 y2 hNL
    cases RA
    all_goals
      go_wp2_with fail
      refine HLs.out.mono ?_
      rintro e w8 ⟨v8, rfl, hL8, b8⟩
      obtain ⟨p8, cap8, rfl, -, -, -, -⟩ := hL8
      rw [← HNL.out]
      have hd9 : decide ((NL : Int) ≤ 1) = true := by simp; omega
      have HBF := hid (lnGo b8 HEnd.out)
      clear b8 HLs
      go_wp2
      go_ret
      exact ⟨rfl, HBF.out⟩
end Go.Proofs.YtnfohbpgnbfmeaaGreatDoor
