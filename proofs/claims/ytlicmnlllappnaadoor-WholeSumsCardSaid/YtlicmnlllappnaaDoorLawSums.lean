/- elenchuslaw01.WholeSums answers true. -/
import Derived.Test.YtlicmnlllappnaaDoorCopies
import Derived.Test.YtlicmnlllappnaaDoorFixed
import Derived.Deep.DeepCutAuto
namespace Go.Proofs.YtlicmnlllappnaaDoor
open Go.RowKit Big

set_option maxRecDepth 100000 in
set_option maxHeartbeats 8000000 in
theorem lawSums_any (n0 n1 : Bool) (s0 s1 : Value) (l0 l1 : List Nat) (w : World) (h0 : At w .u64 s0 l0) (h1 : At w .u64 s1 l1) (w0 : Small W l0) (w1 : Small W l1) :
    Calls Tryd.prog 3 #[.agg #[.bool n0, s0], .agg #[.bool n1, s1]] w (RBool true w) := by
  have H0 := hid h0; have H1 := hid h1
  obtain ⟨p0, c0, rfl, a1, a2, -⟩ := h0
  obtain ⟨p1, c1, rfl, b1, b2, -⟩ := h1
  unfold maxLen at a2 b2
  have hf := fun o o' => fixed_any ((w.alloc o).alloc o')
  have Hf := hid hf
  clear hf
  go_enter Tryd.func3, Tryd.ntmps3
  go_wp2_with fail
  refine (Hf.out _ _).mono ?_
  rintro e u1 ⟨rfl, d1⟩
  have tw := (Two.new w (.bool n0) (.slice p0 l0.length c0) (.bool n1) (.slice p1 l1.length c1) 25).below d1
  have bw := hid ((((below1 _ _).alloc (by simp) _) : Below w.heap.size w ((w.alloc (.cells #[.bool n0, .slice p0 l0.length c0] 25)).alloc (.cells #[.bool n1, .slice p1 l1.length c1] 25))).trans (d1.mono (B' := w.heap.size) (by simp; omega)))
  have HT := hid tw
  obtain ⟨t00, t01, t10, t11, tz⟩ := tw
  obtain ⟨f0, f1, f2, f3⟩ := four_cells (heap_alloc_new u1 (.cells #[.bool n0, .slice p0 l0.length c0, .bool n1, .slice p1 l1.length c1] 25))
  have hfew := few2_any u1.heap.size n0 n1 p0 p1 l0.length c0 l1.length c1 2 _ f0 f1 f2 f3 (by omega) (by omega)
  have Hfew := hid hfew
  clear hfew f0 f1 f2 f3 d1
  by_cases hsm : l0.length ≤ 20 ∧ l1.length ≤ 20
  · rw [decide_eq_true hsm] at Hfew
    obtain ⟨hs0, hs1⟩ := hsm
    go_wp2_with fail
    refine Hfew.out.mono ?_
    rintro e u2 ⟨rfl, d2⟩
    have d12 : Below u1.heap.size u1 u2 := (below1 _ _).trans (d2.mono (B' := u1.heap.size) (by simp))
    have HT2 := hid (HT.out.below d12)
    have gz := HT2.out.lt
    have bw2 := hid (bw.out.trans (d12.mono (B' := w.heap.size) (by omega)))
    have A0 := hid (H0.out.below bw2.out); have A1 := hid (H1.out.below bw2.out)
    clear d2 d12 HT t00 t01 t10 t11 tz bw Hfew
    go_upto_region 5 with fail
    go_cut [5, 6] (fun s5 s6 wx => Done2 w.heap.size n0 n1 p0 p1 c0 c1 l0 l1 u2.heap.size u2 s5 s6 wx)
    case first =>
      rename_i Jc Kc hJc hKc
      refine wp_region_inv6 5 6 15 16 17 18 undef undef undef undef undef undef (fun L s5 s6 s15 s16 s17 s18 wx => C2 w.heap.size n0 n1 p0 p1 c0 c1 l0 l1 u2.heap.size u2 L s5 s6 s15 s16 s17 s18 wx) (by kernel_rfl) (by kernel_rfl) ?_ ?_ ?_ ?_
      · rfl
      · exact C2.start HT2.out A0.out A1.out
      · intro i o ho L s5 s6 s15 s16 s17 s18 wx hs hC hun hall K hK
        have HC := hid hC
        rcases i with _ | _ | _ | _ | _ | _ | _ | _ | i
        all_goals (simp only [List.getElem?_toArray, List.getElem?_cons_zero, List.getElem?_cons_succ, Option.some.injEq, List.getElem?_nil, reduceCtorEq] at ho)
        all_goals (subst ho)
        all_goals simp only [put6, Act.put, List.setIfInBounds_toArray, List.set_cons_zero, List.set_cons_succ]
        · have t00 := HC.out.two.c00
          have t01 := HC.out.two.c01
          go_simp
          exact hK.out _ _ _ _ _ _ _ HC.out.load0
        · have e15 := HC.out.f0 (hall ⟨0, .data⟩ (by simp) rfl)
          subst e15
          go_simp
          refine (copied_any n0 _ l0 _ HC.out.a0 (by omega)).mono ?_
          rintro e u3 ⟨q0, k0, rfl, x0, hb1⟩
          have C' := HC.out.call1 hb1 ⟨q0, k0, rfl, x0⟩
          go_wp2_with fail
          exact hK.out _ _ _ _ _ _ _ C'
        · have t10 := HC.out.two.c10
          have t11 := HC.out.two.c11
          go_simp
          exact hK.out _ _ _ _ _ _ _ HC.out.load2
        · have e17 := HC.out.f2 (hall ⟨2, .data⟩ (by simp) rfl)
          subst e17
          go_simp
          refine (copied_any n1 _ l1 _ HC.out.a1 (by omega)).mono ?_
          rintro e u3 ⟨q0, k0, rfl, x0, hb1⟩
          have C' := HC.out.call3 hb1 ⟨q0, k0, rfl, x0⟩
          go_wp2_with fail
          exact hK.out _ _ _ _ _ _ _ C'
        · have C' := HC.out.alloc4 hun
          go_simp
          exact hK.out _ _ _ _ _ _ _ C'
        · have C' := HC.out.alloc5 hun
          go_simp
          exact hK.out _ _ _ _ _ _ _ C'
        · have e5 := HC.out.f4 (hall ⟨4, .data⟩ (by simp) rfl)
          have e16 := HC.out.f1 (hall ⟨1, .data⟩ (by simp) rfl)
          have h4 := hall ⟨4, .data⟩ (by simp) rfl
          have h5 := hall ⟨5, .phase⟩ (by simp) rfl
          obtain ⟨g, rfl, hp, hB⟩ := e5
          obtain ⟨q, k, rfl, ha⟩ := e16
          have C' := HC.out.store6 h4 h5 hun rfl hp hB ha
          obtain ⟨_, _, q0, q1, q2, q3⟩ := hp.cells
          go_simp
          exact hK.out _ _ _ _ _ _ _ C'
        · have e6 := HC.out.f5 (hall ⟨5, .data⟩ (by simp) rfl)
          have e18 := HC.out.f3 (hall ⟨3, .data⟩ (by simp) rfl)
          have h6 := hall ⟨6, .chain⟩ (by simp) rfl
          obtain ⟨g, rfl, hp, hB⟩ := e6
          obtain ⟨q, k, rfl, ha⟩ := e18
          have C' := HC.out.store7 h6 rfl hp hB ha
          obtain ⟨_, _, q0, q1, q2, q3⟩ := hp.cells
          go_simp
          exact hK.out _ _ _ _ _ _ _ C'
      · intro L s5 s6 s15 s16 s17 s18 wx hs hC hall
        have hD := hC.done (listed_of hall hs (by decide)) (listed_of hall hs (by decide))
        simp only [put6, Act.put, List.setIfInBounds_toArray, List.set_cons_zero, List.set_cons_succ]
        refine hKc _ _ (Met.intro (hJc _ _ ?_))
        (repeat apply Exists.intro)
        exact ⟨hD, rfl⟩
    case rest =>
      have e5 := hcut.hx
      have e6 := hcut.hy
      have HD := hid hcut
      clear hcut
      obtain ⟨g5, q0, k0, rfl, hg5, x0⟩ := e5
      obtain ⟨g6, q1, k1, rfl, hg6, x1⟩ := e6
      have bw3 : Below w.heap.size w wc := bw2.out.trans (HD.out.bel.mono (B' := w.heap.size) (by omega))
      have HS : Hid (∀ w', Below wc.heap.size wc w' → w'.cell? ⟨w.heap.size, 0, none⟩ = some (.bool n0) ∧ w'.cell? ⟨w.heap.size, 1, none⟩ = some (.slice p0 l0.length c0) ∧ w'.cell? ⟨w.heap.size + 1, 0, none⟩ = some (.bool n1) ∧ w'.cell? ⟨w.heap.size + 1, 1, none⟩ = some (.slice p1 l1.length c1) ∧
          w'.cell? ⟨g5, 0, none⟩ = some (.bool n0) ∧ w'.cell? ⟨g5, 1, none⟩ = some (.slice q0 l0.length k0) ∧ w'.cell? ⟨g6, 0, none⟩ = some (.bool n1) ∧ w'.cell? ⟨g6, 1, none⟩ = some (.slice q1 l1.length k1) ∧ Below wc.heap.size wc w') := by
        intro w' hb
        have ht := HD.out.two.below hb
        have h5 := two_cells ((hb.block g5 (Array.getElem?_eq_some_iff.1 hg5).1).trans hg5)
        have h6 := two_cells ((hb.block g6 (Array.getElem?_eq_some_iff.1 hg6).1).trans hg6)
        exact ⟨ht.c00, ht.c01, ht.c10, ht.c11, h5.1, h5.2.1, h6.1, h6.2.1, hb⟩
      obtain ⟨za, hza⟩ : ∃ z, z = sg n0 (val W l0) := ⟨_, rfl⟩
      obtain ⟨zb, hzb⟩ : ∃ z, z = sg n1 (val W l1) := ⟨_, rfl⟩
      have RA : RawAt wc (.agg #[.bool n0, .slice p0 l0.length c0]) za := ⟨_, _, l0, rfl, HD.out.a0, w0, by omega, hza⟩
      have RB : RawAt wc (.agg #[.bool n1, .slice p1 l1.length c1]) zb := ⟨_, _, l1, rfl, HD.out.a1, w1, by omega, hzb⟩
      have RX : RawAt wc (.agg #[.bool n0, .slice q0 l0.length k0]) za := ⟨_, _, l0, rfl, x0, w0, by omega, hza⟩
      have RY : RawAt wc (.agg #[.bool n1, .slice q1 l1.length k1]) zb := ⟨_, _, l1, rfl, x1, w1, by omega, hzb⟩
      have hW : ∀ w', Below wc.heap.size wc w' → Calls Tryd.prog 24 #[.bool n0, .slice p0 l0.length c0] w' (RInt za w') := fun w' hb => by rw [hza]; exact Whole_any n0 _ l0 w' (HD.out.a0.below hb) w0 (by omega)
      have la : sz W za.natAbs ≤ 549755813888 := by rw [hza, sg_natAbs]; exact Nat.le_trans (sz_val (by simp [W]) w0) (by omega)
      have lb : sz W zb.natAbs ≤ 549755813888 := by rw [hzb, sg_natAbs]; exact Nat.le_trans (sz_val (by simp [W]) w1) (by omega)
      have HRA := hid RA; have HRB := hid RB; have HRX := hid RX; have HRY := hid RY; have HW := hid hW; have Hbw := hid bw3; have Hx0 := hid x0; have Hx1 := hid x1; have Hla := hid la; have Hlb := hid lb
      clear RA RB RX RY hW bw3 x0 x1 hza hzb hg5 hg6 A0 A1 HT2 H0 H1 bw2 w0 w1 la lb
      go_wp2_with fail
      go_region_held3 (fun w' => w'.cell? ⟨w.heap.size, 0, none⟩ = some (.bool n0) ∧ w'.cell? ⟨w.heap.size, 1, none⟩ = some (.slice p0 l0.length c0) ∧ w'.cell? ⟨w.heap.size + 1, 0, none⟩ = some (.bool n1) ∧ w'.cell? ⟨w.heap.size + 1, 1, none⟩ = some (.slice p1 l1.length c1) ∧
          w'.cell? ⟨g5, 0, none⟩ = some (.bool n0) ∧ w'.cell? ⟨g5, 1, none⟩ = some (.slice q0 l0.length k0) ∧ w'.cell? ⟨g6, 0, none⟩ = some (.bool n1) ∧ w'.cell? ⟨g6, 1, none⟩ = some (.slice q1 l1.length k1) ∧ Below wc.heap.size wc w')
        (first | exact HS.out _ (Below.drew (Below.refl _ _)) | (refine HS.out _ (Below.go hb ?_); go_split_ands; assumption))
        (first
          | (go_at_call 13; refine (Add_any _ _ za zb _ (HRX.out.below (by go_split_ands; assumption)) (HRY.out.below (by go_split_ands; assumption))).mono ?_; rintro e w21 ⟨v21, rfl, i1, hb⟩)
          | (go_at_call 14; refine (RAdd_any _ _ za zb _ (HRA.out.below (by go_split_ands; assumption)) (HRB.out.below (by go_split_ands; assumption))).mono ?_; rintro e w22 ⟨v22, rfl, i2, hb⟩; have j1 := i1.below hb; clear i1)
          | (go_at_call 15; refine (Sub_any _ _ za zb _ (HRX.out.below (by go_split_ands; assumption)) (HRY.out.below (by go_split_ands; assumption))).mono ?_; rintro e w21 ⟨v21, rfl, i1, hb⟩)
          | (go_at_call 16; refine (RSub_any _ _ za zb _ (HRA.out.below (by go_split_ands; assumption)) (HRB.out.below (by go_split_ands; assumption))).mono ?_; rintro e w22 ⟨v22, rfl, i2, hb⟩; have j1 := i1.below hb; clear i1)
          | (go_at_call 21; refine (Neg_any _ za _ (HRX.out.below (by go_split_ands; assumption))).mono ?_; rintro e w21 ⟨v21, rfl, i1, hb⟩)
          | (go_at_call 22; refine (RNeg_any _ za _ (HRA.out.below (by go_split_ands; assumption))).mono ?_; rintro e w22 ⟨v22, rfl, i2, hb⟩; have j1 := i1.below hb; clear i1)
          | (go_at_call 23; refine (Norm_any _ za _ (HRX.out.below (by go_split_ands; assumption))).mono ?_; rintro e w21 ⟨v21, rfl, i1, hb⟩)
          | (go_at_call 24; refine (HW.out _ (by go_split_ands; assumption)).mono ?_; rintro e w22 ⟨v22, rfl, i2, hb⟩; have j1 := i1.below hb; clear i1)
          | (go_at_call 12; refine (SameInt_same _ _ _ _ j1 i2).mono ?_; rintro e w23 ⟨rfl, hb⟩; clear j1 i2)
          | (go_at_call 17; refine (Cmp_any _ _ za zb _ (HRX.out.below (by go_split_ands; assumption)) (HRY.out.below (by go_split_ands; assumption))).mono ?_; rintro e w21 ⟨rfl, hb⟩)
          | (go_at_call 18; refine (RCmp_any _ _ za zb _ (HRA.out.below (by go_split_ands; assumption)) (HRB.out.below (by go_split_ands; assumption)) Hla.out Hlb.out).mono ?_; rintro e w21 ⟨rfl, hb⟩)
          | (go_at_call 19; refine (Sign_any _ za _ (HRX.out.below (by go_split_ands; assumption))).mono ?_; rintro e w21 ⟨rfl, hb⟩)
          | (go_at_call 20; refine (RSign_any _ za _ (HRA.out.below (by go_split_ands; assumption))).mono ?_; rintro e w21 ⟨rfl, hb⟩))
      rename_i hHeld
      go_split_ands
      have hB : Below wc.heap.size wc w23 := by assumption
      have HB := hid hB
      clear hB
      go_wp2_with fail
      refine (SameInt_raw n0 n0 _ _ l0 l0 _ (Hx0.out.below HB.out) (HD.out.a0.below HB.out) rfl rfl).mono ?_
      rintro e w24 ⟨rfl, hb⟩
      have hk := HS.out _ (Below.go hb HB.out)
      have HB2 := hid (Below.go hb HB.out)
      clear hb
      go_split_ands
      go_wp2_with fail
      refine (SameInt_raw n1 n1 _ _ l1 l1 _ (Hx1.out.below HB2.out) (HD.out.a1.below HB2.out) rfl rfl).mono ?_
      rintro e w25 ⟨rfl, hb⟩
      have HB3 := hid (Below.go hb HB2.out)
      clear hb
      go_wp2_with fail
      go_ret
      exact ⟨rfl, Hbw.out.trans (HB3.out.mono (Hbw.out.size))⟩
  · rw [decide_eq_false hsm] at Hfew
    clear hsm
    go_wp2_with fail
    refine Hfew.out.mono ?_
    rintro e u2 ⟨rfl, d2⟩
    have bw2 := hid (bw.out.trans (((below1 _ _).trans (d2.mono (B' := u1.heap.size) (by simp))).mono (B' := w.heap.size) (by omega)))
    clear d2 HT t00 t01 t10 t11 tz bw Hfew
    go_wp2_with fail
    go_ret
    exact ⟨rfl, bw2.out⟩
end Go.Proofs.YtlicmnlllappnaaDoor
