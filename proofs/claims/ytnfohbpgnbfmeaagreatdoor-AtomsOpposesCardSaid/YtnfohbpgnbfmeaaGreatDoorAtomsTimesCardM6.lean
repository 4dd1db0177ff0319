/- Texts put together: LnRIs, LnPut, LnValue, LnRValue, LnClean, LnSizes, LnRAdd, LnRScale, AtLawTimes. -/
import Derived.Test.YtnfohbpgnbfmeaaGreatDoorAtomsTimesCardM5
/- elenchusref06.Is. -/
namespace Go.Proofs.YtnfohbpgnbfmeaaGreatDoor
open Go.RowKit Big

set_option maxRecDepth 100000 in
set_option maxHeartbeats 6400000 in
theorem RIs_lin (v : Value) (a : List (Int × Int) × Int) (w : World) (h : LnR w v a) (hl : a.1.length ≤ 1000000000000) :
    Calls Tryz.prog 13 #[v] w (RBool (decide (lnIs a.1)) w) := by
  obtain ⟨pv, n0, s0, rfl, hp, h2⟩ := h
  have hsh := h2.agg2
  obtain ⟨d2, p2, n2, c2, e2⟩ := hsh
  obtain ⟨rfl, rfl⟩ : s0 = .slice p2 n2 c2 ∧ n0 = d2 := by
    injection e2 with e2
    simpa [and_comm] using e2
  clear e2 h2
  obtain ⟨l, x⟩ := a
  have hl : l.length ≤ 1000000000000 := hl
  show Calls Tryz.prog 13 _ w (RBool (decide (lnIs l)) w)
  obtain ⟨p, cp, rfl, j1, j2, -, j4⟩ := (show PtsR w pv l from hp)
  have J4 := hid j4
  obtain ⟨W, hW⟩ : ∃ W, W = w.alloc (.cells #[.slice p l.length cp, .bool n0, .slice p2 n2 c2] 37) := ⟨_, rfl⟩
  have b0 : Below w.heap.size w W := by rw [hW]; exact below1 w _
  have e0 : W.heap[w.heap.size]? = some (.cells #[.slice p l.length cp, .bool n0, .slice p2 n2 c2] 37 (0, 0)) := by rw [hW]; exact heap_alloc_new w _
  have z0 : W.heap.size = w.heap.size + 1 := by rw [hW, size_alloc]
  have B0 := hid b0; have E0 := hid e0; have Z0 := hid z0
  obtain ⟨L, hLL⟩ : ∃ L, L = l.length := ⟨_, rfl⟩
  have HLL := hid hLL
  rw [← hLL] at E0 hW j1 hl ⊢
  clear hp j4 b0 e0 z0 hLL
  go_enter Tryz.func13, Tryz.ntmps13
  go_upto_region 1 with fail
  rw [← hW]
  clear hW
  have y1 := (lnCells3 E0.out).1
  go_wp2_with fail
  clear y1
  go_loopw [8] (fun i wr => ∃ (k : Nat), k ≤ L ∧ i = .int .i64 (k : Nat) ∧ Hid (lnIs (l.take k)) ∧ Hid (Below W.heap.size W wr)) (fun i _ => L - (intOf i).toNat)
  case atStart => exact ⟨0, Nat.zero_le _, rfl, hid ⟨List.Pairwise.nil, by simp⟩, hid (Below.refl _ _)⟩
  case round =>
    obtain ⟨k, hk, rfl, HI, HB⟩ := hrel
    by_cases hlt : k < L
    · have hkt : k < l.length := by rw [← HLL.out]; exact hlt
      have hlt' : (k : Int) < (L : Int) := by omega
      have HBw := hid (lnGo HB.out B0.out)
      obtain ⟨b, o, rfl, hb, hc⟩ := J4.out (by omega)
      have hc' := hc
      obtain ⟨cs, k0, d, s, ecs, hraw, hwf⟩ := hc k hkt
      have hsh := hraw.agg2
      obtain ⟨d', q, n, cq, e2⟩ := hsh
      obtain ⟨rfl, rfl⟩ : s = .slice q n cq ∧ d = d' := by
        injection e2 with e2
        simpa [and_comm] using e2
      clear e2
      subst ecs
      have y0 := (HBw.out.cell (p := ⟨b, o + k * 3, none⟩) hb).trans (k0 0 _ rfl)
      have y1 := (HBw.out.cell (p := ⟨b, o + k * 3 + 1, none⟩) hb).trans (k0 1 _ rfl)
      have y2 := (HBw.out.cell (p := ⟨b, o + k * 3 + 2, none⟩) hb).trans (k0 2 _ rfl)
      have Hstep := hid (lnIs_step l k hkt)
      have hraw := hraw.below HBw.out
      have hpre : ∀ (hk1 : k - 1 < l.length), 0 < k → w.cell? ⟨b, o + (k - 1) * 3 + 2, none⟩ = some (.int .i64 l[k - 1].2) := by
        intro hk1 _
        obtain ⟨cs, k0, d, s, rfl, -, -⟩ := hc' (k - 1) hk1
        exact k0 2 _ rfl
      have Hpre := hid hpre
      generalize l[k].1 = c at *
      generalize l[k].2 = t at *
      clear k0 hc hc' hpre
      obtain ⟨W5, hW5⟩ : ∃ W5, W5 = wr.alloc (.cells #[.bool d, .slice q n cq, .int .i64 t] 63) := ⟨_, rfl⟩
      have b5 : Below wr.heap.size wr W5 := by rw [hW5]; exact below1 wr _
      have e5 : W5.heap[wr.heap.size]? = some (.cells #[.bool d, .slice q n cq, .int .i64 t] 63 (0, 0)) := by rw [hW5]; exact heap_alloc_new wr _
      have z5 : wr.heap.size < W5.heap.size := by rw [hW5, size_alloc]; omega
      have zr := HB.out.size
      have HBw5 : Hid (Below w.heap.size w W5) := hid (lnGo b5 HBw.out)
      have HBW5 : Hid (Below W.heap.size W W5) := hid (lnGo b5 HB.out)
      have HS : Hid (∀ w', Below W5.heap.size W5 w' → w'.cell? ⟨wr.heap.size, 0, none⟩ = some (.bool d) ∧ w'.cell? ⟨wr.heap.size, 1, none⟩ = some (.slice q n cq) ∧ w'.cell? ⟨wr.heap.size, 2, none⟩ = some (.int .i64 t) ∧ w'.cell? ⟨w.heap.size, 0, none⟩ = some (.slice (some ⟨b, o, none⟩) L cp) ∧ True) := hid fun w' hb' => by
        obtain ⟨t0, t1, t2⟩ := lnCells3 ((hb'.block wr.heap.size z5).trans e5)
        obtain ⟨t3, -, -⟩ := lnCells3 (((lnGo hb' HBW5.out).block w.heap.size (by have := Z0.out; omega)).trans E0.out)
        exact ⟨t0, t1, t2, t3, trivial⟩
      have HSg0 := hid (fun w' (hb' : Below W5.heap.size W5 w') => RSign_any _ c w' ((hraw.below b5).below hb'))
      clear b5 e5 hraw HB
      by_cases hc0 : c = 0
      · have HSg : Hid (∀ w', Below W5.heap.size W5 w' → Calls Tryz.prog 20 #[.agg #[.bool d, .slice q n cq]] w' (fun e w'' => e = .returned (.int .i64 0) ∧ Below w'.heap.size w' w'')) := hid fun w' hb' => by
          have := HSg0.out w' hb'
          rw [hc0] at this
          exact this
        have Hno : Hid (¬ lnIs l) := hid fun hI => ((Hstep.out).1 (lnIs_take hI _)).2.1 hc0
        clear HSg0 hc0 Hstep
        go_upto_region 4 with fail
        rw [← hW5]
        clear hW5 y0 y1 y2
        refine wp_region_facts (w0 := W5) 20 0 [13, 14, 15, 16, 17, 18, 19, 20, 21, 22, 23, 24, 25, 26, 27, 28, 29, 30, 31, 32] [u13, u14, u15, u16, u17, u18, u19, u20, u21, u22, u23, u24, u25, u26, u27, u28, u29, u30, u31, u32]
          (fun i => match i with | 0 => lnE (.pointer (some ⟨wr.heap.size, 0, none⟩)) | 1 => lnE (.agg #[.bool d, .slice q n cq]) | 2 => lnE (.int .i64 0) | 3 => lnE (.bool true) | 4 => lnE (.bool true) | 5 => lnE (undef) | 6 => lnE (undef) | 7 => lnE (undef) | 8 => lnE (undef) | 9 => lnE (undef) | 10 => lnE (undef) | 11 => lnE (undef) | 12 => lnE (undef) | 13 => lnE (undef) | 14 => lnE (undef) | 15 => lnE (undef) | 16 => lnE (undef) | 17 => lnE (undef) | 18 => lnE (undef) | _ => lnE (.bool true)) [] (by kernel_rfl) (by kernel_rfl) (by kernel_rfl) (by kernel_rfl) (by decide) rfl (by kernel_rfl) rfl (by simp) ?he1 ?_ ?_ ?_
        case he1 => simp only [putAll, Act.put, List.setIfInBounds_toArray, List.set_cons_zero, List.set_cons_succ]
        · intro i hi; simp at hi
        · intro i o hi ho vs wx hvl hb hdep K hK
          have hvs := vlen20 hvl
          obtain ⟨s13, s14, s15, s16, s17, s18, s19, s20, s21, s22, s23, s24, s25, s26, s27, s28, s29, s30, s31, s32, rfl⟩ := hvs
          clear hvl
          have hk5 := HS.out wx hb
          obtain ⟨y3, y4, y5, y6, y7⟩ := hk5
          rcases i with _ | _ | _ | _ | _ | _ | _ | _ | _ | _ | _ | _ | _ | _ | _ | _ | _ | _ | _ | _ | i
          all_goals (simp only [List.getElem?_toArray, List.getElem?_cons_zero, List.getElem?_cons_succ, Option.some.injEq] at ho)
          all_goals try (subst ho)
          all_goals try simp only [putAll, Act.put, List.setIfInBounds_toArray, List.set_cons_zero, List.set_cons_succ]
          · go_simp
            have hK' := hK.out
            simp only [putAll, Act.put, List.setIfInBounds_toArray, List.set_cons_zero, List.set_cons_succ] at hK'
            exact hK' _ _ rfl (Below.refl _ _) (by simp)
          · have e0 : s13 = _ := hdep ⟨0, .data⟩ (by simp) rfl
            have e0 := e0.symm
            subst e0
            go_simp
            have hK' := hK.out
            simp only [putAll, Act.put, List.setIfInBounds_toArray, List.set_cons_zero, List.set_cons_succ] at hK'
            exact hK' _ _ rfl (Below.refl _ _) (by simp)
          · have e1 : s14 = _ := hdep ⟨1, .data⟩ (by simp) rfl
            have e1 := e1.symm
            subst e1
            go_simp
            go_simp
            refine (HSg.out wx hb).mono ?_
            rintro e wy ⟨rfl, hby⟩
            go_wp2_with fail
            have hK' := hK.out
            simp only [putAll, Act.put, List.setIfInBounds_toArray, List.set_cons_zero, List.set_cons_succ] at hK'
            exact hK' _ _ rfl hby (by simp)
          · have e2 : s15 = _ := hdep ⟨2, .data⟩ (by simp) rfl
            have e2 := e2.symm
            subst e2
            go_simp
            have hK' := hK.out
            simp only [putAll, Act.put, List.setIfInBounds_toArray, List.set_cons_zero, List.set_cons_succ] at hK'
            exact hK' _ _ rfl (Below.refl _ _) (by simp)
          · have e3 : s16 = _ := hdep ⟨3, .data⟩ (by simp) rfl
            have e3 := e3.symm
            subst e3
            go_simp
            have hK' := hK.out
            simp only [putAll, Act.put, List.setIfInBounds_toArray, List.set_cons_zero, List.set_cons_succ] at hK'
            exact hK' _ _ rfl (Below.refl _ _) (by simp)
          · go_simp
            have eg : s17 = _ := hdep ⟨4, .guard⟩ (by simp) rfl
            have eg := eg.symm
            subst eg
            first | go_simp | skip
            try rw [if_neg (by simp [undef])]
            have hK' := hK.out
            simp only [putAll, Act.put, List.setIfInBounds_toArray, List.set_cons_zero, List.set_cons_succ] at hK'
            exact hK' _ _ rfl (Below.refl _ _) (by simp)
          · go_simp
            have eg : s17 = _ := hdep ⟨4, .guard⟩ (by simp) rfl
            have eg := eg.symm
            subst eg
            first | go_simp | skip
            try rw [if_neg (by simp [undef])]
            have hK' := hK.out
            simp only [putAll, Act.put, List.setIfInBounds_toArray, List.set_cons_zero, List.set_cons_succ] at hK'
            exact hK' _ _ rfl (Below.refl _ _) (by simp)
          · go_simp
            have eg : s17 = _ := hdep ⟨4, .guard⟩ (by simp) rfl
            have eg := eg.symm
            subst eg
            first | go_simp | skip
            try rw [if_neg (by simp [undef])]
            have hK' := hK.out
            simp only [putAll, Act.put, List.setIfInBounds_toArray, List.set_cons_zero, List.set_cons_succ] at hK'
            exact hK' _ _ rfl (Below.refl _ _) (by simp)
          · go_simp
            have eg : s20 = _ := hdep ⟨7, .guard⟩ (by simp) rfl
            have eg := eg.symm
            subst eg
            first | go_simp | skip
            try rw [if_neg (by simp [undef])]
            have hK' := hK.out
            simp only [putAll, Act.put, List.setIfInBounds_toArray, List.set_cons_zero, List.set_cons_succ] at hK'
            exact hK' _ _ rfl (Below.refl _ _) (by simp)
          · go_simp
            have eg : s20 = _ := hdep ⟨7, .guard⟩ (by simp) rfl
            have eg := eg.symm
            subst eg
            first | go_simp | skip
            try rw [if_neg (by simp [undef])]
            have hK' := hK.out
            simp only [putAll, Act.put, List.setIfInBounds_toArray, List.set_cons_zero, List.set_cons_succ] at hK'
            exact hK' _ _ rfl (Below.refl _ _) (by simp)
          · go_simp
            have eg : s20 = _ := hdep ⟨7, .guard⟩ (by simp) rfl
            have eg := eg.symm
            subst eg
            first | go_simp | skip
            try rw [if_neg (by simp [undef])]
            have hK' := hK.out
            simp only [putAll, Act.put, List.setIfInBounds_toArray, List.set_cons_zero, List.set_cons_succ] at hK'
            exact hK' _ _ rfl (Below.refl _ _) (by simp)
          · go_simp
            have eg : s20 = _ := hdep ⟨7, .guard⟩ (by simp) rfl
            have eg := eg.symm
            subst eg
            first | go_simp | skip
            try rw [if_neg (by simp [undef])]
            have hK' := hK.out
            simp only [putAll, Act.put, List.setIfInBounds_toArray, List.set_cons_zero, List.set_cons_succ] at hK'
            exact hK' _ _ rfl (Below.refl _ _) (by simp)
          · go_simp
            have eg : s20 = _ := hdep ⟨7, .guard⟩ (by simp) rfl
            have eg := eg.symm
            subst eg
            first | go_simp | skip
            try rw [if_neg (by simp [undef])]
            have hK' := hK.out
            simp only [putAll, Act.put, List.setIfInBounds_toArray, List.set_cons_zero, List.set_cons_succ] at hK'
            exact hK' _ _ rfl (Below.refl _ _) (by simp)
          · go_simp
            have eg : s20 = _ := hdep ⟨7, .guard⟩ (by simp) rfl
            have eg := eg.symm
            subst eg
            first | go_simp | skip
            try rw [if_neg (by simp [undef])]
            have hK' := hK.out
            simp only [putAll, Act.put, List.setIfInBounds_toArray, List.set_cons_zero, List.set_cons_succ] at hK'
            exact hK' _ _ rfl (Below.refl _ _) (by simp)
          · go_simp
            have eg : s20 = _ := hdep ⟨7, .guard⟩ (by simp) rfl
            have eg := eg.symm
            subst eg
            first | go_simp | skip
            try rw [if_neg (by simp [undef])]
            have hK' := hK.out
            simp only [putAll, Act.put, List.setIfInBounds_toArray, List.set_cons_zero, List.set_cons_succ] at hK'
            exact hK' _ _ rfl (Below.refl _ _) (by simp)
          · go_simp
            have eg : s20 = _ := hdep ⟨7, .guard⟩ (by simp) rfl
            have eg := eg.symm
            subst eg
            first | go_simp | skip
            try rw [if_neg (by simp [undef])]
            have hK' := hK.out
            simp only [putAll, Act.put, List.setIfInBounds_toArray, List.set_cons_zero, List.set_cons_succ] at hK'
            exact hK' _ _ rfl (Below.refl _ _) (by simp)
          · go_simp
            have eg : s20 = _ := hdep ⟨7, .guard⟩ (by simp) rfl
            have eg := eg.symm
            subst eg
            first | go_simp | skip
            try rw [if_neg (by simp [undef])]
            have hK' := hK.out
            simp only [putAll, Act.put, List.setIfInBounds_toArray, List.set_cons_zero, List.set_cons_succ] at hK'
            exact hK' _ _ rfl (Below.refl _ _) (by simp)
          · go_simp
            have eg : s20 = _ := hdep ⟨7, .guard⟩ (by simp) rfl
            have eg := eg.symm
            subst eg
            first | go_simp | skip
            try rw [if_neg (by simp [undef])]
            have hK' := hK.out
            simp only [putAll, Act.put, List.setIfInBounds_toArray, List.set_cons_zero, List.set_cons_succ] at hK'
            exact hK' _ _ rfl (Below.refl _ _) (by simp)
          · go_simp
            have eg : s17 = _ := hdep ⟨4, .guard⟩ (by simp) rfl
            have eg := eg.symm
            subst eg
            first | go_simp | skip
            try rw [if_neg (by simp [undef])]
            have hK' := hK.out
            simp only [putAll, Act.put, List.setIfInBounds_toArray, List.set_cons_zero, List.set_cons_succ] at hK'
            exact hK' _ _ rfl (Below.refl _ _) (by simp)
          · have e4 : s17 = _ := hdep ⟨4, .data⟩ (by simp) rfl
            have e4 := e4.symm
            subst e4
            go_simp
            have hK' := hK.out
            simp only [putAll, Act.put, List.setIfInBounds_toArray, List.set_cons_zero, List.set_cons_succ] at hK'
            exact hK' _ _ rfl (Below.refl _ _) (by simp)
          · omega
        · intro vs wx hvl hb hf hdist
          have hvs := vlen20 hvl
          obtain ⟨s13, s14, s15, s16, s17, s18, s19, s20, s21, s22, s23, s24, s25, s26, s27, s28, s29, s30, s31, s32, rfl⟩ := hvs
          have f19 : s32 = _ := hf 19 (by decide)
          have f19 := f19.symm
          subst f19
          have Hb9 := hid (lnGo hb HBw5.out)
          clear hf hvl hdist
          refine wpAny_done (by kernel_rfl) ?_ _
          try simp only [putAll, Act.put, List.setIfInBounds_toArray, List.set_cons_zero, List.set_cons_succ]
          have hd : decide (lnIs l) = false := by simpa using Hno.out
          go_wp2
          go_ret
          exact ⟨by rw [hd]; rfl, Hb9.out⟩
      · have hs0 : (c.sign == 0) = false := by
          rw [beq_eq_false_iff_ne]
          exact fun h => hc0 (Int.sign_eq_zero_iff_zero.1 h)
        have HSg := HSg0
        have HsE := hid hs0
        by_cases hk0 : k = 0
        · have HK0 := hid hk0
          have Hnx : Hid (lnIs (l.take (k + 1))) := hid ((Hstep.out).2 ⟨HI.out, hc0, fun h => absurd h (by omega)⟩)
          clear HSg0 hc0 Hstep hs0 hk0 HI
          go_upto_region 4 with fail
          rw [← hW5]
          clear hW5 y0 y1 y2
          refine wp_region_facts (w0 := W5) 20 0 [13, 14, 15, 16, 17, 18, 19, 20, 21, 22, 23, 24, 25, 26, 27, 28, 29, 30, 31, 32] [u13, u14, u15, u16, u17, u18, u19, u20, u21, u22, u23, u24, u25, u26, u27, u28, u29, u30, u31, u32]
            (fun i => match i with | 0 => lnE (.pointer (some ⟨wr.heap.size, 0, none⟩)) | 1 => lnE (.agg #[.bool d, .slice q n cq]) | 2 => lnE (.int .i64 c.sign) | 3 => lnE (.bool false) | 4 => lnE (.bool false) | 5 => lnE (.int .i64 (k : Nat)) | 6 => lnE (.bool false) | 7 => lnE (.bool false) | 8 => lnE (undef) | 9 => lnE (undef) | 10 => lnE (undef) | 11 => lnE (undef) | 12 => lnE (undef) | 13 => lnE (undef) | 14 => lnE (undef) | 15 => lnE (undef) | 16 => lnE (undef) | 17 => lnE (undef) | 18 => lnE (.bool false) | _ => lnE (.bool false)) [] (by kernel_rfl) (by kernel_rfl) (by kernel_rfl) (by kernel_rfl) (by decide) rfl (by kernel_rfl) rfl (by simp) ?he2 ?_ ?_ ?_
          case he2 => simp only [putAll, Act.put, List.setIfInBounds_toArray, List.set_cons_zero, List.set_cons_succ]
          · intro i hi; simp at hi
          · intro i o hi ho vs wx hvl hb hdep K hK
            have hvs := vlen20 hvl
            obtain ⟨s13, s14, s15, s16, s17, s18, s19, s20, s21, s22, s23, s24, s25, s26, s27, s28, s29, s30, s31, s32, rfl⟩ := hvs
            clear hvl
            have hk5 := HS.out wx hb
            obtain ⟨y3, y4, y5, y6, y7⟩ := hk5
            rcases i with _ | _ | _ | _ | _ | _ | _ | _ | _ | _ | _ | _ | _ | _ | _ | _ | _ | _ | _ | _ | i
            all_goals (simp only [List.getElem?_toArray, List.getElem?_cons_zero, List.getElem?_cons_succ, Option.some.injEq] at ho)
            all_goals try (subst ho)
            all_goals try simp only [putAll, Act.put, List.setIfInBounds_toArray, List.set_cons_zero, List.set_cons_succ]
            · go_simp
              have hK' := hK.out
              simp only [putAll, Act.put, List.setIfInBounds_toArray, List.set_cons_zero, List.set_cons_succ] at hK'
              exact hK' _ _ rfl (Below.refl _ _) (by simp)
            · have e0 : s13 = _ := hdep ⟨0, .data⟩ (by simp) rfl
              have e0 := e0.symm
              subst e0
              go_simp
              have hK' := hK.out
              simp only [putAll, Act.put, List.setIfInBounds_toArray, List.set_cons_zero, List.set_cons_succ] at hK'
              exact hK' _ _ rfl (Below.refl _ _) (by simp)
            · have e1 : s14 = _ := hdep ⟨1, .data⟩ (by simp) rfl
              have e1 := e1.symm
              subst e1
              go_simp
              go_simp
              refine (HSg.out wx hb).mono ?_
              rintro e wy ⟨rfl, hby⟩
              go_wp2_with fail
              have hK' := hK.out
              simp only [putAll, Act.put, List.setIfInBounds_toArray, List.set_cons_zero, List.set_cons_succ] at hK'
              exact hK' _ _ rfl hby (by simp)
            · have e2 : s15 = _ := hdep ⟨2, .data⟩ (by simp) rfl
              have e2 := e2.symm
              subst e2
              go_simp
              have hK' := hK.out
              simp only [putAll, Act.put, List.setIfInBounds_toArray, List.set_cons_zero, List.set_cons_succ] at hK'
              exact hK' _ _ (show Value.bool (c.sign == 0) = .bool false by rw [HsE.out]) (Below.refl _ _) (by simp)
            · have e3 : s16 = _ := hdep ⟨3, .data⟩ (by simp) rfl
              have e3 := e3.symm
              subst e3
              go_simp
              have hK' := hK.out
              simp only [putAll, Act.put, List.setIfInBounds_toArray, List.set_cons_zero, List.set_cons_succ] at hK'
              exact hK' _ _ rfl (Below.refl _ _) (by simp)
            · have eg : s17 = _ := hdep ⟨4, .guard⟩ (by simp) rfl
              have eg := eg.symm
              subst eg
              go_simp
              have hK' := hK.out
              simp only [putAll, Act.put, List.setIfInBounds_toArray, List.set_cons_zero, List.set_cons_succ] at hK'
              exact hK' _ _ rfl (Below.refl _ _) (by simp)
            · have e5 : s18 = _ := hdep ⟨5, .data⟩ (by simp) rfl
              have e5 := e5.symm
              subst e5
              have eg : s17 = _ := hdep ⟨4, .guard⟩ (by simp) rfl
              have eg := eg.symm
              subst eg
              go_simp
              have hK' := hK.out
              simp only [putAll, Act.put, List.setIfInBounds_toArray, List.set_cons_zero, List.set_cons_succ] at hK'
              exact hK' _ _ (show _ = Value.bool false by first | rfl | (have := HK0.out; simp [this])) (Below.refl _ _) (by simp)
            · have e6 : s19 = _ := hdep ⟨6, .data⟩ (by simp) rfl
              have e6 := e6.symm
              subst e6
              have eg : s17 = _ := hdep ⟨4, .guard⟩ (by simp) rfl
              have eg := eg.symm
              subst eg
              go_simp
              have hK' := hK.out
              simp only [putAll, Act.put, List.setIfInBounds_toArray, List.set_cons_zero, List.set_cons_succ] at hK'
              exact hK' _ _ rfl (Below.refl _ _) (by simp)
            · go_simp
              have eg : s20 = _ := hdep ⟨7, .guard⟩ (by simp) rfl
              have eg := eg.symm
              subst eg
              first | go_simp | skip
              try rw [if_neg (by simp [undef])]
              have hK' := hK.out
              simp only [putAll, Act.put, List.setIfInBounds_toArray, List.set_cons_zero, List.set_cons_succ] at hK'
              exact hK' _ _ rfl (Below.refl _ _) (by simp)
            · go_simp
              have eg : s20 = _ := hdep ⟨7, .guard⟩ (by simp) rfl
              have eg := eg.symm
              subst eg
              first | go_simp | skip
              try rw [if_neg (by simp [undef])]
              have hK' := hK.out
              simp only [putAll, Act.put, List.setIfInBounds_toArray, List.set_cons_zero, List.set_cons_succ] at hK'
              exact hK' _ _ rfl (Below.refl _ _) (by simp)
            · go_simp
              have eg : s20 = _ := hdep ⟨7, .guard⟩ (by simp) rfl
              have eg := eg.symm
              subst eg
              first | go_simp | skip
              try rw [if_neg (by simp [undef])]
              have hK' := hK.out
              simp only [putAll, Act.put, List.setIfInBounds_toArray, List.set_cons_zero, List.set_cons_succ] at hK'
              exact hK' _ _ rfl (Below.refl _ _) (by simp)
            · go_simp
              have eg : s20 = _ := hdep ⟨7, .guard⟩ (by simp) rfl
              have eg := eg.symm
              subst eg
              first | go_simp | skip
              try rw [if_neg (by simp [undef])]
              have hK' := hK.out
              simp only [putAll, Act.put, List.setIfInBounds_toArray, List.set_cons_zero, List.set_cons_succ] at hK'
              exact hK' _ _ rfl (Below.refl _ _) (by simp)
            · go_simp
              have eg : s20 = _ := hdep ⟨7, .guard⟩ (by simp) rfl
              have eg := eg.symm
              subst eg
              first | go_simp | skip
              try rw [if_neg (by simp [undef])]
              have hK' := hK.out
              simp only [putAll, Act.put, List.setIfInBounds_toArray, List.set_cons_zero, List.set_cons_succ] at hK'
              exact hK' _ _ rfl (Below.refl _ _) (by simp)
            · go_simp
              have eg : s20 = _ := hdep ⟨7, .guard⟩ (by simp) rfl
              have eg := eg.symm
              subst eg
              first | go_simp | skip
              try rw [if_neg (by simp [undef])]
              have hK' := hK.out
              simp only [putAll, Act.put, List.setIfInBounds_toArray, List.set_cons_zero, List.set_cons_succ] at hK'
              exact hK' _ _ rfl (Below.refl _ _) (by simp)
            · go_simp
              have eg : s20 = _ := hdep ⟨7, .guard⟩ (by simp) rfl
              have eg := eg.symm
              subst eg
              first | go_simp | skip
              try rw [if_neg (by simp [undef])]
              have hK' := hK.out
              simp only [putAll, Act.put, List.setIfInBounds_toArray, List.set_cons_zero, List.set_cons_succ] at hK'
              exact hK' _ _ rfl (Below.refl _ _) (by simp)
            · go_simp
              have eg : s20 = _ := hdep ⟨7, .guard⟩ (by simp) rfl
              have eg := eg.symm
              subst eg
              first | go_simp | skip
              try rw [if_neg (by simp [undef])]
              have hK' := hK.out
              simp only [putAll, Act.put, List.setIfInBounds_toArray, List.set_cons_zero, List.set_cons_succ] at hK'
              exact hK' _ _ rfl (Below.refl _ _) (by simp)
            · go_simp
              have eg : s20 = _ := hdep ⟨7, .guard⟩ (by simp) rfl
              have eg := eg.symm
              subst eg
              first | go_simp | skip
              try rw [if_neg (by simp [undef])]
              have hK' := hK.out
              simp only [putAll, Act.put, List.setIfInBounds_toArray, List.set_cons_zero, List.set_cons_succ] at hK'
              exact hK' _ _ rfl (Below.refl _ _) (by simp)
            · go_simp
              have eg : s20 = _ := hdep ⟨7, .guard⟩ (by simp) rfl
              have eg := eg.symm
              subst eg
              first | go_simp | skip
              try rw [if_neg (by simp [undef])]
              have hK' := hK.out
              simp only [putAll, Act.put, List.setIfInBounds_toArray, List.set_cons_zero, List.set_cons_succ] at hK'
              exact hK' _ _ rfl (Below.refl _ _) (by simp)
            · have e7 : s20 = _ := hdep ⟨7, .data⟩ (by simp) rfl
              have e7 := e7.symm
              subst e7
              have eg : s17 = _ := hdep ⟨4, .guard⟩ (by simp) rfl
              have eg := eg.symm
              subst eg
              go_simp
              have hK' := hK.out
              simp only [putAll, Act.put, List.setIfInBounds_toArray, List.set_cons_zero, List.set_cons_succ] at hK'
              exact hK' _ _ rfl (Below.refl _ _) (by simp)
            · have e4 : s17 = _ := hdep ⟨4, .data⟩ (by simp) rfl
              have e4 := e4.symm
              subst e4
              have e18 : s31 = _ := hdep ⟨18, .data⟩ (by simp) rfl
              have e18 := e18.symm
              subst e18
              go_simp
              have hK' := hK.out
              simp only [putAll, Act.put, List.setIfInBounds_toArray, List.set_cons_zero, List.set_cons_succ] at hK'
              exact hK' _ _ rfl (Below.refl _ _) (by simp)
            · omega
          · intro vs wx hvl hb hf hdist
            have hvs := vlen20 hvl
            obtain ⟨s13, s14, s15, s16, s17, s18, s19, s20, s21, s22, s23, s24, s25, s26, s27, s28, s29, s30, s31, s32, rfl⟩ := hvs
            have f19 : s32 = _ := hf 19 (by decide)
            have f19 := f19.symm
            subst f19
            have Hb9 := hid (lnGo hb HBw5.out)
            clear hf hvl hdist
            refine wpAny_done (by kernel_rfl) ?_ _
            try simp only [putAll, Act.put, List.setIfInBounds_toArray, List.set_cons_zero, List.set_cons_succ]
            have Hb9W := hid (lnGo hb HBW5.out)
            go_wp2_with fail
            go_roundw
            case rel => exact ⟨k + 1, by omega, by go_num, Hnx, Hb9W⟩
            case measure => simp [intOf] <;> omega
        · obtain ⟨k1, hk1⟩ : ∃ k1 : Nat, k = k1 + 1 := ⟨k - 1, by omega⟩
          have HK0 : Hid (0 < k) := hid (by omega)
          have hka : k ≤ k1 + 1 := by omega
          have hkb : k1 + 1 ≤ k := by omega
          have hk1t : k - 1 < l.length := by omega
          have hp1 := Hpre.out hk1t (by omega)
          rw [show o + (k - 1) * 3 + 2 = o + k1 * 3 + 2 by rw [hk1, Nat.add_sub_cancel]] at hp1
          obtain ⟨t', ht'⟩ : ∃ t', t' = l[k - 1].2 := ⟨_, rfl⟩
          have et' : l[k - 1].2 = t' := ht'.symm
          have hp1' : w.cell? ⟨b, o + k1 * 3 + 2, none⟩ = some (.int .i64 t') := by rw [hp1, ht']
          have HS0 := HS
          have HS : Hid (∀ w', Below W5.heap.size W5 w' → w'.cell? ⟨wr.heap.size, 0, none⟩ = some (.bool d) ∧ w'.cell? ⟨wr.heap.size, 1, none⟩ = some (.slice q n cq) ∧ w'.cell? ⟨wr.heap.size, 2, none⟩ = some (.int .i64 t) ∧ w'.cell? ⟨w.heap.size, 0, none⟩ = some (.slice (some ⟨b, o, none⟩) L cp) ∧ w'.cell? ⟨b, o + k1 * 3 + 2, none⟩ = some (.int .i64 t')) := hid fun w' hb' => by
            obtain ⟨t0, t1, t2, t3, -⟩ := HS0.out w' hb'
            exact ⟨t0, t1, t2, t3, ((lnGo hb' HBw5.out).cell (p := ⟨b, o + k1 * 3 + 2, none⟩) hb).trans hp1'⟩
          have hk1L : (k1 : Int) < (L : Int) := by omega
          clear HS0 hp1 hp1' Hpre HSg0 hs0 ht' hk1 hk0
          by_cases htt : t ≤ t'
          · have htt' : decide (t ≤ t') = true := by simpa using htt
            have Hno : Hid (¬ lnIs l) := hid fun hI => by
              have := ((Hstep.out).1 (lnIs_take hI _)).2.2 (by omega) hk1t
              rw [et'] at this
              omega
            clear hc0 Hstep htt HI et'
            go_upto_region 4 with fail
            rw [← hW5]
            clear hW5 y0 y1 y2
            refine wp_region_facts (w0 := W5) 20 0 [13, 14, 15, 16, 17, 18, 19, 20, 21, 22, 23, 24, 25, 26, 27, 28, 29, 30, 31, 32] [u13, u14, u15, u16, u17, u18, u19, u20, u21, u22, u23, u24, u25, u26, u27, u28, u29, u30, u31, u32]
              (fun i => match i with | 0 => lnE (.pointer (some ⟨wr.heap.size, 0, none⟩)) | 1 => lnE (.agg #[.bool d, .slice q n cq]) | 2 => lnE (.int .i64 c.sign) | 3 => lnE (.bool false) | 4 => lnE (.bool false) | 5 => lnE (.int .i64 (k : Nat)) | 6 => lnE (.bool true) | 7 => lnE (.bool true) | 8 => lnE (.pointer (some ⟨w.heap.size, 0, none⟩)) | 9 => lnE (.slice (some ⟨b, o, none⟩) L cp) | 10 => lnE (.int .i64 (k : Nat)) | 11 => lnE (.int .i64 (k1 : Nat)) | 12 => lnE (.pointer (some ⟨b, o + k1 * 3, none⟩)) | 13 => lnE (.pointer (some ⟨b, o + k1 * 3 + 2, none⟩)) | 14 => lnE (.int .i64 t') | 15 => lnE (.pointer (some ⟨wr.heap.size, 2, none⟩)) | 16 => lnE (.int .i64 t) | 17 => lnE (.bool true) | 18 => lnE (.bool true) | _ => lnE (.bool true)) [] (by kernel_rfl) (by kernel_rfl) (by kernel_rfl) (by kernel_rfl) (by decide) rfl (by kernel_rfl) rfl (by simp) ?he3 ?_ ?_ ?_
            case he3 => simp only [putAll, Act.put, List.setIfInBounds_toArray, List.set_cons_zero, List.set_cons_succ]
            · intro i hi; simp at hi
            · intro i o hi ho vs wx hvl hb hdep K hK
              have hvs := vlen20 hvl
              obtain ⟨s13, s14, s15, s16, s17, s18, s19, s20, s21, s22, s23, s24, s25, s26, s27, s28, s29, s30, s31, s32, rfl⟩ := hvs
              clear hvl
              have hk5 := HS.out wx hb
              obtain ⟨y3, y4, y5, y6, y7⟩ := hk5
              rcases i with _ | _ | _ | _ | _ | _ | _ | _ | _ | _ | _ | _ | _ | _ | _ | _ | _ | _ | _ | _ | i
              all_goals (simp only [List.getElem?_toArray, List.getElem?_cons_zero, List.getElem?_cons_succ, Option.some.injEq] at ho)
              all_goals try (subst ho)
              all_goals try simp only [putAll, Act.put, List.setIfInBounds_toArray, List.set_cons_zero, List.set_cons_succ]
              · go_simp
                have hK' := hK.out
                simp only [putAll, Act.put, List.setIfInBounds_toArray, List.set_cons_zero, List.set_cons_succ] at hK'
                exact hK' _ _ rfl (Below.refl _ _) (by simp)
              · have e0 : s13 = _ := hdep ⟨0, .data⟩ (by simp) rfl
                have e0 := e0.symm
                subst e0
                go_simp
                have hK' := hK.out
                simp only [putAll, Act.put, List.setIfInBounds_toArray, List.set_cons_zero, List.set_cons_succ] at hK'
                exact hK' _ _ rfl (Below.refl _ _) (by simp)
              · have e1 : s14 = _ := hdep ⟨1, .data⟩ (by simp) rfl
                have e1 := e1.symm
                subst e1
                go_simp
                go_simp
                refine (HSg.out wx hb).mono ?_
                rintro e wy ⟨rfl, hby⟩
                go_wp2_with fail
                have hK' := hK.out
                simp only [putAll, Act.put, List.setIfInBounds_toArray, List.set_cons_zero, List.set_cons_succ] at hK'
                exact hK' _ _ rfl hby (by simp)
              · have e2 : s15 = _ := hdep ⟨2, .data⟩ (by simp) rfl
                have e2 := e2.symm
                subst e2
                go_simp
                have hK' := hK.out
                simp only [putAll, Act.put, List.setIfInBounds_toArray, List.set_cons_zero, List.set_cons_succ] at hK'
                exact hK' _ _ (show Value.bool (c.sign == 0) = .bool false by rw [HsE.out]) (Below.refl _ _) (by simp)
              · have e3 : s16 = _ := hdep ⟨3, .data⟩ (by simp) rfl
                have e3 := e3.symm
                subst e3
                go_simp
                have hK' := hK.out
                simp only [putAll, Act.put, List.setIfInBounds_toArray, List.set_cons_zero, List.set_cons_succ] at hK'
                exact hK' _ _ rfl (Below.refl _ _) (by simp)
              · have eg : s17 = _ := hdep ⟨4, .guard⟩ (by simp) rfl
                have eg := eg.symm
                subst eg
                go_simp
                have hK' := hK.out
                simp only [putAll, Act.put, List.setIfInBounds_toArray, List.set_cons_zero, List.set_cons_succ] at hK'
                exact hK' _ _ rfl (Below.refl _ _) (by simp)
              · have e5 : s18 = _ := hdep ⟨5, .data⟩ (by simp) rfl
                have e5 := e5.symm
                subst e5
                have eg : s17 = _ := hdep ⟨4, .guard⟩ (by simp) rfl
                have eg := eg.symm
                subst eg
                go_simp
                have hK' := hK.out
                simp only [putAll, Act.put, List.setIfInBounds_toArray, List.set_cons_zero, List.set_cons_succ] at hK'
                exact hK' _ _ (show _ = Value.bool true by first | rfl | (have := HK0.out; simp [this])) (Below.refl _ _) (by simp)
              · have e6 : s19 = _ := hdep ⟨6, .data⟩ (by simp) rfl
                have e6 := e6.symm
                subst e6
                have eg : s17 = _ := hdep ⟨4, .guard⟩ (by simp) rfl
                have eg := eg.symm
                subst eg
                go_simp
                have hK' := hK.out
                simp only [putAll, Act.put, List.setIfInBounds_toArray, List.set_cons_zero, List.set_cons_succ] at hK'
                exact hK' _ _ rfl (Below.refl _ _) (by simp)
              · have eg : s20 = _ := hdep ⟨7, .guard⟩ (by simp) rfl
                have eg := eg.symm
                subst eg
                go_simp
                have hK' := hK.out
                simp only [putAll, Act.put, List.setIfInBounds_toArray, List.set_cons_zero, List.set_cons_succ] at hK'
                exact hK' _ _ rfl (Below.refl _ _) (by simp)
              · have e8 : s21 = _ := hdep ⟨8, .data⟩ (by simp) rfl
                have e8 := e8.symm
                subst e8
                have eg : s20 = _ := hdep ⟨7, .guard⟩ (by simp) rfl
                have eg := eg.symm
                subst eg
                go_simp
                have hK' := hK.out
                simp only [putAll, Act.put, List.setIfInBounds_toArray, List.set_cons_zero, List.set_cons_succ] at hK'
                exact hK' _ _ rfl (Below.refl _ _) (by simp)
              · have eg : s20 = _ := hdep ⟨7, .guard⟩ (by simp) rfl
                have eg := eg.symm
                subst eg
                go_simp
                have hK' := hK.out
                simp only [putAll, Act.put, List.setIfInBounds_toArray, List.set_cons_zero, List.set_cons_succ] at hK'
                exact hK' _ _ rfl (Below.refl _ _) (by simp)
              · have e10 : s23 = _ := hdep ⟨10, .data⟩ (by simp) rfl
                have e10 := e10.symm
                subst e10
                have eg : s20 = _ := hdep ⟨7, .guard⟩ (by simp) rfl
                have eg := eg.symm
                subst eg
                go_simp
                have hK' := hK.out
                simp only [putAll, Act.put, List.setIfInBounds_toArray, List.set_cons_zero, List.set_cons_succ] at hK'
                exact hK' _ _ (show _ = Value.int .i64 (k1 : Nat) by first | rfl | (congr 1; omega) | (rw [IntWalk.i64_in _ (by omega)]; congr 1; omega)) (Below.refl _ _) (by simp)
              · have e9 : s22 = _ := hdep ⟨9, .data⟩ (by simp) rfl
                have e9 := e9.symm
                subst e9
                have e11 : s24 = _ := hdep ⟨11, .data⟩ (by simp) rfl
                have e11 := e11.symm
                subst e11
                have eg : s20 = _ := hdep ⟨7, .guard⟩ (by simp) rfl
                have eg := eg.symm
                subst eg
                go_simp
                have hK' := hK.out
                simp only [putAll, Act.put, List.setIfInBounds_toArray, List.set_cons_zero, List.set_cons_succ] at hK'
                exact hK' _ _ rfl (Below.refl _ _) (by simp)
              · have e12 : s25 = _ := hdep ⟨12, .data⟩ (by simp) rfl
                have e12 := e12.symm
                subst e12
                have eg : s20 = _ := hdep ⟨7, .guard⟩ (by simp) rfl
                have eg := eg.symm
                subst eg
                go_simp
                have hK' := hK.out
                simp only [putAll, Act.put, List.setIfInBounds_toArray, List.set_cons_zero, List.set_cons_succ] at hK'
                exact hK' _ _ rfl (Below.refl _ _) (by simp)
              · have e13 : s26 = _ := hdep ⟨13, .data⟩ (by simp) rfl
                have e13 := e13.symm
                subst e13
                have eg : s20 = _ := hdep ⟨7, .guard⟩ (by simp) rfl
                have eg := eg.symm
                subst eg
                go_simp
                have hK' := hK.out
                simp only [putAll, Act.put, List.setIfInBounds_toArray, List.set_cons_zero, List.set_cons_succ] at hK'
                exact hK' _ _ rfl (Below.refl _ _) (by simp)
              · have eg : s20 = _ := hdep ⟨7, .guard⟩ (by simp) rfl
                have eg := eg.symm
                subst eg
                go_simp
                have hK' := hK.out
                simp only [putAll, Act.put, List.setIfInBounds_toArray, List.set_cons_zero, List.set_cons_succ] at hK'
                exact hK' _ _ rfl (Below.refl _ _) (by simp)
              · have e15 : s28 = _ := hdep ⟨15, .data⟩ (by simp) rfl
                have e15 := e15.symm
                subst e15
                have eg : s20 = _ := hdep ⟨7, .guard⟩ (by simp) rfl
                have eg := eg.symm
                subst eg
                go_simp
                have hK' := hK.out
                simp only [putAll, Act.put, List.setIfInBounds_toArray, List.set_cons_zero, List.set_cons_succ] at hK'
                exact hK' _ _ rfl (Below.refl _ _) (by simp)
              · have e14 : s27 = _ := hdep ⟨14, .data⟩ (by simp) rfl
                have e14 := e14.symm
                subst e14
                have e16 : s29 = _ := hdep ⟨16, .data⟩ (by simp) rfl
                have e16 := e16.symm
                subst e16
                have eg : s20 = _ := hdep ⟨7, .guard⟩ (by simp) rfl
                have eg := eg.symm
                subst eg
                go_simp
                have hK' := hK.out
                simp only [putAll, Act.put, List.setIfInBounds_toArray, List.set_cons_zero, List.set_cons_succ] at hK'
                exact hK' _ _ rfl (Below.refl _ _) (by simp)
              · have e7 : s20 = _ := hdep ⟨7, .data⟩ (by simp) rfl
                have e7 := e7.symm
                subst e7
                have e17 : s30 = _ := hdep ⟨17, .data⟩ (by simp) rfl
                have e17 := e17.symm
                subst e17
                have eg : s17 = _ := hdep ⟨4, .guard⟩ (by simp) rfl
                have eg := eg.symm
                subst eg
                go_simp
                have hK' := hK.out
                simp only [putAll, Act.put, List.setIfInBounds_toArray, List.set_cons_zero, List.set_cons_succ] at hK'
                exact hK' _ _ rfl (Below.refl _ _) (by simp)
              · have e4 : s17 = _ := hdep ⟨4, .data⟩ (by simp) rfl
                have e4 := e4.symm
                subst e4
                have e18 : s31 = _ := hdep ⟨18, .data⟩ (by simp) rfl
                have e18 := e18.symm
                subst e18
                go_simp
                have hK' := hK.out
                simp only [putAll, Act.put, List.setIfInBounds_toArray, List.set_cons_zero, List.set_cons_succ] at hK'
                exact hK' _ _ rfl (Below.refl _ _) (by simp)
              · omega
            · intro vs wx hvl hb hf hdist
              have hvs := vlen20 hvl
              obtain ⟨s13, s14, s15, s16, s17, s18, s19, s20, s21, s22, s23, s24, s25, s26, s27, s28, s29, s30, s31, s32, rfl⟩ := hvs
              have f19 : s32 = _ := hf 19 (by decide)
              have f19 := f19.symm
              subst f19
              have Hb9 := hid (lnGo hb HBw5.out)
              clear hf hvl hdist
              refine wpAny_done (by kernel_rfl) ?_ _
              try simp only [putAll, Act.put, List.setIfInBounds_toArray, List.set_cons_zero, List.set_cons_succ]
              have hd : decide (lnIs l) = false := by simpa using Hno.out
              go_wp2
              go_ret
              exact ⟨by rw [hd]; rfl, Hb9.out⟩
          · have htt' : decide (t ≤ t') = false := by simpa using htt
            have Hnx : Hid (lnIs (l.take (k + 1))) := hid ((Hstep.out).2 ⟨HI.out, hc0, fun _ _ => by rw [et']; omega⟩)
            clear hc0 Hstep htt HI et'
            go_upto_region 4 with fail
            rw [← hW5]
            clear hW5 y0 y1 y2
            refine wp_region_facts (w0 := W5) 20 0 [13, 14, 15, 16, 17, 18, 19, 20, 21, 22, 23, 24, 25, 26, 27, 28, 29, 30, 31, 32] [u13, u14, u15, u16, u17, u18, u19, u20, u21, u22, u23, u24, u25, u26, u27, u28, u29, u30, u31, u32]
              (fun i => match i with | 0 => lnE (.pointer (some ⟨wr.heap.size, 0, none⟩)) | 1 => lnE (.agg #[.bool d, .slice q n cq]) | 2 => lnE (.int .i64 c.sign) | 3 => lnE (.bool false) | 4 => lnE (.bool false) | 5 => lnE (.int .i64 (k : Nat)) | 6 => lnE (.bool true) | 7 => lnE (.bool true) | 8 => lnE (.pointer (some ⟨w.heap.size, 0, none⟩)) | 9 => lnE (.slice (some ⟨b, o, none⟩) L cp) | 10 => lnE (.int .i64 (k : Nat)) | 11 => lnE (.int .i64 (k1 : Nat)) | 12 => lnE (.pointer (some ⟨b, o + k1 * 3, none⟩)) | 13 => lnE (.pointer (some ⟨b, o + k1 * 3 + 2, none⟩)) | 14 => lnE (.int .i64 t') | 15 => lnE (.pointer (some ⟨wr.heap.size, 2, none⟩)) | 16 => lnE (.int .i64 t) | 17 => lnE (.bool false) | 18 => lnE (.bool false) | _ => lnE (.bool false)) [] (by kernel_rfl) (by kernel_rfl) (by kernel_rfl) (by kernel_rfl) (by decide) rfl (by kernel_rfl) rfl (by simp) ?he4 ?_ ?_ ?_
            case he4 => simp only [putAll, Act.put, List.setIfInBounds_toArray, List.set_cons_zero, List.set_cons_succ]
            · intro i hi; simp at hi
            · intro i o hi ho vs wx hvl hb hdep K hK
              have hvs := vlen20 hvl
              obtain ⟨s13, s14, s15, s16, s17, s18, s19, s20, s21, s22, s23, s24, s25, s26, s27, s28, s29, s30, s31, s32, rfl⟩ := hvs
              clear hvl
              have hk5 := HS.out wx hb
              obtain ⟨y3, y4, y5, y6, y7⟩ := hk5
              rcases i with _ | _ | _ | _ | _ | _ | _ | _ | _ | _ | _ | _ | _ | _ | _ | _ | _ | _ | _ | _ | i
              all_goals (simp only [List.getElem?_toArray, List.getElem?_cons_zero, List.getElem?_cons_succ, Option.some.injEq] at ho)
              all_goals try (subst ho)
              all_goals try simp only [putAll, Act.put, List.setIfInBounds_toArray, List.set_cons_zero, List.set_cons_succ]
              · go_simp
                have hK' := hK.out
                simp only [putAll, Act.put, List.setIfInBounds_toArray, List.set_cons_zero, List.set_cons_succ] at hK'
                exact hK' _ _ rfl (Below.refl _ _) (by simp)
              · have e0 : s13 = _ := hdep ⟨0, .data⟩ (by simp) rfl
                have e0 := e0.symm
                subst e0
                go_simp
                have hK' := hK.out
                simp only [putAll, Act.put, List.setIfInBounds_toArray, List.set_cons_zero, List.set_cons_succ] at hK'
                exact hK' _ _ rfl (Below.refl _ _) (by simp)
              · have e1 : s14 = _ := hdep ⟨1, .data⟩ (by simp) rfl
                have e1 := e1.symm
                subst e1
                go_simp
                go_simp
                refine (HSg.out wx hb).mono ?_
                rintro e wy ⟨rfl, hby⟩
                go_wp2_with fail
                have hK' := hK.out
                simp only [putAll, Act.put, List.setIfInBounds_toArray, List.set_cons_zero, List.set_cons_succ] at hK'
                exact hK' _ _ rfl hby (by simp)
              · have e2 : s15 = _ := hdep ⟨2, .data⟩ (by simp) rfl
                have e2 := e2.symm
                subst e2
                go_simp
                have hK' := hK.out
                simp only [putAll, Act.put, List.setIfInBounds_toArray, List.set_cons_zero, List.set_cons_succ] at hK'
                exact hK' _ _ (show Value.bool (c.sign == 0) = .bool false by rw [HsE.out]) (Below.refl _ _) (by simp)
              · have e3 : s16 = _ := hdep ⟨3, .data⟩ (by simp) rfl
                have e3 := e3.symm
                subst e3
                go_simp
                have hK' := hK.out
                simp only [putAll, Act.put, List.setIfInBounds_toArray, List.set_cons_zero, List.set_cons_succ] at hK'
                exact hK' _ _ rfl (Below.refl _ _) (by simp)
              · have eg : s17 = _ := hdep ⟨4, .guard⟩ (by simp) rfl
                have eg := eg.symm
                subst eg
                go_simp
                have hK' := hK.out
                simp only [putAll, Act.put, List.setIfInBounds_toArray, List.set_cons_zero, List.set_cons_succ] at hK'
                exact hK' _ _ rfl (Below.refl _ _) (by simp)
              · have e5 : s18 = _ := hdep ⟨5, .data⟩ (by simp) rfl
                have e5 := e5.symm
                subst e5
                have eg : s17 = _ := hdep ⟨4, .guard⟩ (by simp) rfl
                have eg := eg.symm
                subst eg
                go_simp
                have hK' := hK.out
                simp only [putAll, Act.put, List.setIfInBounds_toArray, List.set_cons_zero, List.set_cons_succ] at hK'
                exact hK' _ _ (show _ = Value.bool true by first | rfl | (have := HK0.out; simp [this])) (Below.refl _ _) (by simp)
              · have e6 : s19 = _ := hdep ⟨6, .data⟩ (by simp) rfl
                have e6 := e6.symm
                subst e6
                have eg : s17 = _ := hdep ⟨4, .guard⟩ (by simp) rfl
                have eg := eg.symm
                subst eg
                go_simp
                have hK' := hK.out
                simp only [putAll, Act.put, List.setIfInBounds_toArray, List.set_cons_zero, List.set_cons_succ] at hK'
                exact hK' _ _ rfl (Below.refl _ _) (by simp)
              · have eg : s20 = _ := hdep ⟨7, .guard⟩ (by simp) rfl
                have eg := eg.symm
                subst eg
                go_simp
                have hK' := hK.out
                simp only [putAll, Act.put, List.setIfInBounds_toArray, List.set_cons_zero, List.set_cons_succ] at hK'
                exact hK' _ _ rfl (Below.refl _ _) (by simp)
              · have e8 : s21 = _ := hdep ⟨8, .data⟩ (by simp) rfl
                have e8 := e8.symm
                subst e8
                have eg : s20 = _ := hdep ⟨7, .guard⟩ (by simp) rfl
                have eg := eg.symm
                subst eg
                go_simp
                have hK' := hK.out
                simp only [putAll, Act.put, List.setIfInBounds_toArray, List.set_cons_zero, List.set_cons_succ] at hK'
                exact hK' _ _ rfl (Below.refl _ _) (by simp)
              · have eg : s20 = _ := hdep ⟨7, .guard⟩ (by simp) rfl
                have eg := eg.symm
                subst eg
                go_simp
                have hK' := hK.out
                simp only [putAll, Act.put, List.setIfInBounds_toArray, List.set_cons_zero, List.set_cons_succ] at hK'
                exact hK' _ _ rfl (Below.refl _ _) (by simp)
              · have e10 : s23 = _ := hdep ⟨10, .data⟩ (by simp) rfl
                have e10 := e10.symm
                subst e10
                have eg : s20 = _ := hdep ⟨7, .guard⟩ (by simp) rfl
                have eg := eg.symm
                subst eg
                go_simp
                have hK' := hK.out
                simp only [putAll, Act.put, List.setIfInBounds_toArray, List.set_cons_zero, List.set_cons_succ] at hK'
                exact hK' _ _ (show _ = Value.int .i64 (k1 : Nat) by first | rfl | (congr 1; omega) | (rw [IntWalk.i64_in _ (by omega)]; congr 1; omega)) (Below.refl _ _) (by simp)
              · have e9 : s22 = _ := hdep ⟨9, .data⟩ (by simp) rfl
                have e9 := e9.symm
                subst e9
                have e11 : s24 = _ := hdep ⟨11, .data⟩ (by simp) rfl
                have e11 := e11.symm
                subst e11
                have eg : s20 = _ := hdep ⟨7, .guard⟩ (by simp) rfl
                have eg := eg.symm
                subst eg
                go_simp
                have hK' := hK.out
                simp only [putAll, Act.put, List.setIfInBounds_toArray, List.set_cons_zero, List.set_cons_succ] at hK'
                exact hK' _ _ rfl (Below.refl _ _) (by simp)
              · have e12 : s25 = _ := hdep ⟨12, .data⟩ (by simp) rfl
                have e12 := e12.symm
                subst e12
                have eg : s20 = _ := hdep ⟨7, .guard⟩ (by simp) rfl
                have eg := eg.symm
                subst eg
                go_simp
                have hK' := hK.out
                simp only [putAll, Act.put, List.setIfInBounds_toArray, List.set_cons_zero, List.set_cons_succ] at hK'
                exact hK' _ _ rfl (Below.refl _ _) (by simp)
              · have e13 : s26 = _ := hdep ⟨13, .data⟩ (by simp) rfl
                have e13 := e13.symm
                subst e13
                have eg : s20 = _ := hdep ⟨7, .guard⟩ (by simp) rfl
                have eg := eg.symm
                subst eg
                go_simp
                have hK' := hK.out
                simp only [putAll, Act.put, List.setIfInBounds_toArray, List.set_cons_zero, List.set_cons_succ] at hK'
                exact hK' _ _ rfl (Below.refl _ _) (by simp)
              · have eg : s20 = _ := hdep ⟨7, .guard⟩ (by simp) rfl
                have eg := eg.symm
                subst eg
                go_simp
                have hK' := hK.out
                simp only [putAll, Act.put, List.setIfInBounds_toArray, List.set_cons_zero, List.set_cons_succ] at hK'
                exact hK' _ _ rfl (Below.refl _ _) (by simp)
              · have e15 : s28 = _ := hdep ⟨15, .data⟩ (by simp) rfl
                have e15 := e15.symm
                subst e15
                have eg : s20 = _ := hdep ⟨7, .guard⟩ (by simp) rfl
                have eg := eg.symm
                subst eg
                go_simp
                have hK' := hK.out
                simp only [putAll, Act.put, List.setIfInBounds_toArray, List.set_cons_zero, List.set_cons_succ] at hK'
                exact hK' _ _ rfl (Below.refl _ _) (by simp)
              · have e14 : s27 = _ := hdep ⟨14, .data⟩ (by simp) rfl
                have e14 := e14.symm
                subst e14
                have e16 : s29 = _ := hdep ⟨16, .data⟩ (by simp) rfl
                have e16 := e16.symm
                subst e16
                have eg : s20 = _ := hdep ⟨7, .guard⟩ (by simp) rfl
                have eg := eg.symm
                subst eg
                go_simp
                have hK' := hK.out
                simp only [putAll, Act.put, List.setIfInBounds_toArray, List.set_cons_zero, List.set_cons_succ] at hK'
                exact hK' _ _ rfl (Below.refl _ _) (by simp)
              · have e7 : s20 = _ := hdep ⟨7, .data⟩ (by simp) rfl
                have e7 := e7.symm
                subst e7
                have e17 : s30 = _ := hdep ⟨17, .data⟩ (by simp) rfl
                have e17 := e17.symm
                subst e17
                have eg : s17 = _ := hdep ⟨4, .guard⟩ (by simp) rfl
                have eg := eg.symm
                subst eg
                go_simp
                have hK' := hK.out
                simp only [putAll, Act.put, List.setIfInBounds_toArray, List.set_cons_zero, List.set_cons_succ] at hK'
                exact hK' _ _ rfl (Below.refl _ _) (by simp)
              · have e4 : s17 = _ := hdep ⟨4, .data⟩ (by simp) rfl
                have e4 := e4.symm
                subst e4
                have e18 : s31 = _ := hdep ⟨18, .data⟩ (by simp) rfl
                have e18 := e18.symm
                subst e18
                go_simp
                have hK' := hK.out
                simp only [putAll, Act.put, List.setIfInBounds_toArray, List.set_cons_zero, List.set_cons_succ] at hK'
                exact hK' _ _ rfl (Below.refl _ _) (by simp)
              · omega
            · intro vs wx hvl hb hf hdist
              have hvs := vlen20 hvl
              obtain ⟨s13, s14, s15, s16, s17, s18, s19, s20, s21, s22, s23, s24, s25, s26, s27, s28, s29, s30, s31, s32, rfl⟩ := hvs
              have f19 : s32 = _ := hf 19 (by decide)
              have f19 := f19.symm
              subst f19
              have Hb9 := hid (lnGo hb HBw5.out)
              clear hf hvl hdist
              refine wpAny_done (by kernel_rfl) ?_ _
              try simp only [putAll, Act.put, List.setIfInBounds_toArray, List.set_cons_zero, List.set_cons_succ]
              have Hb9W := hid (lnGo hb HBW5.out)
              go_wp2_with fail
              go_roundw
              case rel => exact ⟨k + 1, by omega, by go_num, Hnx, Hb9W⟩
              case measure => simp [intOf] <;> omega
    · obtain rfl : k = L := by omega
      have hfin : l.take k = l := by rw [HLL.out, List.take_length]
      have HI' := HI.out
      rw [hfin] at HI'
      have hd : decide (lnIs l) = true := by simpa using HI'
      have HBf := hid (lnGo HB.out B0.out)
      clear HI HI' hfin HB
      go_wp2
      go_ret
      exact ⟨by rw [hd]; rfl, HBf.out⟩
end Go.Proofs.YtnfohbpgnbfmeaaGreatDoor
/- elenchusref06.put: a part put at its place. -/
namespace Go.Proofs.YtnfohbpgnbfmeaaGreatDoor
open Go.RowKit Big

/-- parts in a row of one's own that holds no word -/
def LsV (B : Nat) (w : World) (v : Value) (l : List (Int × Int)) : Prop :=
  ∃ css : List (List Value), css.length = l.length ∧ RowW w B 63 3 v l.length css.flatten ∧ (∀ c ∈ css, c.length = 3) ∧ ∀ i (h : i < l.length) (h' : i < css.length), PtR w css[i] l[i]
theorem LsV.nil (B : Nat) (w : World) : LsV B w (.slice none 0 0) [] := ⟨[], rfl, RowW.nil w B _ _, nofun, fun i h => absurd h (by simp)⟩
theorem LsV.shape {B : Nat} {w : World} {v : Value} {l : List (Int × Int)} (h : LsV B w v l) : ∃ p c, v = .slice p l.length c := by
  obtain ⟨css, h1, h2, h3, h4⟩ := h
  exact ownsRow_shape h2.1
theorem PtR.quiet {w w' : World} {c : List Value} {p : Int × Int} {S : Nat → Prop} (h : PtR w c p) (ha : Apart S w w') (hS : ∀ b, S b → NoWd w b) : PtR w' c p := by
  obtain ⟨n, s, e, h, k⟩ := h
  exact ⟨n, s, e, h.quiet ha hS, k⟩
theorem LsV.apart {B : Nat} {w w' : World} {v : Value} {l : List (Int × Int)} {S : Nat → Prop} (h : LsV B w v l) (ha : Apart S w w') (hS : ∀ b, S b → NoWd w b) (hv : ∀ g, v.ownBlock = some g → ¬ S g) : LsV B w' v l := by
  obtain ⟨css, h1, h2, h3, h4⟩ := h
  exact ⟨css, h1, h2.stays (fun g hg => ha.block g (World.ownsRow.lt h2.1 g hg).2 (hv g hg)), h3, fun i hi hi' => (h4 i hi hi').quiet ha hS⟩
theorem LsV.below {B : Nat} {w w' : World} {v : Value} {l : List (Int × Int)} (h : LsV B w v l) (hb : Below w.heap.size w w') : LsV B w' v l := h.apart (S := fun _ => False) (Apart.of_below hb) (fun _ hf => hf.elim) (fun _ _ hf => hf)
theorem LsV.base {B : Nat} {w : World} {v : Value} {l : List (Int × Int)} (h : LsV B w v l) : ∀ g, v.ownBlock = some g → B ≤ g ∧ g < w.heap.size ∧ NoWd w g := by
  obtain ⟨css, h1, h2, h3, h4⟩ := h
  exact fun g hg => ⟨(World.ownsRow.lt h2.1 g hg).1, (World.ownsRow.lt h2.1 g hg).2, h2.2 g hg⟩
theorem LsV.row {B : Nat} {w : World} {v : Value} {l : List (Int × Int)} (h : LsV B w v l) : ∃ xs, RowW w B 63 3 v l.length xs ∧
    ∀ w' v' c x, RowW w' B 63 3 v' (l.length + 1) (xs ++ c) → w.grownBy w' v.ownBlock → c.length = 3 → PtR w c x → LsV B w' v' (l ++ [x]) := by
  obtain ⟨css, h1, h2, h3, h4⟩ := h
  refine ⟨css.flatten, h2, fun w' v' c x hr hg hc hx => ?_⟩
  have ha : Apart (fun k => v.ownBlock = some k) w w' := (Apart.refl _ w).grown hg (fun k e => e)
  refine ⟨css ++ [c], by simp [h1], by simpa using hr, fun d hd => ?_, fun i hi hi' => ?_⟩
  · rcases List.mem_append.1 hd with hd | hd
    · exact h3 d hd
    · rw [List.mem_singleton.1 hd]; exact hc
  · by_cases hlt : i < l.length
    · rw [List.getElem_append_left hlt, List.getElem_append_left (by omega)]
      exact (h4 i hlt (by omega)).quiet ha (fun b hb => h2.2 b hb)
    · have e1 : i = l.length := by simp at hi; omega
      subst e1
      rw [List.getElem_append_right (Nat.le_refl _), List.getElem_append_right (by omega)]
      simpa [h1] using hx.quiet ha (fun b hb => h2.2 b hb)
theorem LsV.pts {B : Nat} {w : World} {v : Value} {l : List (Int × Int)} (h : LsV B w v l) : PtsR w v l := by
  obtain ⟨css, h1, h2, h3, h4⟩ := h
  exact OwnLs.in (e := 63) (B := B) ⟨css, h1, h2.1, h3, h4⟩
/-- what put has when it has looked at x, too -/
def putStep (p : Int × Int) (st : List (Int × Int) × Bool) (x : Int × Int) : List (Int × Int) × Bool :=
  if st.2 = false ∧ p.2 < x.2 then ((st.1 ++ [p]) ++ [x], true) else if p.2 = x.2 then (st.1 ++ [(x.1 + p.1, x.2)], true) else (st.1 ++ [x], st.2)
def putEnd (p : Int × Int) (st : List (Int × Int) × Bool) : List (Int × Int) := if st.2 = false then st.1 ++ [p] else st.1
theorem put_done (p : Int × Int) : ∀ (l o : List (Int × Int)), (∀ x ∈ l, p.2 < x.2) → l.foldl (putStep p) (o, true) = (o ++ l, true)
  | [], o, _ => by simp
  | x :: l, o, h => by
    have hx := h x (by simp)
    have e : putStep p (o, true) x = (o ++ [x], true) := by
      unfold putStep
      rw [if_neg (by simp), if_neg (by omega)]
    rw [List.foldl_cons, e, put_done p l _ (fun y hy => h y (by simp [hy]))]
    simp
theorem put_all (p : Int × Int) : ∀ (l o : List (Int × Int)), lnUp l → putEnd p (l.foldl (putStep p) (o, false)) = o ++ lnPut l p
  | [], o, _ => by simp [putEnd, lnPut]
  | x :: l, o, h => by
    obtain ⟨h1, h2⟩ := List.pairwise_cons.1 h
    rw [List.foldl_cons]
    unfold lnPut
    by_cases hlt : p.2 < x.2
    · have e : putStep p (o, false) x = ((o ++ [p]) ++ [x], true) := by unfold putStep; rw [if_pos ⟨rfl, hlt⟩]
      rw [e, put_done p l _ (fun y hy => Int.lt_trans hlt (h1 y hy)), if_pos hlt]
      simp [putEnd]
    · by_cases he : p.2 = x.2
      · have e : putStep p (o, false) x = (o ++ [(x.1 + p.1, x.2)], true) := by unfold putStep; rw [if_neg (fun h => hlt h.2), if_pos he]
        rw [e, put_done p l _ (fun y hy => by rw [he]; exact h1 y hy), if_neg hlt, if_pos he]
        simp [putEnd]
      · have e : putStep p (o, false) x = (o ++ [x], false) := by unfold putStep; rw [if_neg (fun h => hlt h.2), if_neg he]
        rw [e, put_all p l _ h2, if_neg hlt, if_neg he]
        simp
theorem putStep_len (p : Int × Int) (st : List (Int × Int) × Bool) (x : Int × Int) : (putStep p st x).1.length ≤ st.1.length + 2 := by
  unfold putStep
  split
  · simp
  · split
    · simp
    · simp
theorem putAll_len (p : Int × Int) : ∀ (l : List (Int × Int)) (st : List (Int × Int) × Bool), (l.foldl (putStep p) st).1.length ≤ st.1.length + 2 * l.length
  | [], st => by simp
  | x :: l, st => by
    have h1 := putAll_len p l (putStep p st x)
    have h2 := putStep_len p st x
    rw [List.foldl_cons, List.length_cons]
    omega
/-- what a call answers: parts -/
def RPts (l : List (Int × Int)) (w : World) (e : Ending) (w' : World) : Prop := ∃ v, e = .returned v ∧ PtsR w' v l ∧ Below w.heap.size w w'
set_option maxRecDepth 100000 in
set_option maxHeartbeats 6400000 in
theorem put_any (vl : Value) (l : List (Int × Int)) (d : Bool) (q : Option Addr) (n cq : Nat) (c t : Int) (w : World) (hl : PtsR w vl l) (hu : lnUp l) (hp : RawAt w (.agg #[.bool d, .slice q n cq]) c) (ht : wfI t)
    (hs : ∀ p ∈ l, sz W p.1.natAbs ≤ 1000000) (hc : sz W c.natAbs ≤ 1000000) (hlen : l.length ≤ 1000000) :
    Calls Tryz.prog 43 #[vl, .agg #[.bool d, .slice q n cq, .int .i64 t]] w (RPts (lnPut l (c, t)) w) := by
  obtain ⟨i0, hij, hz0, hz1, hz2⟩ := info_parts infoPart
  obtain ⟨p0, c0, rfl, j1, j2, -, j4⟩ := hl
  have J4 := hid j4; have HS := hid hs; have HC := hid hc; have HT := hid ht
  have HAll := hid (put_all (c, t) l [] hu)
  have HLen := hid (putAll_len (c, t))
  obtain ⟨W1, hW⟩ : ∃ W1, W1 = w.alloc (.cells #[.bool d, .slice q n cq, .int .i64 t] 63) := ⟨_, rfl⟩
  have b1 : Below w.heap.size w W1 := by rw [hW]; exact below1 w _
  have e1 : W1.heap[w.heap.size]? = some (.cells #[.bool d, .slice q n cq, .int .i64 t] 63 (0, 0)) := by rw [hW]; exact heap_alloc_new w _
  have z1 : W1.heap.size = w.heap.size + 1 := by rw [hW, size_alloc]
  have HRp := hid (hp.below b1)
  have B1 := hid b1; have E1 := hid e1; have Z1 := hid z1
  obtain ⟨B, hB⟩ : ∃ B, B = W1.heap.size := ⟨_, rfl⟩
  obtain ⟨L, hLL⟩ : ∃ L, L = l.length := ⟨_, rfl⟩
  have HLL := hid hLL
  rw [← hLL] at j1 hlen ⊢
  clear hu hp ht hs hc b1 e1 z1 j4 hLL
  go_enter Tryz.func43, Tryz.ntmps43
  go_upto_region 1 with fail
  rw [← hW]
  clear hW
  go_wp2_with fail
  go_loopw [5, 6, 11] (fun vo vd i wr => ∃ (k : Nat) (st : List (Int × Int) × Bool), k ≤ L ∧ i = .int .i64 (k : Nat) ∧ vd = .bool st.2 ∧ Hid (st = (l.take k).foldl (putStep (c, t)) ([], false)) ∧ Hid (LsV B wr vo st.1) ∧ Hid (Below W1.heap.size W1 wr)) (fun _ _ i _ => L - (intOf i).toNat)
  case atStart => exact ⟨0, ([], false), Nat.zero_le _, rfl, rfl, hid rfl, hid (LsV.nil _ _), hid (Below.refl _ _)⟩
  case round =>
    obtain ⟨k, ⟨qs, dn⟩, hk, rfl, rfl, HSt, HL, HB⟩ := hrel
    have HBw := hid (lnGo HB.out B1.out)
    have HL : Hid (LsV B wr _ qs) := HL
    have hshv := HL.out.shape
    obtain ⟨pvo, cvo, evo⟩ := hshv
    subst evo
    have hsr := HB.out.size
    have hqlen : qs.length ≤ 2000000 := by
      have h1 := HLen.out (l.take k) ([], false)
      rw [← HSt.out] at h1
      have h1 : qs.length ≤ 0 + 2 * (l.take k).length := h1
      rw [List.length_take] at h1
      omega
    have Epr := hid ((HB.out.block w.heap.size (by have := Z1.out; omega)).trans E1.out)
    by_cases hlt : k < L
    · have hkt : k < l.length := by rw [← HLL.out]; exact hlt
      have hlt' : (k : Int) < (L : Int) := by omega
      obtain ⟨b, o', rfl, hb, hc⟩ := J4.out (by omega)
      obtain ⟨cs, kk0, dx, s, ecs, hraw, hwf⟩ := hc k hkt
      have hsh := hraw.agg2
      obtain ⟨d', qx, nx, cx', e2⟩ := hsh
      obtain ⟨rfl, rfl⟩ : s = .slice qx nx cx' ∧ dx = d' := by
        injection e2 with e2
        simpa [and_comm] using e2
      clear e2
      subst ecs
      have y0 := (HBw.out.cell (p := ⟨b, o' + k * 3, none⟩) hb).trans (kk0 0 _ rfl)
      have y1 := (HBw.out.cell (p := ⟨b, o' + k * 3 + 1, none⟩) hb).trans (kk0 1 _ rfl)
      have y2 := (HBw.out.cell (p := ⟨b, o' + k * 3 + 2, none⟩) hb).trans (kk0 2 _ rfl)
      have Hnext : Hid ((l.take (k + 1)).foldl (putStep (c, t)) ([], false) = putStep (c, t) (qs, dn) (l[k].1, l[k].2)) := hid (by rw [List.take_succ_eq_append_getElem hkt, List.foldl_append, ← HSt.out]; rfl)
      have Hsx := hid (HS.out l[k] (List.getElem_mem hkt))
      have HX0 := hid hraw
      have hraw := hraw.below HBw.out
      have Hwx := hid hwf
      generalize l[k].1 = x1 at *
      generalize l[k].2 = x2 at *
      clear kk0 hc hwf
      obtain ⟨W5, hW5⟩ : ∃ W5, W5 = wr.alloc (.cells #[.bool dx, .slice qx nx cx', .int .i64 x2] 63) := ⟨_, rfl⟩
      have b5 : Below wr.heap.size wr W5 := by rw [hW5]; exact below1 wr _
      have e5 : W5.heap[wr.heap.size]? = some (.cells #[.bool dx, .slice qx nx cx', .int .i64 x2] 63 (0, 0)) := by rw [hW5]; exact heap_alloc_new wr _
      have z5 : W5.heap.size = wr.heap.size + 1 := by rw [hW5, size_alloc]
      have HR5 := hid (hraw.below b5)
      have HB5 := hid (lnGo b5 HB.out)
      have HL5 := hid (HL.out.below b5)
      have E5 := hid e5
      have Ep5 := hid ((b5.block w.heap.size (by have := Z1.out; omega)).trans Epr.out)
      have HRp5 := hid (HRp.out.below (lnGo b5 HB.out))
      obtain ⟨t0, t1, t2⟩ := lnCells3 e5
      obtain ⟨u0, u1, u2⟩ := lnCells3 Ep5.out
      clear b5 e5 HB
      by_cases h1 : dn = false ∧ t < x2
      · obtain ⟨rfl, hlt2⟩ := h1
        have hd1 : decide (t < x2) = true := by simpa using hlt2
        have hd2 : (t == x2) = false := by rw [beq_eq_false_iff_ne]; omega
        have Hnx : Hid ((l.take (k + 1)).foldl (putStep (c, t)) ([], false) = ((qs ++ [(c, t)]) ++ [(x1, x2)], true)) := hid (by rw [Hnext.out]; unfold putStep; rw [if_pos ⟨rfl, hlt2⟩])
        have HPp : Hid (PtR W5 [.bool d, .slice q n cq, .int .i64 t] (c, t)) := hid ⟨_, _, rfl, HRp5.out, HT.out⟩
        go_upto_region 6 with fail
        rw [← hW5]
        clear hW5 y0 y1 y2
        obtain ⟨a1, ha1⟩ : ∃ W', W' = W5.alloc (.cells #[.bool d, .slice q n cq, .int .i64 t] 63) := ⟨_, rfl⟩
        have ba1 : Below W5.heap.size W5 a1 := by rw [ha1]; exact below1 _ _
        have ea1 : a1.heap[wr.heap.size + 1]? = some (.cells #[.bool d, .slice q n cq, .int .i64 t] 63 (0, 0)) := by rw [ha1, ← show W5.heap.size = wr.heap.size + 1 by omega]; exact heap_alloc_new _ _
        have za1 : a1.heap.size = W5.heap.size + 1 := by rw [ha1, size_alloc]
        have hl1 := HL5.out.below ba1
        obtain ⟨xs1, hrow1, hgo1⟩ := hl1.row
        have Hrow1 := hid hrow1
        have Hgo1 := hid hgo1
        have Hpt1 := hid (HPp.out.below ba1)
        have hnews1 : ∀ j u, ([.bool d, .slice q n cq, .int .i64 t] : List Value)[j]? = some u → a1.cell? ((⟨wr.heap.size + 1, 0, none⟩ : Addr).add j) = some u := by
          intro j u hj
          rw [Go.WideShapes.add_plain, Nat.zero_add, cell_of_row _ _ _ _ _ _ ea1]
          simpa using hj
        have hll1 : (qs).length ≤ 4000000 := by omega
        have Ba1 := hid ba1
        clear hrow1 hgo1 ea1 hl1 ba1
        go_upto_region 12 with (at_builtin; rw [← ha1]; refine wpList_append_w rfl _ _ 31 rfl B 63 i0 _ 3 40 Tryz.underlying31 hij hz0 hz1 hz2 rfl (by decide) (by intro n h; simp [Value.cells] at h) _ (qs).length xs1 rfl Hrow1.out ⟨wr.heap.size + 1, 0, none⟩ 1 1 [.bool d, .slice q n cq, .int .i64 t] rfl rfl hnews1 (by intro u hu; simp at hu; rcases hu with rfl | rfl | rfl <;> rfl) (by intro n h; simp at h) (by simp [maxLen]; omega) (by omega) (by omega) ?_; intro v1 w1 ho1 hg1; have HLn1 := hid (Hgo1.out _ _ _ _ ho1 hg1 rfl Hpt1.out); have HBn1 : Hid (Below W1.heap.size W1 w1) := hid ((lnGo Ba1.out HB5.out).grown hg1 (by have := (lnGo Ba1.out HB5.out).size; omega) (fun g hg => by have := (World.ownsRow.lt Hrow1.out.1 g hg).1; omega)); have hx1 := (hg1.block wr.heap.size (by omega) (by intro e; have := (HL.out.base _ e.symm).2.1; omega)).trans ((Ba1.out.block wr.heap.size (by omega)).trans E5.out); have hp1 := (hg1.block w.heap.size (by have := Z1.out; have := HB5.out.size; omega) (by intro e; have := (HL.out.base _ e.symm).1; have := Z1.out; omega)).trans ((Ba1.out.block w.heap.size (by have := Z1.out; have := HB5.out.size; omega)).trans Ep5.out); clear t0 t1 t2 u0 u1 u2; obtain ⟨t0, t1, t2⟩ := lnCells3 hx1; obtain ⟨u0, u1, u2⟩ := lnCells3 hp1; have HPx : Hid (PtR w1 [.bool dx, .slice qx nx cx', .int .i64 x2] (x1, x2)) := hid ⟨_, _, rfl, HX0.out.below (lnGo HBn1.out B1.out), Hwx.out⟩; have hsv1 := HLn1.out.shape; obtain ⟨pv1, cv1, ev0⟩ := hsv1; have ev1 : v1 = .slice pv1 (qs.length + 1) cv1 := (by rw [ev0]; simp); clear ev0; subst ev1; have hzz1 := HBn1.out.size; clear ho1 hg1 hx1 hp1)
        obtain ⟨a2, ha2⟩ : ∃ W', W' = w1.alloc (.cells #[.bool dx, .slice qx nx cx', .int .i64 x2] 63) := ⟨_, rfl⟩
        have ba2 : Below w1.heap.size w1 a2 := by rw [ha2]; exact below1 _ _
        have ea2 : a2.heap[w1.heap.size]? = some (.cells #[.bool dx, .slice qx nx cx', .int .i64 x2] 63 (0, 0)) := by rw [ha2, ← show w1.heap.size = w1.heap.size by omega]; exact heap_alloc_new _ _
        have za2 : a2.heap.size = w1.heap.size + 1 := by rw [ha2, size_alloc]
        have hl2 := HLn1.out.below ba2
        obtain ⟨xs2, hrow2, hgo2⟩ := hl2.row
        have Hrow2 := hid hrow2
        have Hgo2 := hid hgo2
        have Hpt2 := hid (HPx.out.below ba2)
        have hnews2 : ∀ j u, ([.bool dx, .slice qx nx cx', .int .i64 x2] : List Value)[j]? = some u → a2.cell? ((⟨w1.heap.size, 0, none⟩ : Addr).add j) = some u := by
          intro j u hj
          rw [Go.WideShapes.add_plain, Nat.zero_add, cell_of_row _ _ _ _ _ _ ea2]
          simpa using hj
        have hll2 : ((qs ++ [(c, t)])).length ≤ 4000000 := by rw [List.length_append]; exact (by omega : qs.length + 1 ≤ 4000000)
        have Ba2 := hid ba2
        clear hrow2 hgo2 ea2 hl2 ba2
        go_wp2_with (at_builtin; rw [← ha2]; refine wpList_append_w rfl _ _ 31 rfl B 63 i0 _ 3 40 Tryz.underlying31 hij hz0 hz1 hz2 rfl (by decide) (by intro n h; simp [Value.cells] at h) _ ((qs ++ [(c, t)])).length xs2 rfl Hrow2.out ⟨w1.heap.size, 0, none⟩ 1 1 [.bool dx, .slice qx nx cx', .int .i64 x2] rfl rfl hnews2 (by intro u hu; simp at hu; rcases hu with rfl | rfl | rfl <;> rfl) (by intro n h; simp at h) (by simp [maxLen]; omega) (by omega) (by omega) ?_; intro v2 w2 ho2 hg2)
        have HLn2 := hid (Hgo2.out _ _ _ _ ho2 hg2 rfl Hpt2.out)
        have HBn2 : Hid (Below W1.heap.size W1 w2) := hid ((lnGo Ba2.out HBn1.out).grown hg2 (by have := (lnGo Ba2.out HBn1.out).size; omega) (fun g hg => by have := (World.ownsRow.lt Hrow2.out.1 g hg).1; omega))
        go_roundw
        case rel => exact ⟨k + 1, ((qs ++ [(c, t)]) ++ [(x1, x2)], true), by omega, by go_num, rfl, hid (Hnx.out.symm), HLn2, HBn2⟩
        case measure => simp [intOf] <;> omega
      · by_cases h2 : t = x2
        · subst h2
          have hd1 : decide (t < t) = false := by simp
          have hd2 : (t == t) = true := by simp
          have Hnx : Hid ((l.take (k + 1)).foldl (putStep (c, t)) ([], false) = (qs ++ [(x1 + c, t)], true)) := hid (by rw [Hnext.out]; unfold putStep; rw [if_neg (fun h => by have := h.2; simp at this), if_pos rfl])
          have HAd := hid (RAdd_any _ _ _ _ W5 HR5.out HRp5.out)
          go_upto_region 6 with fail
          rw [← hW5]
          clear hW5 y0 y1 y2
          cases dn with
          | true =>
            go_wp2_with fail
            refine HAd.out.mono ?_
            rintro e w6 ⟨v6, rfl, i6, b6⟩
            obtain ⟨p6, n6, c6, rfl, i6⟩ := i6.shape
            have z6 := b6.size
            have E6 := hid ((b6.block wr.heap.size (by omega)).trans E5.out)
            obtain ⟨t0, t1, t2⟩ := lnCells3 E6.out
            have fz0 := frozen_of_row w6 wr.heap.size 0 _ _ E6.out
            have fz1 := frozen_of_row w6 wr.heap.size 1 _ _ E6.out
            have hno : NoWd w6 wr.heap.size := NoWd.cells E6.out (by simp)
            obtain ⟨w7, hw7⟩ : ∃ w7, w7 = (w6.setCell ⟨wr.heap.size, 0, none⟩ (.bool (decide (x1 + c < 0)))).setCell ⟨wr.heap.size, 1, none⟩ (.slice p6 n6 c6) := ⟨_, rfl⟩
            have a7 : Apart (fun k => k = wr.heap.size) w6 w7 := by rw [hw7]; exact (apart_set _ _ _ _).go (apart_set _ _ _ _)
            have e7 : w7.heap[wr.heap.size]? = some (.cells #[.bool (decide (x1 + c < 0)), .slice p6 n6 c6, .int .i64 t] 63 (0, 0)) := by rw [hw7]; exact heap_setCell_same _ _ 1 _ _ _ (heap_setCell_same _ _ 0 _ _ _ E6.out)
            have s7 := a7.size
            have HL7 := hid ((HL5.out.below b6).apart a7 (fun b hb => by rw [hb]; exact hno) (fun g hg hs => by have := (HL.out.base g hg).2.1; omega))
            have HPx : Hid (PtR w7 [.bool (decide (x1 + c < 0)), .slice p6 n6 c6, .int .i64 t] (x1 + c, t)) := hid ⟨_, _, rfl, (i6.quiet a7 (fun b hb => by rw [hb]; exact hno)).rawL (by have h1 := Nat.le_trans (sz_mono W2 (Int.natAbs_add_le x1 c)) (sz_add W2 Hsx.out HC.out); omega), Hwx.out⟩
            have HB7 := hid ((lnGo b6 HB5.out).trans (a7.below (B := W1.heap.size) (by have := HB5.out.size; omega) (fun i hi => by rw [hi]; exact hsr)))
            clear b6 i6 a7 hno
            go_upto_region 12 with fail
            rw [← hw7]
            clear hw7 fz0 fz1 t0 t1 t2 u0 u1 u2
            obtain ⟨t0, t1, t2⟩ := lnCells3 e7
            obtain ⟨a5, ha5⟩ : ∃ W', W' = w7.alloc (.cells #[.bool (decide (x1 + c < 0)), .slice p6 n6 c6, .int .i64 t] 63) := ⟨_, rfl⟩
            have ba5 : Below w7.heap.size w7 a5 := by rw [ha5]; exact below1 _ _
            have ea5 : a5.heap[w7.heap.size]? = some (.cells #[.bool (decide (x1 + c < 0)), .slice p6 n6 c6, .int .i64 t] 63 (0, 0)) := by rw [ha5, ← show w7.heap.size = w7.heap.size by omega]; exact heap_alloc_new _ _
            have za5 : a5.heap.size = w7.heap.size + 1 := by rw [ha5, size_alloc]
            have hl5 := HL7.out.below ba5
            obtain ⟨xs5, hrow5, hgo5⟩ := hl5.row
            have Hrow5 := hid hrow5
            have Hgo5 := hid hgo5
            have Hpt5 := hid (HPx.out.below ba5)
            have hnews5 : ∀ j u, ([.bool (decide (x1 + c < 0)), .slice p6 n6 c6, .int .i64 t] : List Value)[j]? = some u → a5.cell? ((⟨w7.heap.size, 0, none⟩ : Addr).add j) = some u := by
              intro j u hj
              rw [Go.WideShapes.add_plain, Nat.zero_add, cell_of_row _ _ _ _ _ _ ea5]
              simpa using hj
            have hll5 : (qs).length ≤ 4000000 := by omega
            have Ba5 := hid ba5
            clear hrow5 hgo5 ea5 hl5 ba5
            go_wp2_with (at_builtin; rw [← ha5]; refine wpList_append_w rfl _ _ 31 rfl B 63 i0 _ 3 40 Tryz.underlying31 hij hz0 hz1 hz2 rfl (by decide) (by intro n h; simp [Value.cells] at h) _ (qs).length xs5 rfl Hrow5.out ⟨w7.heap.size, 0, none⟩ 1 1 [.bool (decide (x1 + c < 0)), .slice p6 n6 c6, .int .i64 t] rfl rfl hnews5 (by intro u hu; simp at hu; rcases hu with rfl | rfl | rfl <;> rfl) (by intro n h; simp at h) (by simp [maxLen]; omega) (by omega) (by omega) ?_; intro v5 w5 ho5 hg5)
            have HLn5 := hid (Hgo5.out _ _ _ _ ho5 hg5 rfl Hpt5.out)
            have HBn5 : Hid (Below W1.heap.size W1 w5) := hid ((lnGo Ba5.out HB7.out).grown hg5 (by have := (lnGo Ba5.out HB7.out).size; omega) (fun g hg => by have := (World.ownsRow.lt Hrow5.out.1 g hg).1; omega))
            go_roundw
            case rel => exact ⟨k + 1, (qs ++ [(x1 + c, t)], true), by omega, by go_num, rfl, hid (Hnx.out.symm), HLn5, HBn5⟩
            case measure => simp [intOf] <;> omega
          | false =>
            go_wp2_with fail
            refine HAd.out.mono ?_
            rintro e w6 ⟨v6, rfl, i6, b6⟩
            obtain ⟨p6, n6, c6, rfl, i6⟩ := i6.shape
            have z6 := b6.size
            have E6 := hid ((b6.block wr.heap.size (by omega)).trans E5.out)
            obtain ⟨t0, t1, t2⟩ := lnCells3 E6.out
            have fz0 := frozen_of_row w6 wr.heap.size 0 _ _ E6.out
            have fz1 := frozen_of_row w6 wr.heap.size 1 _ _ E6.out
            have hno : NoWd w6 wr.heap.size := NoWd.cells E6.out (by simp)
            obtain ⟨w7, hw7⟩ : ∃ w7, w7 = (w6.setCell ⟨wr.heap.size, 0, none⟩ (.bool (decide (x1 + c < 0)))).setCell ⟨wr.heap.size, 1, none⟩ (.slice p6 n6 c6) := ⟨_, rfl⟩
            have a7 : Apart (fun k => k = wr.heap.size) w6 w7 := by rw [hw7]; exact (apart_set _ _ _ _).go (apart_set _ _ _ _)
            have e7 : w7.heap[wr.heap.size]? = some (.cells #[.bool (decide (x1 + c < 0)), .slice p6 n6 c6, .int .i64 t] 63 (0, 0)) := by rw [hw7]; exact heap_setCell_same _ _ 1 _ _ _ (heap_setCell_same _ _ 0 _ _ _ E6.out)
            have s7 := a7.size
            have HL7 := hid ((HL5.out.below b6).apart a7 (fun b hb => by rw [hb]; exact hno) (fun g hg hs => by have := (HL.out.base g hg).2.1; omega))
            have HPx : Hid (PtR w7 [.bool (decide (x1 + c < 0)), .slice p6 n6 c6, .int .i64 t] (x1 + c, t)) := hid ⟨_, _, rfl, (i6.quiet a7 (fun b hb => by rw [hb]; exact hno)).rawL (by have h1 := Nat.le_trans (sz_mono W2 (Int.natAbs_add_le x1 c)) (sz_add W2 Hsx.out HC.out); omega), Hwx.out⟩
            have HB7 := hid ((lnGo b6 HB5.out).trans (a7.below (B := W1.heap.size) (by have := HB5.out.size; omega) (fun i hi => by rw [hi]; exact hsr)))
            clear b6 i6 a7 hno
            go_upto_region 12 with fail
            rw [← hw7]
            clear hw7 fz0 fz1 t0 t1 t2 u0 u1 u2
            obtain ⟨t0, t1, t2⟩ := lnCells3 e7
            obtain ⟨a5, ha5⟩ : ∃ W', W' = w7.alloc (.cells #[.bool (decide (x1 + c < 0)), .slice p6 n6 c6, .int .i64 t] 63) := ⟨_, rfl⟩
            have ba5 : Below w7.heap.size w7 a5 := by rw [ha5]; exact below1 _ _
            have ea5 : a5.heap[w7.heap.size]? = some (.cells #[.bool (decide (x1 + c < 0)), .slice p6 n6 c6, .int .i64 t] 63 (0, 0)) := by rw [ha5, ← show w7.heap.size = w7.heap.size by omega]; exact heap_alloc_new _ _
            have za5 : a5.heap.size = w7.heap.size + 1 := by rw [ha5, size_alloc]
            have hl5 := HL7.out.below ba5
            obtain ⟨xs5, hrow5, hgo5⟩ := hl5.row
            have Hrow5 := hid hrow5
            have Hgo5 := hid hgo5
            have Hpt5 := hid (HPx.out.below ba5)
            have hnews5 : ∀ j u, ([.bool (decide (x1 + c < 0)), .slice p6 n6 c6, .int .i64 t] : List Value)[j]? = some u → a5.cell? ((⟨w7.heap.size, 0, none⟩ : Addr).add j) = some u := by
              intro j u hj
              rw [Go.WideShapes.add_plain, Nat.zero_add, cell_of_row _ _ _ _ _ _ ea5]
              simpa using hj
            have hll5 : (qs).length ≤ 4000000 := by omega
            have Ba5 := hid ba5
            clear hrow5 hgo5 ea5 hl5 ba5
            go_wp2_with (at_builtin; rw [← ha5]; refine wpList_append_w rfl _ _ 31 rfl B 63 i0 _ 3 40 Tryz.underlying31 hij hz0 hz1 hz2 rfl (by decide) (by intro n h; simp [Value.cells] at h) _ (qs).length xs5 rfl Hrow5.out ⟨w7.heap.size, 0, none⟩ 1 1 [.bool (decide (x1 + c < 0)), .slice p6 n6 c6, .int .i64 t] rfl rfl hnews5 (by intro u hu; simp at hu; rcases hu with rfl | rfl | rfl <;> rfl) (by intro n h; simp at h) (by simp [maxLen]; omega) (by omega) (by omega) ?_; intro v5 w5 ho5 hg5)
            have HLn5 := hid (Hgo5.out _ _ _ _ ho5 hg5 rfl Hpt5.out)
            have HBn5 : Hid (Below W1.heap.size W1 w5) := hid ((lnGo Ba5.out HB7.out).grown hg5 (by have := (lnGo Ba5.out HB7.out).size; omega) (fun g hg => by have := (World.ownsRow.lt Hrow5.out.1 g hg).1; omega))
            go_roundw
            case rel => exact ⟨k + 1, (qs ++ [(x1 + c, t)], true), by omega, by go_num, rfl, hid (Hnx.out.symm), HLn5, HBn5⟩
            case measure => simp [intOf] <;> omega
        · have hd2 : (t == x2) = false := by rw [beq_eq_false_iff_ne]; exact h2
          have Hnx : Hid ((l.take (k + 1)).foldl (putStep (c, t)) ([], false) = (qs ++ [(x1, x2)], dn)) := hid (by rw [Hnext.out]; unfold putStep; rw [if_neg h1, if_neg h2])
          have HPx : Hid (PtR W5 [.bool dx, .slice qx nx cx', .int .i64 x2] (x1, x2)) := hid ⟨_, _, rfl, HR5.out, Hwx.out⟩
          go_upto_region 6 with fail
          rw [← hW5]
          clear hW5 y0 y1 y2
          obtain ⟨a3, ha3⟩ : ∃ W', W' = W5.alloc (.cells #[.bool dx, .slice qx nx cx', .int .i64 x2] 63) := ⟨_, rfl⟩
          have ba3 : Below W5.heap.size W5 a3 := by rw [ha3]; exact below1 _ _
          have ea3 : a3.heap[wr.heap.size + 1]? = some (.cells #[.bool dx, .slice qx nx cx', .int .i64 x2] 63 (0, 0)) := by rw [ha3, ← show W5.heap.size = wr.heap.size + 1 by omega]; exact heap_alloc_new _ _
          have za3 : a3.heap.size = W5.heap.size + 1 := by rw [ha3, size_alloc]
          have hl3 := HL5.out.below ba3
          obtain ⟨xs3, hrow3, hgo3⟩ := hl3.row
          have Hrow3 := hid hrow3
          have Hgo3 := hid hgo3
          have Hpt3 := hid (HPx.out.below ba3)
          have hnews3 : ∀ j u, ([.bool dx, .slice qx nx cx', .int .i64 x2] : List Value)[j]? = some u → a3.cell? ((⟨wr.heap.size + 1, 0, none⟩ : Addr).add j) = some u := by
            intro j u hj
            rw [Go.WideShapes.add_plain, Nat.zero_add, cell_of_row _ _ _ _ _ _ ea3]
            simpa using hj
          have hll3 : (qs).length ≤ 4000000 := by omega
          have Ba3 := hid ba3
          clear hrow3 hgo3 ea3 hl3 ba3
          cases dn with
          | true =>
            go_wp2_with (at_builtin; rw [← ha3]; refine wpList_append_w rfl _ _ 31 rfl B 63 i0 _ 3 40 Tryz.underlying31 hij hz0 hz1 hz2 rfl (by decide) (by intro n h; simp [Value.cells] at h) _ (qs).length xs3 rfl Hrow3.out ⟨wr.heap.size + 1, 0, none⟩ 1 1 [.bool dx, .slice qx nx cx', .int .i64 x2] rfl rfl hnews3 (by intro u hu; simp at hu; rcases hu with rfl | rfl | rfl <;> rfl) (by intro n h; simp at h) (by simp [maxLen]; omega) (by omega) (by omega) ?_; intro v3 w3 ho3 hg3)
            have HLn3 := hid (Hgo3.out _ _ _ _ ho3 hg3 rfl Hpt3.out)
            have HBn3 : Hid (Below W1.heap.size W1 w3) := hid ((lnGo Ba3.out HB5.out).grown hg3 (by have := (lnGo Ba3.out HB5.out).size; omega) (fun g hg => by have := (World.ownsRow.lt Hrow3.out.1 g hg).1; omega))
            go_roundw
            case rel => exact ⟨k + 1, (qs ++ [(x1, x2)], true), by omega, by go_num, rfl, hid (Hnx.out.symm), HLn3, HBn3⟩
            case measure => simp [intOf] <;> omega
          | false =>
            have hd1 : decide (t < x2) = false := by simpa using h1
            go_wp2_with (at_builtin; rw [← ha3]; refine wpList_append_w rfl _ _ 31 rfl B 63 i0 _ 3 40 Tryz.underlying31 hij hz0 hz1 hz2 rfl (by decide) (by intro n h; simp [Value.cells] at h) _ (qs).length xs3 rfl Hrow3.out ⟨wr.heap.size + 1, 0, none⟩ 1 1 [.bool dx, .slice qx nx cx', .int .i64 x2] rfl rfl hnews3 (by intro u hu; simp at hu; rcases hu with rfl | rfl | rfl <;> rfl) (by intro n h; simp at h) (by simp [maxLen]; omega) (by omega) (by omega) ?_; intro v3 w3 ho3 hg3)
            have HLn3 := hid (Hgo3.out _ _ _ _ ho3 hg3 rfl Hpt3.out)
            have HBn3 : Hid (Below W1.heap.size W1 w3) := hid ((lnGo Ba3.out HB5.out).grown hg3 (by have := (lnGo Ba3.out HB5.out).size; omega) (fun g hg => by have := (World.ownsRow.lt Hrow3.out.1 g hg).1; omega))
            go_roundw
            case rel => exact ⟨k + 1, (qs ++ [(x1, x2)], false), by omega, by go_num, rfl, hid (Hnx.out.symm), HLn3, HBn3⟩
            case measure => simp [intOf] <;> omega
    · obtain rfl : k = L := by omega
      have hfin : l.take k = l := by rw [HLL.out, List.take_length]
      have hst := HSt.out
      rw [hfin] at hst
      have hall := HAll.out
      rw [← hst] at hall
      cases dn with
      | true =>
        have hq : qs = lnPut l (c, t) := by simpa [putEnd] using hall
        have HLf := HL.out.pts
        rw [hq] at HLf
        have HLF := hid HLf
        clear hall hst HLf
        go_wp2_with fail
        go_ret
        exact ⟨_, rfl, HLF.out, HBw.out⟩
      | false =>
        have hq : qs ++ [(c, t)] = lnPut l (c, t) := by simpa [putEnd] using hall
        clear hall hst
        have HPp : Hid (PtR wr [.bool d, .slice q n cq, .int .i64 t] (c, t)) := hid ⟨_, _, rfl, HRp.out.below HB.out, HT.out⟩
        obtain ⟨u0, u1, u2⟩ := lnCells3 Epr.out
        obtain ⟨a4, ha4⟩ : ∃ W', W' = wr.alloc (.cells #[.bool d, .slice q n cq, .int .i64 t] 63) := ⟨_, rfl⟩
        have ba4 : Below wr.heap.size wr a4 := by rw [ha4]; exact below1 _ _
        have ea4 : a4.heap[wr.heap.size]? = some (.cells #[.bool d, .slice q n cq, .int .i64 t] 63 (0, 0)) := by rw [ha4, ← show wr.heap.size = wr.heap.size by omega]; exact heap_alloc_new _ _
        have za4 : a4.heap.size = wr.heap.size + 1 := by rw [ha4, size_alloc]
        have hl4 := HL.out.below ba4
        obtain ⟨xs4, hrow4, hgo4⟩ := hl4.row
        have Hrow4 := hid hrow4
        have Hgo4 := hid hgo4
        have Hpt4 := hid (HPp.out.below ba4)
        have hnews4 : ∀ j u, ([.bool d, .slice q n cq, .int .i64 t] : List Value)[j]? = some u → a4.cell? ((⟨wr.heap.size, 0, none⟩ : Addr).add j) = some u := by
          intro j u hj
          rw [Go.WideShapes.add_plain, Nat.zero_add, cell_of_row _ _ _ _ _ _ ea4]
          simpa using hj
        have hll4 : (qs).length ≤ 4000000 := by omega
        have Ba4 := hid ba4
        clear hrow4 hgo4 ea4 hl4 ba4
        go_wp2_with (at_builtin; rw [← ha4]; refine wpList_append_w rfl _ _ 31 rfl B 63 i0 _ 3 40 Tryz.underlying31 hij hz0 hz1 hz2 rfl (by decide) (by intro n h; simp [Value.cells] at h) _ (qs).length xs4 rfl Hrow4.out ⟨wr.heap.size, 0, none⟩ 1 1 [.bool d, .slice q n cq, .int .i64 t] rfl rfl hnews4 (by intro u hu; simp at hu; rcases hu with rfl | rfl | rfl <;> rfl) (by intro n h; simp at h) (by simp [maxLen]; omega) (by omega) (by omega) ?_; intro v4 w4 ho4 hg4)
        have HLn4 := hid (Hgo4.out _ _ _ _ ho4 hg4 rfl Hpt4.out)
        have HBn4 : Hid (Below W1.heap.size W1 w4) := hid ((lnGo Ba4.out HB.out).grown hg4 (by have := (lnGo Ba4.out HB.out).size; omega) (fun g hg => by have := (World.ownsRow.lt Hrow4.out.1 g hg).1; omega))
        have HLf := HLn4.out.pts
        rw [hq] at HLf
        have HLF := hid HLf
        go_ret
        exact ⟨_, rfl, HLF.out, lnGo HBn4.out B1.out⟩
end Go.Proofs.YtnfohbpgnbfmeaaGreatDoor
/- linear.Value. -/
namespace Go.Proofs.YtnfohbpgnbfmeaaGreatDoor
open Go.RowKit Big

/-- a number's two cells, as it is handed in -/
def NumR (w : World) (c : List Value) (z : Int) : Prop := ∃ n s, c = [.bool n, s] ∧ RawAt w (.agg #[.bool n, s]) z
theorem NumR.below {w w' : World} {c : List Value} {z : Int} (h : NumR w c z) (hb : Below w.heap.size w w') : NumR w' c z := by
  obtain ⟨n, s, e, h⟩ := h
  exact ⟨n, s, e, h.below hb⟩
abbrev NmsR := LsIn 2 NumR
theorem NmsR.below {w w' : World} {v : Value} {l : List Int} (h : NmsR w v l) (hb : Below w.heap.size w w') : NmsR w' v l := LsIn.below (Q := NumR) (fun h hb => NumR.below h hb) h hb
def lnAtv (vals : List Int) (t : Int) : Int := vals[t.toNat]?.getD 0
/-- the value of parts, or an error -/
def lnValue (a : List (Int × Int) × Int) (vals : List Int) : Int × Int :=
  if ∀ p ∈ a.1, 0 ≤ p.2 ∧ p.2 < vals.length then (a.2 + lnVal (lnAtv vals) a.1, 0) else (0, 13)
/-- what a call answers: a number and an error -/
def RIntE (r : Int × Int) (w : World) (e : Ending) (w' : World) : Prop := ∃ v, e = .returned (.tuple #[v, .int .i64 r.2]) ∧ IntAt w' v r.1 ∧ Below w.heap.size w w'
end Go.Proofs.YtnfohbpgnbfmeaaGreatDoor
/- elenchusref06.Value. -/
namespace Go.Proofs.YtnfohbpgnbfmeaaGreatDoor
open Go.RowKit Big

theorem RWh_num (d : Bool) (s : Value) (z : Int) (w : World) (h : RawAt w (.agg #[.bool d, s]) z) : Calls Tryz.prog 40 #[.bool d, s] w (RInt z w) := by
  obtain ⟨neg, s', l, e, h1, h2, h3, rfl⟩ := h
  injection e with e
  simp only [Array.mk.injEq, List.cons.injEq, and_true] at e
  obtain ⟨e1, rfl⟩ := e
  injection e1 with e1
  subst e1
  exact Whole_any _ _ l w h1 h2 (Nat.le_trans h3 (by decide))
end Go.Proofs.YtnfohbpgnbfmeaaGreatDoor
/- elenchusref06.clean: the parts that are not 0, made anew. -/
namespace Go.Proofs.YtnfohbpgnbfmeaaGreatDoor
open Go.RowKit Big

/-- what a call answers: parts, told -/
def RPtsTF (l : List (Int × Int)) (w : World) (e : Ending) (w' : World) : Prop := ∃ v, e = .returned v ∧ PtsT w' v l ∧ Below w.heap.size w w' ∧ ∀ g, v.ownBlock = some g → w.heap.size ≤ g
def RPtsT (l : List (Int × Int)) (w : World) (e : Ending) (w' : World) : Prop := ∃ v, e = .returned v ∧ PtsT w' v l ∧ Below w.heap.size w w'
set_option maxRecDepth 100000 in
set_option maxHeartbeats 6400000 in
theorem clean_anyF (vl : Value) (l : List (Int × Int)) (w : World) (hl : PtsR w vl l) (hlen : l.length ≤ 2000000) :
    Calls Tryz.prog 44 #[vl] w (RPtsTF (lnClean l) w) := by
  obtain ⟨i0, hij, hz0, hz1, hz2⟩ := info_parts infoPart
  obtain ⟨p0, c0, rfl, j1, j2, -, j4⟩ := hl
  have J4 := hid j4
  obtain ⟨B, hB⟩ : ∃ B, B = w.heap.size := ⟨_, rfl⟩
  obtain ⟨L, hLL⟩ : ∃ L, L = l.length := ⟨_, rfl⟩
  have HLL := hid hLL
  rw [← hLL] at j1 hlen ⊢
  clear j4 hLL
  go_enter Tryz.func44, Tryz.ntmps44
  go_wp2_with fail
  go_loopw [3, 8] (fun vo i wr => ∃ (k : Nat) (st : List (Int × Int)), k ≤ L ∧ i = .int .i64 (k : Nat) ∧ st.length ≤ k ∧ Hid (st = lnClean (l.take k)) ∧ Hid (LsW B wr vo st) ∧ Hid (Below w.heap.size w wr)) (fun _ i _ => L - (intOf i).toNat)
  case atStart => exact ⟨0, [], Nat.zero_le _, rfl, Nat.le_refl _, hid rfl, hid (LsW.nil _ _), hid (Below.refl _ _)⟩
  case round =>
    obtain ⟨k, qs, hk, rfl, hqk, HSt, HL, HB⟩ := hrel
    have hshv := HL.out.shape
    obtain ⟨pvo, cvo, evo⟩ := hshv
    subst evo
    have hsr := HB.out.size
    by_cases hlt : k < L
    · have hkt : k < l.length := by rw [← HLL.out]; exact hlt
      have hlt' : (k : Int) < (L : Int) := by omega
      obtain ⟨b, o', rfl, hb, hc⟩ := J4.out (by omega)
      obtain ⟨cs, kk0, dx, s, ecs, hraw, hwf⟩ := hc k hkt
      have hsh := hraw.agg2
      obtain ⟨d', qx, nx, cx', e2⟩ := hsh
      obtain ⟨rfl, rfl⟩ : s = .slice qx nx cx' ∧ dx = d' := by
        injection e2 with e2
        simpa [and_comm] using e2
      clear e2
      subst ecs
      have y0 := (HB.out.cell (p := ⟨b, o' + k * 3, none⟩) hb).trans (kk0 0 _ rfl)
      have y1 := (HB.out.cell (p := ⟨b, o' + k * 3 + 1, none⟩) hb).trans (kk0 1 _ rfl)
      have y2 := (HB.out.cell (p := ⟨b, o' + k * 3 + 2, none⟩) hb).trans (kk0 2 _ rfl)
      have Hnext : Hid (lnClean (l.take (k + 1)) = qs ++ (if l[k].1 = 0 then [] else [(l[k].1, l[k].2)])) := hid (by
        rw [List.take_succ_eq_append_getElem hkt, HSt.out]
        unfold lnClean
        rw [List.filter_append]
        by_cases h0 : l[k].1 = 0
        · rw [if_pos h0]
          simp [h0]
        · rw [if_neg h0]
          simp [h0])
      have hraw := hraw.below HB.out
      have Hwx := hid hwf
      generalize l[k].1 = c at *
      generalize l[k].2 = t at *
      clear kk0 hc hwf
      obtain ⟨W5, hW5⟩ : ∃ W5, W5 = wr.alloc (.cells #[.bool dx, .slice qx nx cx', .int .i64 t] 63) := ⟨_, rfl⟩
      have b5 : Below wr.heap.size wr W5 := by rw [hW5]; exact below1 wr _
      have e5 : W5.heap[wr.heap.size]? = some (.cells #[.bool dx, .slice qx nx cx', .int .i64 t] 63 (0, 0)) := by rw [hW5]; exact heap_alloc_new wr _
      have z5 : W5.heap.size = wr.heap.size + 1 := by rw [hW5, size_alloc]
      have HR5 := hid (hraw.below b5)
      have HB5 := hid (lnGo b5 HB.out)
      have HL5 := hid (HL.out.below b5)
      have E5 := hid e5
      obtain ⟨t0, t1, t2⟩ := lnCells3 e5
      have HSg := hid (RSign_any _ c W5 HR5.out)
      clear b5 e5 hraw HB
      go_upto_region 5 with fail
      rw [← hW5]
      clear hW5 y0 y1 y2
      by_cases hc0 : c = 0
      · have hs0 : (c.sign == 0) = true := by rw [hc0]; rfl
        have hs1 : (c.sign != 0) = false := by rw [hc0]; rfl
        go_wp2_with fail
        refine HSg.out.mono ?_
        rintro e w6 ⟨rfl, b6⟩
        go_wp2_with fail
        go_roundw
        case rel => exact ⟨k + 1, qs, by omega, by go_num, by omega, hid (by rw [Hnext.out, if_pos hc0, List.append_nil]), hid (HL5.out.below b6), hid (lnGo b6 HB5.out)⟩
        case measure => simp [intOf] <;> omega
      · have hs0 : (c.sign == 0) = false := by
          rw [beq_eq_false_iff_ne]
          exact fun h => hc0 (Int.sign_eq_zero_iff_zero.1 h)
        have hs1 : (c.sign != 0) = true := by rw [bne, hs0]; rfl
        go_wp2_with fail
        refine HSg.out.mono ?_
        rintro e w6 ⟨rfl, b6⟩
        have z6 := b6.size
        have E6 := hid ((b6.block wr.heap.size (by omega)).trans E5.out)
        clear t0 t1 t2
        obtain ⟨t0, t1, t2⟩ := lnCells3 E6.out
        have HWh := hid (RWh_num _ _ c w6 (HR5.out.below b6))
        have B6 := hid b6
        clear b6
        go_wp2_with fail
        refine HWh.out.mono ?_
        rintro e w7 ⟨v7, rfl, i7, b7⟩
        obtain ⟨p6, n6, c6, rfl, i7⟩ := i7.shape
        have z7 := b7.size
        have E7 := hid ((b7.block wr.heap.size (by omega)).trans E6.out)
        clear t0 t1 t2
        obtain ⟨t0, t1, t2⟩ := lnCells3 E7.out
        have fz0 := frozen_of_row w7 wr.heap.size 0 _ _ E7.out
        have fz1 := frozen_of_row w7 wr.heap.size 1 _ _ E7.out
        have hno : NoWd w7 wr.heap.size := NoWd.cells E7.out (by simp)
        obtain ⟨w8, hw8⟩ : ∃ w8, w8 = (w7.setCell ⟨wr.heap.size, 0, none⟩ (.bool (decide (c < 0)))).setCell ⟨wr.heap.size, 1, none⟩ (.slice p6 n6 c6) := ⟨_, rfl⟩
        have a8 : Apart (fun k => k = wr.heap.size) w7 w8 := by rw [hw8]; exact (apart_set _ _ _ _).go (apart_set _ _ _ _)
        have e8 : w8.heap[wr.heap.size]? = some (.cells #[.bool (decide (c < 0)), .slice p6 n6 c6, .int .i64 t] 63 (0, 0)) := by rw [hw8]; exact heap_setCell_same _ _ 1 _ _ _ (heap_setCell_same _ _ 0 _ _ _ E7.out)
        have s8 := a8.size
        have HL8 := hid (((HL5.out.below B6.out).below b7).apart a8 (fun b hb => by rw [hb]; exact hno) (fun g hg hs => by have := (HL.out.base g hg).2.1; omega))
        have HPx : Hid (PtT w8 [.bool (decide (c < 0)), .slice p6 n6 c6, .int .i64 t] (c, t)) := hid ⟨_, rfl, i7.quiet a8 (fun b hb => by rw [hb]; exact hno), Hwx.out⟩
        have HB8 := hid ((lnGo b7 (lnGo B6.out HB5.out)).trans (a8.below (B := w.heap.size) (by have := HB5.out.size; omega) (fun i hi => by rw [hi]; exact hsr)))
        clear b7 i7 a8 hno
        go_upto_region 7 with fail
        rw [← hw8]
        clear hw8 fz0 fz1 t0 t1 t2
        obtain ⟨t0, t1, t2⟩ := lnCells3 e8
        obtain ⟨a5, ha5⟩ : ∃ W', W' = w8.alloc (.cells #[.bool (decide (c < 0)), .slice p6 n6 c6, .int .i64 t] 63) := ⟨_, rfl⟩
        have ba5 : Below w8.heap.size w8 a5 := by rw [ha5]; exact below1 _ _
        have ea5 : a5.heap[w8.heap.size]? = some (.cells #[.bool (decide (c < 0)), .slice p6 n6 c6, .int .i64 t] 63 (0, 0)) := by rw [ha5, ← show w8.heap.size = w8.heap.size by omega]; exact heap_alloc_new _ _
        have za5 : a5.heap.size = w8.heap.size + 1 := by rw [ha5, size_alloc]
        have hl5 := HL8.out.below ba5
        obtain ⟨xs5, hrow5, hgo5⟩ := hl5.row
        have Hrow5 := hid hrow5
        have Hgo5 := hid hgo5
        have Hpt5 := hid (HPx.out.below ba5)
        have hnews5 : ∀ j u, ([.bool (decide (c < 0)), .slice p6 n6 c6, .int .i64 t] : List Value)[j]? = some u → a5.cell? ((⟨w8.heap.size, 0, none⟩ : Addr).add j) = some u := by
          intro j u hj
          rw [Go.WideShapes.add_plain, Nat.zero_add, cell_of_row _ _ _ _ _ _ ea5]
          simpa using hj
        have hll5 : (qs).length ≤ 4000000 := by omega
        have Ba5 := hid ba5
        clear hrow5 hgo5 ea5 hl5 ba5
        go_wp2_with (at_builtin; rw [← ha5]; refine wpList_append_w rfl _ _ 31 rfl B 63 i0 _ 3 40 Tryz.underlying31 hij hz0 hz1 hz2 rfl (by decide) (by intro n h; simp [Value.cells] at h) _ (qs).length xs5 rfl Hrow5.out ⟨w8.heap.size, 0, none⟩ 1 1 [.bool (decide (c < 0)), .slice p6 n6 c6, .int .i64 t] rfl rfl hnews5 (by intro u hu; simp at hu; rcases hu with rfl | rfl | rfl <;> rfl) (by intro n h; simp at h) (by simp [maxLen]; omega) (by omega) (by omega) ?_; intro v5 w5 ho5 hg5)
        have HLn5 := hid (Hgo5.out _ _ _ _ ho5 hg5 rfl Hpt5.out)
        have HBn5 : Hid (Below w.heap.size w w5) := hid ((lnGo Ba5.out HB8.out).grown hg5 (by have := (lnGo Ba5.out HB8.out).size; omega) (fun g hg => by have := (World.ownsRow.lt Hrow5.out.1 g hg).1; omega))
        go_roundw
        case rel => exact ⟨k + 1, qs ++ [(c, t)], by omega, by go_num, (by rw [List.length_append]; exact Nat.succ_le_succ hqk), hid (by rw [Hnext.out, if_neg hc0]), HLn5, HBn5⟩
        case measure => simp [intOf] <;> omega
    · obtain rfl : k = L := by omega
      have hfin : l.take k = l := by rw [HLL.out, List.take_length]
      have hst := HSt.out
      rw [hfin] at hst
      have HLF : Hid (PtsT wr (.slice pvo qs.length cvo) (lnClean l)) := hid (by rw [← hst]; exact HL.out.pts)
      have HFr := hid (HL.out.base)
      clear hst
      go_wp2_with fail
      go_ret
      exact ⟨_, rfl, HLF.out, HB.out, fun g hg => by rw [← hB]; exact (HFr.out g hg).1⟩
theorem clean_any (vl : Value) (l : List (Int × Int)) (w : World) (hl : PtsR w vl l) (hlen : l.length ≤ 2000000) :
    Calls Tryz.prog 44 #[vl] w (RPtsT (lnClean l) w) := (clean_anyF vl l w hl hlen).mono fun _ _ h => by
  obtain ⟨v, h1, h2, h3, -⟩ := h
  exact ⟨v, h1, h2, h3⟩
end Go.Proofs.YtnfohbpgnbfmeaaGreatDoor
/- lengths and sizes of what put has put together so far (pure) -/
namespace Go.Proofs.YtnfohbpgnbfmeaaGreatDoor
open Go.RowKit Big

theorem lnPutLen (p : Int × Int) : ∀ l, (lnPut l p).length ≤ l.length + 1
  | [] => by simp [lnPut]
  | x :: l => by
    have ih := lnPutLen p l
    unfold lnPut
    split
    · simp
    · split
      · simp
      · simp only [List.length_cons]; omega
theorem lnAllLen : ∀ (ps l : List (Int × Int)), (ps.foldl lnPut l).length ≤ l.length + ps.length
  | [], l => by simp
  | p :: ps, l => by
    rw [List.foldl_cons]
    have := lnAllLen ps (lnPut l p)
    have := lnPutLen p l
    simp only [List.length_cons]
    omega
theorem lnUp_cf : ∀ (l : List (Int × Int)), lnUp l → ∀ p ∈ l, lnCf l p.2 = p.1
  | [], _, p, hp => by cases hp
  | x :: l, h, p, hp => by
    rcases List.mem_cons.1 hp with rfl | hp
    · exact lnCf_head h
    · obtain ⟨h1, h2⟩ := List.pairwise_cons.1 h
      have hx := h1 p hp
      have ih := lnUp_cf l h2 p hp
      have e : lnCf (x :: l) p.2 = lnCf [x] p.2 + lnCf l p.2 := lnCf_append [x] l p.2
      rw [e, ih, lnCf_none (l := [x]) (by intro q hq; rw [List.mem_singleton.1 hq]; omega)]
      omega
/-- the sizes of what has been put together so far -/
theorem lnAllSz {N : Nat} (hN : 1 ≤ N) {ps : List (Int × Int)} (h : ∀ p ∈ ps, sz W p.1.natAbs ≤ N) : ∀ p ∈ ps.foldl lnPut [], sz W p.1.natAbs ≤ N + ps.length := by
  intro p hp
  have hu : lnUp (ps.foldl lnPut []) := lnAll_up ps [] List.Pairwise.nil
  have e := lnUp_cf _ hu p hp
  rw [lnAll_cf] at e
  have e0 : lnCf [] p.2 = 0 := rfl
  rw [e0, Int.zero_add] at e
  rw [← e]
  exact lnCf_sz hN p.2 ps h
end Go.Proofs.YtnfohbpgnbfmeaaGreatDoor
/- elenchusref06.Add. -/
namespace Go.Proofs.YtnfohbpgnbfmeaaGreatDoor
open Go.RowKit Big

/-- what put has put together of two lists so far -/
def lnUpTo (a b : List (Int × Int)) (m : Nat) : List (Int × Int) := (a ++ b.take m).foldl lnPut []
def lnP (l : List (Int × Int)) : SFact := ⟨fun v w => ∃ p n c, v = .slice p n c ∧ PtsT w v l, fun _ _ _ ⟨p, n, c, h1, h2⟩ hb => ⟨p, n, c, h1, h2.below hb⟩⟩
def lnS8 (X : List (Int × Int) × Int) : SFact := ⟨fun v w => ∃ p n c q k d, v = .agg #[.slice p n c, .bool (decide (X.2 < 0)), .slice q k d] ∧ LnT w v X, fun _ _ _ ⟨p, n, c, q, k, d, h1, h2⟩ hb => ⟨p, n, c, q, k, d, h1, h2.below hb⟩⟩

set_option maxRecDepth 100000 in
set_option maxHeartbeats 6400000 in
theorem RAdd_lin (va vb : Value) (a b : List (Int × Int) × Int) (w : World) {N : Nat} (hN : 1 ≤ N) (ha : LnR w va a) (hb : LnR w vb b) (sa : LnSz N a) (sb : LnSz N b) (hl : N + (a.1.length + b.1.length) ≤ 1000000) :
    Calls Tryz.prog 23 #[va, vb] w (RLin (lnSum (a.1 ++ b.1), a.2 + b.2) w) := by
  obtain ⟨p0, n0, c0, b0, q0, k0, d0, rfl⟩ := ha.agg3
  obtain ⟨p1, n1, c1, b1, q1, k1, d1, rfl⟩ := hb.agg3
  have HA := hid ha; have HB := hid hb; have SA := hid sa; have SB := hid sb; have HL := hid hl
  clear ha hb sa sb hl
  go_enter Tryz.func23, Tryz.ntmps23
  go_wp2_with fail
  obtain ⟨W3, hW⟩ : ∃ W3, W3 = ((w.alloc (.cells #[.slice p0 n0 c0, .bool b0, .slice q0 k0 d0] 37)).alloc (.cells #[.slice p1 n1 c1, .bool b1, .slice q1 k1 d1] 37)).alloc (.cells #[.slice none 0 0, .bool false, .slice none 0 0] 37) := ⟨_, rfl⟩
  rw [← hW]
  have hb3 : Below w.heap.size w W3 := by rw [hW]; exact ((below1 _ _).alloc (by simp) _).alloc (by simp; omega) _
  have z3 : W3.heap.size = w.heap.size + 3 := by rw [hW]; simp
  have e0 : W3.heap[w.heap.size]? = some (.cells #[.slice p0 n0 c0, .bool b0, .slice q0 k0 d0] 37 (0, 0)) := by rw [hW, heap_alloc_old _ _ (by simp; omega), heap_alloc_old _ _ (by simp)]; exact heap_alloc_new _ _
  have e1 : W3.heap[w.heap.size + 1]? = some (.cells #[.slice p1 n1 c1, .bool b1, .slice q1 k1 d1] 37 (0, 0)) := by
    rw [hW, heap_alloc_old _ _ (by simp)]
    have := heap_alloc_new (w.alloc (.cells #[.slice p0 n0 c0, .bool b0, .slice q0 k0 d0] 37)) (.cells #[.slice p1 n1 c1, .bool b1, .slice q1 k1 d1] 37)
    rwa [size_alloc] at this
  have e2 : W3.heap[w.heap.size + 1 + 1]? = some (.cells #[.slice none 0 0, .bool false, .slice none 0 0] 37 (0, 0)) := by
    have := heap_alloc_new ((w.alloc (.cells #[.slice p0 n0 c0, .bool b0, .slice q0 k0 d0] 37)).alloc (.cells #[.slice p1 n1 c1, .bool b1, .slice q1 k1 d1] 37)) (.cells #[.slice none 0 0, .bool false, .slice none 0 0] 37)
    rw [size_alloc, size_alloc] at this
    rw [hW]; exact this
  clear hW
  have H3 := hid hb3; have E0 := hid e0; have E1 := hid e1; have E2 := hid e2; have Z3 := hid z3
  clear e0 e1 e2
  obtain ⟨x0, x1, x2⟩ := lnCells3 E0.out
  obtain ⟨LA, hLA⟩ : ∃ LA, LA = a.1.length := ⟨_, rfl⟩
  have HLA := hid hLA
  have hLN : LA ≤ 1000000 := by rw [hLA]; have := HL.out; omega
  have HPa : Hid (PtsR W3 (.slice p0 n0 c0) a.1) := hid (by obtain ⟨pv, n, s, e, h1, h2⟩ := HA.out; injection e with e; simp at e; obtain ⟨rfl, -⟩ := e; exact h1.below H3.out)
  obtain ⟨p0', c0', e0, j1, j2, -, j4⟩ := HPa.out
  injection e0 with g1 g2 g3
  subst g1 g2 g3
  have J4 := hid j4
  rw [← hLA] at j1 x0 ⊢
  clear hLA j4
  have HUp := hid (fun ps => lnAll_up ps [] List.Pairwise.nil)
  have HSz := hid (fun (ps : List (Int × Int)) (h : ∀ p ∈ ps, sz W p.1.natAbs ≤ N) => lnAllSz hN h)
  have HLen := hid (fun ps => lnAllLen ps [])
  go_upto_region 2 with fail
  go_loopw [5, 13] (fun vo i wr => ∃ k : Nat, k ≤ LA ∧ i = .int .i64 (k : Nat) ∧ Hid (PtsR wr vo ((a.1.take k).foldl lnPut [])) ∧ Hid (Below W3.heap.size W3 wr)) (fun _ i _ => LA - (intOf i).toNat)
  case atStart => exact ⟨0, Nat.zero_le _, rfl, hid (LsV.nil W3.heap.size W3).pts, hid (Below.refl _ _)⟩
  case round =>
    obtain ⟨k, hk, rfl, HC, HBw⟩ := hrel
    by_cases hlt : k < LA
    · have hkt : k < a.1.length := by rw [← HLA.out]; exact hlt
      have hlt' : (k : Int) < (LA : Int) := by omega
      obtain ⟨b', o', rfl, hb', hc⟩ := J4.out (by omega)
      obtain ⟨cs, kk0, dx, s, ecs, hraw, hwf⟩ := hc k hkt
      have hsh := hraw.agg2
      obtain ⟨d', qx, nx, cx', e2⟩ := hsh
      obtain ⟨rfl, rfl⟩ : s = .slice qx nx cx' ∧ dx = d' := by
        injection e2 with e2
        simpa [and_comm] using e2
      clear e2
      subst ecs
      have y0 := (HBw.out.cell (p := ⟨b', o' + k * 3, none⟩) hb').trans (kk0 0 _ rfl)
      have y1 := (HBw.out.cell (p := ⟨b', o' + k * 3 + 1, none⟩) hb').trans (kk0 1 _ rfl)
      have y2 := (HBw.out.cell (p := ⟨b', o' + k * 3 + 2, none⟩) hb').trans (kk0 2 _ rfl)
      have Hnext : Hid ((a.1.take (k + 1)).foldl lnPut [] = lnPut ((a.1.take k).foldl lnPut []) (a.1[k].1, a.1[k].2)) := hid (by rw [List.take_succ_eq_append_getElem hkt, List.foldl_append]; rfl)
      have hsx := SA.out.1 a.1[k] (List.getElem_mem hkt)
      have hraw := hraw.below HBw.out
      have Hwx := hid hwf
      generalize a.1[k].1 = c at *
      generalize a.1[k].2 = t at *
      clear kk0 hc hwf
      obtain ⟨W5, hW5⟩ : ∃ W5, W5 = wr.alloc (.cells #[.bool dx, .slice qx nx cx', .int .i64 t] 63) := ⟨_, rfl⟩
      have b5 : Below wr.heap.size wr W5 := by rw [hW5]; exact below1 wr _
      have e5 : W5.heap[wr.heap.size]? = some (.cells #[.bool dx, .slice qx nx cx', .int .i64 t] 63 (0, 0)) := by rw [hW5]; exact heap_alloc_new wr _
      obtain ⟨t0, t1, t2⟩ := lnCells3 e5
      have HB5 := hid (lnGo b5 HBw.out)
      have hLAe := HLA.out
      have hlN := HL.out
      have hlk : (a.1.take k).length ≤ LA := by rw [List.length_take]; omega
      have HPut := hid (put_any _ ((a.1.take k).foldl lnPut []) dx qx nx cx' c t W5 (HC.out.below b5) (HUp.out _) (hraw.below b5) Hwx.out
        (fun p hp => Nat.le_trans (HSz.out _ (fun q hq => SA.out.1 q (List.mem_of_mem_take hq)) p hp) (by have := HL.out; omega)) (by have := HL.out; omega)
        (Nat.le_trans (HLen.out _) (by have := HL.out; simp; omega)))
      have hshc := HC.out
      obtain ⟨pc, cc, rfl, -⟩ := hshc
      clear b5 e5 hraw HC hLAe hlN hlk hsx
      go_upto_region 5 with fail
      rw [← hW5]
      clear hW5 y0 y1 y2
      go_wp2_with fail
      refine HPut.out.mono ?_
      rintro e w6 ⟨v6, rfl, i6, b6⟩
      go_wp2_with fail
      go_roundw
      case rel => exact ⟨k + 1, by omega, by go_num, hid (by rw [Hnext.out]; exact i6), hid (lnGo b6 HB5.out)⟩
      case measure => simp [intOf] <;> omega
    · obtain rfl : k = LA := by omega
      have hfin : (a.1.take k).foldl lnPut [] = a.1.foldl lnPut [] := by rw [HLA.out, List.take_length]
      have HC0 := HC.out
      rw [hfin] at HC0
      have HC1 : Hid (PtsR wr _ (lnUpTo a.1 b.1 0)) := hid (by unfold lnUpTo; rw [List.take_zero, List.append_nil]; exact HC0)
      clear HC HC0 hfin
      obtain ⟨LB, hLB⟩ : ∃ LB, LB = b.1.length := ⟨_, rfl⟩
      have HLB := hid hLB
      have hLN2 : LB ≤ 1000000 := by rw [hLB]; have := HL.out; omega
      have HPb : Hid (PtsR W3 (.slice p1 n1 c1) b.1) := hid (by obtain ⟨pv, n, s, e, h1, h2⟩ := HB.out; injection e with e; simp at e; obtain ⟨rfl, -⟩ := e; exact h1.below H3.out)
      obtain ⟨p1', c1', e0, j1b, j2b, -, j4b⟩ := HPb.out
      injection e0 with g1 g2 g3
      subst g1 g2 g3
      have J4b := hid j4b
      have E1' := E1.out
      rw [← hLB] at E1' j1b
      obtain ⟨z0, z1, z2⟩ := lnCells3 ((HBw.out.block (w.heap.size + 1) (by have := Z3.out; omega)).trans E1')
      have HE1 := hid E1'
      have hLB2 : b.1.length = LB := hLB.symm
      clear hLB j4b E1' x0 x1 x2
      rw [hLB2]
      clear hLB2
      go_wp2_with fail
      clear z0 z1 z2
      go_loopw [5, 24] (fun vo i wr => ∃ k : Nat, k ≤ LB ∧ i = .int .i64 (k : Nat) ∧ Hid (PtsR wr vo (lnUpTo a.1 b.1 k)) ∧ Hid (Below W3.heap.size W3 wr)) (fun _ i _ => LB - (intOf i).toNat)
      case atStart => exact ⟨0, Nat.zero_le _, rfl, HC1, HBw⟩
      case round =>
        obtain ⟨m, hm, rfl, HC, HBw⟩ := hrel
        by_cases hlt : m < LB
        · have hkt : m < b.1.length := by rw [← HLB.out]; exact hlt
          have hlt' : (m : Int) < (LB : Int) := by omega
          obtain ⟨b', o', rfl, hb', hc⟩ := J4b.out (by have := HLB.out; omega)
          obtain ⟨cs, kk0, dx, s, ecs, hraw, hwf⟩ := hc m hkt
          have hsh := hraw.agg2
          obtain ⟨d', qx, nx, cx', e2⟩ := hsh
          obtain ⟨rfl, rfl⟩ : s = .slice qx nx cx' ∧ dx = d' := by
            injection e2 with e2
            simpa [and_comm] using e2
          clear e2
          subst ecs
          have y0 := (HBw.out.cell (p := ⟨b', o' + m * 3, none⟩) hb').trans (kk0 0 _ rfl)
          have y1 := (HBw.out.cell (p := ⟨b', o' + m * 3 + 1, none⟩) hb').trans (kk0 1 _ rfl)
          have y2 := (HBw.out.cell (p := ⟨b', o' + m * 3 + 2, none⟩) hb').trans (kk0 2 _ rfl)
          have Hnext : Hid (lnUpTo a.1 b.1 (m + 1) = lnPut (lnUpTo a.1 b.1 m) (b.1[m].1, b.1[m].2)) := hid (by unfold lnUpTo; rw [List.take_succ_eq_append_getElem hkt, ← List.append_assoc, List.foldl_append]; rfl)
          have hsx := SB.out.1 b.1[m] (List.getElem_mem hkt)
          have hraw := hraw.below HBw.out
          have Hwx := hid hwf
          generalize b.1[m].1 = c at *
          generalize b.1[m].2 = t at *
          clear kk0 hc hwf
          obtain ⟨W5, hW5⟩ : ∃ W5, W5 = wr.alloc (.cells #[.bool dx, .slice qx nx cx', .int .i64 t] 63) := ⟨_, rfl⟩
          have b5 : Below wr.heap.size wr W5 := by rw [hW5]; exact below1 wr _
          have e5 : W5.heap[wr.heap.size]? = some (.cells #[.bool dx, .slice qx nx cx', .int .i64 t] 63 (0, 0)) := by rw [hW5]; exact heap_alloc_new wr _
          obtain ⟨t0, t1, t2⟩ := lnCells3 e5
          have HB5 := hid (lnGo b5 HBw.out)
          have hLAe := HLA.out
          have hLBe := HLB.out
          have hlN := HL.out
          have hlk : (a.1 ++ b.1.take m).length ≤ k + LB := by rw [List.length_append, List.length_take]; omega
          have HPut := hid (put_any _ (lnUpTo a.1 b.1 m) dx qx nx cx' c t W5 (HC.out.below b5) (HUp.out _) (hraw.below b5) Hwx.out
            (fun p hp => Nat.le_trans (HSz.out _ (fun q hq => (List.mem_append.1 hq).elim (fun h => SA.out.1 q h) (fun h => SB.out.1 q (List.mem_of_mem_take h))) p hp) (by have := HL.out; omega)) (by have := HL.out; omega)
            (Nat.le_trans (HLen.out _) (by have := HL.out; simp; omega)))
          have hshc := HC.out
          obtain ⟨pc, cc, rfl, -⟩ := hshc
          clear b5 e5 hraw HC hLAe hLBe hlN hlk hsx
          go_upto_region 10 with fail
          rw [← hW5]
          clear hW5 y0 y1 y2
          go_wp2_with fail
          refine HPut.out.mono ?_
          rintro e w6 ⟨v6, rfl, i6, b6⟩
          go_wp2_with fail
          go_roundw
          case rel => exact ⟨m + 1, by omega, by go_num, hid (by rw [Hnext.out]; exact i6), hid (lnGo b6 HB5.out)⟩
          case measure => simp [intOf] <;> omega
        · obtain rfl : m = LB := by omega
          have hfin : lnUpTo a.1 b.1 m = (a.1 ++ b.1).foldl lnPut [] := by unfold lnUpTo; rw [HLB.out, List.take_length]
          obtain ⟨pv, cv, hsv, -⟩ := id HC.out
          obtain ⟨nv, hnv⟩ : ∃ nv, nv = (lnUpTo a.1 b.1 m).length := ⟨_, rfl⟩
          rw [← hnv] at hsv
          subst hsv
          have HC0 := HC.out
          rw [hfin] at HC0
          clear hnv
          have HCl := hid (fun W' (hw : Below wr.heap.size wr W') => clean_any _ _ W' (HC0.below hw) (Nat.le_trans (lnAllLen _ _) (by have := HL.out; simp; omega)))
          have hE0 := (HBw.out.block w.heap.size (by have := Z3.out; omega)).trans E0.out
          have hE1 := (HBw.out.block (w.heap.size + 1) (by have := Z3.out; omega)).trans E1.out
          have hE2 := (HBw.out.block (w.heap.size + 1 + 1) (by have := Z3.out; omega)).trans E2.out
          have HBC : Hid (∀ w', Below wr.heap.size wr w' → (w'.cell? ⟨w.heap.size, 1, none⟩ = some (.bool b0) ∧ w'.cell? ⟨w.heap.size, 2, none⟩ = some (.slice q0 k0 d0)) ∧ (w'.cell? ⟨w.heap.size + 1, 1, none⟩ = some (.bool b1) ∧ w'.cell? ⟨w.heap.size + 1, 2, none⟩ = some (.slice q1 k1 d1)) ∧ w'.heap[w.heap.size + 1 + 1]? = some (.cells #[.slice none 0 0, .bool false, .slice none 0 0] 37 (0, 0))) := hid (fun w' hw => by
            have f0 := (hw.block w.heap.size (Array.getElem?_eq_some_iff.1 hE0).1).trans hE0
            have f1 := (hw.block (w.heap.size + 1) (Array.getElem?_eq_some_iff.1 hE1).1).trans hE1
            have f2 := (hw.block (w.heap.size + 1 + 1) (Array.getElem?_eq_some_iff.1 hE2).1).trans hE2
            exact ⟨(lnCells3 f0).2, (lnCells3 f1).2, f2⟩)
          have HRa : Hid (RawAt w (.agg #[.bool b0, .slice q0 k0 d0]) a.2) := hid (by obtain ⟨pv, n, s, e, h1, h2⟩ := HA.out; injection e with e; simp at e; obtain ⟨-, rfl, rfl⟩ := e; exact h2)
          have HRb : Hid (RawAt w (.agg #[.bool b1, .slice q1 k1 d1]) b.2) := hid (by obtain ⟨pv, n, s, e, h1, h2⟩ := HB.out; injection e with e; simp at e; obtain ⟨-, rfl, rfl⟩ := e; exact h2)
          have HBw0 := hid (lnGo HBw.out H3.out)
          have Hz3 := hid (show wr.heap.size ≥ w.heap.size + 3 by have := Z3.out; have := HBw.out.size; omega)
          have HSm : Hid (lnClean ((a.1 ++ b.1).foldl lnPut []) = lnSum (a.1 ++ b.1)) := hid rfl
          rw [HSm.out] at HCl
          clear hfin HC HC0 hE0 hE1 hE2 HSm hlt hk hm HPb J4b J4 HPa
          have HCl2 := hid HCl
          have HBC2 := hid HBC
          clear HCl HBC
          go_upto_region 12 with fail
          refine wp_region_facts (w0 := wr) 8 1 [32, 33, 34, 35, 36, 37, 38, 39] [undef, undef, undef, undef, undef, undef, undef, undef]
            (fun i => match i with | 0 => lnE (.slice pv nv cv) | 1 => lnP (lnSum (a.1 ++ b.1)) | 2 => lnE (.pointer (some ⟨w.heap.size, 1, none⟩)) | 3 => lnE (.agg #[.bool b0, .slice q0 k0 d0]) | 4 => lnE (.pointer (some ⟨w.heap.size + 1, 1, none⟩)) | 5 => lnE (.agg #[.bool b1, .slice q1 k1 d1]) | 6 => lnI (a.2 + b.2) | _ => lnS8 (lnSum (a.1 ++ b.1), a.2 + b.2)) [] (by kernel_rfl) (by kernel_rfl) (by kernel_rfl) (by kernel_rfl) (by decide) rfl (by kernel_rfl) rfl (by simp) ?he1 ?_ ?_ ?_
          case he1 => simp only [putAll, Act.put, List.setIfInBounds_toArray, List.set_cons_zero, List.set_cons_succ]
          · intro i hi; simp at hi
          · intro i o hi ho vs wx hvl hb hdep K hK
            have hvs := vlen8 hvl
            obtain ⟨s32, s33, s34, s35, s36, s37, s38, s39, rfl⟩ := hvs
            clear hvl
            have hk5 := HBC2.out.out wx hb
            obtain ⟨⟨y0, y1⟩, ⟨y2, y3⟩, y4⟩ := hk5
            have hBw := lnGo hb HBw0.out
            rcases i with _ | _ | _ | _ | _ | _ | _ | _ | i
            all_goals (simp only [List.getElem?_toArray, List.getElem?_cons_zero, List.getElem?_cons_succ, Option.some.injEq] at ho)
            all_goals try (subst ho)
            all_goals try simp only [putAll, Act.put, List.setIfInBounds_toArray, List.set_cons_zero, List.set_cons_succ]
            · go_simp
              have hK' := hK.out
              simp only [putAll, Act.put, List.setIfInBounds_toArray, List.set_cons_zero, List.set_cons_succ] at hK'
              exact hK' _ _ rfl (Below.refl _ _) (by simp)
            · have e0 : s32 = _ := hdep ⟨0, .data⟩ (by simp) rfl
              have e0 := e0.symm
              subst e0
              go_simp
              go_simp
              refine (HCl2.out.out wx hb).mono ?_
              rintro e wy ⟨vy, rfl, iy, hby⟩
              have hsh := iy
              obtain ⟨p5, c5, rfl, -⟩ := hsh
              go_wp2_with fail
              have hK' := hK.out
              simp only [putAll, Act.put, List.setIfInBounds_toArray, List.set_cons_zero, List.set_cons_succ] at hK'
              exact hK' _ _ ⟨_, _, _, rfl, iy⟩ hby (by simp)
            · go_simp
              have hK' := hK.out
              simp only [putAll, Act.put, List.setIfInBounds_toArray, List.set_cons_zero, List.set_cons_succ] at hK'
              exact hK' _ _ rfl (Below.refl _ _) (by simp)
            · have e2 : s34 = _ := hdep ⟨2, .data⟩ (by simp) rfl
              have e2 := e2.symm
              subst e2
              go_simp
              have hK' := hK.out
              simp only [putAll, Act.put, List.setIfInBounds_toArray, List.set_cons_zero, List.set_cons_succ] at hK'
              exact hK' _ _ rfl (Below.refl _ _) (by simp)
            · go_simp
              have hK' := hK.out
              simp only [putAll, Act.put, List.setIfInBounds_toArray, List.set_cons_zero, List.set_cons_succ] at hK'
              exact hK' _ _ rfl (Below.refl _ _) (by simp)
            · have e4 : s36 = _ := hdep ⟨4, .data⟩ (by simp) rfl
              have e4 := e4.symm
              subst e4
              go_simp
              have hK' := hK.out
              simp only [putAll, Act.put, List.setIfInBounds_toArray, List.set_cons_zero, List.set_cons_succ] at hK'
              exact hK' _ _ rfl (Below.refl _ _) (by simp)
            · have e3 : s35 = _ := hdep ⟨3, .data⟩ (by simp) rfl
              have e3 := e3.symm
              subst e3
              have e5 : s37 = _ := hdep ⟨5, .data⟩ (by simp) rfl
              have e5 := e5.symm
              subst e5
              go_simp
              go_simp
              refine (RAdd_any _ _ a.2 b.2 wx (HRa.out.below hBw) (HRb.out.below hBw)).mono ?_
              rintro e wy ⟨vy, rfl, iy, hby⟩
              have hsh := iy.shape
              obtain ⟨p5, n5, c5, rfl, iy⟩ := hsh
              go_wp2_with fail
              have hK' := hK.out
              simp only [putAll, Act.put, List.setIfInBounds_toArray, List.set_cons_zero, List.set_cons_succ] at hK'
              exact hK' _ _ ⟨_, _, _, _, rfl, iy⟩ hby (by simp)
            · have e1 : (lnP (lnSum (a.1 ++ b.1))).P s33 wx := hdep ⟨1, .data⟩ (by simp) rfl
              have e6 : (lnI (a.2 + b.2)).P s38 wx := hdep ⟨6, .data⟩ (by simp) rfl
              obtain ⟨p5, n5, c5, rfl, i5⟩ := e1
              obtain ⟨d6, p6, n6, c6, rfl, i6⟩ := e6
              obtain ⟨s6, e6', i6'⟩ := id i6
              obtain ⟨rfl, rfl⟩ : d6 = decide (a.2 + b.2 < 0) ∧ s6 = .slice p6 n6 c6 := by injection e6' with e6'; simp at e6'; exact ⟨e6'.1, e6'.2.symm⟩
              clear e6'
              go_simp
              go_simp
              have hK' := hK.out
              simp only [putAll, Act.put, List.setIfInBounds_toArray, List.set_cons_zero, List.set_cons_succ] at hK'
              exact hK' _ _ ⟨_, _, _, _, _, _, rfl, ⟨_, _, rfl, i5, i6⟩⟩ (Below.refl _ _) (by simp)
            · omega
          · intro vs wx hvl hb hf hdist
            have hvs := vlen8 hvl
            obtain ⟨s32, s33, s34, s35, s36, s37, s38, s39, rfl⟩ := hvs
            have f7 : (lnS8 (lnSum (a.1 ++ b.1), a.2 + b.2)).P s39 wx := hf 7 (by decide)
            obtain ⟨pA, nA, cA, qA, kA, dA, e1, T1⟩ := f7
            subst e1
            have hgb := (HBC2.out.out _ hb).2.2
            have hBw := lnGo hb HBw0.out
            clear hf hvl hdist
            obtain ⟨x0, x1, x2⟩ := lnCells3 hgb
            have fz0 := frozen_of_row wx (w.heap.size + 1 + 1) 0 _ _ hgb
            have fz1 := frozen_of_row wx (w.heap.size + 1 + 1) 1 _ _ hgb
            have fz2 := frozen_of_row wx (w.heap.size + 1 + 1) 2 _ _ hgb
            have HT7 := hid (T1.quiet (st3_apart wx (w.heap.size + 1 + 1) (.slice pA nA cA) (.bool (decide (a.2 + b.2 < 0))) (.slice qA kA dA)) (fun b hb => by rw [hb]; exact NoInt.cells hgb (by simp)))
            have HB7 := hid (st3_below (v0 := .slice pA nA cA) (v1 := .bool (decide (a.2 + b.2 < 0))) (v2 := .slice qA kA dA) (g := w.heap.size + 1 + 1) hBw (by omega))
            clear T1
            refine wpAny_one (i := 8) (by kernel_rfl) rfl ?_
            intro K hK
            simp only [putAll, Act.put, List.setIfInBounds_toArray, List.set_cons_zero, List.set_cons_succ]
            have hK' := hK.out
            go_simp
            apply hK'
            clear hK hK'
            refine wpAny_done (by kernel_rfl) ?_ _
            try simp only [Act.put, List.setIfInBounds_toArray, List.set_cons_zero, List.set_cons_succ]
            go_wp2
            exact bodyPost_ret (v := .agg #[.slice pA nA cA, .bool (decide (a.2 + b.2 < 0)), .slice qA kA dA]) (by simp [results, Tryz.results23, go_sem, x0, x1, x2]) rfl ⟨_, rfl, HT7.out, HB7.out⟩
end Go.Proofs.YtnfohbpgnbfmeaaGreatDoor
/- elenchusref06.Scale. -/
namespace Go.Proofs.YtnfohbpgnbfmeaaGreatDoor
open Go.RowKit Big

def lnN (z t : Int) : SFact := ⟨fun v w => ∃ p n c, v = .agg #[.bool (decide (z < 0)), .slice p n c, .int .i64 t] ∧ IntAt w (.agg #[.bool (decide (z < 0)), .slice p n c]) z, fun _ _ _ ⟨p, n, c, h1, h2⟩ hb => ⟨p, n, c, h1, h2.below hb⟩⟩
def lnL (l : List (Int × Int)) : SFact := ⟨fun v w => ∃ p n c, v = .slice p n c ∧ PtsR w (.slice p n c) l, fun _ _ _ ⟨p, n, c, h1, h2⟩ hb => ⟨p, n, c, h1, h2.below hb⟩⟩
theorem sz_mulB {a b : Int} {k : Nat} (ha : sz W a.natAbs ≤ k) (hb : sz W b.natAbs ≤ k) : sz W (a * b).natAbs ≤ k + k := by rw [Int.natAbs_mul]; exact Nat.le_trans (sz_mul W2 _ _) (by omega)
/-- what put has put together so far of a list, so many times -/
def lnScTo (k : Int) (l : List (Int × Int)) (j : Nat) : List (Int × Int) := ((lnTimes k l).take j).foldl lnPut []
theorem lnScTo_next (k : Int) (l : List (Int × Int)) (j : Nat) (h : j < l.length) : lnScTo k l (j + 1) = lnPut (lnScTo k l j) (l[j].1 * k, l[j].2) := by
  unfold lnScTo
  rw [List.take_succ_eq_append_getElem (by unfold lnTimes; simpa using h), List.foldl_append]
  simp [lnTimes]
theorem lnScTo_all (k : Int) (l : List (Int × Int)) : lnClean (lnScTo k l l.length) = lnSum (lnTimes k l) := by
  unfold lnScTo lnSum
  rw [List.take_of_length_le (by simp [lnTimes])]
theorem lnScTo_len (k : Int) (l : List (Int × Int)) (j : Nat) : (lnScTo k l j).length ≤ l.length := by
  unfold lnScTo
  refine Nat.le_trans (lnAllLen _ _) ?_
  simp [lnTimes]
  omega
theorem lnScTo_sz {N : Nat} (hN : 1 ≤ N) {k : Int} {l : List (Int × Int)} (hl : ∀ p ∈ l, sz W p.1.natAbs ≤ N) (hk : sz W k.natAbs ≤ N) (j : Nat) : ∀ p ∈ lnScTo k l j, sz W p.1.natAbs ≤ N + N + l.length := by
  intro p hp
  have h1 := lnAllSz (N := N + N) (by omega) (ps := (lnTimes k l).take j) (fun q hq => by
    have hq := List.mem_of_mem_take hq
    unfold lnTimes at hq
    obtain ⟨x, hx, rfl⟩ := List.mem_map.1 hq
    exact sz_mulB (hl x hx) hk) p hp
  have h2 : ((lnTimes k l).take j).length ≤ l.length := by simp [lnTimes]; omega
  omega

/-- parts, and a sum of such, in new memory -/
def lnPF (B : Nat) (l : List (Int × Int)) : SFact := ⟨fun v w => ∃ p n c, v = .slice p n c ∧ PtsT w v l ∧ ∀ g, v.ownBlock = some g → B ≤ g, fun _ _ _ ⟨p, n, c, h1, h2, h3⟩ hb => ⟨p, n, c, h1, h2.below hb, h3⟩⟩
def lnS8F (B : Nat) (a : List (Int × Int) × Int) : SFact := ⟨fun v w => ∃ p n c q k d, v = .agg #[.slice p n c, .bool (decide (a.2 < 0)), .slice q k d] ∧ LnT w v a ∧ LnFr B v, fun _ _ _ ⟨p, n, c, q, k, d, h1, h2, h3⟩ hb => ⟨p, n, c, q, k, d, h1, h2.below hb, h3⟩⟩
set_option maxRecDepth 100000 in
set_option maxHeartbeats 6400000 in
theorem RScale_linF (va vk : Value) (a : List (Int × Int) × Int) (k : Int) (w : World) {N : Nat} (hN : 1 ≤ N) (ha : LnR w va a) (hk : RawAt w vk k) (sa : LnSz N a) (sk : sz W k.natAbs ≤ N) (hl : N + N + a.1.length ≤ 1000000) :
    Calls Tryz.prog 24 #[va, vk] w (RLinF (lnSum (lnTimes k a.1), a.2 * k) w) := by
  obtain ⟨p0, n0, c0, b0, q0, k0, d0, rfl⟩ := ha.agg3
  obtain ⟨bk, qk, nk, ck, rfl⟩ := hk.agg2
  have HA := hid ha; have SA := hid sa; have SK := hid sk; have HL := hid hl
  have HRk := hid hk
  obtain ⟨W3, hW⟩ : ∃ W3, W3 = ((w.alloc (.cells #[.slice p0 n0 c0, .bool b0, .slice q0 k0 d0] 37)).alloc (.cells #[.bool bk, .slice qk nk ck] 35)).alloc (.cells #[.slice none 0 0, .bool false, .slice none 0 0] 37) := ⟨_, rfl⟩
  have hb3 : Below w.heap.size w W3 := by rw [hW]; exact ((below1 _ _).alloc (by simp) _).alloc (by simp; omega) _
  have z3 : W3.heap.size = w.heap.size + 3 := by rw [hW]; simp
  have e0 : W3.heap[w.heap.size]? = some (.cells #[.slice p0 n0 c0, .bool b0, .slice q0 k0 d0] 37 (0, 0)) := by rw [hW, heap_alloc_old _ _ (by simp; omega), heap_alloc_old _ _ (by simp)]; exact heap_alloc_new _ _
  have e1 : W3.heap[w.heap.size + 1]? = some (.cells #[.bool bk, .slice qk nk ck] 35 (0, 0)) := by
    rw [hW, heap_alloc_old _ _ (by simp)]
    have := heap_alloc_new (w.alloc (.cells #[.slice p0 n0 c0, .bool b0, .slice q0 k0 d0] 37)) (.cells #[.bool bk, .slice qk nk ck] 35)
    rwa [size_alloc] at this
  have e2 : W3.heap[w.heap.size + 1 + 1]? = some (.cells #[.slice none 0 0, .bool false, .slice none 0 0] 37 (0, 0)) := by
    have := heap_alloc_new ((w.alloc (.cells #[.slice p0 n0 c0, .bool b0, .slice q0 k0 d0] 37)).alloc (.cells #[.bool bk, .slice qk nk ck] 35)) (.cells #[.slice none 0 0, .bool false, .slice none 0 0] 37)
    rw [size_alloc, size_alloc] at this
    rw [hW]; exact this
  have H3 := hid hb3; have E0 := hid e0; have E1 := hid e1; have E2 := hid e2; have Z3 := hid z3
  clear e0 e1 e2
  obtain ⟨LA, hLA⟩ : ∃ LA, LA = a.1.length := ⟨_, rfl⟩
  have HLA := hid hLA
  have hLN : LA ≤ 1000000 := by rw [hLA]; omega
  have hNN : N + N + LA ≤ 1000000 := by rw [hLA]; exact hl
  have HPa : Hid (PtsR W3 (.slice p0 n0 c0) a.1) := hid (by obtain ⟨pv, n, s, e, h1, h2⟩ := HA.out; injection e with e; simp at e; obtain ⟨rfl, -⟩ := e; exact h1.below H3.out)
  have HRa : Hid (RawAt w (.agg #[.bool b0, .slice q0 k0 d0]) a.2) := hid (by obtain ⟨pv, n, s, e, h1, h2⟩ := HA.out; injection e with e; simp at e; obtain ⟨-, rfl, rfl⟩ := e; exact h2)
  obtain ⟨p0', c0', e0, j1, j2, -, j4⟩ := HPa.out
  injection e0 with g1 g2 g3
  subst g1 g2 g3
  have J4 := hid j4
  have E0' := E0.out
  rw [← hLA] at j1 hW E0' ⊢
  obtain ⟨x0, x1, x2⟩ := lnCells3 E0'
  clear hLA j4 ha hk sa sk hl
  have HE0 := hid E0'
  clear E0'
  have HUp : Hid (∀ j, lnUp (lnScTo k a.1 j)) := hid (fun j => lnAll_up _ [] List.Pairwise.nil)
  go_enter Tryz.func24, Tryz.ntmps24
  go_upto_region 2 with fail
  rw [← hW]
  clear hW
  go_wp2_with fail
  clear x0 x1 x2
  go_loopw [5, 11] (fun vo i wr => ∃ j : Nat, j ≤ LA ∧ i = .int .i64 (j : Nat) ∧ Hid (PtsR wr vo (lnScTo k a.1 j)) ∧ Hid (Below W3.heap.size W3 wr)) (fun _ i _ => LA - (intOf i).toNat)
  case atStart => exact ⟨0, Nat.zero_le _, rfl, hid (LsV.nil W3.heap.size W3).pts, hid (Below.refl _ _)⟩
  case round =>
    obtain ⟨j, hj, rfl, HC, HBw⟩ := hrel
    by_cases hlt : j < LA
    · have hjt : j < a.1.length := by rw [← HLA.out]; exact hlt
      obtain ⟨pv, cv, hsv, -⟩ := id HC.out
      obtain ⟨nv, hnv⟩ : ∃ nv, nv = (lnScTo k a.1 j).length := ⟨_, rfl⟩
      rw [← hnv] at hsv
      subst hsv
      clear hnv
      have hlt' : (j : Int) < (LA : Int) := by omega
      obtain ⟨b', o', rfl, hb', hc⟩ := J4.out (by omega)
      obtain ⟨cs, kk0, dx, s, ecs, hraw, hwf⟩ := hc j hjt
      have hsh := hraw.agg2
      obtain ⟨d', qx, nx, cx', e2⟩ := hsh
      obtain ⟨rfl, rfl⟩ : s = .slice qx nx cx' ∧ dx = d' := by
        injection e2 with e2
        simpa [and_comm] using e2
      clear e2
      subst ecs
      have y0 := (HBw.out.cell (p := ⟨b', o' + j * 3, none⟩) hb').trans (kk0 0 _ rfl)
      have y1 := (HBw.out.cell (p := ⟨b', o' + j * 3 + 1, none⟩) hb').trans (kk0 1 _ rfl)
      have y2 := (HBw.out.cell (p := ⟨b', o' + j * 3 + 2, none⟩) hb').trans (kk0 2 _ rfl)
      have Hnext := hid (lnScTo_next k a.1 j hjt)
      have hsx := SA.out.1 a.1[j] (List.getElem_mem hjt)
      have hraw := hraw.below HBw.out
      have Hwx := hid hwf
      have HSzj := hid (show ∀ p ∈ lnScTo k a.1 j, sz W p.1.natAbs ≤ N + N + LA by rw [HLA.out]; exact lnScTo_sz hN SA.out.1 SK.out j)
      have HLnj := hid (show (lnScTo k a.1 j).length ≤ 1000000 by have := lnScTo_len k a.1 j; have := HLA.out; omega)
      generalize a.1[j].1 = c at *
      generalize a.1[j].2 = t at *
      have Hpz := hid (show sz W (c * k).natAbs ≤ N + N from sz_mulB hsx SK.out)
      have Hsc := hid hsx
      clear kk0 hc hwf hsx
      obtain ⟨W5, hW5⟩ : ∃ W5, W5 = wr.alloc (.cells #[.bool dx, .slice qx nx cx', .int .i64 t] 63) := ⟨_, rfl⟩
      have b5 : Below wr.heap.size wr W5 := by rw [hW5]; exact below1 wr _
      have e5 : W5.heap[wr.heap.size]? = some (.cells #[.bool dx, .slice qx nx cx', .int .i64 t] 63 (0, 0)) := by rw [hW5]; exact heap_alloc_new wr _
      have HB5 := hid (lnGo b5 HBw.out)
      have HB5w := hid (lnGo HB5.out H3.out)
      have HB5o := hid b5
      have HR5 := hid (hraw.below b5)
      have hEk := (HB5.out.block (w.heap.size + 1) (by have := Z3.out; omega)).trans E1.out
      have HS5 : Hid (∀ w', Below W5.heap.size W5 w' → (w'.cell? ⟨wr.heap.size, 0, none⟩ = some (.bool dx) ∧ w'.cell? ⟨wr.heap.size, 1, none⟩ = some (.slice qx nx cx') ∧ w'.cell? ⟨wr.heap.size, 2, none⟩ = some (.int .i64 t)) ∧ w'.cell? ⟨w.heap.size + 1, 0, none⟩ = some (.bool bk) ∧ w'.cell? ⟨w.heap.size + 1, 1, none⟩ = some (.slice qk nk ck)) := hid (fun w' hw => by
        have f0 := (hw.block wr.heap.size (Array.getElem?_eq_some_iff.1 e5).1).trans e5
        have f1 := (hw.block (w.heap.size + 1) (Array.getElem?_eq_some_iff.1 hEk).1).trans hEk
        have f2 := two_cells f1
        exact ⟨lnCells3 f0, f2.1, f2.2.1⟩)
      clear b5 e5 hraw hEk
      go_upto_region 5 with fail
      rw [← hW5]
      clear hW5 y0 y1 y2
      refine wp_region_facts (w0 := W5) 9 1 [15, 16, 17, 18, 19, 20, 21, 22, 23] [u15, u16, u17, u18, u19, u20, u21, u22, u23]
        (fun i => match i with | 0 => lnE (.slice pv nv cv) | 1 => lnE (.pointer (some ⟨wr.heap.size, 0, none⟩)) | 2 => lnE (.agg #[.bool dx, .slice qx nx cx']) | 3 => lnE (.agg #[.bool bk, .slice qk nk ck]) | 4 => lnI (c * k) | 5 => lnE (.pointer (some ⟨wr.heap.size, 2, none⟩)) | 6 => lnE (.int .i64 t) | 7 => lnN (c * k) t | _ => lnL (lnPut (lnScTo k a.1 j) (c * k, t))) [] (by kernel_rfl) (by kernel_rfl) (by kernel_rfl) (by kernel_rfl) (by decide) rfl (by kernel_rfl) rfl (by simp) ?he1 ?_ ?_ ?_
      case he1 => simp only [putAll, Act.put, List.setIfInBounds_toArray, List.set_cons_zero, List.set_cons_succ]
      · intro i hi; simp at hi
      · intro i o hi ho vs wx hvl hb hdep K hK
        have hvs := vlen9 hvl
        obtain ⟨s15, s16, s17, s18, s19, s20, s21, s22, s23, rfl⟩ := hvs
        clear hvl
        have hk5 := HS5.out wx hb
        obtain ⟨⟨y0, y1, y2⟩, y3, y4⟩ := hk5
        have hBw := lnGo hb HB5w.out
        rcases i with _ | _ | _ | _ | _ | _ | _ | _ | _ | i
        all_goals (simp only [List.getElem?_toArray, List.getElem?_cons_zero, List.getElem?_cons_succ, Option.some.injEq] at ho)
        all_goals try (subst ho)
        all_goals try simp only [putAll, Act.put, List.setIfInBounds_toArray, List.set_cons_zero, List.set_cons_succ]
        · go_simp
          have hK' := hK.out
          simp only [putAll, Act.put, List.setIfInBounds_toArray, List.set_cons_zero, List.set_cons_succ] at hK'
          exact hK' _ _ rfl (Below.refl _ _) (by simp)
        · go_simp
          have hK' := hK.out
          simp only [putAll, Act.put, List.setIfInBounds_toArray, List.set_cons_zero, List.set_cons_succ] at hK'
          exact hK' _ _ rfl (Below.refl _ _) (by simp)
        · have e1 : s16 = _ := hdep ⟨1, .data⟩ (by simp) rfl
          have e1 := e1.symm
          subst e1
          go_simp
          have hK' := hK.out
          simp only [putAll, Act.put, List.setIfInBounds_toArray, List.set_cons_zero, List.set_cons_succ] at hK'
          exact hK' _ _ rfl (Below.refl _ _) (by simp)
        · go_simp
          have hK' := hK.out
          simp only [putAll, Act.put, List.setIfInBounds_toArray, List.set_cons_zero, List.set_cons_succ] at hK'
          exact hK' _ _ rfl (Below.refl _ _) (by simp)
        · have e2 : s17 = _ := hdep ⟨2, .data⟩ (by simp) rfl
          have e2 := e2.symm
          subst e2
          have e3 : s18 = _ := hdep ⟨3, .data⟩ (by simp) rfl
          have e3 := e3.symm
          subst e3
          go_simp
          go_simp
          refine (RMul_any _ _ c k wx (HR5.out.below hb) (HRk.out.below hBw) (Nat.le_trans Hsc.out (by omega)) (Nat.le_trans SK.out (by omega))).mono ?_
          rintro e wy ⟨vy, rfl, iy, hby⟩
          have hsh := iy.shape
          obtain ⟨p5, n5, c5, rfl, iy⟩ := hsh
          go_wp2_with fail
          have hK' := hK.out
          simp only [putAll, Act.put, List.setIfInBounds_toArray, List.set_cons_zero, List.set_cons_succ] at hK'
          exact hK' _ _ ⟨_, _, _, _, rfl, iy⟩ hby (by simp)
        · go_simp
          have hK' := hK.out
          simp only [putAll, Act.put, List.setIfInBounds_toArray, List.set_cons_zero, List.set_cons_succ] at hK'
          exact hK' _ _ rfl (Below.refl _ _) (by simp)
        · have e5 : s20 = _ := hdep ⟨5, .data⟩ (by simp) rfl
          have e5 := e5.symm
          subst e5
          go_simp
          have hK' := hK.out
          simp only [putAll, Act.put, List.setIfInBounds_toArray, List.set_cons_zero, List.set_cons_succ] at hK'
          exact hK' _ _ rfl (Below.refl _ _) (by simp)
        · have e4 : (lnI (c * k)).P s19 wx := hdep ⟨4, .data⟩ (by simp) rfl
          have e6 : s21 = _ := hdep ⟨6, .data⟩ (by simp) rfl
          have e6 := e6.symm
          subst e6
          obtain ⟨d4, p4, n4, c4, rfl, i4⟩ := e4
          obtain ⟨s4q, e4', i4'⟩ := id i4
          obtain ⟨rfl, rfl⟩ : d4 = decide (c * k < 0) ∧ s4q = .slice p4 n4 c4 := by injection e4' with e4'; simp at e4'; exact ⟨e4'.1, e4'.2.symm⟩
          clear e4'
          go_simp
          go_simp
          have hK' := hK.out
          simp only [putAll, Act.put, List.setIfInBounds_toArray, List.set_cons_zero, List.set_cons_succ] at hK'
          exact hK' _ _ ⟨_, _, _, rfl, i4⟩ (Below.refl _ _) (by simp)
        · have e0 : s15 = _ := hdep ⟨0, .data⟩ (by simp) rfl
          have e0 := e0.symm
          subst e0
          have e7 : (lnN (c * k) t).P s22 wx := hdep ⟨7, .data⟩ (by simp) rfl
          obtain ⟨p7, n7, c7, rfl, i7⟩ := e7
          go_simp
          go_simp
          refine (put_any (.slice pv nv cv) (lnScTo k a.1 j) (decide (c * k < 0)) p7 n7 c7 (c * k) t wx (HC.out.below (lnGo hb HB5o.out)) (HUp.out _) (i7.rawL (by have := Hpz.out; omega)) Hwx.out (fun p hp => Nat.le_trans (HSzj.out p hp) (by omega)) (by have := Hpz.out; omega) HLnj.out).mono ?_
          rintro e wy ⟨vy, rfl, iy, hby⟩
          have hsh := iy
          obtain ⟨p5, c5, rfl, -⟩ := hsh
          go_wp2_with fail
          have hK' := hK.out
          simp only [putAll, Act.put, List.setIfInBounds_toArray, List.set_cons_zero, List.set_cons_succ] at hK'
          exact hK' _ _ ⟨_, _, _, rfl, iy⟩ hby (by simp)
        · omega
      · intro vs wx hvl hb hf hdist
        have hvs := vlen9 hvl
        obtain ⟨s15, s16, s17, s18, s19, s20, s21, s22, s23, rfl⟩ := hvs
        have f8 : (lnL (lnPut (lnScTo k a.1 j) (c * k, t))).P s23 wx := hf 8 (by decide)
        obtain ⟨pA, nA, cA, e1, T1⟩ := f8
        subst e1
        have HT1 := hid T1
        have HBn := hid (lnGo hb HB5.out)
        clear hf hvl hdist T1
        refine wpAny_one (i := 9) (by kernel_rfl) rfl ?_
        intro K hK
        simp only [putAll, Act.put, List.setIfInBounds_toArray, List.set_cons_zero, List.set_cons_succ]
        have hK' := hK.out
        go_simp
        apply hK'
        clear hK hK'
        refine wpAny_done (by kernel_rfl) ?_ _
        try simp only [Act.put, List.setIfInBounds_toArray, List.set_cons_zero, List.set_cons_succ]
        go_wp2_with fail
        go_roundw
        case rel => exact ⟨j + 1, by omega, by go_num, hid (by rw [Hnext.out]; exact HT1.out), HBn⟩
        case measure => simp [intOf] <;> omega
    · obtain rfl : j = LA := by omega
      obtain ⟨pv, cv, hsv, -⟩ := id HC.out
      obtain ⟨nv, hnv⟩ : ∃ nv, nv = (lnScTo k a.1 j).length := ⟨_, rfl⟩
      rw [← hnv] at hsv
      subst hsv
      have HC0 := HC.out
      have hlen := lnScTo_len k a.1 j
      have HCl := hid (fun W' (hw : Below wr.heap.size wr W') => clean_anyF _ _ W' (HC0.below hw) (Nat.le_trans hlen (by have := HLA.out; omega)))
      have hall := lnScTo_all k a.1
      rw [← HLA.out] at hall
      rw [hall] at HCl
      have hE0 := (HBw.out.block w.heap.size (by have := Z3.out; omega)).trans HE0.out
      have hE1 := (HBw.out.block (w.heap.size + 1) (by have := Z3.out; omega)).trans E1.out
      have hE2 := (HBw.out.block (w.heap.size + 1 + 1) (by have := Z3.out; omega)).trans E2.out
      have HBC : Hid (∀ w', Below wr.heap.size wr w' → (w'.cell? ⟨w.heap.size, 1, none⟩ = some (.bool b0) ∧ w'.cell? ⟨w.heap.size, 2, none⟩ = some (.slice q0 k0 d0)) ∧ (w'.cell? ⟨w.heap.size + 1, 0, none⟩ = some (.bool bk) ∧ w'.cell? ⟨w.heap.size + 1, 1, none⟩ = some (.slice qk nk ck)) ∧ w'.heap[w.heap.size + 1 + 1]? = some (.cells #[.slice none 0 0, .bool false, .slice none 0 0] 37 (0, 0))) := hid (fun w' hw => by
        have f0 := (hw.block w.heap.size (Array.getElem?_eq_some_iff.1 hE0).1).trans hE0
        have f1 := (hw.block (w.heap.size + 1) (Array.getElem?_eq_some_iff.1 hE1).1).trans hE1
        have f2 := (hw.block (w.heap.size + 1 + 1) (Array.getElem?_eq_some_iff.1 hE2).1).trans hE2
        have f3 := two_cells f1
        exact ⟨(lnCells3 f0).2, ⟨f3.1, f3.2.1⟩, f2⟩)
      have HBw0 := hid (lnGo HBw.out H3.out)
      have Hz3 := hid (show wr.heap.size ≥ w.heap.size + 3 by have := Z3.out; have := HBw.out.size; omega)
      clear hnv HC HC0 hE0 hE1 hE2 hlt hj J4 HPa hall hlen
      go_upto_region 7 with fail
      refine wp_region_facts (w0 := wr) 7 1 [25, 26, 27, 28, 29, 30, 31] [undef, undef, undef, undef, undef, undef, undef]
        (fun i => match i with | 0 => lnE (.slice pv nv cv) | 1 => lnPF w.heap.size (lnSum (lnTimes k a.1)) | 2 => lnE (.pointer (some ⟨w.heap.size, 1, none⟩)) | 3 => lnE (.agg #[.bool b0, .slice q0 k0 d0]) | 4 => lnE (.agg #[.bool bk, .slice qk nk ck]) | 5 => lnI (a.2 * k) | _ => lnS8F w.heap.size (lnSum (lnTimes k a.1), a.2 * k)) [] (by kernel_rfl) (by kernel_rfl) (by kernel_rfl) (by kernel_rfl) (by decide) rfl (by kernel_rfl) rfl (by simp) ?he2 ?_ ?_ ?_
      case he2 => simp only [putAll, Act.put, List.setIfInBounds_toArray, List.set_cons_zero, List.set_cons_succ]
      · intro i hi; simp at hi
      · intro i o hi ho vs wx hvl hb hdep K hK
        have hvs := vlen7 hvl
        obtain ⟨s25, s26, s27, s28, s29, s30, s31, rfl⟩ := hvs
        clear hvl
        have hk5 := HBC.out wx hb
        obtain ⟨⟨y0, y1⟩, ⟨y2, y3⟩, y4⟩ := hk5
        have hBw := lnGo hb HBw0.out
        rcases i with _ | _ | _ | _ | _ | _ | _ | i
        all_goals (simp only [List.getElem?_toArray, List.getElem?_cons_zero, List.getElem?_cons_succ, Option.some.injEq] at ho)
        all_goals try (subst ho)
        all_goals try simp only [putAll, Act.put, List.setIfInBounds_toArray, List.set_cons_zero, List.set_cons_succ]
        · go_simp
          have hK' := hK.out
          simp only [putAll, Act.put, List.setIfInBounds_toArray, List.set_cons_zero, List.set_cons_succ] at hK'
          exact hK' _ _ rfl (Below.refl _ _) (by simp)
        · have e0 : s25 = _ := hdep ⟨0, .data⟩ (by simp) rfl
          have e0 := e0.symm
          subst e0
          go_simp
          go_simp
          refine (HCl.out wx hb).mono ?_
          rintro e wy ⟨vy, rfl, iy, hby, fry⟩
          have hsh := iy
          obtain ⟨p5, c5, rfl, -⟩ := hsh
          have fry2 := fun g hg => Nat.le_trans (hBw.size) (fry g hg)
          go_wp2_with fail
          have hK' := hK.out
          simp only [putAll, Act.put, List.setIfInBounds_toArray, List.set_cons_zero, List.set_cons_succ] at hK'
          exact hK' _ _ ⟨_, _, _, rfl, iy, fry2⟩ hby (by simp)
        · go_simp
          have hK' := hK.out
          simp only [putAll, Act.put, List.setIfInBounds_toArray, List.set_cons_zero, List.set_cons_succ] at hK'
          exact hK' _ _ rfl (Below.refl _ _) (by simp)
        · have e2 : s27 = _ := hdep ⟨2, .data⟩ (by simp) rfl
          have e2 := e2.symm
          subst e2
          go_simp
          have hK' := hK.out
          simp only [putAll, Act.put, List.setIfInBounds_toArray, List.set_cons_zero, List.set_cons_succ] at hK'
          exact hK' _ _ rfl (Below.refl _ _) (by simp)
        · go_simp
          have hK' := hK.out
          simp only [putAll, Act.put, List.setIfInBounds_toArray, List.set_cons_zero, List.set_cons_succ] at hK'
          exact hK' _ _ rfl (Below.refl _ _) (by simp)
        · have e3 : s28 = _ := hdep ⟨3, .data⟩ (by simp) rfl
          have e3 := e3.symm
          subst e3
          have e4 : s29 = _ := hdep ⟨4, .data⟩ (by simp) rfl
          have e4 := e4.symm
          subst e4
          go_simp
          go_simp
          refine (RMul_any _ _ a.2 k wx (HRa.out.below hBw) (HRk.out.below hBw) (Nat.le_trans SA.out.2 (by omega)) (Nat.le_trans SK.out (by omega))).mono ?_
          rintro e wy ⟨vy, rfl, iy, hby⟩
          have hsh := iy.shape
          obtain ⟨p5, n5, c5, rfl, iy⟩ := hsh
          go_wp2_with fail
          have hK' := hK.out
          simp only [putAll, Act.put, List.setIfInBounds_toArray, List.set_cons_zero, List.set_cons_succ] at hK'
          exact hK' _ _ ⟨_, _, _, _, rfl, iy⟩ hby (by simp)
        · have e1 : (lnPF w.heap.size (lnSum (lnTimes k a.1))).P s26 wx := hdep ⟨1, .data⟩ (by simp) rfl
          have e5 : (lnI (a.2 * k)).P s30 wx := hdep ⟨5, .data⟩ (by simp) rfl
          obtain ⟨p1x, n1x, c1x, rfl, i1x, fr1x⟩ := e1
          obtain ⟨d5, p5, n5, c5, rfl, i5⟩ := e5
          obtain ⟨s5q, e5', i5'⟩ := id i5
          obtain ⟨rfl, rfl⟩ : d5 = decide (a.2 * k < 0) ∧ s5q = .slice p5 n5 c5 := by injection e5' with e5'; simp at e5'; exact ⟨e5'.1, e5'.2.symm⟩
          clear e5'
          go_simp
          go_simp
          have hK' := hK.out
          simp only [putAll, Act.put, List.setIfInBounds_toArray, List.set_cons_zero, List.set_cons_succ] at hK'
          exact hK' _ _ ⟨_, _, _, _, _, _, rfl, ⟨_, _, rfl, i1x, i5⟩, _, _, _, rfl, fr1x⟩ (Below.refl _ _) (by simp)
        · omega
      · intro vs wx hvl hb hf hdist
        have hvs := vlen7 hvl
        obtain ⟨s25, s26, s27, s28, s29, s30, s31, rfl⟩ := hvs
        have f7 : (lnS8F w.heap.size (lnSum (lnTimes k a.1), a.2 * k)).P s31 wx := hf 6 (by decide)
        obtain ⟨pA, nA, cA, qA, kA, dA, e1, T1, fr1⟩ := f7
        have Fr1 := hid fr1
        clear fr1
        subst e1
        have hgb := (HBC.out _ hb).2.2
        have hBw := lnGo hb HBw0.out
        clear hf hvl hdist
        obtain ⟨x0, x1, x2⟩ := lnCells3 hgb
        have fz0 := frozen_of_row wx (w.heap.size + 1 + 1) 0 _ _ hgb
        have fz1 := frozen_of_row wx (w.heap.size + 1 + 1) 1 _ _ hgb
        have fz2 := frozen_of_row wx (w.heap.size + 1 + 1) 2 _ _ hgb
        have HT7 := hid (T1.quiet (st3_apart wx (w.heap.size + 1 + 1) (.slice pA nA cA) (.bool (decide (a.2 * k < 0))) (.slice qA kA dA)) (fun b hb => by rw [hb]; exact NoInt.cells hgb (by simp)))
        have HB7 := hid (st3_below (v0 := .slice pA nA cA) (v1 := .bool (decide (a.2 * k < 0))) (v2 := .slice qA kA dA) (g := w.heap.size + 1 + 1) hBw (by omega))
        clear T1
        refine wpAny_one (i := 7) (by kernel_rfl) rfl ?_
        intro K hK
        simp only [putAll, Act.put, List.setIfInBounds_toArray, List.set_cons_zero, List.set_cons_succ]
        have hK' := hK.out
        go_simp
        apply hK'
        clear hK hK'
        refine wpAny_done (by kernel_rfl) ?_ _
        try simp only [Act.put, List.setIfInBounds_toArray, List.set_cons_zero, List.set_cons_succ]
        go_wp2
        exact bodyPost_ret (v := .agg #[.slice pA nA cA, .bool (decide (a.2 * k < 0)), .slice qA kA dA]) (by simp [results, Tryz.results24, go_sem, x0, x1, x2]) rfl ⟨_, rfl, HT7.out, HB7.out, Fr1.out⟩
theorem RScale_lin (va vk : Value) (a : List (Int × Int) × Int) (k : Int) (w : World) {N : Nat} (hN : 1 ≤ N) (ha : LnR w va a) (hk : RawAt w vk k) (sa : LnSz N a) (sk : sz W k.natAbs ≤ N) (hl : N + N + a.1.length ≤ 1000000) :
    Calls Tryz.prog 24 #[va, vk] w (RLin (lnSum (lnTimes k a.1), a.2 * k) w) := (RScale_linF va vk a k w hN ha hk sa sk hl).mono fun _ _ h => h.lin
end Go.Proofs.YtnfohbpgnbfmeaaGreatDoor
/- elenchuslaw10.AtomsTimes. Made by gen_atlawtimes.py. -/
namespace Go.Proofs.YtnfohbpgnbfmeaaGreatDoor
open Go.RowKit Big

set_option maxRecDepth 100000 in
set_option maxHeartbeats 12800000 in
theorem lawTimes_any (v : Value) (x : Lx) (z : Int) (h0 : 0 ≤ z) (h1 : z ≤ 65535) (w : World) (h : LxQ w v x) (htab : Tb w.heap.size w) : Calls Tryz.prog 6 #[v, .int .u16 z] w (RBool true w) := by
  obtain ⟨k, rfl⟩ : ∃ k : Nat, z = (k : Int) := ⟨z.toNat, by omega⟩
  have hk1 : k ≤ 65535 := by omega
  clear h0 h1
  obtain ⟨p0, c0, q0, k0, d0, rfl⟩ := h.agg3
  have HX := hid h
  obtain ⟨n0, hn⟩ : ∃ n, n = x.parts.length := ⟨_, rfl⟩
  obtain ⟨b0, hb0⟩ : ∃ n, n = x.rest.neg := ⟨_, rfl⟩
  rw [← hn, ← hb0] at HX ⊢
  clear hn hb0 h
  obtain ⟨W1, hW⟩ : ∃ W1, W1 = w.alloc (.cells #[.slice p0 n0 c0, .bool b0, .slice q0 k0 d0] 37) := ⟨_, rfl⟩
  have b1 : Below w.heap.size w W1 := by rw [hW]; exact below1 w _
  have e1 : W1.heap[w.heap.size]? = some (.cells #[.slice p0 n0 c0, .bool b0, .slice q0 k0 d0] 37 (0, 0)) := by rw [hW]; exact heap_alloc_new w _
  have z1 : W1.heap.size = w.heap.size + 1 := by rw [hW, size_alloc]
  have HF := hid (fixed10_any W1 (tab_later htab b1))
  have B1 := hid b1; have E1 := hid e1; have Ht := hid htab
  clear b1 e1 htab
  go_enter Tryz.func6, Tryz.ntmps6
  go_upto_region 1 with fail
  rw [← hW]
  clear hW
  go_wp2_with fail
  refine HF.out.mono ?_
  rintro e w2 ⟨rfl, b2⟩
  have B2 := hid (lnGo b2 B1.out)
  have E2 := hid ((b2.block w.heap.size (by omega)).trans E1.out)
  have z2 := b2.size
  obtain ⟨y0, y1, y2⟩ := lnCells3 E2.out
  clear b2 HF
  have HFw := hid (Few6_any _ x w2 (HX.out.below B2.out))
  go_upto_region 3 with fail
  go_wp2_with fail
  refine HFw.out.mono ?_
  rintro e w3 ⟨bf, rfl, hfit, b3⟩
  have B3 := hid (lnGo b3 B2.out)
  have E3 := hid ((b3.block w.heap.size (by omega)).trans E2.out)
  have z3 := b3.size
  clear b3 HFw y0 y1 y2
  cases bf with
  | false =>
    clear hfit
    go_wp2
    go_ret
    exact ⟨rfl, B3.out⟩
  | true =>
  have Hfa := hid (hfit rfl)
  clear hfit
  obtain ⟨y0, y1, y2⟩ := lnCells3 E3.out
  have LA := hid (HX.out.raw Hfa.out)
  have SA := hid (HX.out.small Hfa.out)
  have la : (x.a).1.length ≤ 40 := by show (x.parts.map Px6.p).length ≤ 40; rw [List.length_map]; exact Hfa.out.1
  obtain ⟨⟨l, c⟩, hxa⟩ : ∃ a, a = x.a := ⟨_, rfl⟩
  rw [← hxa] at LA SA la
  have la : l.length ≤ 40 := la
  clear hxa HX Hfa
  have Hwf : Hid (∀ p ∈ l, -9223372036854775808 ≤ p.2 ∧ p.2 ≤ 9223372036854775807) := hid (by
    obtain ⟨pv, n, s, e, hp, hx⟩ := LA.out
    exact hp.wf)
  have HIs := hid (RIs_lin _ (l, c) w3 (LA.out.below B3.out) (by show l.length ≤ _; omega))
  go_wp2_with fail
  refine HIs.out.mono ?_
  rintro e w4 ⟨rfl, b4⟩
  have B4 := hid (lnGo b4 B3.out)
  have E4 := hid ((b4.block w.heap.size (by omega)).trans E3.out)
  have z4 := b4.size
  clear b4 HIs y0 y1 y2
  by_cases hI : lnIs l
  case neg =>
    have hd : decide (lnIs (l, c).1) = false := by simpa using hI
    clear hI
    go_wp2
    go_ret
    exact ⟨rfl, B4.out⟩
  case pos =>
  have hd : decide (lnIs (l, c).1) = true := by simpa using hI
  by_cases hk0 : k = 0
  case pos =>
    subst hk0
    clear hI
    go_wp2
    go_ret
    exact ⟨rfl, B4.out⟩
  case neg =>
  have hkd : ((k : Int) == 0) = false := by rw [beq_eq_false_iff_ne]; omega
  go_wp2_with fail
  refine (New_any w4).mono ?_
  rintro e w5 ⟨rfl, hA5, b5⟩
  obtain ⟨vr, va, m1, m2, hI5⟩ := hA5
  have hB5 := lnGo b5 B4.out
  have HtB := hid (tab_go (tab_later Ht.out B4.out) b5)
  have z5 := b5.size
  have E5 := hid ((b5.block w.heap.size (by omega)).trans E4.out)
  have HC := Ask_any w4.heap.size w4.heap.size vr va m1 m2 ⟨[], []⟩ _ l c w5 hI5 (AtGood.nil 7) z5 (LA.out.below hB5) SA.out (by omega) (by decide) (by decide) HtB.out
  have hE := atAns_err ⟨[], []⟩ c hI
  obtain ⟨NA, RA, EA, hAA⟩ : ∃ a b e, atAns ⟨[], []⟩ l c = (a, b, e) := ⟨_, _, _, rfl⟩
  rw [hAA] at hE HC
  obtain rfl : EA = 0 := hE
  obtain ⟨S1, hS1⟩ : ∃ s, s = atAsk1 ⟨[], []⟩ (l, c) := ⟨_, rfl⟩
  rw [← hS1] at HC
  have HC := hid HC
  have HG1 : Hid (AtGood 7 S1) := hid (by rw [hS1]; exact (AtGood.nil 7).ask1 SA.out.1 SA.out.2 (by omega) Hwf.out)
  have hL1 : S1.rows.length ≤ 1 ∧ S1.atoms.length ≤ 1 := by rw [hS1]; exact atAsk1_len _ _
  have HL1 := hid hL1
  have HAA := hid hAA; have HS1 := hid hS1; have HI := hid hI
  have B5 := hid hB5
  obtain ⟨y0, y1, y2⟩ := lnCells3 E5.out
  have HO5 := hid hI5.own
  have B45 := hid b5
  clear b5 hB5 hAA hS1 hI hL1 hI5
  go_wp2_with fail
  refine HC.out.mono ?_
  rintro e w6 ⟨rfl, vr6, va6, m16, m26, hI6, hA6, -⟩
  have z6 := hA6.size
  have HI6 := hid hI6
  have B6 := hid (B5.out.trans (Apart.below hA6 (show w.heap.size ≤ w5.heap.size by omega) (fun b hb => by have := (HO5.out b hb).1; omega)))
  have E6 : Hid (w6.heap[w.heap.size]? = some (.cells #[.slice p0 n0 c0, .bool b0, .slice q0 k0 d0] 37 (0, 0))) := hid ((hA6.block w.heap.size (by omega) (fun hs => by have := (HO5.out _ hs).1; omega)).trans E5.out)
  have HtB6 := hid (tab_go HtB.out (Apart.below hA6 z5 (fun b hb => (HO5.out b hb).1)))
  have HS6 := hid hI6.own
  have B46 := hid (B45.out.trans (Apart.below hA6 z5 (fun b hb => (HO5.out b hb).1)))
  clear hA6 hI6 HC B45 y0 y1 y2 HtB HO5
  obtain ⟨LT, hLT⟩ : ∃ t, t = lnTimes (k : Int) l := ⟨_, rfl⟩
  obtain ⟨ck, hck⟩ : ∃ t, t = c * (k : Int) := ⟨_, rfl⟩
  have hkp : 0 < k := by omega
  have hkW : k < W := by unfold W; omega
  have hks : sz W (k : Int).natAbs ≤ 1 := by rw [Int.natAbs_natCast]; exact sz_word hkW
  have hLe : lnSum LT = LT := by rw [hLT]; exact lnSum_self (lnTimes_is (by omega) HI.out)
  have hLl : LT.length ≤ 40 := by rw [hLT]; unfold lnTimes; rw [List.length_map]; exact la
  have hLs : LnSz 7 (LT, ck) := ⟨fun p hp => by
    have hp : p ∈ LT := hp
    rw [hLT] at hp
    obtain ⟨q, hq, rfl⟩ := List.mem_map.1 hp
    show sz W (q.1 * (k : Int)).natAbs ≤ 7
    rw [Int.natAbs_mul]
    exact Nat.le_trans (sz_mul W2 _ _) (by have : sz W q.1.natAbs ≤ 6 := SA.out.1 q hq; omega), by
    show sz W ck.natAbs ≤ 7
    rw [hck, Int.natAbs_mul]
    exact Nat.le_trans (sz_mul W2 _ _) (by have : sz W c.natAbs ≤ 6 := SA.out.2; omega)⟩
  have HSc : Hid (∀ v w', Below w6.heap.size w6 w' → IntAt w' v k → Calls Tryz.prog 24 #[.agg #[.slice p0 n0 c0, .bool b0, .slice q0 k0 d0], v] w' (RLin (LT, ck) w')) := hid (fun v w' hb hv => by
    have hh := RScale_lin _ v (l, c) k w' (N := 6) (by decide) (LA.out.below (lnGo hb B6.out)) (hv.rawL (Nat.le_trans hks (by decide))) SA.out (Nat.le_trans hks (by decide)) (by show 6 + 6 + l.length ≤ _; omega)
    rw [show ((l, c) : AtRow × Int).1 = l from rfl, show ((l, c) : AtRow × Int).2 = c from rfl, ← hck, ← hLT, hLe] at hh
    exact hh)
  have HA2 : Hid (∀ v w', Below w6.heap.size w6 w' → LnT w' v (LT, ck) → Calls Tryz.prog 12 #[.pointer (some ⟨w4.heap.size, 0, none⟩), v] w' fun e w'' => e = .returned (.tuple #[.int .i64 NA, .bool RA, .int .i64 0]) ∧ Apart (atS w4.heap.size vr6 va6 m16 m26) w' w'') := hid (fun v w' hb hv => by
    have hone : atOne LT ck = atOne l c := by rw [hLT, hck]; exact atOne_times k hkp c
    have hans : atAns S1 LT ck = (NA, RA, 0) := by rw [HS1.out, hLT, hck, atAns_times _ c HI.out k hkp]; exact HAA.out
    have hg : (lnGcd LT : Int) = (lnGcd l : Int) * (k : Int) := by rw [hLT, lnTimes_gcd, Int.natCast_mul]
    have hover : lnOver (lnGcd LT : Nat) LT = lnOver (lnGcd l : Nat) l := by rw [hg, hLT]; exact lnOver_timesN hkp l
    have hdiv : (-ck) / (lnGcd LT : Nat) = (-c) / (lnGcd l : Nat) := by rw [hg, hck, ← Int.neg_mul, Int.mul_ediv_mul_of_pos_left _ _ (by omega)]
    have hq := Ask_anyG w4.heap.size w4.heap.size vr6 va6 m16 m26 S1 v LT ck w' (HI6.out.below hb) HG1.out (by have := hb.size; omega) (hv.raw hLs (by decide)) (N := 7) (by decide) hLs
      (fun p hp => by
        rw [hover] at hp
        obtain ⟨q, hq, rfl⟩ := List.mem_map.1 hp
        exact Nat.le_trans (sz_mono W2 (Int.natAbs_ediv_le_natAbs _ _)) (SA.out.1 q hq))
      (by
        rw [hdiv]
        exact Nat.le_trans (sz_mono W2 (Int.natAbs_ediv_le_natAbs _ _)) (Nat.le_trans (by rw [Int.natAbs_neg]; exact SA.out.2) (by decide)))
      (by rw [hone]; exact atOne_val_sz (N := 6) (by decide) SA.out.2)
      (by omega) (by have := HL1.out; omega) (by have := HL1.out; omega) (tab_go HtB6.out (hb.mono (by omega)))
    refine hq.mono ?_
    rintro e w'' ⟨he, vr', va', c1, c2, -, hA, -⟩
    rw [hans] at he
    exact ⟨he, hA⟩)
  have HX7 : Hid (∀ w', Apart (atS w4.heap.size vr6 va6 m16 m26) w6 w' → w'.cell? ⟨w.heap.size, 0, none⟩ = some (.slice p0 n0 c0) ∧ w'.cell? ⟨w.heap.size, 1, none⟩ = some (.bool b0) ∧ w'.cell? ⟨w.heap.size, 2, none⟩ = some (.slice q0 k0 d0)) := hid fun w' ha => lnCells3 ((ha.block w.heap.size (by omega) (fun hs => by have := (HS6.out _ hs).1; omega)).trans E6.out)
  have HSlt : Hid (∀ b, (atS w4.heap.size vr6 va6 m16 m26) b → b < w6.heap.size) := hid fun b hb => (HS6.out b hb).2.1
  have hbase : w.heap.size ≤ w4.heap.size := by omega
  have HEnd : Hid (∀ w', Apart (atS w4.heap.size vr6 va6 m16 m26) w6 w' → Below w.heap.size w w') := hid fun w' ha => B6.out.trans (Apart.below ha (by omega) (fun b hb => by have := (HS6.out b hb).1; omega))
  clear hLT hck hkW hks hLe hLl hLs
  go_upto_region 7 with fail
  refine wp_region_write (w0 := w6) 14 0 [35, 36, 37, 38, 39, 40, 41, 34, 42, 43, 44, 9, 10, 11] [undef, undef, undef, undef, undef, undef, undef, undef, undef, undef, undef, undef, undef, undef] (S := (atS w4.heap.size vr6 va6 m16 m26))
    (fun i => match i with | 0 => wEq (.pointer (some ⟨w4.heap.size, 0, none⟩)) | 1 => wEq (.agg #[.slice p0 n0 c0, .bool b0, .slice q0 k0 d0]) | 2 => wEq (.int .u16 (k : Nat)) | 3 => wEq (.int .i64 (k : Nat)) | 4 => wB w6 (lnI (k : Nat)) | 5 => wB w6 (lnS (LT, ck)) | 6 => wEq (.tuple #[.int .i64 NA, .bool RA, .int .i64 0]) | 7 => wEq (.tuple #[.int .i64 NA, .bool RA, .int .i64 0]) | 8 => wEq (.int .i64 NA) | 9 => wEq (.bool RA) | 10 => wEq (.int .i64 0) | 11 => wEq (.int .i64 NA) | 12 => wEq (.bool RA) | _ => wEq (.int .i64 0)) 6 (fun _ _ => True) (fun _ _ _ h _ => h) (by kernel_rfl) (by kernel_rfl) (by kernel_rfl) (by kernel_rfl) (by decide) rfl (by kernel_rfl) rfl (by decide) ?he1 ?_ ?_
  case he1 => simp only [putAll, Act.put, List.setIfInBounds_toArray, List.set_cons_zero, List.set_cons_succ]
  · intro i o hi ho vs wx hvl hb hB hdep K hK
    have hvs := vlen14 hvl
    obtain ⟨s35, s36, s37, s38, s39, s40, s41, s34, s42, s43, s44, s9, s10, s11, rfl⟩ := hvs
    clear hvl
    have hk7 := HX7.out wx hb
    obtain ⟨y0, y1, y2⟩ := hk7
    rcases i with _ | _ | _ | _ | _ | _ | _ | _ | _ | _ | _ | _ | _ | _ | i
    all_goals (simp only [List.getElem?_toArray, List.getElem?_cons_zero, List.getElem?_cons_succ, Option.some.injEq] at ho)
    all_goals try (subst ho)
    all_goals try simp only [putAll, Act.put, List.setIfInBounds_toArray, List.set_cons_zero, List.set_cons_succ]
    · go_simp
      have hK' := hK.out
      simp only [putAll, Act.put, List.setIfInBounds_toArray, List.set_cons_zero, List.set_cons_succ] at hK'
      exact hK' _ _ rfl (fun _ => Below.refl _ _) (fun h => absurd h (by decide))
    · go_simp
      have hK' := hK.out
      simp only [putAll, Act.put, List.setIfInBounds_toArray, List.set_cons_zero, List.set_cons_succ] at hK'
      exact hK' _ _ rfl (fun _ => Below.refl _ _) (fun h => absurd h (by decide))
    · go_simp
      have hK' := hK.out
      simp only [putAll, Act.put, List.setIfInBounds_toArray, List.set_cons_zero, List.set_cons_succ] at hK'
      exact hK' _ _ rfl (fun _ => Below.refl _ _) (fun h => absurd h (by decide))
    · have e2 : s37 = _ := hdep ⟨2, .data⟩ (by simp) rfl
      have e2 := e2.symm
      subst e2
      go_simp
      have hK' := hK.out
      simp only [putAll, Act.put, List.setIfInBounds_toArray, List.set_cons_zero, List.set_cons_succ] at hK'
      exact hK' _ _ (show _ = Value.int .i64 (k : Nat) by first | rfl | (congr 1; exact IntWalk.i64_in _ (by omega)) | (rw [IntWalk.i64_in _ (by omega)]) | (simp [IntKind.wrap]; omega)) (fun _ => Below.refl _ _) (fun h => absurd h (by decide))
    · have e3 : s38 = _ := hdep ⟨3, .data⟩ (by simp) rfl
      have e3 := e3.symm
      subst e3
      have hbB := hB (Or.inr (by kernel_rfl))
      go_simp
      refine (ROf_any (k : Nat) wx (by omega) (by omega)).mono ?_
      rintro e wy ⟨vy, rfl, iy, hby⟩
      have hsh := iy.shape
      obtain ⟨p5, n5, c5, rfl, iy⟩ := hsh
      go_wp2_with fail
      have hK' := hK.out
      simp only [putAll, Act.put, List.setIfInBounds_toArray, List.set_cons_zero, List.set_cons_succ] at hK'
      exact hK' _ _ (wB_mk (lnGo hby hbB) ⟨_, _, _, _, rfl, iy⟩) (fun _ => hby) (fun h => absurd h (by decide))
    · have e1 : s36 = _ := hdep ⟨1, .data⟩ (by simp) rfl
      have e1 := e1.symm
      subst e1
      have e4 : (wB w6 (lnI (k : Nat))).P s39 wx := hdep ⟨4, .data⟩ (by simp) rfl
      have hbB := hB (Or.inr (by kernel_rfl))
      have e4 := wB_at e4 hbB HSlt.out
      obtain ⟨da, pa, na, ca, rfl, ia⟩ := e4
      go_simp
      refine (HSc.out _ wx hbB ia).mono ?_
      rintro e wy ⟨vy, rfl, iy, hby⟩
      obtain ⟨p5, n5, c5, q5, k5, d5, rfl⟩ := iy.agg3
      go_wp2_with fail
      have hK' := hK.out
      simp only [putAll, Act.put, List.setIfInBounds_toArray, List.set_cons_zero, List.set_cons_succ] at hK'
      exact hK' _ _ (wB_mk (lnGo hby hbB) ⟨_, _, _, _, _, _, rfl, iy⟩) (fun _ => hby) (fun h => absurd h (by decide))
    · have e0 : s35 = _ := hdep ⟨0, .data⟩ (by simp) rfl
      have e0 := e0.symm
      subst e0
      have e5 : (wB w6 (lnS (LT, ck))).P s40 wx := hdep ⟨5, .data⟩ (by simp) rfl
      have hbB := hB (Or.inl rfl)
      have e5 := wB_at e5 hbB HSlt.out
      obtain ⟨p5, n5, c5, q5, k5, d5, rfl, iy⟩ := e5
      have HQ := hid (HA2.out _ wx hbB iy)
      generalize hsk : decide (((LT, ck) : AtRow × Int).2 < 0) = sk at *
      clear iy
      go_simp
      refine HQ.out.mono ?_
      rintro e wy ⟨rfl, hA⟩
      go_wp2_with fail
      have hK' := hK.out
      simp only [putAll, Act.put, List.setIfInBounds_toArray, List.set_cons_zero, List.set_cons_succ] at hK'
      exact hK' _ _ rfl (fun h => absurd rfl h) (fun _ => ⟨hA, trivial⟩)
    · have e6 : s41 = _ := hdep ⟨6, .data⟩ (by simp) rfl
      have e6 := e6.symm
      subst e6
      go_simp
      have hK' := hK.out
      simp only [putAll, Act.put, List.setIfInBounds_toArray, List.set_cons_zero, List.set_cons_succ] at hK'
      exact hK' _ _ rfl (fun _ => Below.refl _ _) (fun h => absurd h (by decide))
    · have e7 : s34 = _ := hdep ⟨7, .data⟩ (by simp) rfl
      have e7 := e7.symm
      subst e7
      go_simp
      have hK' := hK.out
      simp only [putAll, Act.put, List.setIfInBounds_toArray, List.set_cons_zero, List.set_cons_succ] at hK'
      exact hK' _ _ rfl (fun _ => Below.refl _ _) (fun h => absurd h (by decide))
    · have e7 : s34 = _ := hdep ⟨7, .data⟩ (by simp) rfl
      have e7 := e7.symm
      subst e7
      go_simp
      have hK' := hK.out
      simp only [putAll, Act.put, List.setIfInBounds_toArray, List.set_cons_zero, List.set_cons_succ] at hK'
      exact hK' _ _ rfl (fun _ => Below.refl _ _) (fun h => absurd h (by decide))
    · have e7 : s34 = _ := hdep ⟨7, .data⟩ (by simp) rfl
      have e7 := e7.symm
      subst e7
      go_simp
      have hK' := hK.out
      simp only [putAll, Act.put, List.setIfInBounds_toArray, List.set_cons_zero, List.set_cons_succ] at hK'
      exact hK' _ _ rfl (fun _ => Below.refl _ _) (fun h => absurd h (by decide))
    · have e8 : s42 = _ := hdep ⟨8, .data⟩ (by simp) rfl
      have e8 := e8.symm
      subst e8
      go_simp
      have hK' := hK.out
      simp only [putAll, Act.put, List.setIfInBounds_toArray, List.set_cons_zero, List.set_cons_succ] at hK'
      exact hK' _ _ rfl (fun _ => Below.refl _ _) (fun h => absurd h (by decide))
    · have e9 : s43 = _ := hdep ⟨9, .data⟩ (by simp) rfl
      have e9 := e9.symm
      subst e9
      go_simp
      have hK' := hK.out
      simp only [putAll, Act.put, List.setIfInBounds_toArray, List.set_cons_zero, List.set_cons_succ] at hK'
      exact hK' _ _ rfl (fun _ => Below.refl _ _) (fun h => absurd h (by decide))
    · have e10 : s44 = _ := hdep ⟨10, .data⟩ (by simp) rfl
      have e10 := e10.symm
      subst e10
      go_simp
      have hK' := hK.out
      simp only [putAll, Act.put, List.setIfInBounds_toArray, List.set_cons_zero, List.set_cons_succ] at hK'
      exact hK' _ _ rfl (fun _ => Below.refl _ _) (fun h => absurd h (by decide))
    · omega
  · intro vs wx hvl hb hf hJw
    have hvs := vlen14 hvl
    obtain ⟨s35, s36, s37, s38, s39, s40, s41, s34, s42, s43, s44, s9, s10, s11, rfl⟩ := hvs
    have f8 : s42 = _ := hf 8 (by decide)
    have f9 : s43 = _ := hf 9 (by decide)
    have f10 : s44 = _ := hf 10 (by decide)
    have f11 : s9 = _ := hf 11 (by decide)
    have f12 : s10 = _ := hf 12 (by decide)
    have f13 : s11 = _ := hf 13 (by decide)
    have f8 := f8.symm
    have f9 := f9.symm
    have f10 := f10.symm
    have f11 := f11.symm
    have f12 := f12.symm
    have f13 := f13.symm
    subst f8 f9 f10 f11 f12 f13
    have HBF := hid (HEnd.out wx hb)
    clear hf hJw hvl
    refine wpAny_done (by kernel_rfl) ?_ _
    try simp only [putAll, Act.put, List.setIfInBounds_toArray, List.set_cons_zero, List.set_cons_succ]
    go_wp2
    go_ret
    exact ⟨rfl, HBF.out⟩
theorem wf16 {z : Int} (h : (Lit.int .u16 z).wf = true) : 0 ≤ z ∧ z ≤ 65535 := by
  have e : IntKind.min .u16 = 0 := by decide
  have e' : IntKind.max .u16 = 65535 := by decide
  simp only [Lit.wf, e, e', Bool.and_eq_true, decide_eq_true_eq] at h
  exact h
end Go.Proofs.YtnfohbpgnbfmeaaGreatDoor
