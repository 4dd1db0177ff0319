/- Texts put together: RatDiv, RatLaw, RatFixed, RatIn, Ref2, Ref2Den. -/
import Derived.Test.YtlijekppbpefaaaRoundsCardM7
import Derived.Deep.DeepCutAuto
/- ratio.Div. -/
namespace Go.Proofs.Ytlijekppbpefaaa
open Go.RowKit Big

set_option maxRecDepth 100000 in
set_option maxHeartbeats 6400000 in
theorem QDiv_none (v0 v1 : Value) (p q r s : Int) (w : World) (h0 : RatRaw w v0 p q) (h1 : RatRaw w v1 r s) (l0 : sz W p.natAbs ≤ 1000) (l1 : sz W q.natAbs ≤ 1000) (l2 : sz W r.natAbs ≤ 1000) (l3 : sz W s.natAbs ≤ 1000) (hr : r = 0) :
    Calls Try.prog 17 #[v0, v1] w (RNone w) := by
  have Hr0 := hid hr
  clear hr
  have l1' := sz_dn l1 (by decide)
  have l3' := sz_dn l3 (by decide)
  have la := hid (sz_mul2 l0 l3'); have lb := hid (sz_mul2 l1' l2)
  obtain ⟨b, p0, n0, c0, p1, n1, c1, rfl, ha0, ha1⟩ := id h0
  obtain ⟨b', p2, n2, c2, p3, n3, c3, rfl, hb0, hb1⟩ := id h1
  have HRA := hid h0; have HRB := hid h1
  clear ha0 ha1 hb0 hb1 h0 h1
  go_enter Try.func17, Try.ntmps17
  go_upto_region 1 with fail
  generalize hW : World.alloc (World.alloc (World.alloc w _) _) _ = W0
  have bw : Below w.heap.size w W0 := by rw [← hW]; exact ((below1 _ _).alloc (by simp) _).alloc (by simp; omega) _
  have ra : Rec W0 w.heap.size 27 #[.bool b, .slice p0 n0 c0, .slice p1 n1 c1] := by
    rw [← hW]; exact ((Rec.new ..).below (below1 _ _)).below (below1 _ _)
  have rb : Rec W0 (w.heap.size + 1) 27 #[.bool b', .slice p2 n2 c2, .slice p3 n3 c3] := by
    rw [← hW]
    have := (Rec.new (w.alloc (.cells #[.bool b, .slice p0 n0 c0, .slice p1 n1 c1] 27)) #[.bool b', .slice p2 n2 c2, .slice p3 n3 c3] 27)
    rw [size_alloc] at this
    exact this.below (below1 _ _)
  have rz : Rec W0 (w.heap.size + 1 + 1) 27 #[.bool false, .slice none 0 0, .slice none 0 0] := by
    rw [← hW]
    have := Rec.new ((w.alloc (.cells #[.bool b, .slice p0 n0 c0, .slice p1 n1 c1] 27)).alloc (.cells #[.bool b', .slice p2 n2 c2, .slice p3 n3 c3] 27)) #[.bool false, .slice none 0 0, .slice none 0 0] 27
    rwa [size_alloc, size_alloc] at this
  have Hrz := hid rz
  clear rz
  have HS : Hid (∀ w', Below W0.heap.size W0 w' → w'.cell? ⟨w.heap.size, 0, none⟩ = some (.bool b) ∧ w'.cell? ⟨w.heap.size, 1, none⟩ = some (.slice p0 n0 c0) ∧ w'.cell? ⟨w.heap.size, 2, none⟩ = some (.slice p1 n1 c1) ∧
      w'.cell? ⟨w.heap.size + 1, 0, none⟩ = some (.bool b') ∧ w'.cell? ⟨w.heap.size + 1, 1, none⟩ = some (.slice p2 n2 c2) ∧ w'.cell? ⟨w.heap.size + 1, 2, none⟩ = some (.slice p3 n3 c3)) := by
    intro w' hb
    have xa := cells3 (ra.below hb)
    have xb := cells3 (rb.below hb)
    exact ⟨xa.1, xa.2.1, xa.2.2, xb.1, xb.2.1, xb.2.2⟩
  have HRA := hid (HRA.out.below bw); have HRB := hid (HRB.out.below bw); have Hbw := hid bw
  clear hW ra rb bw
  go_upto_region 1 with fail
  go_cut [6, 7] (fun s5 s6 wx => ∃ g5 g6, s5 = .pointer (some ⟨g5, 0, none⟩) ∧ s6 = .pointer (some ⟨g6, 0, none⟩) ∧ g5 ≠ g6 ∧ W0.heap.size ≤ g5 ∧ W0.heap.size ≤ g6 ∧ PairVar wx g5 p (dn q) ∧ PairVar wx g6 r (dn s) ∧ Below W0.heap.size W0 wx)
  case first =>
    rename_i Jc Kc hJc hKc
    refine wp_region_facts (w0 := W0) 6 2 [9, 10, 11, 12, 6, 7] [undef, undef, undef, undef, undef, undef]
      (fun i => match i with | 0 => eqF (.agg #[.bool b, .slice p0 n0 c0, .slice p1 n1 c1]) | 1 => pairF p (dn q) | 2 => eqF (.agg #[.bool b', .slice p2 n2 c2, .slice p3 n3 c3]) | 3 => pairF r (dn s) | 4 => recF W0.heap.size 47 | _ => recF W0.heap.size 47) [4, 5] (by kernel_rfl) (by kernel_rfl) (by kernel_rfl) (by kernel_rfl) (by decide) rfl (by kernel_rfl) rfl (by simp) ?he7 ?_ ?_ ?_
    case he7 => simp only [putAll, Act.put, List.setIfInBounds_toArray, List.set_cons_zero, List.set_cons_succ]
    · intro i hi v w' h
      simp only [List.mem_cons, List.not_mem_nil, or_false] at hi
      rcases hi with rfl | rfl
      · obtain ⟨g, x1, x2, x3, x4, hg, hp, -⟩ := (show (recF W0.heap.size 47).P v w' from h); exact ⟨g, hg, hp.lt⟩
      · obtain ⟨g, x1, x2, x3, x4, hg, hp, -⟩ := (show (recF W0.heap.size 47).P v w' from h); exact ⟨g, hg, hp.lt⟩
    · intro i o hi ho vs wx hvl hb hdep K hK
      have hvs := len6 hvl
      obtain ⟨s9, s10, s11, s12, s6, s7, rfl⟩ := hvs
      clear hvl
      have hk := HS.out wx hb
      go_split_ands
      rcases i with _ | _ | _ | _ | _ | _ | i
      all_goals (simp only [List.getElem?_toArray, List.getElem?_cons_zero, List.getElem?_cons_succ, Option.some.injEq] at ho)
      all_goals try (subst ho)
      all_goals try simp only [putAll, Act.put, List.setIfInBounds_toArray, List.set_cons_zero, List.set_cons_succ]
      · go_simp
        have hK' := hK.out
        simp only [putAll, Act.put, List.setIfInBounds_toArray, List.set_cons_zero, List.set_cons_succ] at hK'
        exact hK' _ _ rfl (Below.refl _ _) (by simp)
      · have e0 : s9 = _ := hdep ⟨0, .data⟩ (by simp) rfl
        subst e0
        go_simp
        refine (read_any _ p q _ (HRA.out.below hb)).mono ?_
        rintro e wy ⟨vy, rfl, iy, hby⟩
        obtain ⟨e1, e2, e3, e4, e5, e6, e7, e8, rfl, iy0, iy1⟩ := iy
        go_wp2_with fail
        have hK' := hK.out
        simp only [putAll, Act.put, List.setIfInBounds_toArray, List.set_cons_zero, List.set_cons_succ] at hK'
        exact hK' _ _ ⟨_, _, _, _, _, _, _, _, rfl, iy0, iy1⟩ hby (by simp)
      · go_simp
        have hK' := hK.out
        simp only [putAll, Act.put, List.setIfInBounds_toArray, List.set_cons_zero, List.set_cons_succ] at hK'
        exact hK' _ _ rfl (Below.refl _ _) (by simp)
      · have e2 : s11 = _ := hdep ⟨2, .data⟩ (by simp) rfl
        subst e2
        go_simp
        refine (read_any _ r s _ (HRB.out.below hb)).mono ?_
        rintro e wy ⟨vy, rfl, iy, hby⟩
        obtain ⟨e1, e2, e3, e4, e5, e6, e7, e8, rfl, iy0, iy1⟩ := iy
        go_wp2_with fail
        have hK' := hK.out
        simp only [putAll, Act.put, List.setIfInBounds_toArray, List.set_cons_zero, List.set_cons_succ] at hK'
        exact hK' _ _ ⟨_, _, _, _, _, _, _, _, rfl, iy0, iy1⟩ hby (by simp)
      · go_simp
        have hK' := hK.out
        simp only [putAll, Act.put, List.setIfInBounds_toArray, List.set_cons_zero, List.set_cons_succ] at hK'
        exact hK' _ _ ⟨_, _, _, _, _, rfl, Rec.new .., by simp [nonInt], hb.size⟩ (below1 _ _) (fun _ => rfl)
      · go_simp
        have hK' := hK.out
        simp only [putAll, Act.put, List.setIfInBounds_toArray, List.set_cons_zero, List.set_cons_succ] at hK'
        exact hK' _ _ ⟨_, _, _, _, _, rfl, Rec.new .., by simp [nonInt], hb.size⟩ (below1 _ _) (fun _ => rfl)
      · omega
    · intro vs wx hvl hb hf hdist
      have hvs := len6 hvl
      obtain ⟨s9, s10, s11, s12, s6, s7, rfl⟩ := hvs
      have k1 : PairAt wx s10 p (dn q) := hf 1 (by decide)
      have k3 : PairAt wx s12 r (dn s) := hf 3 (by decide)
      have k4 : (recF W0.heap.size 47).P s6 wx := hf 4 (by decide)
      have k5 : (recF W0.heap.size 47).P s7 wx := hf 5 (by decide)
      have hne : s6 ≠ s7 := hdist 4 (by simp) 5 (by simp) (by decide)
      obtain ⟨e1, e2, e3, e4, e5, e6, e7, e8, rfl, i1, i2⟩ := k1
      obtain ⟨f1, f2, f3, f4, f5, f6, f7, f8, rfl, j1, j2⟩ := k3
      obtain ⟨g5, xa, xb, xc, xd, rfl, rec5, non5, hB5⟩ := k4
      obtain ⟨g6, ya, yb, yc, yd, rfl, rec6, non6, hB6⟩ := k5
      have hgne : g5 ≠ g6 := fun e => hne (by rw [e])
      clear hf hdist hvl hne
      have c5 := cells4 rec5
      obtain ⟨x0, x1, x2, x3⟩ := c5
      have f5x := frozen4 rec5
      obtain ⟨y0, y1, y2, y3⟩ := f5x
      refine wpAny_one (i := 6) (by kernel_rfl) rfl ?_
      intro K hK
      simp only [putAll, Act.put, List.setIfInBounds_toArray, List.set_cons_zero, List.set_cons_succ]
      go_simp
      have hK' := hK.out
      apply hK'
      clear hK hK'
      have m5 := put4 rec5 non5 (.bool e1) (.slice e2 e3 e4) (.bool e5) (.slice e6 e7 e8) (by simp [nonInt])
      have i1 := m5.2.raw _ _ i1; have i2 := m5.2.raw _ _ i2; have j1 := m5.2.raw _ _ j1; have j2 := m5.2.raw _ _ j2
      have rec6 := m5.2.rcs _ _ _ hgne.symm rec6
      have hb := m5.2.bel W0.heap.size W0 hB5 hb
      have rec5 := m5.1
      clear m5 x0 x1 x2 x3 y0 y1 y2 y3
      generalize ((((wx.setCell ⟨g5, 0, none⟩ (.bool e1)).setCell ⟨g5, 1, none⟩ (.slice e2 e3 e4)).setCell ⟨g5, 2, none⟩ (.bool e5)).setCell ⟨g5, 3, none⟩ (.slice e6 e7 e8)) = wy at *
      have c6 := cells4 rec6
      obtain ⟨x0, x1, x2, x3⟩ := c6
      have f6x := frozen4 rec6
      obtain ⟨y0, y1, y2, y3⟩ := f6x
      refine wpAny_one (i := 7) (by kernel_rfl) rfl ?_
      intro K hK
      go_simp
      have hK' := hK.out
      apply hK'
      clear hK hK'
      have m6 := put4 rec6 non6 (.bool f1) (.slice f2 f3 f4) (.bool f5) (.slice f6 f7 f8) (by simp [nonInt])
      refine wpAny_done (by kernel_rfl) ?_ _
      refine hKc _ _ (Met.intro (hJc _ _ ?_))
      (repeat apply Exists.intro)
      exact ⟨⟨g5, g6, rfl, rfl, hgne, hB5, hB6, ⟨_, _, _, _, _, _, _, _, m6.2.rcs _ _ _ hgne rec5, m6.2.raw _ _ i1, m6.2.raw _ _ i2⟩, ⟨_, _, _, _, _, _, _, _, m6.1, m6.2.raw _ _ j1, m6.2.raw _ _ j2⟩, m6.2.bel W0.heap.size W0 hB6 hb⟩, rfl⟩
  case rest =>
    obtain ⟨g5, g6, rfl, rfl, hgne, hB5, hB6, V5, V6, hbc⟩ := hcut
    obtain ⟨e1, e2, e3, e4, e5, e6, e7, e8, rec5, A1, A2⟩ := V5
    obtain ⟨f1, f2, f3, f4, f5, f6, f7, f8, rec6, B1, B2⟩ := V6
    have Hrec5 := hid rec5; have Hrec6 := hid rec6
    have HA1 := hid A1; have HA2 := hid A2; have HB1 := hid B1; have HB2 := hid B2; have Hbc := hid hbc
    have HS2 : Hid (∀ w', Below wc.heap.size wc w' → w'.cell? ⟨g5, 0, none⟩ = some (.bool e1) ∧ w'.cell? ⟨g5, 1, none⟩ = some (.slice e2 e3 e4) ∧ w'.cell? ⟨g5, 2, none⟩ = some (.bool e5) ∧ w'.cell? ⟨g5, 3, none⟩ = some (.slice e6 e7 e8) ∧
        w'.cell? ⟨g6, 0, none⟩ = some (.bool f1) ∧ w'.cell? ⟨g6, 1, none⟩ = some (.slice f2 f3 f4) ∧ w'.cell? ⟨g6, 2, none⟩ = some (.bool f5) ∧ w'.cell? ⟨g6, 3, none⟩ = some (.slice f6 f7 f8)) := by
      intro w' hb
      have xa := cells4 (Hrec5.out.below hb)
      have xb := cells4 (Hrec6.out.below hb)
      exact ⟨xa.1, xa.2.1, xa.2.2.1, xa.2.2.2, xb.1, xb.2.1, xb.2.2.1, xb.2.2.2⟩
    clear rec5 rec6 A1 A2 B1 B2 hbc HS HRA HRB Hrec5 Hrec6
    have HRZ := hid (Hrz.out.below Hbc.out)
    have HBW := hid (Hbw.out.trans (Hbc.out.mono (B' := w.heap.size) Hbw.out.size))
    go_upto_region 2 with fail
    refine wp_region_facts (w0 := wc) 12 1 [13, 14, 15, 16, 17, 18, 19, 20, 21, 22, 23, 8] [u13, u14, u15, u16, u17, u18, u19, u20, u21, u22, u23, undef]
      (fun i => match i with | 0 => eqF (.pointer (some ⟨g5, 0, none⟩)) | 1 => eqF (.agg #[.bool e1, .slice e2 e3 e4]) | 2 => eqF (.pointer (some ⟨g6, 2, none⟩)) | 3 => eqF (.agg #[.bool f5, .slice f6 f7 f8]) | 4 => intF (p * dn s) | 5 => eqF (.pointer (some ⟨g5, 2, none⟩)) | 6 => eqF (.agg #[.bool e5, .slice e6 e7 e8]) | 7 => eqF (.pointer (some ⟨g6, 0, none⟩)) | 8 => eqF (.agg #[.bool f1, .slice f2 f3 f4]) | 9 => intF (dn q * r) | 10 => pairF (p * dn s) (dn q * r) | _ => recF wc.heap.size 47) [11] (by kernel_rfl) (by kernel_rfl) (by kernel_rfl) (by kernel_rfl) (by decide) rfl (by kernel_rfl) rfl (by simp) ?he8 ?_ ?_ ?_
    case he8 => simp only [putAll, Act.put, List.setIfInBounds_toArray, List.set_cons_zero, List.set_cons_succ]
    · intro i hi v w' h
      simp only [List.mem_cons, List.not_mem_nil, or_false] at hi
      rcases hi with rfl
      · obtain ⟨g, x1, x2, x3, x4, hg, hp, -⟩ := (show (recF wc.heap.size 47).P v w' from h); exact ⟨g, hg, hp.lt⟩
    · intro i o hi ho vs wx hvl hb hdep K hK
      have hvs := len12 hvl
      obtain ⟨s13, s14, s15, s16, s17, s18, s19, s20, s21, s22, s23, s8, rfl⟩ := hvs
      clear hvl
      have hk := HS2.out wx hb
      go_split_ands
      rcases i with _ | _ | _ | _ | _ | _ | _ | _ | _ | _ | _ | _ | i
      all_goals (simp only [List.getElem?_toArray, List.getElem?_cons_zero, List.getElem?_cons_succ, Option.some.injEq] at ho)
      all_goals try (subst ho)
      all_goals try simp only [putAll, Act.put, List.setIfInBounds_toArray, List.set_cons_zero, List.set_cons_succ]
      · go_simp
        have hK' := hK.out
        simp only [putAll, Act.put, List.setIfInBounds_toArray, List.set_cons_zero, List.set_cons_succ] at hK'
        exact hK' _ _ rfl (Below.refl _ _) (by simp)
      · have e0 : s13 = _ := hdep ⟨0, .data⟩ (by simp) rfl
        subst e0
        go_simp
        have hK' := hK.out
        simp only [putAll, Act.put, List.setIfInBounds_toArray, List.set_cons_zero, List.set_cons_succ] at hK'
        exact hK' _ _ rfl (Below.refl _ _) (by simp)
      · go_simp
        have hK' := hK.out
        simp only [putAll, Act.put, List.setIfInBounds_toArray, List.set_cons_zero, List.set_cons_succ] at hK'
        exact hK' _ _ rfl (Below.refl _ _) (by simp)
      · have e2 : s15 = _ := hdep ⟨2, .data⟩ (by simp) rfl
        subst e2
        go_simp
        have hK' := hK.out
        simp only [putAll, Act.put, List.setIfInBounds_toArray, List.set_cons_zero, List.set_cons_succ] at hK'
        exact hK' _ _ rfl (Below.refl _ _) (by simp)
      · have e1 : s14 = _ := hdep ⟨1, .data⟩ (by simp) rfl
        subst e1
        have e3 : s16 = _ := hdep ⟨3, .data⟩ (by simp) rfl
        subst e3
        go_simp
        refine (Mul_any _ _ (p) (dn s) _ (HA1.out.below hb) (HB2.out.below hb) (by omega) (by omega)).mono ?_
        rintro e wy ⟨vy, rfl, iy, hby⟩
        have hsh := iy.parts'
        obtain ⟨q5, p5, n5, c5, rfl, iy⟩ := hsh
        go_wp2_with fail
        have hK' := hK.out
        simp only [putAll, Act.put, List.setIfInBounds_toArray, List.set_cons_zero, List.set_cons_succ] at hK'
        exact hK' _ _ ⟨_, _, _, _, rfl, iy⟩ hby (by simp)
      · go_simp
        have hK' := hK.out
        simp only [putAll, Act.put, List.setIfInBounds_toArray, List.set_cons_zero, List.set_cons_succ] at hK'
        exact hK' _ _ rfl (Below.refl _ _) (by simp)
      · have e5 : s18 = _ := hdep ⟨5, .data⟩ (by simp) rfl
        subst e5
        go_simp
        have hK' := hK.out
        simp only [putAll, Act.put, List.setIfInBounds_toArray, List.set_cons_zero, List.set_cons_succ] at hK'
        exact hK' _ _ rfl (Below.refl _ _) (by simp)
      · go_simp
        have hK' := hK.out
        simp only [putAll, Act.put, List.setIfInBounds_toArray, List.set_cons_zero, List.set_cons_succ] at hK'
        exact hK' _ _ rfl (Below.refl _ _) (by simp)
      · have e7 : s20 = _ := hdep ⟨7, .data⟩ (by simp) rfl
        subst e7
        go_simp
        have hK' := hK.out
        simp only [putAll, Act.put, List.setIfInBounds_toArray, List.set_cons_zero, List.set_cons_succ] at hK'
        exact hK' _ _ rfl (Below.refl _ _) (by simp)
      · have e6 : s19 = _ := hdep ⟨6, .data⟩ (by simp) rfl
        subst e6
        have e8 : s21 = _ := hdep ⟨8, .data⟩ (by simp) rfl
        subst e8
        go_simp
        refine (Mul_any _ _ (dn q) (r) _ (HA2.out.below hb) (HB1.out.below hb) (by omega) (by omega)).mono ?_
        rintro e wy ⟨vy, rfl, iy, hby⟩
        have hsh := iy.parts'
        obtain ⟨q5, p5, n5, c5, rfl, iy⟩ := hsh
        go_wp2_with fail
        have hK' := hK.out
        simp only [putAll, Act.put, List.setIfInBounds_toArray, List.set_cons_zero, List.set_cons_succ] at hK'
        exact hK' _ _ ⟨_, _, _, _, rfl, iy⟩ hby (by simp)
      · have e4 : (intF (p * dn s)).P s17 wx := hdep ⟨4, .data⟩ (by simp) rfl
        obtain ⟨da4, pa4, na4, ca4, rfl, ia4⟩ := e4
        have e9 : (intF (dn q * r)).P s22 wx := hdep ⟨9, .data⟩ (by simp) rfl
        obtain ⟨da9, pa9, na9, ca9, rfl, ia9⟩ := e9
        go_simp
        have hK' := hK.out
        simp only [putAll, Act.put, List.setIfInBounds_toArray, List.set_cons_zero, List.set_cons_succ] at hK'
        exact hK' _ _ ⟨_, _, _, _, _, _, _, _, rfl, ia4.raw (by have := la.out; omega), ia9.raw (by have := lb.out; omega)⟩ (Below.refl _ _) (by simp)
      · go_simp
        have hK' := hK.out
        simp only [putAll, Act.put, List.setIfInBounds_toArray, List.set_cons_zero, List.set_cons_succ] at hK'
        exact hK' _ _ ⟨_, _, _, _, _, rfl, Rec.new .., by simp [nonInt], hb.size⟩ (below1 _ _) (fun _ => rfl)
      · omega
    · intro vs wx hvl hb hf hdist
      have hvs := len12 hvl
      obtain ⟨s13, s14, s15, s16, s17, s18, s19, s20, s21, s22, s23, s8, rfl⟩ := hvs
      have f10 : PairAt wx s23 (p * dn s) (dn q * r) := hf 10 (by decide)
      have f11 : (recF wc.heap.size 47).P s8 wx := hf 11 (by decide)
      obtain ⟨h1, h2, h3, h4, h5, h6, h7, h8, rfl, i1, i2⟩ := f10
      obtain ⟨g8, xa, xb, xc, xd, rfl, rec8, non8, hB8⟩ := f11
      have c8x := cells4 rec8
      obtain ⟨x0, x1, x2, x3⟩ := c8x
      have f8x := frozen4 rec8
      obtain ⟨y0, y1, y2, y3⟩ := f8x
      clear hf hdist hvl
      refine wpAny_one (i := 12) (by kernel_rfl) rfl ?_
      intro K hK
      simp only [putAll, Act.put, List.setIfInBounds_toArray, List.set_cons_zero, List.set_cons_succ]
      go_simp
      have hK' := hK.out
      apply hK'
      clear hK hK'
      have m := put4 rec8 non8 (.bool h1) (.slice h2 h3 h4) (.bool h5) (.slice h6 h7 h8) (by simp [nonInt])
      have i1 := hid (m.2.raw _ _ i1); have i2 := hid (m.2.raw _ _ i2)
      have hb8 := hid (m.2.bel wc.heap.size wc hB8 hb)
      have rec8 := m.1
      clear m x0 x1 x2 x3 y0 y1 y2 y3 hb
      generalize ((((wx.setCell ⟨g8, 0, none⟩ (.bool h1)).setCell ⟨g8, 1, none⟩ (.slice h2 h3 h4)).setCell ⟨g8, 2, none⟩ (.bool h5)).setCell ⟨g8, 3, none⟩ (.slice h6 h7 h8)) = wd at *
      refine wpAny_done (by kernel_rfl) ?_ _
      have c8x := cells4 rec8
      obtain ⟨x0, x1, x2, x3⟩ := c8x
      have a := HS2.out wd hb8.out
      obtain ⟨-, -, -, -, z0, z1, -, -⟩ := a
      have HRZ := hid (HRZ.out.below hb8.out)
      have HBW := hid (HBW.out.trans (hb8.out.mono (B' := w.heap.size) HBW.out.size))
      have HB1 := hid (HB1.out.below hb8.out)
      clear HS2 rec8
      go_wp2_with fail
      refine (unless_none _ _ _ (Hr0.out ▸ HB1.out)).mono ?_
      rintro e we ⟨rfl, be⟩
      have rz := HRZ.out.below be
      have bw := HBW.out.trans (be.mono (B' := w.heap.size) HBW.out.size)
      have xz := cells3 rz
      obtain ⟨u0, u1, u2⟩ := xz
      have fz := frozen4 rz
      obtain ⟨fz0, fz1, fz2, -⟩ := fz
      have m := put3 rz (by simp [nonInt]) (.bool false) (.slice none 0 0) (.slice none 0 0) (by simp [nonInt])
      have mb := hid (m.2.bel w.heap.size w (by omega) bw)
      clear m rz bw be x0 x1 x2 x3 z0 z1
      go_wp2
      exact bodyPost_ret (v := .tuple #[.agg #[.bool false, .slice none 0 0, .slice none 0 0], .int .i64 12]) (by simp [results, Try.results17, go_sem, u0, u1, u2]) rfl ⟨rfl, mb.out⟩

set_option maxRecDepth 100000 in
set_option maxHeartbeats 6400000 in
theorem QDiv_some (v0 v1 : Value) (p q r s : Int) (w : World) (h0 : RatRaw w v0 p q) (h1 : RatRaw w v1 r s) (l0 : sz W p.natAbs ≤ 1000) (l1 : sz W q.natAbs ≤ 1000) (l2 : sz W r.natAbs ≤ 1000) (l3 : sz W s.natAbs ≤ 1000) (hr : r ≠ 0) :
    Calls Try.prog 17 #[v0, v1] w (RSome (Rat.divInt p (dn q) / Rat.divInt r (dn s)) w) := by
  have hx : Rat.divInt p (dn q) / Rat.divInt r (dn s) = Rat.divInt (p * dn s) (dn q * r) := by
    rw [Rat.div_def, Rat.inv_divInt, Rat.divInt_mul_divInt]
  have hne : dn q * r ≠ 0 := Int.mul_ne_zero (by have := dn_pos h0.den; omega) hr
  rw [hx]
  have Hne := hid hne
  have Hr0 := hid hr
  clear hx hne hr
  have l1' := sz_dn l1 (by decide)
  have l3' := sz_dn l3 (by decide)
  have la := hid (sz_mul2 l0 l3'); have lb := hid (sz_mul2 l1' l2)
  obtain ⟨b, p0, n0, c0, p1, n1, c1, rfl, ha0, ha1⟩ := id h0
  obtain ⟨b', p2, n2, c2, p3, n3, c3, rfl, hb0, hb1⟩ := id h1
  have HRA := hid h0; have HRB := hid h1
  clear ha0 ha1 hb0 hb1 h0 h1
  go_enter Try.func17, Try.ntmps17
  go_upto_region 1 with fail
  generalize hW : World.alloc (World.alloc (World.alloc w _) _) _ = W0
  have bw : Below w.heap.size w W0 := by rw [← hW]; exact ((below1 _ _).alloc (by simp) _).alloc (by simp; omega) _
  have ra : Rec W0 w.heap.size 27 #[.bool b, .slice p0 n0 c0, .slice p1 n1 c1] := by
    rw [← hW]; exact ((Rec.new ..).below (below1 _ _)).below (below1 _ _)
  have rb : Rec W0 (w.heap.size + 1) 27 #[.bool b', .slice p2 n2 c2, .slice p3 n3 c3] := by
    rw [← hW]
    have := (Rec.new (w.alloc (.cells #[.bool b, .slice p0 n0 c0, .slice p1 n1 c1] 27)) #[.bool b', .slice p2 n2 c2, .slice p3 n3 c3] 27)
    rw [size_alloc] at this
    exact this.below (below1 _ _)
  have rz : Rec W0 (w.heap.size + 1 + 1) 27 #[.bool false, .slice none 0 0, .slice none 0 0] := by
    rw [← hW]
    have := Rec.new ((w.alloc (.cells #[.bool b, .slice p0 n0 c0, .slice p1 n1 c1] 27)).alloc (.cells #[.bool b', .slice p2 n2 c2, .slice p3 n3 c3] 27)) #[.bool false, .slice none 0 0, .slice none 0 0] 27
    rwa [size_alloc, size_alloc] at this
  have Hrz := hid rz
  clear rz
  have HS : Hid (∀ w', Below W0.heap.size W0 w' → w'.cell? ⟨w.heap.size, 0, none⟩ = some (.bool b) ∧ w'.cell? ⟨w.heap.size, 1, none⟩ = some (.slice p0 n0 c0) ∧ w'.cell? ⟨w.heap.size, 2, none⟩ = some (.slice p1 n1 c1) ∧
      w'.cell? ⟨w.heap.size + 1, 0, none⟩ = some (.bool b') ∧ w'.cell? ⟨w.heap.size + 1, 1, none⟩ = some (.slice p2 n2 c2) ∧ w'.cell? ⟨w.heap.size + 1, 2, none⟩ = some (.slice p3 n3 c3)) := by
    intro w' hb
    have xa := cells3 (ra.below hb)
    have xb := cells3 (rb.below hb)
    exact ⟨xa.1, xa.2.1, xa.2.2, xb.1, xb.2.1, xb.2.2⟩
  have HRA := hid (HRA.out.below bw); have HRB := hid (HRB.out.below bw); have Hbw := hid bw
  clear hW ra rb bw
  go_upto_region 1 with fail
  go_cut [6, 7] (fun s5 s6 wx => ∃ g5 g6, s5 = .pointer (some ⟨g5, 0, none⟩) ∧ s6 = .pointer (some ⟨g6, 0, none⟩) ∧ g5 ≠ g6 ∧ W0.heap.size ≤ g5 ∧ W0.heap.size ≤ g6 ∧ PairVar wx g5 p (dn q) ∧ PairVar wx g6 r (dn s) ∧ Below W0.heap.size W0 wx)
  case first =>
    rename_i Jc Kc hJc hKc
    refine wp_region_facts (w0 := W0) 6 2 [9, 10, 11, 12, 6, 7] [undef, undef, undef, undef, undef, undef]
      (fun i => match i with | 0 => eqF (.agg #[.bool b, .slice p0 n0 c0, .slice p1 n1 c1]) | 1 => pairF p (dn q) | 2 => eqF (.agg #[.bool b', .slice p2 n2 c2, .slice p3 n3 c3]) | 3 => pairF r (dn s) | 4 => recF W0.heap.size 47 | _ => recF W0.heap.size 47) [4, 5] (by kernel_rfl) (by kernel_rfl) (by kernel_rfl) (by kernel_rfl) (by decide) rfl (by kernel_rfl) rfl (by simp) ?he9 ?_ ?_ ?_
    case he9 => simp only [putAll, Act.put, List.setIfInBounds_toArray, List.set_cons_zero, List.set_cons_succ]
    · intro i hi v w' h
      simp only [List.mem_cons, List.not_mem_nil, or_false] at hi
      rcases hi with rfl | rfl
      · obtain ⟨g, x1, x2, x3, x4, hg, hp, -⟩ := (show (recF W0.heap.size 47).P v w' from h); exact ⟨g, hg, hp.lt⟩
      · obtain ⟨g, x1, x2, x3, x4, hg, hp, -⟩ := (show (recF W0.heap.size 47).P v w' from h); exact ⟨g, hg, hp.lt⟩
    · intro i o hi ho vs wx hvl hb hdep K hK
      have hvs := len6 hvl
      obtain ⟨s9, s10, s11, s12, s6, s7, rfl⟩ := hvs
      clear hvl
      have hk := HS.out wx hb
      go_split_ands
      rcases i with _ | _ | _ | _ | _ | _ | i
      all_goals (simp only [List.getElem?_toArray, List.getElem?_cons_zero, List.getElem?_cons_succ, Option.some.injEq] at ho)
      all_goals try (subst ho)
      all_goals try simp only [putAll, Act.put, List.setIfInBounds_toArray, List.set_cons_zero, List.set_cons_succ]
      · go_simp
        have hK' := hK.out
        simp only [putAll, Act.put, List.setIfInBounds_toArray, List.set_cons_zero, List.set_cons_succ] at hK'
        exact hK' _ _ rfl (Below.refl _ _) (by simp)
      · have e0 : s9 = _ := hdep ⟨0, .data⟩ (by simp) rfl
        subst e0
        go_simp
        refine (read_any _ p q _ (HRA.out.below hb)).mono ?_
        rintro e wy ⟨vy, rfl, iy, hby⟩
        obtain ⟨e1, e2, e3, e4, e5, e6, e7, e8, rfl, iy0, iy1⟩ := iy
        go_wp2_with fail
        have hK' := hK.out
        simp only [putAll, Act.put, List.setIfInBounds_toArray, List.set_cons_zero, List.set_cons_succ] at hK'
        exact hK' _ _ ⟨_, _, _, _, _, _, _, _, rfl, iy0, iy1⟩ hby (by simp)
      · go_simp
        have hK' := hK.out
        simp only [putAll, Act.put, List.setIfInBounds_toArray, List.set_cons_zero, List.set_cons_succ] at hK'
        exact hK' _ _ rfl (Below.refl _ _) (by simp)
      · have e2 : s11 = _ := hdep ⟨2, .data⟩ (by simp) rfl
        subst e2
        go_simp
        refine (read_any _ r s _ (HRB.out.below hb)).mono ?_
        rintro e wy ⟨vy, rfl, iy, hby⟩
        obtain ⟨e1, e2, e3, e4, e5, e6, e7, e8, rfl, iy0, iy1⟩ := iy
        go_wp2_with fail
        have hK' := hK.out
        simp only [putAll, Act.put, List.setIfInBounds_toArray, List.set_cons_zero, List.set_cons_succ] at hK'
        exact hK' _ _ ⟨_, _, _, _, _, _, _, _, rfl, iy0, iy1⟩ hby (by simp)
      · go_simp
        have hK' := hK.out
        simp only [putAll, Act.put, List.setIfInBounds_toArray, List.set_cons_zero, List.set_cons_succ] at hK'
        exact hK' _ _ ⟨_, _, _, _, _, rfl, Rec.new .., by simp [nonInt], hb.size⟩ (below1 _ _) (fun _ => rfl)
      · go_simp
        have hK' := hK.out
        simp only [putAll, Act.put, List.setIfInBounds_toArray, List.set_cons_zero, List.set_cons_succ] at hK'
        exact hK' _ _ ⟨_, _, _, _, _, rfl, Rec.new .., by simp [nonInt], hb.size⟩ (below1 _ _) (fun _ => rfl)
      · omega
    · intro vs wx hvl hb hf hdist
      have hvs := len6 hvl
      obtain ⟨s9, s10, s11, s12, s6, s7, rfl⟩ := hvs
      have k1 : PairAt wx s10 p (dn q) := hf 1 (by decide)
      have k3 : PairAt wx s12 r (dn s) := hf 3 (by decide)
      have k4 : (recF W0.heap.size 47).P s6 wx := hf 4 (by decide)
      have k5 : (recF W0.heap.size 47).P s7 wx := hf 5 (by decide)
      have hne : s6 ≠ s7 := hdist 4 (by simp) 5 (by simp) (by decide)
      obtain ⟨e1, e2, e3, e4, e5, e6, e7, e8, rfl, i1, i2⟩ := k1
      obtain ⟨f1, f2, f3, f4, f5, f6, f7, f8, rfl, j1, j2⟩ := k3
      obtain ⟨g5, xa, xb, xc, xd, rfl, rec5, non5, hB5⟩ := k4
      obtain ⟨g6, ya, yb, yc, yd, rfl, rec6, non6, hB6⟩ := k5
      have hgne : g5 ≠ g6 := fun e => hne (by rw [e])
      clear hf hdist hvl hne
      have c5 := cells4 rec5
      obtain ⟨x0, x1, x2, x3⟩ := c5
      have f5x := frozen4 rec5
      obtain ⟨y0, y1, y2, y3⟩ := f5x
      refine wpAny_one (i := 6) (by kernel_rfl) rfl ?_
      intro K hK
      simp only [putAll, Act.put, List.setIfInBounds_toArray, List.set_cons_zero, List.set_cons_succ]
      go_simp
      have hK' := hK.out
      apply hK'
      clear hK hK'
      have m5 := put4 rec5 non5 (.bool e1) (.slice e2 e3 e4) (.bool e5) (.slice e6 e7 e8) (by simp [nonInt])
      have i1 := m5.2.raw _ _ i1; have i2 := m5.2.raw _ _ i2; have j1 := m5.2.raw _ _ j1; have j2 := m5.2.raw _ _ j2
      have rec6 := m5.2.rcs _ _ _ hgne.symm rec6
      have hb := m5.2.bel W0.heap.size W0 hB5 hb
      have rec5 := m5.1
      clear m5 x0 x1 x2 x3 y0 y1 y2 y3
      generalize ((((wx.setCell ⟨g5, 0, none⟩ (.bool e1)).setCell ⟨g5, 1, none⟩ (.slice e2 e3 e4)).setCell ⟨g5, 2, none⟩ (.bool e5)).setCell ⟨g5, 3, none⟩ (.slice e6 e7 e8)) = wy at *
      have c6 := cells4 rec6
      obtain ⟨x0, x1, x2, x3⟩ := c6
      have f6x := frozen4 rec6
      obtain ⟨y0, y1, y2, y3⟩ := f6x
      refine wpAny_one (i := 7) (by kernel_rfl) rfl ?_
      intro K hK
      go_simp
      have hK' := hK.out
      apply hK'
      clear hK hK'
      have m6 := put4 rec6 non6 (.bool f1) (.slice f2 f3 f4) (.bool f5) (.slice f6 f7 f8) (by simp [nonInt])
      refine wpAny_done (by kernel_rfl) ?_ _
      refine hKc _ _ (Met.intro (hJc _ _ ?_))
      (repeat apply Exists.intro)
      exact ⟨⟨g5, g6, rfl, rfl, hgne, hB5, hB6, ⟨_, _, _, _, _, _, _, _, m6.2.rcs _ _ _ hgne rec5, m6.2.raw _ _ i1, m6.2.raw _ _ i2⟩, ⟨_, _, _, _, _, _, _, _, m6.1, m6.2.raw _ _ j1, m6.2.raw _ _ j2⟩, m6.2.bel W0.heap.size W0 hB6 hb⟩, rfl⟩
  case rest =>
    obtain ⟨g5, g6, rfl, rfl, hgne, hB5, hB6, V5, V6, hbc⟩ := hcut
    obtain ⟨e1, e2, e3, e4, e5, e6, e7, e8, rec5, A1, A2⟩ := V5
    obtain ⟨f1, f2, f3, f4, f5, f6, f7, f8, rec6, B1, B2⟩ := V6
    have Hrec5 := hid rec5; have Hrec6 := hid rec6
    have HA1 := hid A1; have HA2 := hid A2; have HB1 := hid B1; have HB2 := hid B2; have Hbc := hid hbc
    have HS2 : Hid (∀ w', Below wc.heap.size wc w' → w'.cell? ⟨g5, 0, none⟩ = some (.bool e1) ∧ w'.cell? ⟨g5, 1, none⟩ = some (.slice e2 e3 e4) ∧ w'.cell? ⟨g5, 2, none⟩ = some (.bool e5) ∧ w'.cell? ⟨g5, 3, none⟩ = some (.slice e6 e7 e8) ∧
        w'.cell? ⟨g6, 0, none⟩ = some (.bool f1) ∧ w'.cell? ⟨g6, 1, none⟩ = some (.slice f2 f3 f4) ∧ w'.cell? ⟨g6, 2, none⟩ = some (.bool f5) ∧ w'.cell? ⟨g6, 3, none⟩ = some (.slice f6 f7 f8)) := by
      intro w' hb
      have xa := cells4 (Hrec5.out.below hb)
      have xb := cells4 (Hrec6.out.below hb)
      exact ⟨xa.1, xa.2.1, xa.2.2.1, xa.2.2.2, xb.1, xb.2.1, xb.2.2.1, xb.2.2.2⟩
    clear rec5 rec6 A1 A2 B1 B2 hbc HS HRA HRB Hrec5 Hrec6
    have HRZ := hid (Hrz.out.below Hbc.out)
    have HBW := hid (Hbw.out.trans (Hbc.out.mono (B' := w.heap.size) Hbw.out.size))
    go_upto_region 2 with fail
    refine wp_region_facts (w0 := wc) 12 1 [13, 14, 15, 16, 17, 18, 19, 20, 21, 22, 23, 8] [u13, u14, u15, u16, u17, u18, u19, u20, u21, u22, u23, undef]
      (fun i => match i with | 0 => eqF (.pointer (some ⟨g5, 0, none⟩)) | 1 => eqF (.agg #[.bool e1, .slice e2 e3 e4]) | 2 => eqF (.pointer (some ⟨g6, 2, none⟩)) | 3 => eqF (.agg #[.bool f5, .slice f6 f7 f8]) | 4 => intF (p * dn s) | 5 => eqF (.pointer (some ⟨g5, 2, none⟩)) | 6 => eqF (.agg #[.bool e5, .slice e6 e7 e8]) | 7 => eqF (.pointer (some ⟨g6, 0, none⟩)) | 8 => eqF (.agg #[.bool f1, .slice f2 f3 f4]) | 9 => intF (dn q * r) | 10 => pairF (p * dn s) (dn q * r) | _ => recF wc.heap.size 47) [11] (by kernel_rfl) (by kernel_rfl) (by kernel_rfl) (by kernel_rfl) (by decide) rfl (by kernel_rfl) rfl (by simp) ?he10 ?_ ?_ ?_
    case he10 => simp only [putAll, Act.put, List.setIfInBounds_toArray, List.set_cons_zero, List.set_cons_succ]
    · intro i hi v w' h
      simp only [List.mem_cons, List.not_mem_nil, or_false] at hi
      rcases hi with rfl
      · obtain ⟨g, x1, x2, x3, x4, hg, hp, -⟩ := (show (recF wc.heap.size 47).P v w' from h); exact ⟨g, hg, hp.lt⟩
    · intro i o hi ho vs wx hvl hb hdep K hK
      have hvs := len12 hvl
      obtain ⟨s13, s14, s15, s16, s17, s18, s19, s20, s21, s22, s23, s8, rfl⟩ := hvs
      clear hvl
      have hk := HS2.out wx hb
      go_split_ands
      rcases i with _ | _ | _ | _ | _ | _ | _ | _ | _ | _ | _ | _ | i
      all_goals (simp only [List.getElem?_toArray, List.getElem?_cons_zero, List.getElem?_cons_succ, Option.some.injEq] at ho)
      all_goals try (subst ho)
      all_goals try simp only [putAll, Act.put, List.setIfInBounds_toArray, List.set_cons_zero, List.set_cons_succ]
      · go_simp
        have hK' := hK.out
        simp only [putAll, Act.put, List.setIfInBounds_toArray, List.set_cons_zero, List.set_cons_succ] at hK'
        exact hK' _ _ rfl (Below.refl _ _) (by simp)
      · have e0 : s13 = _ := hdep ⟨0, .data⟩ (by simp) rfl
        subst e0
        go_simp
        have hK' := hK.out
        simp only [putAll, Act.put, List.setIfInBounds_toArray, List.set_cons_zero, List.set_cons_succ] at hK'
        exact hK' _ _ rfl (Below.refl _ _) (by simp)
      · go_simp
        have hK' := hK.out
        simp only [putAll, Act.put, List.setIfInBounds_toArray, List.set_cons_zero, List.set_cons_succ] at hK'
        exact hK' _ _ rfl (Below.refl _ _) (by simp)
      · have e2 : s15 = _ := hdep ⟨2, .data⟩ (by simp) rfl
        subst e2
        go_simp
        have hK' := hK.out
        simp only [putAll, Act.put, List.setIfInBounds_toArray, List.set_cons_zero, List.set_cons_succ] at hK'
        exact hK' _ _ rfl (Below.refl _ _) (by simp)
      · have e1 : s14 = _ := hdep ⟨1, .data⟩ (by simp) rfl
        subst e1
        have e3 : s16 = _ := hdep ⟨3, .data⟩ (by simp) rfl
        subst e3
        go_simp
        refine (Mul_any _ _ (p) (dn s) _ (HA1.out.below hb) (HB2.out.below hb) (by omega) (by omega)).mono ?_
        rintro e wy ⟨vy, rfl, iy, hby⟩
        have hsh := iy.parts'
        obtain ⟨q5, p5, n5, c5, rfl, iy⟩ := hsh
        go_wp2_with fail
        have hK' := hK.out
        simp only [putAll, Act.put, List.setIfInBounds_toArray, List.set_cons_zero, List.set_cons_succ] at hK'
        exact hK' _ _ ⟨_, _, _, _, rfl, iy⟩ hby (by simp)
      · go_simp
        have hK' := hK.out
        simp only [putAll, Act.put, List.setIfInBounds_toArray, List.set_cons_zero, List.set_cons_succ] at hK'
        exact hK' _ _ rfl (Below.refl _ _) (by simp)
      · have e5 : s18 = _ := hdep ⟨5, .data⟩ (by simp) rfl
        subst e5
        go_simp
        have hK' := hK.out
        simp only [putAll, Act.put, List.setIfInBounds_toArray, List.set_cons_zero, List.set_cons_succ] at hK'
        exact hK' _ _ rfl (Below.refl _ _) (by simp)
      · go_simp
        have hK' := hK.out
        simp only [putAll, Act.put, List.setIfInBounds_toArray, List.set_cons_zero, List.set_cons_succ] at hK'
        exact hK' _ _ rfl (Below.refl _ _) (by simp)
      · have e7 : s20 = _ := hdep ⟨7, .data⟩ (by simp) rfl
        subst e7
        go_simp
        have hK' := hK.out
        simp only [putAll, Act.put, List.setIfInBounds_toArray, List.set_cons_zero, List.set_cons_succ] at hK'
        exact hK' _ _ rfl (Below.refl _ _) (by simp)
      · have e6 : s19 = _ := hdep ⟨6, .data⟩ (by simp) rfl
        subst e6
        have e8 : s21 = _ := hdep ⟨8, .data⟩ (by simp) rfl
        subst e8
        go_simp
        refine (Mul_any _ _ (dn q) (r) _ (HA2.out.below hb) (HB1.out.below hb) (by omega) (by omega)).mono ?_
        rintro e wy ⟨vy, rfl, iy, hby⟩
        have hsh := iy.parts'
        obtain ⟨q5, p5, n5, c5, rfl, iy⟩ := hsh
        go_wp2_with fail
        have hK' := hK.out
        simp only [putAll, Act.put, List.setIfInBounds_toArray, List.set_cons_zero, List.set_cons_succ] at hK'
        exact hK' _ _ ⟨_, _, _, _, rfl, iy⟩ hby (by simp)
      · have e4 : (intF (p * dn s)).P s17 wx := hdep ⟨4, .data⟩ (by simp) rfl
        obtain ⟨da4, pa4, na4, ca4, rfl, ia4⟩ := e4
        have e9 : (intF (dn q * r)).P s22 wx := hdep ⟨9, .data⟩ (by simp) rfl
        obtain ⟨da9, pa9, na9, ca9, rfl, ia9⟩ := e9
        go_simp
        have hK' := hK.out
        simp only [putAll, Act.put, List.setIfInBounds_toArray, List.set_cons_zero, List.set_cons_succ] at hK'
        exact hK' _ _ ⟨_, _, _, _, _, _, _, _, rfl, ia4.raw (by have := la.out; omega), ia9.raw (by have := lb.out; omega)⟩ (Below.refl _ _) (by simp)
      · go_simp
        have hK' := hK.out
        simp only [putAll, Act.put, List.setIfInBounds_toArray, List.set_cons_zero, List.set_cons_succ] at hK'
        exact hK' _ _ ⟨_, _, _, _, _, rfl, Rec.new .., by simp [nonInt], hb.size⟩ (below1 _ _) (fun _ => rfl)
      · omega
    · intro vs wx hvl hb hf hdist
      have hvs := len12 hvl
      obtain ⟨s13, s14, s15, s16, s17, s18, s19, s20, s21, s22, s23, s8, rfl⟩ := hvs
      have f10 : PairAt wx s23 (p * dn s) (dn q * r) := hf 10 (by decide)
      have f11 : (recF wc.heap.size 47).P s8 wx := hf 11 (by decide)
      obtain ⟨h1, h2, h3, h4, h5, h6, h7, h8, rfl, i1, i2⟩ := f10
      obtain ⟨g8, xa, xb, xc, xd, rfl, rec8, non8, hB8⟩ := f11
      have c8x := cells4 rec8
      obtain ⟨x0, x1, x2, x3⟩ := c8x
      have f8x := frozen4 rec8
      obtain ⟨y0, y1, y2, y3⟩ := f8x
      clear hf hdist hvl
      refine wpAny_one (i := 12) (by kernel_rfl) rfl ?_
      intro K hK
      simp only [putAll, Act.put, List.setIfInBounds_toArray, List.set_cons_zero, List.set_cons_succ]
      go_simp
      have hK' := hK.out
      apply hK'
      clear hK hK'
      have m := put4 rec8 non8 (.bool h1) (.slice h2 h3 h4) (.bool h5) (.slice h6 h7 h8) (by simp [nonInt])
      have i1 := hid (m.2.raw _ _ i1); have i2 := hid (m.2.raw _ _ i2)
      have hb8 := hid (m.2.bel wc.heap.size wc hB8 hb)
      have rec8 := m.1
      clear m x0 x1 x2 x3 y0 y1 y2 y3 hb
      generalize ((((wx.setCell ⟨g8, 0, none⟩ (.bool h1)).setCell ⟨g8, 1, none⟩ (.slice h2 h3 h4)).setCell ⟨g8, 2, none⟩ (.bool h5)).setCell ⟨g8, 3, none⟩ (.slice h6 h7 h8)) = wd at *
      refine wpAny_done (by kernel_rfl) ?_ _
      have c8x := cells4 rec8
      obtain ⟨x0, x1, x2, x3⟩ := c8x
      have a := HS2.out wd hb8.out
      obtain ⟨-, -, -, -, z0, z1, -, -⟩ := a
      have HRZ := hid (HRZ.out.below hb8.out)
      have HBW := hid (HBW.out.trans (hb8.out.mono (B' := w.heap.size) HBW.out.size))
      have HB1 := hid (HB1.out.below hb8.out)
      clear HS2 rec8
      go_wp2_with fail
      refine (unless_some _ _ (p * dn s) (dn q * r) r _ HB1.out Hr0.out ⟨_, _, _, _, _, _, _, _, rfl, i1.out, i2.out⟩ Hne.out).mono ?_
      rintro e we ⟨ve, rfl, ie, be⟩
      have iep := ie.parts
      obtain ⟨d0, q0, m0, k0, q1, m1, k1, rfl, ie⟩ := iep
      have rz := HRZ.out.below be
      have bw := HBW.out.trans (be.mono (B' := w.heap.size) HBW.out.size)
      have xz := cells3 rz
      obtain ⟨u0, u1, u2⟩ := xz
      have fz := frozen4 rz
      obtain ⟨fz0, fz1, fz2, -⟩ := fz
      have m := put3 rz (by simp [nonInt]) (.bool d0) (.slice q0 m0 k0) (.slice q1 m1 k1) (by simp [nonInt])
      have mb := hid (m.2.bel w.heap.size w (by omega) bw)
      have mi := hid (ie.stay m.2)
      clear m rz bw be x0 x1 x2 x3 z0 z1 ie
      go_wp2
      exact bodyPost_ret (v := .tuple #[.agg #[.bool d0, .slice q0 m0 k0, .slice q1 m1 k1], .int .i64 0]) (by simp [results, Try.results17, go_sem, u0, u1, u2]) rfl ⟨_, rfl, mi.out, mb.out⟩

end Go.Proofs.Ytlijekppbpefaaa
/- elenchuslaw02's few and fixed; elenchusref02.Same. -/
namespace Go.Proofs.Ytlijekppbpefaaa
open Go.RowKit Big

theorem dec_eq {r : Bool} {P : Prop} [Decidable P] (h : r = true ↔ P) : r = decide P := by
  rw [Bool.eq_iff_iff, decide_eq_true_iff]; exact h
set_option maxRecDepth 100000 in
set_option maxHeartbeats 1600000 in
theorem few_any (b k cap : Nat) (N D : Nat → Nat) (r : Bool) (w : World)
    (hc : ∀ i, i < k → ∃ neg p c p' c', w.cell? ⟨b, i * 3, none⟩ = some (.bool neg) ∧ w.cell? ⟨b, i * 3 + 1, none⟩ = some (.slice p (N i) c) ∧ w.cell? ⟨b, i * 3 + 2, none⟩ = some (.slice p' (D i) c'))
    (hk : k ≤ 1000) (hb : b < w.heap.size) (hn : ∀ i, i < k → N i ≤ 9223372036854775807 ∧ D i ≤ 9223372036854775807) (hr : r = true ↔ ∀ i, i < k → N i ≤ 4 ∧ D i ≤ 4) :
    Calls Try.prog 6 #[.slice (some ⟨b, 0, none⟩) k cap] w (RBool r w) := by
  have Hc := hid hc; have Hn := hid hn; have Hr := hid hr
  clear hc hn hr
  go_enter Try.func6, Try.ntmps6
  go_wp2_with fail
  go_loopw [7] (fun i wr => ∃ j : Nat, j ≤ k ∧ i = .int .i64 (j : Nat) ∧ Hid (Below w.heap.size w wr) ∧ Hid (∀ i, i < j → N i ≤ 4 ∧ D i ≤ 4)) (fun i _ => k - (RowKit.intOf i).toNat)
  case atStart => exact ⟨0, Nat.zero_le _, rfl, Below.refl _ _, fun i h => absurd h (Nat.not_lt_zero _)⟩
  case round =>
    obtain ⟨j, hj, rfl, hbel, hall⟩ := hrel
    by_cases hlt : j < k
    · obtain ⟨neg, p, c, p', c', e0, e1, e2⟩ := Hc.out j hlt
      obtain ⟨hn1, hn2⟩ := Hn.out j hlt
      have e0 := (hbel.out.cell (p := ⟨b, j * 3, none⟩) hb).trans e0
      have e1 := (hbel.out.cell (p := ⟨b, j * 3 + 1, none⟩) hb).trans e1
      have e2 := (hbel.out.cell (p := ⟨b, j * 3 + 2, none⟩) hb).trans e2
      by_cases h1 : N j ≤ 4
      · by_cases h2 : D j ≤ 4
        · have hall' : Hid (∀ i, i < j + 1 → N i ≤ 4 ∧ D i ≤ 4) := fun i hi => by
            by_cases hij : i = j
            · subst hij; exact ⟨h1, h2⟩
            · exact hall.out i (by omega)
          have hb' : Hid (∀ o, Below w.heap.size w (wr.alloc o)) := fun o => hbel.out.trans ((below1 _ o).mono hbel.out.size)
          generalize N j = x at *
          generalize D j = y at *
          go_wp2_with fail
          go_roundw
          case rel => exact ⟨j + 1, by omega, by go_num, hb'.out _, hall'⟩
          case measure => (simp [RowKit.intOf] <;> omega)
        · have hf : Hid (r = false) := by
            unfold Hid
            cases hh : r with
            | false => rfl
            | true => exact absurd (Hr.out.1 hh j hlt).2 h2
          have hb' : Hid (∀ o, Below w.heap.size w (wr.alloc o)) := fun o => hbel.out.trans ((below1 _ o).mono hbel.out.size)
          generalize N j = x at *
          generalize D j = y at *
          go_wp2_with fail
          go_ret
          exact ⟨by rw [hf.out]; rfl, hb'.out _⟩
      · have hf : Hid (r = false) := by
          unfold Hid
          cases hh : r with
          | false => rfl
          | true => exact absurd (Hr.out.1 hh j hlt).1 h1
        have hb' : Hid (∀ o, Below w.heap.size w (wr.alloc o)) := fun o => hbel.out.trans ((below1 _ o).mono hbel.out.size)
        generalize N j = x at *
        generalize D j = y at *
        go_wp2_with fail
        go_ret
        exact ⟨by rw [hf.out]; rfl, hb'.out _⟩
    · have hjk : j = k := by omega
      have hf : Hid (r = true) := Hr.out.2 (fun i hi => hall.out i (by omega))
      go_wp2_with fail
      go_ret
      exact ⟨by rw [hf.out]; rfl, hbel.out⟩

set_option maxRecDepth 100000 in
set_option maxHeartbeats 1600000 in
theorem QSame_told (v0 v1 : Value) (x : Rat) (w : World) (h0 : RatTold w v0 x) (h1 : RatTold w v1 x) : Calls Try.prog 21 #[v0, v1] w (RBool true w) := by
  obtain ⟨b, p0, n0, c0, p1, n1, c1, rfl, i0, i1⟩ := h0
  obtain ⟨b', p2, n2, c2, p3, n3, c3, rfl, j0, j1⟩ := h1
  have hat : ∀ {w p n c} {z : Nat}, IntAt w (.agg #[.bool false, .slice p n c]) (z : Nat) → At w .u64 (.slice p n c) (dig W z) := fun {w p n c z} h => by
    obtain ⟨s, hs, ha⟩ := h
    injection hs with hs
    simp at hs
    subst hs
    simpa using ha
  have a1 := hat i1; have a3 := hat j1
  have H : ∀ o o', Below w.heap.size w ((w.alloc o).alloc o') := fun o o' => (below1 _ _).alloc (by simp) _
  have hs1 : ∀ o o', Calls Try.prog 9 #[.agg #[.bool b, .slice p0 n0 c0], .agg #[.bool b', .slice p2 n2 c2]] ((w.alloc o).alloc o') (RBool true ((w.alloc o).alloc o')) := fun o o' => SameInt_same _ _ _ _ (i0.below (H o o')) (j0.below (H o o'))
  have hs2 : ∀ w', Below w.heap.size w w' → Calls Try.prog 27 #[.slice p1 n1 c1, .slice p3 n3 c3] w' (RDrawn (.bool true) w') := fun w' hb => by
    have := Same_any _ _ _ _ w' (a1.below hb) (a3.below hb)
    rwa [decide_eq_true rfl] at this
  have HH := hid H; have Hs1 := hid hs1; have Hs2 := hid hs2
  have xa : Hid (∀ o w', Below (w.alloc (.cells #[.bool b, .slice p0 n0 c0, .slice p1 n1 c1] 27) |>.alloc o).heap.size (w.alloc (.cells #[.bool b, .slice p0 n0 c0, .slice p1 n1 c1] 27) |>.alloc o) w' → w'.cell? ⟨w.heap.size, 2, none⟩ = some (.slice p1 n1 c1)) := fun o w' hb => (cells3 (((Rec.new ..).below (below1 _ _)).below hb)).2.2
  have xb : Hid (∀ o w', Below ((w.alloc o).alloc (.cells #[.bool b', .slice p2 n2 c2, .slice p3 n3 c3] 27)).heap.size ((w.alloc o).alloc (.cells #[.bool b', .slice p2 n2 c2, .slice p3 n3 c3] 27)) w' → w'.cell? ⟨w.heap.size + 1, 2, none⟩ = some (.slice p3 n3 c3)) := fun o w' hb => by
    have := Rec.new (w.alloc o) #[.bool b', .slice p2 n2 c2, .slice p3 n3 c3] 27
    rw [size_alloc] at this
    exact (cells3 (this.below hb)).2.2
  clear i0 i1 j0 j1 a1 a3 hat H hs1 hs2
  go_enter Try.func21, Try.ntmps21
  go_wp2_with fail
  refine (Hs1.out _ _).mono ?_
  rintro e w1 ⟨rfl, b1⟩
  have y0 := xa.out _ w1 b1
  have y1 := xb.out _ w1 b1
  have bw := (HH.out _ _).trans (b1.mono (B' := w.heap.size) (HH.out _ _).size)
  have Hbw := hid bw
  have Hs := hid (Hs2.out w1 bw)
  clear bw b1 xa xb Hs1 Hs2
  go_wp2_with fail
  refine Hs.out.mono ?_
  rintro e w2 ⟨rfl, k, rfl⟩
  go_wp2_with fail
  go_ret
  exact ⟨rfl, below_drewN Hbw.out _⟩
end Go.Proofs.Ytlijekppbpefaaa
/- elenchuslaw02.fixed answers true. -/
namespace Go.Proofs.Ytlijekppbpefaaa
open Go.RowKit Big

theorem RatTold.raw {w : World} {v : Value} {x : Rat} (h : RatTold w v x) (h0 : sz W x.num.natAbs ≤ 1099511627776) (h1 : sz W x.den ≤ 1099511627776) : RatRaw w v x.num (x.den : Nat) := by
  obtain ⟨b, p0, n0, c0, p1, n1, c1, hv, i0, i1⟩ := h
  exact ⟨b, p0, n0, c0, p1, n1, c1, hv, i0.raw h0, i1.raw (by simpa using h1)⟩
theorem IntAt.parts'' {w : World} {v : Value} {z : Int} (h : IntAt w v z) : ∃ b p n c, v = .agg #[.bool b, .slice p n c] ∧ IntAt w (.agg #[.bool b, .slice p n c]) z := h.parts'
theorem told_23 {w : World} {d : Bool} {p : Option Addr} {n c : Nat} {u : Value} (h : IntAt w (.agg #[.bool d, .slice p n c]) (-2)) (hu : At w .u64 u [3]) (hs : ∃ q, u = .slice (some q) 1 1) : RatTold w (.agg #[.bool d, .slice p n c, u]) (Rat.divInt 4 (-6)) := by
  obtain ⟨q, rfl⟩ := hs
  refine ⟨d, p, n, c, some q, 1, 1, rfl, ?_, ⟨_, rfl, ?_⟩⟩
  · have : (Rat.divInt 4 (-6)).num = -2 := by decide +kernel
    rw [this]; exact h
  · have : (Rat.divInt 4 (-6)).den = 3 := by decide +kernel
    rw [this]
    have e : dig W ((3 : Nat) : Int).natAbs = [3] := by decide +kernel
    rw [e]; exact hu

set_option maxRecDepth 100000 in
set_option maxHeartbeats 3200000 in
theorem fixed2_any (w : World) : Calls Try.prog 5 #[] w (RBool true w) := by
  go_enter Try.func5, Try.ntmps5
  go_wp2_with fail
  refine (ROf_any 4 _ (by decide) (by decide)).mono ?_
  rintro e w1 ⟨v1, rfl, i1, b1⟩
  go_wp2_with fail
  refine (ROf_any (-6) _ (by decide) (by decide)).mono ?_
  rintro e w2 ⟨v2, rfl, i2, b2⟩
  have hn := QNew_some v1 v2 4 (-6) w2 ((i1.below b2).raw (by decide)) (i2.raw (by decide)) (by decide)
  have Hn := hid hn
  have Hb := hid (b1.trans (b2.mono (B' := w.heap.size) b1.size))
  clear hn i1 i2 b1 b2
  go_wp2_with fail
  refine Hn.out.mono ?_
  rintro e w3 ⟨v3, rfl, i3, b3⟩
  have i3p := i3.parts
  obtain ⟨d0, q0, m0, k0, q1, m1, k1, rfl, i3⟩ := i3p
  have Hb3 := hid (Hb.out.trans (b3.mono (B' := w.heap.size) Hb.out.size))
  go_upto_region 2 with fail
  generalize hW : World.alloc w3 _ = W4
  have X4 : Below w3.heap.size w3 W4 ∧ Rec W4 w3.heap.size 27 #[.bool d0, .slice q0 m0 k0, .slice q1 m1 k1] := by
    rw [← hW]; exact ⟨below1 _ _, Rec.new ..⟩
  have Hb4 := hid (Hb3.out.trans (X4.1.mono (B' := w.heap.size) Hb3.out.size))
  have HI := hid (i3.below X4.1)
  have HR := hid X4.2
  obtain ⟨g, hg⟩ : ∃ g, g = w3.heap.size := ⟨_, rfl⟩
  rw [← hg] at HR ⊢
  clear hW X4 hg i3 b3 Hb Hb3 Hn
  have HS : Hid (∀ w', Below W4.heap.size W4 w' → w'.cell? ⟨g, 0, none⟩ = some (.bool d0) ∧ w'.cell? ⟨g, 1, none⟩ = some (.slice q0 m0 k0) ∧ w'.cell? ⟨g, 2, none⟩ = some (.slice q1 m1 k1) ∧ Below W4.heap.size W4 w') := fun w' hb => by
    have a := cells3 (HR.out.below hb)
    exact ⟨a.1, a.2.1, a.2.2, hb⟩
  have hraw : ∀ w', Below W4.heap.size W4 w' → RatRaw w' (.agg #[.bool d0, .slice q0 m0 k0, .slice q1 m1 k1]) (-2) 3 := fun w' hb => by
    have := (HI.out.below hb).raw (by decide +kernel) (by decide +kernel)
    rwa [show (Rat.divInt 4 (-6)).num = -2 by decide +kernel, show (Rat.divInt 4 (-6)).den = 3 by decide +kernel] at this
  have hfl : ∀ w', Below W4.heap.size W4 w' → Calls Try.prog 7 #[.agg #[.bool d0, .slice q0 m0 k0, .slice q1 m1 k1]] w' (RInt (-1) w') := fun w' hb => by
    have := Floor_any _ _ _ w' (hraw w' hb)
    rwa [show (-2 : Int) / dn 3 = -1 by decide] at this
  have hce : ∀ w', Below W4.heap.size W4 w' → Calls Try.prog 8 #[.agg #[.bool d0, .slice q0 m0 k0, .slice q1 m1 k1]] w' (RInt 0 w') := fun w' hb => by
    have := Ceil_any _ _ _ w' (hraw w' hb) (by decide)
    rwa [show -(-(-2 : Int) / dn 3) = 0 by decide] at this
  have his : ∀ w', Below W4.heap.size W4 w' → Calls Try.prog 12 #[.agg #[.bool d0, .slice q0 m0 k0, .slice q1 m1 k1]] w' (RBool false w') := fun w' hb => by
    have := Is_any _ _ _ w' (hraw w' hb) (by decide)
    rwa [show decide ((-2 : Int) % dn 3 = 0) = false by decide] at this
  have Hfl := hid hfl; have Hce := hid hce; have His := hid his
  clear hraw hfl hce his
  go_region_held3 (fun w' => w'.cell? ⟨g, 0, none⟩ = some (.bool d0) ∧ w'.cell? ⟨g, 1, none⟩ = some (.slice q0 m0 k0) ∧ w'.cell? ⟨g, 2, none⟩ = some (.slice q1 m1 k1) ∧ Below W4.heap.size W4 w')
    (first | exact HS.out _ (Below.drew (Below.refl _ _)) | (refine HS.out _ (Below.go hb ?_); go_split_ands; assumption) | exact HS.out _ (Below.drew (below1 _ _)) | (refine HS.out _ (Below.go (below1 _ _) ?_); go_split_ands; assumption))
    (first
      | (go_at_call 20; (fail_if_success have _t := i5); refine (ROf_any (-2) _ (by decide) (by decide)).mono ?_; rintro e wa ⟨v5, rfl, i5, hb⟩; have i5p := i5.parts'; obtain ⟨d5, p5, n5, c5, rfl, i5⟩ := i5p; have hb5 := hb)
      | (go_at_call 21; refine (QSame_told _ _ (Rat.divInt 4 (-6)) _ (HI.out.below (by go_split_ands; assumption)) (by first | exact told_23 (i5.below (below1 _ _)) (At.oneI _ _ _ 3 _ rfl) ⟨_, rfl⟩ | exact told_23 i5 (At.below (At.drew (At.oneI _ _ _ 3 _ rfl)) hb5) ⟨_, rfl⟩ | exact told_23 i5 (At.below (At.oneI _ _ _ 3 _ rfl) hb5) ⟨_, rfl⟩)).mono ?_; rintro e wb ⟨rfl, hb⟩)
      | (go_at_call 7; refine (Hfl.out _ (by go_split_ands; assumption)).mono ?_; rintro e wc ⟨v6, rfl, i6, hb⟩)
      | (go_at_call 20; have _t := i6; refine (ROf_any (-1) _ (by decide) (by decide)).mono ?_; rintro e wd ⟨v7, rfl, i7, hb⟩; clear _t; have i6 := i6.below hb)
      | (go_at_call 9; refine (SameInt_same _ _ (-1) _ i6 i7).mono ?_; rintro e we ⟨rfl, hb⟩)
      | (go_at_call 8; refine (Hce.out _ (by go_split_ands; assumption)).mono ?_; rintro e wf ⟨v8, rfl, i8, hb⟩)
      | (go_at_call 22; refine (RSign_any _ 0 _ (i8.raw (by decide))).mono ?_; rintro e wg ⟨rfl, hb⟩)
      | (go_at_call 12; refine (His.out _ (by go_split_ands; assumption)).mono ?_; rintro e wh ⟨rfl, hb⟩))
  all_goals
    rename_i hHeld
    go_split_ands
    have HBf := hid (show Below W4.heap.size W4 wh by assumption)
    go_wp2_with fail
    go_ret
    exact ⟨rfl, Hb4.out.trans (HBf.out.mono (B' := w.heap.size) Hb4.out.size)⟩
end Go.Proofs.Ytlijekppbpefaaa
/- ratio's calls, on fractions in any form, in terms of rational numbers. -/
namespace Go.Proofs.Ytlijekppbpefaaa
open Go.RowKit Big

/-- a fraction in any form: x, of so many words -/
def QIn (w : World) (v : Value) (x : Rat) (k : Nat) : Prop := ∃ p q, RatRaw w v p q ∧ Rat.divInt p (dn q) = x ∧ sz W p.natAbs ≤ k ∧ sz W q.natAbs ≤ k
theorem QIn.below {w w' : World} {v : Value} {x : Rat} {k : Nat} (h : QIn w v x k) (hb : Below w.heap.size w w') : QIn w' v x k := by
  obtain ⟨p, q, h1, h2⟩ := h
  exact ⟨p, q, h1.below hb, h2⟩
theorem QIn.mono {w : World} {v : Value} {x : Rat} {k k' : Nat} (h : QIn w v x k) (hk : k ≤ k') : QIn w v x k' := by
  obtain ⟨p, q, h1, h2, h3, h4⟩ := h
  exact ⟨p, q, h1, h2, by omega, by omega⟩
def RSz (x : Rat) (k : Nat) : Prop := sz W x.num.natAbs ≤ k ∧ sz W x.den ≤ k
theorem RSz.mono {x : Rat} {k k' : Nat} (h : RSz x k) (hk : k ≤ k') : RSz x k' := ⟨Nat.le_trans h.1 hk, Nat.le_trans h.2 hk⟩
theorem RSz.of {p q : Int} {k : Nat} (hq : q ≠ 0) (h0 : sz W p.natAbs ≤ k) (h1 : sz W q.natAbs ≤ k) : RSz (Rat.divInt p q) k :=
  ⟨Nat.le_trans (sz_mono W2 (num_le hq)) h0, Nat.le_trans (sz_mono W2 (den_le hq)) h1⟩
theorem QIn.sz {w : World} {v : Value} {x : Rat} {k : Nat} (h : QIn w v x k) (hk : 1 ≤ k) : RSz x k := by
  obtain ⟨p, q, h1, rfl, h3, h4⟩ := h
  exact RSz.of (by have := dn_pos h1.den; omega) h3 (sz_dn h4 hk)
theorem as_div (x : Rat) : x = Rat.divInt x.num (x.den : Nat) := (Rat.num_divInt_den x).symm
theorem den_ne (x : Rat) : ((x.den : Nat) : Int) ≠ 0 := by have := x.den_nz; omega
theorem RSz.add {x y : Rat} {a b : Nat} (hx : RSz x a) (hy : RSz y b) : RSz (x + y) (a + b + 1) := by
  have e : x + y = Rat.divInt (x.num * y.den + y.num * x.den) (x.den * y.den) := by
    conv => lhs; rw [as_div x, as_div y]
    exact Rat.divInt_add_divInt _ _ (den_ne x) (den_ne y)
  rw [e]
  have h1 := sz_mul W2 x.num.natAbs y.den
  have h2 := sz_mul W2 y.num.natAbs x.den
  have h3 := sz_mul W2 x.den y.den
  obtain ⟨a1, a2⟩ := hx
  obtain ⟨b1, b2⟩ := hy
  refine RSz.of (Int.mul_ne_zero (den_ne x) (den_ne y)) ?_ ?_
  · refine sz_add2 ?_ ?_
    · rw [Int.natAbs_mul, Int.natAbs_natCast]; omega
    · rw [Int.natAbs_mul, Int.natAbs_natCast]; omega
  · rw [Int.natAbs_mul, Int.natAbs_natCast, Int.natAbs_natCast]; omega
theorem RSz.neg {x : Rat} {a : Nat} (hx : RSz x a) : RSz (-x) a := ⟨by rw [Rat.neg_num, Int.natAbs_neg]; exact hx.1, by rw [Rat.neg_den]; exact hx.2⟩
theorem RSz.sub {x y : Rat} {a b : Nat} (hx : RSz x a) (hy : RSz y b) : RSz (x - y) (a + b + 1) := by
  rw [Rat.sub_eq_add_neg]; exact hx.add hy.neg
theorem RSz.mul {x y : Rat} {a b : Nat} (hx : RSz x a) (hy : RSz y b) : RSz (x * y) (a + b) := by
  have e : x * y = Rat.divInt (x.num * y.num) (x.den * y.den) := by
    conv => lhs; rw [as_div x, as_div y]
    exact Rat.divInt_mul_divInt _ _
  rw [e]
  have h1 := sz_mul W2 x.num.natAbs y.num.natAbs
  have h3 := sz_mul W2 x.den y.den
  obtain ⟨a1, a2⟩ := hx
  obtain ⟨b1, b2⟩ := hy
  refine RSz.of (Int.mul_ne_zero (den_ne x) (den_ne y)) ?_ ?_
  · rw [Int.natAbs_mul]; omega
  · rw [Int.natAbs_mul, Int.natAbs_natCast, Int.natAbs_natCast]; omega
theorem RSz.div {x y : Rat} {a b : Nat} (hx : RSz x a) (hy : RSz y b) (h0 : y ≠ 0) : RSz (x / y) (a + b) := by
  have e : x / y = Rat.divInt (x.num * y.den) (x.den * y.num) := by
    conv => lhs; rw [as_div x, as_div y]
    rw [Rat.div_def, Rat.inv_divInt, Rat.divInt_mul_divInt]
  rw [e]
  have h1 := sz_mul W2 x.num.natAbs y.den
  have h3 := sz_mul W2 x.den y.num.natAbs
  obtain ⟨a1, a2⟩ := hx
  obtain ⟨b1, b2⟩ := hy
  refine RSz.of (Int.mul_ne_zero (den_ne x) (fun e => h0 (Rat.num_eq_zero.1 e))) ?_ ?_
  · rw [Int.natAbs_mul, Int.natAbs_natCast]; omega
  · rw [Int.natAbs_mul, Int.natAbs_natCast]; omega
theorem RatTold.qin {w : World} {v : Value} {x : Rat} {k : Nat} (h : RatTold w v x) (hx : RSz x k) (hk : k ≤ 1000) : QIn w v x k := by
  refine ⟨x.num, (x.den : Nat), h.raw (Nat.le_trans hx.1 (by omega)) (Nat.le_trans hx.2 (by omega)), ?_, hx.1, by simpa using hx.2⟩
  unfold dn
  rw [if_neg (den_ne x)]
  exact Rat.num_divInt_den x
theorem QAdd_in {w : World} {v0 v1 : Value} {x y : Rat} (h0 : QIn w v0 x 1000) (h1 : QIn w v1 y 1000) : Calls Try.prog 15 #[v0, v1] w (RRat (x + y) w) := by
  obtain ⟨p, q, a, rfl, l0, l1⟩ := h0
  obtain ⟨r, s, b, rfl, l2, l3⟩ := h1
  exact QAdd_any _ _ p q r s w a b l0 l1 l2 l3
theorem QSub_in {w : World} {v0 v1 : Value} {x y : Rat} (h0 : QIn w v0 x 1000) (h1 : QIn w v1 y 1000) : Calls Try.prog 16 #[v0, v1] w (RRat (x - y) w) := by
  obtain ⟨p, q, a, rfl, l0, l1⟩ := h0
  obtain ⟨r, s, b, rfl, l2, l3⟩ := h1
  exact QSub_any _ _ p q r s w a b l0 l1 l2 l3
theorem QMul_in {w : World} {v0 v1 : Value} {x y : Rat} (h0 : QIn w v0 x 1000) (h1 : QIn w v1 y 1000) : Calls Try.prog 14 #[v0, v1] w (RRat (x * y) w) := by
  obtain ⟨p, q, a, rfl, l0, l1⟩ := h0
  obtain ⟨r, s, b, rfl, l2, l3⟩ := h1
  exact QMul_any _ _ p q r s w a b l0 l1 l2 l3
theorem QCmp_in {w : World} {v0 v1 : Value} {x y : Rat} (h0 : QIn w v0 x 1000) (h1 : QIn w v1 y 1000) : Calls Try.prog 13 #[v0, v1] w (RNum .i64 (cq x y) w) := by
  obtain ⟨p, q, a, rfl, l0, l1⟩ := h0
  obtain ⟨r, s, b, rfl, l2, l3⟩ := h1
  exact QCmp_any _ _ p q r s w a b l0 l1 l2 l3
theorem div_zero_iff {p q : Int} (hq : 0 < q) : Rat.divInt p q = 0 ↔ p = 0 := by
  rw [← Rat.num_eq_zero]
  constructor
  · intro h
    have h2 := Rat.num_eq_zero.1 h
    have h3 : Rat.divInt p q = Rat.divInt 0 q := by rw [h2, Rat.zero_divInt]
    have := (Rat.divInt_eq_divInt_iff (by omega) (by omega)).1 h3
    rcases Int.mul_eq_zero.1 (show p * q = 0 by omega) with h | h
    · exact h
    · omega
  · intro h; subst h; rw [Rat.zero_divInt]; rfl
theorem QDiv_in {w : World} {v0 v1 : Value} {x y : Rat} (h0 : QIn w v0 x 1000) (h1 : QIn w v1 y 1000) (hy : y ≠ 0) : Calls Try.prog 17 #[v0, v1] w (RSome (x / y) w) := by
  obtain ⟨p, q, a, rfl, l0, l1⟩ := h0
  obtain ⟨r, s, b, rfl, l2, l3⟩ := h1
  exact QDiv_some _ _ p q r s w a b l0 l1 l2 l3 (fun e => hy ((div_zero_iff (dn_pos b.den)).2 e))
theorem QDiv_in0 {w : World} {v0 v1 : Value} {x : Rat} (h0 : QIn w v0 x 1000) (h1 : QIn w v1 0 1000) : Calls Try.prog 17 #[v0, v1] w (RNone w) := by
  obtain ⟨p, q, a, rfl, l0, l1⟩ := h0
  obtain ⟨r, s, b, e, l2, l3⟩ := h1
  exact QDiv_none _ _ p q r s w a b l0 l1 l2 l3 ((div_zero_iff (dn_pos b.den)).1 e)
theorem QSign_in {w : World} {v : Value} {x : Rat} {k : Nat} (h : QIn w v x k) : Calls Try.prog 18 #[v] w (RNum .i64 (cq x 0) w) := by
  obtain ⟨p, q, a, rfl, -⟩ := h
  have := QSign_any v p q w a
  have e : p.sign = cq (Rat.divInt p (dn q)) 0 := by
    have h := cq_ord (p := p) (r := 0) (dn_pos a.den) (show (0 : Int) < 1 by decide)
    rw [Rat.zero_divInt, Int.mul_one, Int.zero_mul] at h
    rw [← h]
    rcases Int.lt_trichotomy p 0 with h1 | h1 | h1
    · rw [ord_lt h1, Int.sign_eq_neg_one_of_neg h1]
    · subst h1; rfl
    · rw [ord_gt h1, Int.sign_eq_one_of_pos h1]
  rwa [e] at this
theorem cq_zero {x y : Rat} (h : cq x y = 0) : x = y := by
  unfold cq at h
  split at h
  · omega
  · split at h
    · assumption
    · omega
theorem cq_bounds (x y : Rat) : -1 ≤ cq x y ∧ cq x y ≤ 1 := by unfold cq; (repeat' split) <;> omega

/-- a fraction as data: its lengths, and what it means -/
def RatIn (w : World) (v : Value) (k0 k1 : Nat) : Prop := ∃ neg p0 c0 p1 c1 l0 l1, v = .agg #[.bool neg, .slice p0 k0 c0, .slice p1 k1 c1] ∧ At w .u64 (.slice p0 k0 c0) l0 ∧ At w .u64 (.slice p1 k1 c1) l1 ∧ Small W l0 ∧ Small W l1 ∧ l0.length = k0 ∧ l1.length = k1
theorem RatIn.below {w w' : World} {v : Value} {k0 k1 : Nat} (h : RatIn w v k0 k1) (hb : Below w.heap.size w w') : RatIn w' v k0 k1 := by
  obtain ⟨neg, p0, c0, p1, c1, l0, l1, hv, h0, h1, r⟩ := h
  exact ⟨neg, p0, c0, p1, c1, l0, l1, hv, h0.below hb, h1.below hb, r⟩
theorem RatIn.le {w : World} {v : Value} {k0 k1 : Nat} (h : RatIn w v k0 k1) : k0 ≤ 9223372036854775807 ∧ k1 ≤ 9223372036854775807 := by
  obtain ⟨neg, p0, c0, p1, c1, l0, l1, hv, h0, h1, -, -, e0, e1⟩ := h
  obtain ⟨_, _, hv0, a0, b0, -⟩ := h0
  obtain ⟨_, _, hv1, a1, b1, -⟩ := h1
  unfold maxLen at b0 b1
  omega
theorem RatIn.q {w : World} {v : Value} {k0 k1 : Nat} (h : RatIn w v k0 k1) (m0 : k0 ≤ 4) (m1 : k1 ≤ 4) : ∃ x, QIn w v x 4 := by
  obtain ⟨neg, p0, c0, p1, c1, l0, l1, rfl, h0, h1, s0, s1, rfl, rfl⟩ := h
  refine ⟨_, sg neg (val W l0), sg false (val W l1), ⟨neg, p0, _, c0, p1, _, c1, rfl, ⟨neg, _, l0, rfl, h0, s0, by omega, rfl⟩, ⟨false, _, l1, rfl, h1, s1, by omega, rfl⟩⟩, rfl, ?_, ?_⟩
  · rw [sg_natAbs]; exact Nat.le_trans (sz_val W2 s0) (by omega)
  · rw [sg_natAbs]; exact Nat.le_trans (sz_val W2 s1) (by omega)
end Go.Proofs.Ytlijekppbpefaaa
/- elenchusref02: Den, Make. -/
namespace Go.Proofs.Ytlijekppbpefaaa
open Go.RowKit Big

/-- block g is a variable that holds this whole number, in any form -/
def RawCell (w : World) (g : Nat) (z : Int) : Prop := ∃ d p n c, w.heap[g]? = some (.cells #[.bool d, .slice p n c] 25 (0, 0)) ∧ RawAt w (.agg #[.bool d, .slice p n c]) z
theorem RawCell.below {w w' : World} {g : Nat} {z : Int} (h : RawCell w g z) (hb : Below w.heap.size w w') : RawCell w' g z := by
  obtain ⟨d, p, n, c, h, hi⟩ := h
  exact ⟨d, p, n, c, (hb.block g (Array.getElem?_eq_some_iff.1 h).1).trans h, hi.below hb⟩
theorem RawCell.lt {w : World} {g : Nat} {z : Int} (h : RawCell w g z) : g < w.heap.size := by
  obtain ⟨d, p, n, c, h, -⟩ := h
  exact (Array.getElem?_eq_some_iff.1 h).1

set_option maxRecDepth 100000 in
set_option maxHeartbeats 3200000 in
theorem Make_any (v0 v1 : Value) (p q : Int) (w : World) (h0 : RawAt w v0 p) (h1 : RawAt w v1 q) (hq : q ≠ 0) (sp : sz W p.natAbs ≤ 1000) (sq : sz W q.natAbs ≤ 1000) :
    Calls Try.prog 51 #[v0, v1] w (RRat (Rat.divInt p q) w) := by
  obtain ⟨b, p0, n0, c0, rfl⟩ := h0.parts
  obtain ⟨b', p1, n1, c1, rfl⟩ := h1.parts
  have H0 := hid h0; have H1 := hid h1
  obtain ⟨x, hx⟩ : ∃ x, x = Rat.divInt p q := ⟨_, rfl⟩
  rw [← hx]
  have Hx := hid hx
  clear h0 h1 hx
  go_enter Try.func51, Try.ntmps51
  go_upto_region 1 with fail
  generalize hW : World.alloc (World.alloc (World.alloc w _) _) _ = W1a
  have bw : Below w.heap.size w W1a := by rw [← hW]; exact ((below1 _ _).alloc (by simp) _).alloc (by simp; omega) _
  have ra : Rec W1a w.heap.size 25 #[.bool b, .slice p0 n0 c0] := by
    rw [← hW]; exact ((Rec.new ..).below (below1 _ _)).below (below1 _ _)
  have rb : Rec W1a (w.heap.size + 1) 25 #[.bool b', .slice p1 n1 c1] := by
    rw [← hW]
    have := Rec.new (w.alloc (.cells #[.bool b, .slice p0 n0 c0] 25)) #[.bool b', .slice p1 n1 c1] 25
    rw [size_alloc] at this
    exact this.below (below1 _ _)
  have rz : Rec W1a (w.heap.size + 1 + 1) 27 #[.bool false, .slice none 0 0, .slice none 0 0] := by
    rw [← hW]
    have := Rec.new ((w.alloc (.cells #[.bool b, .slice p0 n0 c0] 25)).alloc (.cells #[.bool b', .slice p1 n1 c1] 25)) #[.bool false, .slice none 0 0, .slice none 0 0] 27
    rwa [size_alloc, size_alloc] at this
  have Ca : RawCell W1a w.heap.size p := ⟨_, _, _, _, ra, H0.out.below bw⟩
  have Cb : RawCell W1a (w.heap.size + 1) q := ⟨_, _, _, _, rb, H1.out.below bw⟩
  have xb0 := rb.cell 0; have xb1 := rb.cell 1
  simp only [List.getElem?_toArray, List.getElem?_cons_zero, List.getElem?_cons_succ] at xb0 xb1
  have Hsg := hid (RSign_any _ q W1a (H1.out.below bw))
  have HCa := hid Ca; have HCb := hid Cb; have Hrz := hid rz; have Hbw := hid bw
  clear hW ra rb rz bw Ca Cb H0 H1
  by_cases hneg : q < 0
  · rw [Int.sign_eq_neg_one_of_neg hneg] at Hsg
    have hqp := hid (show (0 : Int) < -q by omega)
    have spn : sz W (-p).natAbs ≤ 1000 := by rw [Int.natAbs_neg]; exact sp
    have sqn : sz W (-q).natAbs ≤ 1000 := by rw [Int.natAbs_neg]; exact sq
    have Hx : Hid (x = Rat.divInt (-p) (-q)) := by unfold Hid; rw [Rat.neg_divInt_neg]; exact Hx.out
    clear hneg hq sp sq
    go_wp2_with fail
    refine Hsg.out.mono ?_
    rintro e W3 ⟨rfl, b3⟩
    have Ca := HCa.out.below b3; have Cb := HCb.out.below b3; have rz := Hrz.out.below b3
    have b3' : Below w.heap.size w W3 := Hbw.out.trans (b3.mono (B' := w.heap.size) Hbw.out.size)
    clear b3 xb0 xb1 HCa HCb Hrz Hbw Hsg
    obtain ⟨d2, u2, n2, c2, e2, i2⟩ := id Ca
    have x2 := two_cells e2
    obtain ⟨x20, x21, f20, f21⟩ := x2
    have Hng := hid (RNeg_any _ p W3 i2)
    have HCb := hid Cb; have Hrz := hid rz; have Hb3 := hid b3'; have Hra := hid (show Rec W3 w.heap.size 25 #[.bool d2, .slice u2 n2 c2] from e2)
    clear Ca Cb rz b3' e2 i2
    go_wp2_with fail
    refine Hng.out.mono ?_
    rintro e W3b ⟨v3, rfl, i3, b3⟩
    have i3p := i3.parts'
    obtain ⟨d3, p3, n3, c3, rfl, i3⟩ := i3p
    have ra := Hra.out.below b3
    have y0 := ra.cell 0; have y1 := ra.cell 1
    simp only [List.getElem?_toArray, List.getElem?_cons_zero, List.getElem?_cons_succ] at y0 y1
    have fr := frozen4 ra
    obtain ⟨g0, g1, -, -⟩ := fr
    have m := put2 ra (by simp [nonInt]) (.bool d3) (.slice p3 n3 c3) (by simp [nonInt])
    have Ca : RawCell ((W3b.setCell ⟨w.heap.size, 0, none⟩ (.bool d3)).setCell ⟨w.heap.size, 1, none⟩ (.slice p3 n3 c3)) w.heap.size (-p) := ⟨_, _, _, _, m.1, (m.2.int _ _ i3).raw (by omega)⟩
    have Cb : RawCell ((W3b.setCell ⟨w.heap.size, 0, none⟩ (.bool d3)).setCell ⟨w.heap.size, 1, none⟩ (.slice p3 n3 c3)) (w.heap.size + 1) q := by
      obtain ⟨d, p', n', c', h, hi⟩ := HCb.out.below b3
      exact ⟨d, p', n', c', m.2.rcs _ _ _ (by omega) h, m.2.raw _ _ hi⟩
    have rz := m.2.rcs _ _ _ (show w.heap.size + 1 + 1 ≠ w.heap.size by omega) (Hrz.out.below b3)
    have b4 := m.2.bel w.heap.size w (Nat.le_refl _) (Hb3.out.trans (b3.mono (B' := w.heap.size) Hb3.out.size))
    clear m ra i3 b3 HCb Hrz Hb3 Hra Hng x20 x21 f20 f21
    go_upto_region 3 with fail
    generalize ((W3b.setCell ⟨w.heap.size, 0, none⟩ (.bool d3)).setCell ⟨w.heap.size, 1, none⟩ (.slice p3 n3 c3)) = W5a at *
    clear y0 y1 g0 g1
    obtain ⟨d2', u2', n2', c2', e2, i2⟩ := id Cb
    have x2 := two_cells e2
    obtain ⟨x20, x21, f20, f21⟩ := x2
    have Hng := hid (RNeg_any _ q W5a i2)
    have HCa := hid Ca; have Hrz := hid rz; have Hb3 := hid b4; have Hra := hid (show Rec W5a (w.heap.size + 1) 25 #[.bool d2', .slice u2' n2' c2'] from e2)
    clear Ca Cb rz b4 e2 i2
    go_wp2_with fail
    refine Hng.out.mono ?_
    rintro e W5b ⟨v3, rfl, i3, b3⟩
    have i3p := i3.parts'
    obtain ⟨d3', p3', n3', c3', rfl, i3⟩ := i3p
    have ra := Hra.out.below b3
    have y0 := ra.cell 0; have y1 := ra.cell 1
    simp only [List.getElem?_toArray, List.getElem?_cons_zero, List.getElem?_cons_succ] at y0 y1
    have fr := frozen4 ra
    obtain ⟨g0, g1, -, -⟩ := fr
    have m := put2 ra (by simp [nonInt]) (.bool d3') (.slice p3' n3' c3') (by simp [nonInt])
    have Cb : RawCell ((W5b.setCell ⟨w.heap.size + 1, 0, none⟩ (.bool d3')).setCell ⟨w.heap.size + 1, 1, none⟩ (.slice p3' n3' c3')) (w.heap.size + 1) (-q) := ⟨_, _, _, _, m.1, (m.2.int _ _ i3).raw (by omega)⟩
    have Ca : RawCell ((W5b.setCell ⟨w.heap.size + 1, 0, none⟩ (.bool d3')).setCell ⟨w.heap.size + 1, 1, none⟩ (.slice p3' n3' c3')) w.heap.size (-p) := by
      obtain ⟨d, p', n', c', h, hi⟩ := HCa.out.below b3
      exact ⟨d, p', n', c', m.2.rcs _ _ _ (by omega) h, m.2.raw _ _ hi⟩
    have rz := m.2.rcs _ _ _ (show w.heap.size + 1 + 1 ≠ w.heap.size + 1 by omega) (Hrz.out.below b3)
    have b4 := m.2.bel w.heap.size w (by omega) (Hb3.out.trans (b3.mono (B' := w.heap.size) Hb3.out.size))
    clear m ra i3 b3 HCa Hrz Hb3 Hra Hng x20 x21 f20 f21
    go_upto_region 4 with fail
    generalize ((W5b.setCell ⟨w.heap.size + 1, 0, none⟩ (.bool d3')).setCell ⟨w.heap.size + 1, 1, none⟩ (.slice p3' n3' c3')) = W4 at *
    clear y0 y1 g0 g1
    have hqp := hqp.out
    generalize -p = p' at *
    generalize -q = q' at *
    have sp := spn; have sq := sqn
    clear spn sqn
    have hq0 : q' ≠ 0 := by omega
    have hnum := low_num (p := p') hq0
    have hden := low_den (p := p') hq0
    have cg := lowBy_ne (p := p') hq0
    have hlb : ((Nat.gcd p'.natAbs q'.natAbs : Nat) : Int) = lowBy p' q' := by unfold lowBy; rw [if_neg (by omega)]
    have szc : sz W (lowBy p' q').natAbs ≤ 1000 := by
      rw [← hlb]
      exact Nat.le_trans (sz_mono W2 (by rw [Int.natAbs_natCast]; exact Nat.gcd_le_right _ (by omega))) sq
    obtain ⟨d2, u2, n2, c2, e2, i2⟩ := id Ca
    obtain ⟨d3, u3, n3, c3, e3, i3⟩ := id Cb
    have x2 := two_cells e2; have x3 := two_cells e3
    obtain ⟨x20, x21, -, -⟩ := x2
    obtain ⟨x30, x31, -, -⟩ := x3
    have hg := RGcd_any _ _ p' q' W4 i2 i3 (by omega) (by omega)
    rw [hlb] at hg
    generalize lowBy p' q' = c at *
    have Hg := hid hg; have HCa := hid Ca; have HCb := hid Cb; have Hrz := hid rz; have Hb4 := hid b4; have Hnum := hid hnum; have Hden := hid hden; have Hcg := hid cg
    clear hg Ca Cb rz b4 hnum hden cg hlb hq0 hqp i2 i3 e2 e3
    go_wp2_with fail
    refine Hg.out.mono ?_
    rintro e W5 ⟨v5, rfl, i5, b5⟩
    have i5p := i5.parts'
    obtain ⟨d5, p5, n5, c5, rfl, i5⟩ := i5p
    go_upto_region 5 with fail
    generalize hW : World.alloc W5 _ = W6
    have X6 : Below W5.heap.size W5 W6 ∧ IntCell W6 W5.heap.size c := by
      rw [← hW]; exact ⟨below1 _ _, _, _, _, _, heap_alloc_new W5 _, i5.below (below1 _ _)⟩
    have b46 : Below W4.heap.size W4 W6 := b5.trans (X6.1.mono (B' := W4.heap.size) b5.size)
    have Ca := HCa.out.below b46; have Cb := HCb.out.below b46; have rz := Hrz.out.below b46
    have b6 : Below w.heap.size w W6 := Hb4.out.trans (b46.mono (B' := w.heap.size) Hb4.out.size)
    have Cg := X6.2
    obtain ⟨gg, hgg⟩ : ∃ g, g = W5.heap.size := ⟨_, rfl⟩
    rw [← hgg] at Cg ⊢
    clear hW X6 b46 b5 i5 hgg x20 x21 x30 x31 Hg HCa HCb Hrz Hb4
    obtain ⟨d2, u2, n2, c2, e2, i2⟩ := id Ca
    obtain ⟨d5, u5, n5, c5, e5, i5⟩ := id Cg
    have x2 := two_cells e2; have x5 := two_cells e5
    obtain ⟨x20, x21, -, -⟩ := x2
    obtain ⟨x50, x51, -, -⟩ := x5
    have hdv := RDiv_any _ _ p' c W6 i2 (i5.raw (by omega)) Hcg.out (by omega) (by omega)
    have Hdv := hid hdv; have HCb := hid Cb; have HCg := hid Cg; have Hrz := hid rz; have Hb6 := hid b6
    clear hdv Ca Cb Cg rz b6 i2 i5 e2 e5
    go_wp2_with fail
    refine Hdv.out.mono ?_
    rintro e W7 ⟨vq, vr, rfl, hqq, hrr, b7⟩
    have hqq := hqq.parts'
    obtain ⟨dq, pq, nq, cq', rfl, hqq⟩ := hqq
    have hrr := hrr.parts'
    obtain ⟨dr, pr, nr, cr, rfl, -⟩ := hrr
    go_upto_region 6 with fail
    generalize hW : World.alloc (World.alloc W7 _) _ = W8
    have X8 : Below W7.heap.size W7 W8 ∧ Rec W8 W7.heap.size 25 #[.bool dq, .slice pq nq cq'] := by
      rw [← hW]; exact ⟨((Below.refl _ _).alloc (Nat.le_refl _) _).alloc (by simp) _, (Rec.new ..).below (below1 _ _)⟩
    have b68 : Below W6.heap.size W6 W8 := b7.trans (X8.1.mono (B' := W6.heap.size) b7.size)
    have k4 := X8.2
    have i4 := hqq.below X8.1
    have Cb := HCb.out.below b68; have Cg := HCg.out.below b68; have rz := Hrz.out.below b68
    have b8 : Below w.heap.size w W8 := Hb6.out.trans (b68.mono (B' := w.heap.size) Hb6.out.size)
    obtain ⟨g4, hg4⟩ : ∃ g, g = W7.heap.size := ⟨_, rfl⟩
    rw [← hg4] at k4 ⊢
    clear hW X8 b68 b7 hqq hg4 x20 x21 x50 x51 HCb HCg Hrz Hb6 Hdv
    obtain ⟨d3, u3, n3, c3, e3, i3⟩ := id Cb
    obtain ⟨d5', u5', n5', c5', e5, i5⟩ := id Cg
    have x3 := two_cells e3; have x5 := two_cells e5
    obtain ⟨x30, x31, -, -⟩ := x3
    obtain ⟨x50, x51, -, -⟩ := x5
    have hdv := RDiv_any _ _ q' c W8 i3 (i5.raw (by omega)) Hcg.out (by omega) (by omega)
    have Hdv := hid hdv; have Hrz := hid rz; have Hb8 := hid b8; have Hk4 := hid k4; have Hi4 := hid i4
    clear hdv Cb Cg rz b8 k4 i4 i3 i5 e3 e5
    go_wp2_with fail
    refine Hdv.out.mono ?_
    rintro e W9 ⟨vq, vr, rfl, hqq, hrr, b9⟩
    rw [Hden.out] at hqq
    have hqq := hqq.shape
    obtain ⟨pd, nd, cd, rfl, hqq⟩ := hqq
    have hrr := hrr.parts'
    obtain ⟨dr', pr', nr', cr', rfl, -⟩ := hrr
    have hneg : decide (((Rat.divInt p' q').den : Int) < 0) = false := decide_eq_false (by omega)
    rw [hneg] at hqq ⊢
    go_upto_region 7 with fail
    generalize hW : World.alloc (World.alloc W9 _) _ = W10
    have X10 : Below W9.heap.size W9 W10 ∧ Rec W10 W9.heap.size 25 #[.bool false, .slice pd nd cd] := by
      rw [← hW]; exact ⟨((Below.refl _ _).alloc (Nat.le_refl _) _).alloc (by simp) _, (Rec.new ..).below (below1 _ _)⟩
    have b810 : Below W8.heap.size W8 W10 := b9.trans (X10.1.mono (B' := W8.heap.size) b9.size)
    have k7 := X10.2
    have i7 := hqq.below X10.1
    have rz := Hrz.out.below b810; have k4 := Hk4.out.below b810; have i4 := Hi4.out.below b810
    have b10 : Below w.heap.size w W10 := Hb8.out.trans (b810.mono (B' := w.heap.size) Hb8.out.size)
    clear hW X10 b9 hqq b810 Hrz Hk4 Hi4 Hb8 Hdv hneg x30 x31 x50 x51
    have y0 := k4.cell 0; have y1 := k4.cell 1; have z1 := k7.cell 1
    simp only [List.getElem?_toArray, List.getElem?_cons_zero, List.getElem?_cons_succ] at y0 y1 z1
    have x := cells3 rz
    obtain ⟨x0, x1, x2⟩ := x
    have f := frozen4 rz
    obtain ⟨f0, f1, f2, -⟩ := f
    rw [Hnum.out] at i4
    have m2 := put3 rz (by simp [nonInt]) (.bool dq) (.slice pq nq cq') (.slice pd nd cd) (by simp [nonInt])
    have mi := hid (m2.2.int _ _ i4)
    have md := hid (m2.2.int _ _ i7)
    have mb := hid (m2.2.bel w.heap.size w (by omega) b10)
    clear m2 i4 i7 b10 rz k4 k7
    go_wp2
    exact bodyPost_ret (v := .agg #[.bool dq, .slice pq nq cq', .slice pd nd cd]) (by simp [results, Try.results51, go_sem, x0, x1, x2]) rfl ⟨_, rfl, ⟨_, _, _, _, _, _, _, rfl, by rw [Hx.out]; exact mi.out, by rw [Hx.out]; exact md.out⟩, mb.out⟩
  · rw [Int.sign_eq_one_of_pos (show 0 < q by omega)] at Hsg
    have Hqp := hid (show (0 : Int) < q by omega)
    clear hneg hq
    go_wp2_with fail
    refine Hsg.out.mono ?_
    rintro e W4 ⟨rfl, b3⟩
    have Ca := HCa.out.below b3; have Cb := HCb.out.below b3; have rz := Hrz.out.below b3
    have b4 : Below w.heap.size w W4 := Hbw.out.trans (b3.mono (B' := w.heap.size) Hbw.out.size)
    clear b3 xb0 xb1 HCa HCb Hrz Hbw Hsg
    have hqp := Hqp.out
    clear Hqp
    obtain ⟨p', hp'⟩ : ∃ p', p' = p := ⟨_, rfl⟩
    obtain ⟨q', hq'⟩ : ∃ q', q' = q := ⟨_, rfl⟩
    subst hp' hq'
    have hq0 : q' ≠ 0 := by omega
    have hnum := low_num (p := p') hq0
    have hden := low_den (p := p') hq0
    have cg := lowBy_ne (p := p') hq0
    have hlb : ((Nat.gcd p'.natAbs q'.natAbs : Nat) : Int) = lowBy p' q' := by unfold lowBy; rw [if_neg (by omega)]
    have szc : sz W (lowBy p' q').natAbs ≤ 1000 := by
      rw [← hlb]
      exact Nat.le_trans (sz_mono W2 (by rw [Int.natAbs_natCast]; exact Nat.gcd_le_right _ (by omega))) sq
    obtain ⟨d2, u2, n2, c2, e2, i2⟩ := id Ca
    obtain ⟨d3, u3, n3, c3, e3, i3⟩ := id Cb
    have x2 := two_cells e2; have x3 := two_cells e3
    obtain ⟨x20, x21, -, -⟩ := x2
    obtain ⟨x30, x31, -, -⟩ := x3
    have hg := RGcd_any _ _ p' q' W4 i2 i3 (by omega) (by omega)
    rw [hlb] at hg
    generalize lowBy p' q' = c at *
    have Hg := hid hg; have HCa := hid Ca; have HCb := hid Cb; have Hrz := hid rz; have Hb4 := hid b4; have Hnum := hid hnum; have Hden := hid hden; have Hcg := hid cg
    clear hg Ca Cb rz b4 hnum hden cg hlb hq0 hqp i2 i3 e2 e3
    go_wp2_with fail
    refine Hg.out.mono ?_
    rintro e W5 ⟨v5, rfl, i5, b5⟩
    have i5p := i5.parts'
    obtain ⟨d5, p5, n5, c5, rfl, i5⟩ := i5p
    go_upto_region 5 with fail
    generalize hW : World.alloc W5 _ = W6
    have X6 : Below W5.heap.size W5 W6 ∧ IntCell W6 W5.heap.size c := by
      rw [← hW]; exact ⟨below1 _ _, _, _, _, _, heap_alloc_new W5 _, i5.below (below1 _ _)⟩
    have b46 : Below W4.heap.size W4 W6 := b5.trans (X6.1.mono (B' := W4.heap.size) b5.size)
    have Ca := HCa.out.below b46; have Cb := HCb.out.below b46; have rz := Hrz.out.below b46
    have b6 : Below w.heap.size w W6 := Hb4.out.trans (b46.mono (B' := w.heap.size) Hb4.out.size)
    have Cg := X6.2
    obtain ⟨gg, hgg⟩ : ∃ g, g = W5.heap.size := ⟨_, rfl⟩
    rw [← hgg] at Cg ⊢
    clear hW X6 b46 b5 i5 hgg x20 x21 x30 x31 Hg HCa HCb Hrz Hb4
    obtain ⟨d2, u2, n2, c2, e2, i2⟩ := id Ca
    obtain ⟨d5, u5, n5, c5, e5, i5⟩ := id Cg
    have x2 := two_cells e2; have x5 := two_cells e5
    obtain ⟨x20, x21, -, -⟩ := x2
    obtain ⟨x50, x51, -, -⟩ := x5
    have hdv := RDiv_any _ _ p' c W6 i2 (i5.raw (by omega)) Hcg.out (by omega) (by omega)
    have Hdv := hid hdv; have HCb := hid Cb; have HCg := hid Cg; have Hrz := hid rz; have Hb6 := hid b6
    clear hdv Ca Cb Cg rz b6 i2 i5 e2 e5
    go_wp2_with fail
    refine Hdv.out.mono ?_
    rintro e W7 ⟨vq, vr, rfl, hqq, hrr, b7⟩
    have hqq := hqq.parts'
    obtain ⟨dq, pq, nq, cq', rfl, hqq⟩ := hqq
    have hrr := hrr.parts'
    obtain ⟨dr, pr, nr, cr, rfl, -⟩ := hrr
    go_upto_region 6 with fail
    generalize hW : World.alloc (World.alloc W7 _) _ = W8
    have X8 : Below W7.heap.size W7 W8 ∧ Rec W8 W7.heap.size 25 #[.bool dq, .slice pq nq cq'] := by
      rw [← hW]; exact ⟨((Below.refl _ _).alloc (Nat.le_refl _) _).alloc (by simp) _, (Rec.new ..).below (below1 _ _)⟩
    have b68 : Below W6.heap.size W6 W8 := b7.trans (X8.1.mono (B' := W6.heap.size) b7.size)
    have k4 := X8.2
    have i4 := hqq.below X8.1
    have Cb := HCb.out.below b68; have Cg := HCg.out.below b68; have rz := Hrz.out.below b68
    have b8 : Below w.heap.size w W8 := Hb6.out.trans (b68.mono (B' := w.heap.size) Hb6.out.size)
    obtain ⟨g4, hg4⟩ : ∃ g, g = W7.heap.size := ⟨_, rfl⟩
    rw [← hg4] at k4 ⊢
    clear hW X8 b68 b7 hqq hg4 x20 x21 x50 x51 HCb HCg Hrz Hb6 Hdv
    obtain ⟨d3, u3, n3, c3, e3, i3⟩ := id Cb
    obtain ⟨d5', u5', n5', c5', e5, i5⟩ := id Cg
    have x3 := two_cells e3; have x5 := two_cells e5
    obtain ⟨x30, x31, -, -⟩ := x3
    obtain ⟨x50, x51, -, -⟩ := x5
    have hdv := RDiv_any _ _ q' c W8 i3 (i5.raw (by omega)) Hcg.out (by omega) (by omega)
    have Hdv := hid hdv; have Hrz := hid rz; have Hb8 := hid b8; have Hk4 := hid k4; have Hi4 := hid i4
    clear hdv Cb Cg rz b8 k4 i4 i3 i5 e3 e5
    go_wp2_with fail
    refine Hdv.out.mono ?_
    rintro e W9 ⟨vq, vr, rfl, hqq, hrr, b9⟩
    rw [Hden.out] at hqq
    have hqq := hqq.shape
    obtain ⟨pd, nd, cd, rfl, hqq⟩ := hqq
    have hrr := hrr.parts'
    obtain ⟨dr', pr', nr', cr', rfl, -⟩ := hrr
    have hneg : decide (((Rat.divInt p' q').den : Int) < 0) = false := decide_eq_false (by omega)
    rw [hneg] at hqq ⊢
    go_upto_region 7 with fail
    generalize hW : World.alloc (World.alloc W9 _) _ = W10
    have X10 : Below W9.heap.size W9 W10 ∧ Rec W10 W9.heap.size 25 #[.bool false, .slice pd nd cd] := by
      rw [← hW]; exact ⟨((Below.refl _ _).alloc (Nat.le_refl _) _).alloc (by simp) _, (Rec.new ..).below (below1 _ _)⟩
    have b810 : Below W8.heap.size W8 W10 := b9.trans (X10.1.mono (B' := W8.heap.size) b9.size)
    have k7 := X10.2
    have i7 := hqq.below X10.1
    have rz := Hrz.out.below b810; have k4 := Hk4.out.below b810; have i4 := Hi4.out.below b810
    have b10 : Below w.heap.size w W10 := Hb8.out.trans (b810.mono (B' := w.heap.size) Hb8.out.size)
    clear hW X10 b9 hqq b810 Hrz Hk4 Hi4 Hb8 Hdv hneg x30 x31 x50 x51
    have y0 := k4.cell 0; have y1 := k4.cell 1; have z1 := k7.cell 1
    simp only [List.getElem?_toArray, List.getElem?_cons_zero, List.getElem?_cons_succ] at y0 y1 z1
    have x := cells3 rz
    obtain ⟨x0, x1, x2⟩ := x
    have f := frozen4 rz
    obtain ⟨f0, f1, f2, -⟩ := f
    rw [Hnum.out] at i4
    have m2 := put3 rz (by simp [nonInt]) (.bool dq) (.slice pq nq cq') (.slice pd nd cd) (by simp [nonInt])
    have mi := hid (m2.2.int _ _ i4)
    have md := hid (m2.2.int _ _ i7)
    have mb := hid (m2.2.bel w.heap.size w (by omega) b10)
    clear m2 i4 i7 b10 rz k4 k7
    go_wp2
    exact bodyPost_ret (v := .agg #[.bool dq, .slice pq nq cq', .slice pd nd cd]) (by simp [results, Try.results51, go_sem, x0, x1, x2]) rfl ⟨_, rfl, ⟨_, _, _, _, _, _, _, rfl, by rw [Hx.out]; exact mi.out, by rw [Hx.out]; exact md.out⟩, mb.out⟩
end Go.Proofs.Ytlijekppbpefaaa
/- elenchusref02's calls: Den, Neg. -/
namespace Go.Proofs.Ytlijekppbpefaaa
open Go.RowKit Big

theorem len9 {vs : List Value} (h : vs.length = 9) : ∃ a b c d e f g h i, vs = [a, b, c, d, e, f, g, h, i] := by
  match vs, h with
  | [a, b, c, d, e, f, g, h, i], _ => exact ⟨a, b, c, d, e, f, g, h, i, rfl⟩
set_option maxRecDepth 100000 in
set_option maxHeartbeats 3200000 in
theorem Den_any (v : Value) (p q : Int) (w : World) (h : RatRaw w v p q) (sq : sz W q.natAbs ≤ 1000) : Calls Try.prog 29 #[v] w (RInt (dn q) w) := by
  obtain ⟨d, hd⟩ : ∃ d, d = dn q := ⟨_, rfl⟩
  rw [← hd]
  have Hd := hid hd
  clear hd
  obtain ⟨b, p0, n0, c0, p1, n1, c1, rfl, ha0, ha1⟩ := id h
  have H := hid h; have HA := hid ha0; have HD := hid ha1
  clear h ha0 ha1
  go_enter Try.func29, Try.ntmps29
  go_upto_region 1 with fail
  generalize hW : World.alloc (World.alloc w _) _ = W0
  have bw : Below w.heap.size w W0 := by rw [← hW]; exact (below1 _ _).alloc (by simp) _
  have ra : Rec W0 w.heap.size 27 #[.bool b, .slice p0 n0 c0, .slice p1 n1 c1] := by
    rw [← hW]; exact ((Rec.new ..).below (below1 _ _))
  have rz : Rec W0 (w.heap.size + 1) 25 #[.bool false, .slice none 0 0] := by
    rw [← hW]
    have := Rec.new (w.alloc (.cells #[.bool b, .slice p0 n0 c0, .slice p1 n1 c1] 27)) #[.bool false, .slice none 0 0] 25
    rwa [size_alloc] at this
  clear hW
  have x := cells3 ra
  obtain ⟨x0, x1, x2⟩ := x
  have hwh : Calls Try.prog 39 #[.bool false, .slice p1 n1 c1] W0 (RInt q W0) := by
    obtain ⟨neg, s, l, hv, h1, h2, h3, rfl⟩ := HD.out.below bw
    injection hv with hv
    simp at hv
    obtain ⟨rfl, rfl⟩ := hv
    exact Whole_any false _ l W0 h1 h2 (by omega)
  have Hwh := hid hwh; have Hrz := hid rz; have Hbw := hid bw
  clear hwh ra rz bw H HA HD
  go_wp2_with fail
  refine Hwh.out.mono ?_
  rintro e w1 ⟨v1, rfl, i1, b1⟩
  have i1p := i1.parts'
  obtain ⟨d1, q1, m1, k1, rfl, i1⟩ := i1p
  go_upto_region 2 with fail
  generalize hW : World.alloc w1 _ = W1
  have X1 : Below w1.heap.size w1 W1 ∧ IntCell W1 w1.heap.size q := by
    rw [← hW]; exact ⟨below1 _ _, _, _, _, _, heap_alloc_new w1 _, i1.below (below1 _ _)⟩
  have b01 : Below W0.heap.size W0 W1 := b1.trans (X1.1.mono (B' := W0.heap.size) b1.size)
  have rz := Hrz.out.below b01
  have bw : Below w.heap.size w W1 := Hbw.out.trans (b01.mono (B' := w.heap.size) Hbw.out.size)
  have C1 := X1.2
  obtain ⟨g, hg⟩ : ∃ g, g = w1.heap.size := ⟨_, rfl⟩
  rw [← hg] at C1 ⊢
  clear hW X1 hg b01 b1 i1 Hwh Hrz Hbw x0 x1 x2
  obtain ⟨d2, u2, n2, k2, e2, i2⟩ := id C1
  have y := two_cells e2
  obtain ⟨y0, y1, -, -⟩ := y
  have hsg := RSign_any _ q W1 (i2.raw (by omega))
  have Hsg := hid hsg; have Hrz := hid rz; have Hbw := hid bw; have HC := hid C1
  clear hsg rz bw C1 e2 i2
  by_cases hq : q = 0
  · have Hd1 : Hid (d = 1) := by unfold Hid; rw [Hd.out, hq]; rfl
    rw [hq, Int.sign_zero] at Hsg
    clear hq
    go_wp2_with fail
    refine Hsg.out.mono ?_
    rintro e w2 ⟨rfl, b2⟩
    have Hrz := hid (Hrz.out.below b2); have Hbw := hid (Hbw.out.trans (b2.mono (B' := w.heap.size) Hbw.out.size))
    clear b2 y0 y1 HC
    go_wp2_with fail
    refine (ROf_any 1 _ (by decide) (by decide)).mono ?_
    rintro e w3 ⟨v3, rfl, i3, b3⟩
    have i3p := i3.parts'
    obtain ⟨f1, f2, f3, f4, rfl, i3⟩ := i3p
    have rz := Hrz.out.below b3
    have bw := Hbw.out.trans (b3.mono (B' := w.heap.size) Hbw.out.size)
    have xz0 := rz.cell 0; have xz1 := rz.cell 1
    simp only [List.getElem?_toArray, List.getElem?_cons_zero, List.getElem?_cons_succ] at xz0 xz1
    have fz := frozen4 rz
    obtain ⟨g0, g1, -, -⟩ := fz
    have m := put2 rz (by simp [nonInt]) (.bool f1) (.slice f2 f3 f4) (by simp [nonInt])
    have mi := hid (m.2.int _ _ i3)
    have mb := hid (m.2.bel w.heap.size w (by omega) bw)
    clear m rz bw i3 b3
    go_wp2
    exact bodyPost_ret (v := .agg #[.bool f1, .slice f2 f3 f4]) (by simp [results, Try.results29, go_sem, xz0, xz1]) rfl ⟨_, rfl, by rw [Hd1.out]; exact mi.out, mb.out⟩
  · have Hdq : Hid (d = q) := by unfold Hid; rw [Hd.out]; unfold dn; rw [if_neg hq]
    have hs : (q.sign == 0) = false := beq_eq_false_iff_ne.2 (fun e => hq (Int.sign_eq_zero_iff_zero.1 e))
    clear hq
    go_wp2_with fail
    refine Hsg.out.mono ?_
    rintro e w2 ⟨rfl, b2⟩
    have rz := Hrz.out.below b2
    have bw := Hbw.out.trans (b2.mono (B' := w.heap.size) Hbw.out.size)
    obtain ⟨f1, f2, f3, f4, e3, i3⟩ := HC.out.below b2
    have y := two_cells e3
    obtain ⟨z0, z1, -, -⟩ := y
    have xz0 := rz.cell 0; have xz1 := rz.cell 1
    simp only [List.getElem?_toArray, List.getElem?_cons_zero, List.getElem?_cons_succ] at xz0 xz1
    have fz := frozen4 rz
    obtain ⟨g0, g1, -, -⟩ := fz
    have m := put2 rz (by simp [nonInt]) (.bool f1) (.slice f2 f3 f4) (by simp [nonInt])
    have mi := hid (m.2.int _ _ i3)
    have mb := hid (m.2.bel w.heap.size w (by omega) bw)
    clear m rz bw i3 b2 e3 y0 y1 HC Hrz Hbw
    go_wp2
    exact bodyPost_ret (v := .agg #[.bool f1, .slice f2 f3 f4]) (by simp [results, Try.results29, go_sem, xz0, xz1]) rfl ⟨_, rfl, by rw [Hdq.out]; exact mi.out, mb.out⟩

set_option maxRecDepth 100000 in
set_option maxHeartbeats 3200000 in
theorem RNeg2_any (v : Value) (p q : Int) (w : World) (h : RatRaw w v p q) (sp : sz W p.natAbs ≤ 1000) (sq : sz W q.natAbs ≤ 1000) : Calls Try.prog 31 #[v] w (RRat (-(Rat.divInt p (dn q))) w) := by
  have hd : dn q ≠ 0 := by have := dn_pos h.den; omega
  have spn : sz W (-p).natAbs ≤ 1000 := by rw [Int.natAbs_neg]; exact sp
  have sqd := sz_dn sq (by decide)
  have Hne := hid hd
  rw [Rat.neg_divInt]
  clear hd
  obtain ⟨b, p0, n0, c0, p1, n1, c1, rfl, ha0, ha1⟩ := id h
  have H := hid h; have HA := hid ha0; have HD := hid ha1
  clear h ha0 ha1
  go_enter Try.func31, Try.ntmps31
  go_upto_region 1 with fail
  generalize hW : World.alloc (World.alloc w _) _ = W0
  have bw : Below w.heap.size w W0 := by rw [← hW]; exact (below1 _ _).alloc (by simp) _
  have ra : Rec W0 w.heap.size 27 #[.bool b, .slice p0 n0 c0, .slice p1 n1 c1] := by
    rw [← hW]; exact ((Rec.new ..).below (below1 _ _))
  have rz : Rec W0 (w.heap.size + 1) 27 #[.bool false, .slice none 0 0, .slice none 0 0] := by
    rw [← hW]
    have := Rec.new (w.alloc (.cells #[.bool b, .slice p0 n0 c0, .slice p1 n1 c1] 27)) #[.bool false, .slice none 0 0, .slice none 0 0] 27
    rwa [size_alloc] at this
  clear hW
  have HRA := hid (H.out.below bw); have HA := hid (HA.out.below bw); have Hrz := hid rz; have Hbw := hid bw
  have HS : Hid (∀ w', Below W0.heap.size W0 w' → w'.cell? ⟨w.heap.size, 0, none⟩ = some (.bool b) ∧ w'.cell? ⟨w.heap.size, 1, none⟩ = some (.slice p0 n0 c0) ∧ w'.cell? ⟨w.heap.size, 2, none⟩ = some (.slice p1 n1 c1)) := fun w' hb => cells3 (ra.below hb)
  clear ra rz bw
  refine wp_region_facts (w0 := W0) 6 1 [3, 4, 5, 6, 7, 8] [undef, undef, undef, undef, undef, undef]
    (fun i => match i with | 0 => eqF (.pointer (some ⟨w.heap.size, 0, none⟩)) | 1 => eqF (.agg #[.bool b, .slice p0 n0 c0]) | 2 => intF (-p) | 3 => eqF (.agg #[.bool b, .slice p0 n0 c0, .slice p1 n1 c1]) | 4 => intF (dn q) | _ => ratF (Rat.divInt (-p) (dn q))) [] (by kernel_rfl) (by kernel_rfl) (by kernel_rfl) (by kernel_rfl) (by decide) rfl (by kernel_rfl) rfl (by simp) ?he9 ?_ ?_ ?_
  case he9 => simp only [putAll, Act.put, List.setIfInBounds_toArray, List.set_cons_zero, List.set_cons_succ]
  · intro i hi; simp at hi
  · intro i o hi ho vs wx hvl hb hdep K hK
    have hvs := len6 hvl
    obtain ⟨s3, s4, s5, s6, s7, s8, rfl⟩ := hvs
    clear hvl
    have hk := HS.out wx hb
    go_split_ands
    rcases i with _ | _ | _ | _ | _ | _ | i
    all_goals (simp only [List.getElem?_toArray, List.getElem?_cons_zero, List.getElem?_cons_succ, Option.some.injEq] at ho)
    all_goals try (subst ho)
    all_goals try simp only [putAll, Act.put, List.setIfInBounds_toArray, List.set_cons_zero, List.set_cons_succ]
    · go_simp
      have hK' := hK.out
      simp only [putAll, Act.put, List.setIfInBounds_toArray, List.set_cons_zero, List.set_cons_succ] at hK'
      exact hK' _ _ rfl (Below.refl _ _) (by simp)
    · have e0 : s3 = _ := hdep ⟨0, .data⟩ (by simp) rfl
      subst e0
      go_simp
      have hK' := hK.out
      simp only [putAll, Act.put, List.setIfInBounds_toArray, List.set_cons_zero, List.set_cons_succ] at hK'
      exact hK' _ _ rfl (Below.refl _ _) (by simp)
    · have e1 : s4 = _ := hdep ⟨1, .data⟩ (by simp) rfl
      subst e1
      go_simp
      refine (RNeg_any _ p _ (HA.out.below hb)).mono ?_
      rintro e wy ⟨vy, rfl, iy, hby⟩
      have hsh := iy.parts'
      obtain ⟨q5, p5, n5, c5, rfl, iy⟩ := hsh
      go_wp2_with fail
      have hK' := hK.out
      simp only [putAll, Act.put, List.setIfInBounds_toArray, List.set_cons_zero, List.set_cons_succ] at hK'
      exact hK' _ _ ⟨_, _, _, _, rfl, iy⟩ hby (by simp)
    · go_simp
      have hK' := hK.out
      simp only [putAll, Act.put, List.setIfInBounds_toArray, List.set_cons_zero, List.set_cons_succ] at hK'
      exact hK' _ _ rfl (Below.refl _ _) (by simp)
    · have e3 : s6 = _ := hdep ⟨3, .data⟩ (by simp) rfl
      subst e3
      go_simp
      refine (Den_any _ p q _ (HRA.out.below hb) sq).mono ?_
      rintro e wy ⟨vy, rfl, iy, hby⟩
      have hsh := iy.parts'
      obtain ⟨q5, p5, n5, c5, rfl, iy⟩ := hsh
      go_wp2_with fail
      have hK' := hK.out
      simp only [putAll, Act.put, List.setIfInBounds_toArray, List.set_cons_zero, List.set_cons_succ] at hK'
      exact hK' _ _ ⟨_, _, _, _, rfl, iy⟩ hby (by simp)
    · have e2 : (intF (-p)).P s5 wx := hdep ⟨2, .data⟩ (by simp) rfl
      obtain ⟨da2, pa2, na2, ca2, rfl, ia2⟩ := e2
      have e4 : (intF (dn q)).P s7 wx := hdep ⟨4, .data⟩ (by simp) rfl
      obtain ⟨da4, pa4, na4, ca4, rfl, ia4⟩ := e4
      go_simp
      refine (Make_any _ _ (-p) (dn q) _ (ia2.raw (by omega)) (ia4.raw (by omega)) Hne.out spn sqd).mono ?_
      rintro e wy ⟨vy, rfl, iy, hby⟩
      obtain ⟨e1, e2, e3, e4, e5, e6, e7, rfl, iy0, iy1⟩ := iy
      go_wp2_with fail
      have hK' := hK.out
      simp only [putAll, Act.put, List.setIfInBounds_toArray, List.set_cons_zero, List.set_cons_succ] at hK'
      exact hK' _ _ ⟨_, _, _, _, _, _, _, rfl, iy0, iy1⟩ hby (by simp)
    · omega
  · intro vs wx hvl hb hf hdist
    have hvs := len6 hvl
    obtain ⟨s3, s4, s5, s6, s7, s8, rfl⟩ := hvs
    have f5 : RatTold wx s8 (Rat.divInt (-p) (dn q)) := hf 5 (by decide)
    obtain ⟨e11, e12, e13, e14, e15, e16, e17, rfl, i1, i2⟩ := f5
    have rz := Hrz.out.below hb
    have xz := cells3 rz
    obtain ⟨z0, z1, z2⟩ := xz
    have fz := frozen4 rz
    obtain ⟨fz0, fz1, fz2, -⟩ := fz
    clear hf hdist hvl
    refine wpAny_one (i := 6) (by kernel_rfl) rfl ?_
    intro K hK
    simp only [putAll, Act.put, List.setIfInBounds_toArray, List.set_cons_zero, List.set_cons_succ]
    go_simp
    have hK' := hK.out
    apply hK'
    clear hK hK'
    have m := put3 rz (by simp [nonInt]) (.bool e11) (.slice e12 e13 e14) (.slice e15 e16 e17) (by simp [nonInt])
    have j1 := m.2.int _ _ i1; have j2 := m.2.int _ _ i2
    have jb := m.2.bel w.heap.size w (by omega) (Hbw.out.trans (hb.mono (B' := w.heap.size) Hbw.out.size))
    have xm := cells3 m.1
    clear m rz z0 z1 z2 fz0 fz1 fz2 i1 i2
    generalize (((wx.setCell ⟨w.heap.size + 1, 0, none⟩ (.bool e11)).setCell ⟨w.heap.size + 1, 1, none⟩ (.slice e12 e13 e14)).setCell ⟨w.heap.size + 1, 2, none⟩ (.slice e15 e16 e17)) = wz at *
    obtain ⟨z0, z1, z2⟩ := xm
    refine wpAny_done (by kernel_rfl) ?_ _
    go_wp2
    exact bodyPost_ret (v := .agg #[.bool e11, .slice e12 e13 e14, .slice e15 e16 e17]) (by simp [results, Try.results31, go_sem, z0, z1, z2]) rfl ⟨_, rfl, ⟨_, _, _, _, _, _, _, rfl, j1, j2⟩, jb⟩

end Go.Proofs.Ytlijekppbpefaaa
