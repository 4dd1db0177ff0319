/- Texts put together: RatOps2, RatNew, RatSmall. -/
import Derived.Test.YtlijekppbpefaaaRoundsCardM6
/- ratio.Mul and Add. -/
namespace Go.Proofs.Ytlijekppbpefaaa
open Go.RowKit Big

set_option maxRecDepth 100000 in
set_option maxHeartbeats 6400000 in
theorem QMul_any (v0 v1 : Value) (p q r s : Int) (w : World) (h0 : RatRaw w v0 p q) (h1 : RatRaw w v1 r s) (l0 : sz W p.natAbs ≤ 1000) (l1 : sz W q.natAbs ≤ 1000) (l2 : sz W r.natAbs ≤ 1000) (l3 : sz W s.natAbs ≤ 1000) :
    Calls Try.prog 14 #[v0, v1] w (RRat (Rat.divInt p (dn q) * Rat.divInt r (dn s)) w) := by
  have hx : Rat.divInt p (dn q) * Rat.divInt r (dn s) = Rat.divInt (p * r) (dn q * dn s) := Rat.divInt_mul_divInt _ _
  have hne : dn q * dn s ≠ 0 := by
    have := Int.mul_pos (dn_pos h0.den) (dn_pos h1.den)
    omega
  rw [hx]
  have Hne := hid hne
  have l1' := sz_dn l1 (by decide)
  have l3' := sz_dn l3 (by decide)
  have la := hid (sz_mul2 l0 l2); have lb := hid (sz_mul2 l1' l3')
  clear hx hne
  obtain ⟨b, p0, n0, c0, p1, n1, c1, rfl, ha0, ha1⟩ := id h0
  obtain ⟨b', p2, n2, c2, p3, n3, c3, rfl, hb0, hb1⟩ := id h1
  have HRA := hid h0; have HRB := hid h1
  clear ha0 ha1 hb0 hb1 h0 h1
  go_enter Try.func14, Try.ntmps14
  go_upto_region 1 with fail
  generalize hW : World.alloc (World.alloc (World.alloc w _) _) _ = W0
  have bw : Below w.heap.size w W0 := by rw [← hW]; exact ((below1 _ _).alloc (by simp) _).alloc (by simp; omega) _
  have ra : Rec W0 w.heap.size 27 #[.bool b, .slice p0 n0 c0, .slice p1 n1 c1] := by
    rw [← hW]; exact ((Rec.new ..).below (below1 _ _)).below (below1 _ _)
  have rb : Rec W0 (w.heap.size + 1) 27 #[.bool b', .slice p2 n2 c2, .slice p3 n3 c3] := by
    rw [← hW]
    have := (Rec.new (w.alloc (.cells #[.bool b, .slice p0 n0 c0, .slice p1 n1 c1] 27)) #[.bool b', .slice p2 n2 c2, .slice p3 n3 c3] 27)
    rw [size_alloc] at this
    exact this.below (below1 _ _)
  have rz : Rec W0 (w.heap.size + 1 + 1) 27 #[.bool false, .slice none 0 0, .slice none 0 0] := by
    rw [← hW]
    have := Rec.new ((w.alloc (.cells #[.bool b, .slice p0 n0 c0, .slice p1 n1 c1] 27)).alloc (.cells #[.bool b', .slice p2 n2 c2, .slice p3 n3 c3] 27)) #[.bool false, .slice none 0 0, .slice none 0 0] 27
    rwa [size_alloc, size_alloc] at this
  have Hrz := hid rz
  clear rz
  have HS : Hid (∀ w', Below W0.heap.size W0 w' → w'.cell? ⟨w.heap.size, 0, none⟩ = some (.bool b) ∧ w'.cell? ⟨w.heap.size, 1, none⟩ = some (.slice p0 n0 c0) ∧ w'.cell? ⟨w.heap.size, 2, none⟩ = some (.slice p1 n1 c1) ∧
      w'.cell? ⟨w.heap.size + 1, 0, none⟩ = some (.bool b') ∧ w'.cell? ⟨w.heap.size + 1, 1, none⟩ = some (.slice p2 n2 c2) ∧ w'.cell? ⟨w.heap.size + 1, 2, none⟩ = some (.slice p3 n3 c3)) := by
    intro w' hb
    have xa := cells3 (ra.below hb)
    have xb := cells3 (rb.below hb)
    exact ⟨xa.1, xa.2.1, xa.2.2, xb.1, xb.2.1, xb.2.2⟩
  have HRA := hid (HRA.out.below bw); have HRB := hid (HRB.out.below bw); have Hbw := hid bw
  clear hW ra rb bw
  go_upto_region 1 with fail
  go_cut [5, 6] (fun s5 s6 wx => ∃ g5 g6, s5 = .pointer (some ⟨g5, 0, none⟩) ∧ s6 = .pointer (some ⟨g6, 0, none⟩) ∧ g5 ≠ g6 ∧ W0.heap.size ≤ g5 ∧ W0.heap.size ≤ g6 ∧ PairVar wx g5 p (dn q) ∧ PairVar wx g6 r (dn s) ∧ Below W0.heap.size W0 wx)
  case first =>
    rename_i Jc Kc hJc hKc
    refine wp_region_facts (w0 := W0) 6 2 [7, 8, 9, 10, 5, 6] [undef, undef, undef, undef, undef, undef]
      (fun i => match i with | 0 => eqF (.agg #[.bool b, .slice p0 n0 c0, .slice p1 n1 c1]) | 1 => pairF p (dn q) | 2 => eqF (.agg #[.bool b', .slice p2 n2 c2, .slice p3 n3 c3]) | 3 => pairF r (dn s) | 4 => recF W0.heap.size 47 | _ => recF W0.heap.size 47) [4, 5] (by kernel_rfl) (by kernel_rfl) (by kernel_rfl) (by kernel_rfl) (by decide) rfl (by kernel_rfl) rfl (by simp) ?he2 ?_ ?_ ?_
    case he2 => simp only [putAll, Act.put, List.setIfInBounds_toArray, List.set_cons_zero, List.set_cons_succ]
    · intro i hi v w' h
      simp only [List.mem_cons, List.not_mem_nil, or_false] at hi
      rcases hi with rfl | rfl
      · obtain ⟨g, x1, x2, x3, x4, hg, hp, -⟩ := (show (recF W0.heap.size 47).P v w' from h); exact ⟨g, hg, hp.lt⟩
      · obtain ⟨g, x1, x2, x3, x4, hg, hp, -⟩ := (show (recF W0.heap.size 47).P v w' from h); exact ⟨g, hg, hp.lt⟩
    · intro i o hi ho vs wx hvl hb hdep K hK
      have hvs := len6 hvl
      obtain ⟨s7, s8, s9, s10, s5, s6, rfl⟩ := hvs
      clear hvl
      have hk := HS.out wx hb
      go_split_ands
      rcases i with _ | _ | _ | _ | _ | _ | i
      all_goals (simp only [List.getElem?_toArray, List.getElem?_cons_zero, List.getElem?_cons_succ, Option.some.injEq] at ho)
      all_goals try (subst ho)
      all_goals try simp only [putAll, Act.put, List.setIfInBounds_toArray, List.set_cons_zero, List.set_cons_succ]
      · go_simp
        have hK' := hK.out
        simp only [putAll, Act.put, List.setIfInBounds_toArray, List.set_cons_zero, List.set_cons_succ] at hK'
        exact hK' _ _ rfl (Below.refl _ _) (by simp)
      · have e0 : s7 = _ := hdep ⟨0, .data⟩ (by simp) rfl
        subst e0
        go_simp
        refine (read_any _ p q _ (HRA.out.below hb)).mono ?_
        rintro e wy ⟨vy, rfl, iy, hby⟩
        obtain ⟨e1, e2, e3, e4, e5, e6, e7, e8, rfl, iy0, iy1⟩ := iy
        go_wp2_with fail
        have hK' := hK.out
        simp only [putAll, Act.put, List.setIfInBounds_toArray, List.set_cons_zero, List.set_cons_succ] at hK'
        exact hK' _ _ ⟨_, _, _, _, _, _, _, _, rfl, iy0, iy1⟩ hby (by simp)
      · go_simp
        have hK' := hK.out
        simp only [putAll, Act.put, List.setIfInBounds_toArray, List.set_cons_zero, List.set_cons_succ] at hK'
        exact hK' _ _ rfl (Below.refl _ _) (by simp)
      · have e2 : s9 = _ := hdep ⟨2, .data⟩ (by simp) rfl
        subst e2
        go_simp
        refine (read_any _ r s _ (HRB.out.below hb)).mono ?_
        rintro e wy ⟨vy, rfl, iy, hby⟩
        obtain ⟨e1, e2, e3, e4, e5, e6, e7, e8, rfl, iy0, iy1⟩ := iy
        go_wp2_with fail
        have hK' := hK.out
        simp only [putAll, Act.put, List.setIfInBounds_toArray, List.set_cons_zero, List.set_cons_succ] at hK'
        exact hK' _ _ ⟨_, _, _, _, _, _, _, _, rfl, iy0, iy1⟩ hby (by simp)
      · go_simp
        have hK' := hK.out
        simp only [putAll, Act.put, List.setIfInBounds_toArray, List.set_cons_zero, List.set_cons_succ] at hK'
        exact hK' _ _ ⟨_, _, _, _, _, rfl, Rec.new .., by simp [nonInt], hb.size⟩ (below1 _ _) (fun _ => rfl)
      · go_simp
        have hK' := hK.out
        simp only [putAll, Act.put, List.setIfInBounds_toArray, List.set_cons_zero, List.set_cons_succ] at hK'
        exact hK' _ _ ⟨_, _, _, _, _, rfl, Rec.new .., by simp [nonInt], hb.size⟩ (below1 _ _) (fun _ => rfl)
      · omega
    · intro vs wx hvl hb hf hdist
      have hvs := len6 hvl
      obtain ⟨s7, s8, s9, s10, s5, s6, rfl⟩ := hvs
      have k1 : PairAt wx s8 p (dn q) := hf 1 (by decide)
      have k3 : PairAt wx s10 r (dn s) := hf 3 (by decide)
      have k4 : (recF W0.heap.size 47).P s5 wx := hf 4 (by decide)
      have k5 : (recF W0.heap.size 47).P s6 wx := hf 5 (by decide)
      have hne : s5 ≠ s6 := hdist 4 (by simp) 5 (by simp) (by decide)
      obtain ⟨e1, e2, e3, e4, e5, e6, e7, e8, rfl, i1, i2⟩ := k1
      obtain ⟨f1, f2, f3, f4, f5, f6, f7, f8, rfl, j1, j2⟩ := k3
      obtain ⟨g5, xa, xb, xc, xd, rfl, rec5, non5, hB5⟩ := k4
      obtain ⟨g6, ya, yb, yc, yd, rfl, rec6, non6, hB6⟩ := k5
      have hgne : g5 ≠ g6 := fun e => hne (by rw [e])
      clear hf hdist hvl hne
      have c5 := cells4 rec5
      obtain ⟨x0, x1, x2, x3⟩ := c5
      have f5x := frozen4 rec5
      obtain ⟨y0, y1, y2, y3⟩ := f5x
      refine wpAny_one (i := 6) (by kernel_rfl) rfl ?_
      intro K hK
      simp only [putAll, Act.put, List.setIfInBounds_toArray, List.set_cons_zero, List.set_cons_succ]
      go_simp
      have hK' := hK.out
      apply hK'
      clear hK hK'
      have m5 := put4 rec5 non5 (.bool e1) (.slice e2 e3 e4) (.bool e5) (.slice e6 e7 e8) (by simp [nonInt])
      have i1 := m5.2.raw _ _ i1; have i2 := m5.2.raw _ _ i2; have j1 := m5.2.raw _ _ j1; have j2 := m5.2.raw _ _ j2
      have rec6 := m5.2.rcs _ _ _ hgne.symm rec6
      have hb := m5.2.bel W0.heap.size W0 hB5 hb
      have rec5 := m5.1
      clear m5 x0 x1 x2 x3 y0 y1 y2 y3
      generalize ((((wx.setCell ⟨g5, 0, none⟩ (.bool e1)).setCell ⟨g5, 1, none⟩ (.slice e2 e3 e4)).setCell ⟨g5, 2, none⟩ (.bool e5)).setCell ⟨g5, 3, none⟩ (.slice e6 e7 e8)) = wy at *
      have c6 := cells4 rec6
      obtain ⟨x0, x1, x2, x3⟩ := c6
      have f6x := frozen4 rec6
      obtain ⟨y0, y1, y2, y3⟩ := f6x
      refine wpAny_one (i := 7) (by kernel_rfl) rfl ?_
      intro K hK
      go_simp
      have hK' := hK.out
      apply hK'
      clear hK hK'
      have m6 := put4 rec6 non6 (.bool f1) (.slice f2 f3 f4) (.bool f5) (.slice f6 f7 f8) (by simp [nonInt])
      refine wpAny_done (by kernel_rfl) ?_ _
      refine hKc _ _ (Met.intro (hJc _ _ ?_))
      (repeat apply Exists.intro)
      exact ⟨⟨g5, g6, rfl, rfl, hgne, hB5, hB6, ⟨_, _, _, _, _, _, _, _, m6.2.rcs _ _ _ hgne rec5, m6.2.raw _ _ i1, m6.2.raw _ _ i2⟩, ⟨_, _, _, _, _, _, _, _, m6.1, m6.2.raw _ _ j1, m6.2.raw _ _ j2⟩, m6.2.bel W0.heap.size W0 hB6 hb⟩, rfl⟩
  case rest =>
    obtain ⟨g5, g6, rfl, rfl, hgne, hB5, hB6, V5, V6, hbc⟩ := hcut
    obtain ⟨e1, e2, e3, e4, e5, e6, e7, e8, rec5, A1, A2⟩ := V5
    obtain ⟨f1, f2, f3, f4, f5, f6, f7, f8, rec6, B1, B2⟩ := V6
    have Hrec5 := hid rec5; have Hrec6 := hid rec6
    have HA1 := hid A1; have HA2 := hid A2; have HB1 := hid B1; have HB2 := hid B2; have Hbc := hid hbc
    have HS2 : Hid (∀ w', Below wc.heap.size wc w' → w'.cell? ⟨g5, 0, none⟩ = some (.bool e1) ∧ w'.cell? ⟨g5, 1, none⟩ = some (.slice e2 e3 e4) ∧ w'.cell? ⟨g5, 2, none⟩ = some (.bool e5) ∧ w'.cell? ⟨g5, 3, none⟩ = some (.slice e6 e7 e8) ∧
        w'.cell? ⟨g6, 0, none⟩ = some (.bool f1) ∧ w'.cell? ⟨g6, 1, none⟩ = some (.slice f2 f3 f4) ∧ w'.cell? ⟨g6, 2, none⟩ = some (.bool f5) ∧ w'.cell? ⟨g6, 3, none⟩ = some (.slice f6 f7 f8)) := by
      intro w' hb
      have xa := cells4 (Hrec5.out.below hb)
      have xb := cells4 (Hrec6.out.below hb)
      exact ⟨xa.1, xa.2.1, xa.2.2.1, xa.2.2.2, xb.1, xb.2.1, xb.2.2.1, xb.2.2.2⟩
    clear rec5 rec6 A1 A2 B1 B2 hbc HS HRA HRB Hrec5 Hrec6
    have HRZ := hid (Hrz.out.below Hbc.out)
    have HBW := hid (Hbw.out.trans (Hbc.out.mono (B' := w.heap.size) Hbw.out.size))
    go_upto_region 2 with fail
    refine wp_region_facts (w0 := wc) 12 1 [11, 12, 13, 14, 15, 16, 17, 18, 19, 20, 21, 22] [u11, u12, u13, u14, u15, u16, u17, u18, u19, u20, u21, u22]
      (fun i => match i with | 0 => eqF (.pointer (some ⟨g5, 0, none⟩)) | 1 => eqF (.agg #[.bool e1, .slice e2 e3 e4]) | 2 => eqF (.pointer (some ⟨g6, 0, none⟩)) | 3 => eqF (.agg #[.bool f1, .slice f2 f3 f4]) | 4 => intF (p * r) | 5 => eqF (.pointer (some ⟨g5, 2, none⟩)) | 6 => eqF (.agg #[.bool e5, .slice e6 e7 e8]) | 7 => eqF (.pointer (some ⟨g6, 2, none⟩)) | 8 => eqF (.agg #[.bool f5, .slice f6 f7 f8]) | 9 => intF (dn q * dn s) | 10 => pairF (p * r) (dn q * dn s) | _ => ratF (Rat.divInt (p * r) (dn q * dn s))) [] (by kernel_rfl) (by kernel_rfl) (by kernel_rfl) (by kernel_rfl) (by decide) rfl (by kernel_rfl) rfl (by simp) ?he3 ?_ ?_ ?_
    case he3 => simp only [putAll, Act.put, List.setIfInBounds_toArray, List.set_cons_zero, List.set_cons_succ]
    · intro i hi; simp at hi
    · intro i o hi ho vs wx hvl hb hdep K hK
      have hvs := len12 hvl
      obtain ⟨s11, s12, s13, s14, s15, s16, s17, s18, s19, s20, s21, s22, rfl⟩ := hvs
      clear hvl
      have hk := HS2.out wx hb
      go_split_ands
      rcases i with _ | _ | _ | _ | _ | _ | _ | _ | _ | _ | _ | _ | i
      all_goals (simp only [List.getElem?_toArray, List.getElem?_cons_zero, List.getElem?_cons_succ, Option.some.injEq] at ho)
      all_goals try (subst ho)
      all_goals try simp only [putAll, Act.put, List.setIfInBounds_toArray, List.set_cons_zero, List.set_cons_succ]
      · go_simp
        have hK' := hK.out
        simp only [putAll, Act.put, List.setIfInBounds_toArray, List.set_cons_zero, List.set_cons_succ] at hK'
        exact hK' _ _ rfl (Below.refl _ _) (by simp)
      · have e0 : s11 = _ := hdep ⟨0, .data⟩ (by simp) rfl
        subst e0
        go_simp
        have hK' := hK.out
        simp only [putAll, Act.put, List.setIfInBounds_toArray, List.set_cons_zero, List.set_cons_succ] at hK'
        exact hK' _ _ rfl (Below.refl _ _) (by simp)
      · go_simp
        have hK' := hK.out
        simp only [putAll, Act.put, List.setIfInBounds_toArray, List.set_cons_zero, List.set_cons_succ] at hK'
        exact hK' _ _ rfl (Below.refl _ _) (by simp)
      · have e2 : s13 = _ := hdep ⟨2, .data⟩ (by simp) rfl
        subst e2
        go_simp
        have hK' := hK.out
        simp only [putAll, Act.put, List.setIfInBounds_toArray, List.set_cons_zero, List.set_cons_succ] at hK'
        exact hK' _ _ rfl (Below.refl _ _) (by simp)
      · have e1 : s12 = _ := hdep ⟨1, .data⟩ (by simp) rfl
        subst e1
        have e3 : s14 = _ := hdep ⟨3, .data⟩ (by simp) rfl
        subst e3
        go_simp
        refine (Mul_any _ _ (p) (r) _ (HA1.out.below hb) (HB1.out.below hb) (by omega) (by omega)).mono ?_
        rintro e wy ⟨vy, rfl, iy, hby⟩
        have hsh := iy.shape
        obtain ⟨p5, n5, c5, rfl, iy⟩ := hsh
        go_wp2_with fail
        have hK' := hK.out
        simp only [putAll, Act.put, List.setIfInBounds_toArray, List.set_cons_zero, List.set_cons_succ] at hK'
        exact hK' _ _ ⟨_, _, _, _, rfl, iy⟩ hby (by simp)
      · go_simp
        have hK' := hK.out
        simp only [putAll, Act.put, List.setIfInBounds_toArray, List.set_cons_zero, List.set_cons_succ] at hK'
        exact hK' _ _ rfl (Below.refl _ _) (by simp)
      · have e5 : s16 = _ := hdep ⟨5, .data⟩ (by simp) rfl
        subst e5
        go_simp
        have hK' := hK.out
        simp only [putAll, Act.put, List.setIfInBounds_toArray, List.set_cons_zero, List.set_cons_succ] at hK'
        exact hK' _ _ rfl (Below.refl _ _) (by simp)
      · go_simp
        have hK' := hK.out
        simp only [putAll, Act.put, List.setIfInBounds_toArray, List.set_cons_zero, List.set_cons_succ] at hK'
        exact hK' _ _ rfl (Below.refl _ _) (by simp)
      · have e7 : s18 = _ := hdep ⟨7, .data⟩ (by simp) rfl
        subst e7
        go_simp
        have hK' := hK.out
        simp only [putAll, Act.put, List.setIfInBounds_toArray, List.set_cons_zero, List.set_cons_succ] at hK'
        exact hK' _ _ rfl (Below.refl _ _) (by simp)
      · have e6 : s17 = _ := hdep ⟨6, .data⟩ (by simp) rfl
        subst e6
        have e8 : s19 = _ := hdep ⟨8, .data⟩ (by simp) rfl
        subst e8
        go_simp
        refine (Mul_any _ _ (dn q) (dn s) _ (HA2.out.below hb) (HB2.out.below hb) (by omega) (by omega)).mono ?_
        rintro e wy ⟨vy, rfl, iy, hby⟩
        have hsh := iy.shape
        obtain ⟨p5, n5, c5, rfl, iy⟩ := hsh
        go_wp2_with fail
        have hK' := hK.out
        simp only [putAll, Act.put, List.setIfInBounds_toArray, List.set_cons_zero, List.set_cons_succ] at hK'
        exact hK' _ _ ⟨_, _, _, _, rfl, iy⟩ hby (by simp)
      · have e4 : (intF (p * r)).P s15 wx := hdep ⟨4, .data⟩ (by simp) rfl
        obtain ⟨da4, pa4, na4, ca4, rfl, ia4⟩ := e4
        have e9 : (intF (dn q * dn s)).P s20 wx := hdep ⟨9, .data⟩ (by simp) rfl
        obtain ⟨da9, pa9, na9, ca9, rfl, ia9⟩ := e9
        go_simp
        have hK' := hK.out
        simp only [putAll, Act.put, List.setIfInBounds_toArray, List.set_cons_zero, List.set_cons_succ] at hK'
        exact hK' _ _ ⟨_, _, _, _, _, _, _, _, rfl, ia4.raw (by have := la.out; omega), ia9.raw (by have := lb.out; omega)⟩ (Below.refl _ _) (by simp)
      · have e10 : (pairF (p * r) (dn q * dn s)).P s21 wx := hdep ⟨10, .data⟩ (by simp) rfl
        go_simp
        refine (low_any _ _ _ _ e10 Hne.out).mono ?_
        rintro e wy ⟨vy, rfl, iy, hby⟩
        obtain ⟨e1, e2, e3, e4, e5, e6, e7, rfl, iy0, iy1⟩ := iy
        go_wp2_with fail
        have hK' := hK.out
        simp only [putAll, Act.put, List.setIfInBounds_toArray, List.set_cons_zero, List.set_cons_succ] at hK'
        exact hK' _ _ ⟨_, _, _, _, _, _, _, rfl, iy0, iy1⟩ hby (by simp)
      · omega
    · intro vs wx hvl hb hf hdist
      have hvs := len12 hvl
      obtain ⟨s11, s12, s13, s14, s15, s16, s17, s18, s19, s20, s21, s22, rfl⟩ := hvs
      have f11 : RatTold wx s22 (Rat.divInt (p * r) (dn q * dn s)) := hf 11 (by decide)
      obtain ⟨e11, e12, e13, e14, e15, e16, e17, rfl, i1, i2⟩ := f11
      have rz := HRZ.out.below hb
      have xz := cells3 rz
      obtain ⟨z0, z1, z2⟩ := xz
      have fz := frozen4 rz
      obtain ⟨fz0, fz1, fz2, -⟩ := fz
      clear hf hdist hvl
      refine wpAny_one (i := 12) (by kernel_rfl) rfl ?_
      intro K hK
      simp only [putAll, Act.put, List.setIfInBounds_toArray, List.set_cons_zero, List.set_cons_succ]
      go_simp
      have hK' := hK.out
      apply hK'
      clear hK hK'
      have m := put3 rz (by simp [nonInt]) (.bool e11) (.slice e12 e13 e14) (.slice e15 e16 e17) (by simp [nonInt])
      have j1 := m.2.int _ _ i1; have j2 := m.2.int _ _ i2
      have jb := m.2.bel w.heap.size w (by omega) (HBW.out.trans (hb.mono (B' := w.heap.size) HBW.out.size))
      have xm := cells3 m.1
      clear m rz z0 z1 z2 fz0 fz1 fz2 i1 i2
      generalize (((wx.setCell ⟨w.heap.size + 1 + 1, 0, none⟩ (.bool e11)).setCell ⟨w.heap.size + 1 + 1, 1, none⟩ (.slice e12 e13 e14)).setCell ⟨w.heap.size + 1 + 1, 2, none⟩ (.slice e15 e16 e17)) = wz at *
      obtain ⟨z0, z1, z2⟩ := xm
      refine wpAny_done (by kernel_rfl) ?_ _
      go_wp2
      exact bodyPost_ret (v := .agg #[.bool e11, .slice e12 e13 e14, .slice e15 e16 e17]) (by simp [results, Try.results14, go_sem, z0, z1, z2]) rfl ⟨_, rfl, ⟨_, _, _, _, _, _, _, rfl, j1, j2⟩, jb⟩
set_option maxRecDepth 100000 in
set_option maxHeartbeats 6400000 in
theorem QAdd_any (v0 v1 : Value) (p q r s : Int) (w : World) (h0 : RatRaw w v0 p q) (h1 : RatRaw w v1 r s) (l0 : sz W p.natAbs ≤ 1000) (l1 : sz W q.natAbs ≤ 1000) (l2 : sz W r.natAbs ≤ 1000) (l3 : sz W s.natAbs ≤ 1000) :
    Calls Try.prog 15 #[v0, v1] w (RRat (Rat.divInt p (dn q) + Rat.divInt r (dn s)) w) := by
  have hq := dn_pos h0.den
  have hs := dn_pos h1.den
  have hx : Rat.divInt p (dn q) + Rat.divInt r (dn s) = Rat.divInt (p * dn s + r * dn q) (dn q * dn s) := Rat.divInt_add_divInt _ _ (by omega) (by omega)
  have hne : dn q * dn s ≠ 0 := by
    have := Int.mul_pos hq hs
    omega
  rw [hx]
  have Hne := hid hne
  have l1' := sz_dn l1 (by decide)
  have l3' := sz_dn l3 (by decide)
  have la := sz_mul2 l0 l3'; have lb := sz_mul2 l2 l1'
  have lc := hid (sz_mul2 l1' l3'); have ld := hid (sz_add2 la lb)
  have la := hid la; have lb := hid lb
  clear hx hne hq hs
  obtain ⟨b, p0, n0, c0, p1, n1, c1, rfl, ha0, ha1⟩ := id h0
  obtain ⟨b', p2, n2, c2, p3, n3, c3, rfl, hb0, hb1⟩ := id h1
  have HRA := hid h0; have HRB := hid h1
  clear ha0 ha1 hb0 hb1 h0 h1
  go_enter Try.func15, Try.ntmps15
  go_upto_region 1 with fail
  generalize hW : World.alloc (World.alloc (World.alloc w _) _) _ = W0
  have bw : Below w.heap.size w W0 := by rw [← hW]; exact ((below1 _ _).alloc (by simp) _).alloc (by simp; omega) _
  have ra : Rec W0 w.heap.size 27 #[.bool b, .slice p0 n0 c0, .slice p1 n1 c1] := by
    rw [← hW]; exact ((Rec.new ..).below (below1 _ _)).below (below1 _ _)
  have rb : Rec W0 (w.heap.size + 1) 27 #[.bool b', .slice p2 n2 c2, .slice p3 n3 c3] := by
    rw [← hW]
    have := (Rec.new (w.alloc (.cells #[.bool b, .slice p0 n0 c0, .slice p1 n1 c1] 27)) #[.bool b', .slice p2 n2 c2, .slice p3 n3 c3] 27)
    rw [size_alloc] at this
    exact this.below (below1 _ _)
  have rz : Rec W0 (w.heap.size + 1 + 1) 27 #[.bool false, .slice none 0 0, .slice none 0 0] := by
    rw [← hW]
    have := Rec.new ((w.alloc (.cells #[.bool b, .slice p0 n0 c0, .slice p1 n1 c1] 27)).alloc (.cells #[.bool b', .slice p2 n2 c2, .slice p3 n3 c3] 27)) #[.bool false, .slice none 0 0, .slice none 0 0] 27
    rwa [size_alloc, size_alloc] at this
  have Hrz := hid rz
  clear rz
  have HS : Hid (∀ w', Below W0.heap.size W0 w' → w'.cell? ⟨w.heap.size, 0, none⟩ = some (.bool b) ∧ w'.cell? ⟨w.heap.size, 1, none⟩ = some (.slice p0 n0 c0) ∧ w'.cell? ⟨w.heap.size, 2, none⟩ = some (.slice p1 n1 c1) ∧
      w'.cell? ⟨w.heap.size + 1, 0, none⟩ = some (.bool b') ∧ w'.cell? ⟨w.heap.size + 1, 1, none⟩ = some (.slice p2 n2 c2) ∧ w'.cell? ⟨w.heap.size + 1, 2, none⟩ = some (.slice p3 n3 c3)) := by
    intro w' hb
    have xa := cells3 (ra.below hb)
    have xb := cells3 (rb.below hb)
    exact ⟨xa.1, xa.2.1, xa.2.2, xb.1, xb.2.1, xb.2.2⟩
  have HRA := hid (HRA.out.below bw); have HRB := hid (HRB.out.below bw); have Hbw := hid bw
  clear hW ra rb bw
  go_upto_region 1 with fail
  go_cut [5, 6] (fun s5 s6 wx => ∃ g5 g6, s5 = .pointer (some ⟨g5, 0, none⟩) ∧ s6 = .pointer (some ⟨g6, 0, none⟩) ∧ g5 ≠ g6 ∧ W0.heap.size ≤ g5 ∧ W0.heap.size ≤ g6 ∧ PairVar wx g5 p (dn q) ∧ PairVar wx g6 r (dn s) ∧ Below W0.heap.size W0 wx)
  case first =>
    rename_i Jc Kc hJc hKc
    refine wp_region_facts (w0 := W0) 6 2 [8, 9, 10, 11, 5, 6] [undef, undef, undef, undef, undef, undef]
      (fun i => match i with | 0 => eqF (.agg #[.bool b, .slice p0 n0 c0, .slice p1 n1 c1]) | 1 => pairF p (dn q) | 2 => eqF (.agg #[.bool b', .slice p2 n2 c2, .slice p3 n3 c3]) | 3 => pairF r (dn s) | 4 => recF W0.heap.size 47 | _ => recF W0.heap.size 47) [4, 5] (by kernel_rfl) (by kernel_rfl) (by kernel_rfl) (by kernel_rfl) (by decide) rfl (by kernel_rfl) rfl (by simp) ?he4 ?_ ?_ ?_
    case he4 => simp only [putAll, Act.put, List.setIfInBounds_toArray, List.set_cons_zero, List.set_cons_succ]
    · intro i hi v w' h
      simp only [List.mem_cons, List.not_mem_nil, or_false] at hi
      rcases hi with rfl | rfl
      · obtain ⟨g, x1, x2, x3, x4, hg, hp, -⟩ := (show (recF W0.heap.size 47).P v w' from h); exact ⟨g, hg, hp.lt⟩
      · obtain ⟨g, x1, x2, x3, x4, hg, hp, -⟩ := (show (recF W0.heap.size 47).P v w' from h); exact ⟨g, hg, hp.lt⟩
    · intro i o hi ho vs wx hvl hb hdep K hK
      have hvs := len6 hvl
      obtain ⟨s8, s9, s10, s11, s5, s6, rfl⟩ := hvs
      clear hvl
      have hk := HS.out wx hb
      go_split_ands
      rcases i with _ | _ | _ | _ | _ | _ | i
      all_goals (simp only [List.getElem?_toArray, List.getElem?_cons_zero, List.getElem?_cons_succ, Option.some.injEq] at ho)
      all_goals try (subst ho)
      all_goals try simp only [putAll, Act.put, List.setIfInBounds_toArray, List.set_cons_zero, List.set_cons_succ]
      · go_simp
        have hK' := hK.out
        simp only [putAll, Act.put, List.setIfInBounds_toArray, List.set_cons_zero, List.set_cons_succ] at hK'
        exact hK' _ _ rfl (Below.refl _ _) (by simp)
      · have e0 : s8 = _ := hdep ⟨0, .data⟩ (by simp) rfl
        subst e0
        go_simp
        refine (read_any _ p q _ (HRA.out.below hb)).mono ?_
        rintro e wy ⟨vy, rfl, iy, hby⟩
        obtain ⟨e1, e2, e3, e4, e5, e6, e7, e8, rfl, iy0, iy1⟩ := iy
        go_wp2_with fail
        have hK' := hK.out
        simp only [putAll, Act.put, List.setIfInBounds_toArray, List.set_cons_zero, List.set_cons_succ] at hK'
        exact hK' _ _ ⟨_, _, _, _, _, _, _, _, rfl, iy0, iy1⟩ hby (by simp)
      · go_simp
        have hK' := hK.out
        simp only [putAll, Act.put, List.setIfInBounds_toArray, List.set_cons_zero, List.set_cons_succ] at hK'
        exact hK' _ _ rfl (Below.refl _ _) (by simp)
      · have e2 : s10 = _ := hdep ⟨2, .data⟩ (by simp) rfl
        subst e2
        go_simp
        refine (read_any _ r s _ (HRB.out.below hb)).mono ?_
        rintro e wy ⟨vy, rfl, iy, hby⟩
        obtain ⟨e1, e2, e3, e4, e5, e6, e7, e8, rfl, iy0, iy1⟩ := iy
        go_wp2_with fail
        have hK' := hK.out
        simp only [putAll, Act.put, List.setIfInBounds_toArray, List.set_cons_zero, List.set_cons_succ] at hK'
        exact hK' _ _ ⟨_, _, _, _, _, _, _, _, rfl, iy0, iy1⟩ hby (by simp)
      · go_simp
        have hK' := hK.out
        simp only [putAll, Act.put, List.setIfInBounds_toArray, List.set_cons_zero, List.set_cons_succ] at hK'
        exact hK' _ _ ⟨_, _, _, _, _, rfl, Rec.new .., by simp [nonInt], hb.size⟩ (below1 _ _) (fun _ => rfl)
      · go_simp
        have hK' := hK.out
        simp only [putAll, Act.put, List.setIfInBounds_toArray, List.set_cons_zero, List.set_cons_succ] at hK'
        exact hK' _ _ ⟨_, _, _, _, _, rfl, Rec.new .., by simp [nonInt], hb.size⟩ (below1 _ _) (fun _ => rfl)
      · omega
    · intro vs wx hvl hb hf hdist
      have hvs := len6 hvl
      obtain ⟨s8, s9, s10, s11, s5, s6, rfl⟩ := hvs
      have k1 : PairAt wx s9 p (dn q) := hf 1 (by decide)
      have k3 : PairAt wx s11 r (dn s) := hf 3 (by decide)
      have k4 : (recF W0.heap.size 47).P s5 wx := hf 4 (by decide)
      have k5 : (recF W0.heap.size 47).P s6 wx := hf 5 (by decide)
      have hne : s5 ≠ s6 := hdist 4 (by simp) 5 (by simp) (by decide)
      obtain ⟨e1, e2, e3, e4, e5, e6, e7, e8, rfl, i1, i2⟩ := k1
      obtain ⟨f1, f2, f3, f4, f5, f6, f7, f8, rfl, j1, j2⟩ := k3
      obtain ⟨g5, xa, xb, xc, xd, rfl, rec5, non5, hB5⟩ := k4
      obtain ⟨g6, ya, yb, yc, yd, rfl, rec6, non6, hB6⟩ := k5
      have hgne : g5 ≠ g6 := fun e => hne (by rw [e])
      clear hf hdist hvl hne
      have c5 := cells4 rec5
      obtain ⟨x0, x1, x2, x3⟩ := c5
      have f5x := frozen4 rec5
      obtain ⟨y0, y1, y2, y3⟩ := f5x
      refine wpAny_one (i := 6) (by kernel_rfl) rfl ?_
      intro K hK
      simp only [putAll, Act.put, List.setIfInBounds_toArray, List.set_cons_zero, List.set_cons_succ]
      go_simp
      have hK' := hK.out
      apply hK'
      clear hK hK'
      have m5 := put4 rec5 non5 (.bool e1) (.slice e2 e3 e4) (.bool e5) (.slice e6 e7 e8) (by simp [nonInt])
      have i1 := m5.2.raw _ _ i1; have i2 := m5.2.raw _ _ i2; have j1 := m5.2.raw _ _ j1; have j2 := m5.2.raw _ _ j2
      have rec6 := m5.2.rcs _ _ _ hgne.symm rec6
      have hb := m5.2.bel W0.heap.size W0 hB5 hb
      have rec5 := m5.1
      clear m5 x0 x1 x2 x3 y0 y1 y2 y3
      generalize ((((wx.setCell ⟨g5, 0, none⟩ (.bool e1)).setCell ⟨g5, 1, none⟩ (.slice e2 e3 e4)).setCell ⟨g5, 2, none⟩ (.bool e5)).setCell ⟨g5, 3, none⟩ (.slice e6 e7 e8)) = wy at *
      have c6 := cells4 rec6
      obtain ⟨x0, x1, x2, x3⟩ := c6
      have f6x := frozen4 rec6
      obtain ⟨y0, y1, y2, y3⟩ := f6x
      refine wpAny_one (i := 7) (by kernel_rfl) rfl ?_
      intro K hK
      go_simp
      have hK' := hK.out
      apply hK'
      clear hK hK'
      have m6 := put4 rec6 non6 (.bool f1) (.slice f2 f3 f4) (.bool f5) (.slice f6 f7 f8) (by simp [nonInt])
      refine wpAny_done (by kernel_rfl) ?_ _
      refine hKc _ _ (Met.intro (hJc _ _ ?_))
      (repeat apply Exists.intro)
      exact ⟨⟨g5, g6, rfl, rfl, hgne, hB5, hB6, ⟨_, _, _, _, _, _, _, _, m6.2.rcs _ _ _ hgne rec5, m6.2.raw _ _ i1, m6.2.raw _ _ i2⟩, ⟨_, _, _, _, _, _, _, _, m6.1, m6.2.raw _ _ j1, m6.2.raw _ _ j2⟩, m6.2.bel W0.heap.size W0 hB6 hb⟩, rfl⟩
  case rest =>
    obtain ⟨g5, g6, rfl, rfl, hgne, hB5, hB6, V5, V6, hbc⟩ := hcut
    obtain ⟨e1, e2, e3, e4, e5, e6, e7, e8, rec5, A1, A2⟩ := V5
    obtain ⟨f1, f2, f3, f4, f5, f6, f7, f8, rec6, B1, B2⟩ := V6
    have Hrec5 := hid rec5; have Hrec6 := hid rec6
    have HA1 := hid A1; have HA2 := hid A2; have HB1 := hid B1; have HB2 := hid B2; have Hbc := hid hbc
    have HS2 : Hid (∀ w', Below wc.heap.size wc w' → w'.cell? ⟨g5, 0, none⟩ = some (.bool e1) ∧ w'.cell? ⟨g5, 1, none⟩ = some (.slice e2 e3 e4) ∧ w'.cell? ⟨g5, 2, none⟩ = some (.bool e5) ∧ w'.cell? ⟨g5, 3, none⟩ = some (.slice e6 e7 e8) ∧
        w'.cell? ⟨g6, 0, none⟩ = some (.bool f1) ∧ w'.cell? ⟨g6, 1, none⟩ = some (.slice f2 f3 f4) ∧ w'.cell? ⟨g6, 2, none⟩ = some (.bool f5) ∧ w'.cell? ⟨g6, 3, none⟩ = some (.slice f6 f7 f8)) := by
      intro w' hb
      have xa := cells4 (Hrec5.out.below hb)
      have xb := cells4 (Hrec6.out.below hb)
      exact ⟨xa.1, xa.2.1, xa.2.2.1, xa.2.2.2, xb.1, xb.2.1, xb.2.2.1, xb.2.2.2⟩
    clear rec5 rec6 A1 A2 B1 B2 hbc HS HRA HRB Hrec5 Hrec6
    have HRZ := hid (Hrz.out.below Hbc.out)
    have HBW := hid (Hbw.out.trans (Hbc.out.mono (B' := w.heap.size) Hbw.out.size))
    go_upto_region 2 with fail
    refine wp_region_facts (w0 := wc) 12 1 [12, 13, 14, 15, 16, 17, 18, 19, 20, 21, 22, 7] [u12, u13, u14, u15, u16, u17, u18, u19, u20, u21, u22, undef]
      (fun i => match i with | 0 => eqF (.pointer (some ⟨g5, 0, none⟩)) | 1 => eqF (.agg #[.bool e1, .slice e2 e3 e4]) | 2 => eqF (.pointer (some ⟨g6, 2, none⟩)) | 3 => eqF (.agg #[.bool f5, .slice f6 f7 f8]) | 4 => intF (p * dn s) | 5 => eqF (.pointer (some ⟨g6, 0, none⟩)) | 6 => eqF (.agg #[.bool f1, .slice f2 f3 f4]) | 7 => eqF (.pointer (some ⟨g5, 2, none⟩)) | 8 => eqF (.agg #[.bool e5, .slice e6 e7 e8]) | 9 => intF (r * dn q) | 10 => intF (p * dn s + r * dn q) | _ => varF wc.heap.size) [11] (by kernel_rfl) (by kernel_rfl) (by kernel_rfl) (by kernel_rfl) (by decide) rfl (by kernel_rfl) rfl (by simp) ?he6 ?_ ?_ ?_
    case he6 => simp only [putAll, Act.put, List.setIfInBounds_toArray, List.set_cons_zero, List.set_cons_succ]
    · intro i hi v w' h
      simp only [List.mem_cons, List.not_mem_nil, or_false] at hi
      rcases hi with rfl
      · obtain ⟨g, hg, hp, -⟩ := (show (varF wc.heap.size).P v w' from h); exact ⟨g, hg, hp.lt⟩
    · intro i o hi ho vs wx hvl hb hdep K hK
      have hvs := len12 hvl
      obtain ⟨s12, s13, s14, s15, s16, s17, s18, s19, s20, s21, s22, s7, rfl⟩ := hvs
      clear hvl
      have hk := HS2.out wx hb
      go_split_ands
      rcases i with _ | _ | _ | _ | _ | _ | _ | _ | _ | _ | _ | _ | i
      all_goals (simp only [List.getElem?_toArray, List.getElem?_cons_zero, List.getElem?_cons_succ, Option.some.injEq] at ho)
      all_goals try (subst ho)
      all_goals try simp only [putAll, Act.put, List.setIfInBounds_toArray, List.set_cons_zero, List.set_cons_succ]
      · go_simp
        have hK' := hK.out
        simp only [putAll, Act.put, List.setIfInBounds_toArray, List.set_cons_zero, List.set_cons_succ] at hK'
        exact hK' _ _ rfl (Below.refl _ _) (by simp)
      · have e0 : s12 = _ := hdep ⟨0, .data⟩ (by simp) rfl
        subst e0
        go_simp
        have hK' := hK.out
        simp only [putAll, Act.put, List.setIfInBounds_toArray, List.set_cons_zero, List.set_cons_succ] at hK'
        exact hK' _ _ rfl (Below.refl _ _) (by simp)
      · go_simp
        have hK' := hK.out
        simp only [putAll, Act.put, List.setIfInBounds_toArray, List.set_cons_zero, List.set_cons_succ] at hK'
        exact hK' _ _ rfl (Below.refl _ _) (by simp)
      · have e2 : s14 = _ := hdep ⟨2, .data⟩ (by simp) rfl
        subst e2
        go_simp
        have hK' := hK.out
        simp only [putAll, Act.put, List.setIfInBounds_toArray, List.set_cons_zero, List.set_cons_succ] at hK'
        exact hK' _ _ rfl (Below.refl _ _) (by simp)
      · have e1 : s13 = _ := hdep ⟨1, .data⟩ (by simp) rfl
        subst e1
        have e3 : s15 = _ := hdep ⟨3, .data⟩ (by simp) rfl
        subst e3
        go_simp
        refine (Mul_any _ _ (p) (dn s) _ (HA1.out.below hb) (HB2.out.below hb) (by omega) (by omega)).mono ?_
        rintro e wy ⟨vy, rfl, iy, hby⟩
        have hsh := iy.shape
        obtain ⟨p5, n5, c5, rfl, iy⟩ := hsh
        go_wp2_with fail
        have hK' := hK.out
        simp only [putAll, Act.put, List.setIfInBounds_toArray, List.set_cons_zero, List.set_cons_succ] at hK'
        exact hK' _ _ ⟨_, _, _, _, rfl, iy⟩ hby (by simp)
      · go_simp
        have hK' := hK.out
        simp only [putAll, Act.put, List.setIfInBounds_toArray, List.set_cons_zero, List.set_cons_succ] at hK'
        exact hK' _ _ rfl (Below.refl _ _) (by simp)
      · have e5 : s17 = _ := hdep ⟨5, .data⟩ (by simp) rfl
        subst e5
        go_simp
        have hK' := hK.out
        simp only [putAll, Act.put, List.setIfInBounds_toArray, List.set_cons_zero, List.set_cons_succ] at hK'
        exact hK' _ _ rfl (Below.refl _ _) (by simp)
      · go_simp
        have hK' := hK.out
        simp only [putAll, Act.put, List.setIfInBounds_toArray, List.set_cons_zero, List.set_cons_succ] at hK'
        exact hK' _ _ rfl (Below.refl _ _) (by simp)
      · have e7 : s19 = _ := hdep ⟨7, .data⟩ (by simp) rfl
        subst e7
        go_simp
        have hK' := hK.out
        simp only [putAll, Act.put, List.setIfInBounds_toArray, List.set_cons_zero, List.set_cons_succ] at hK'
        exact hK' _ _ rfl (Below.refl _ _) (by simp)
      · have e6 : s18 = _ := hdep ⟨6, .data⟩ (by simp) rfl
        subst e6
        have e8 : s20 = _ := hdep ⟨8, .data⟩ (by simp) rfl
        subst e8
        go_simp
        refine (Mul_any _ _ (r) (dn q) _ (HB1.out.below hb) (HA2.out.below hb) (by omega) (by omega)).mono ?_
        rintro e wy ⟨vy, rfl, iy, hby⟩
        have hsh := iy.shape
        obtain ⟨p5, n5, c5, rfl, iy⟩ := hsh
        go_wp2_with fail
        have hK' := hK.out
        simp only [putAll, Act.put, List.setIfInBounds_toArray, List.set_cons_zero, List.set_cons_succ] at hK'
        exact hK' _ _ ⟨_, _, _, _, rfl, iy⟩ hby (by simp)
      · have e4 : (intF (p * dn s)).P s16 wx := hdep ⟨4, .data⟩ (by simp) rfl
        obtain ⟨da4, pa4, na4, ca4, rfl, ia4⟩ := e4
        have e9 : (intF (r * dn q)).P s21 wx := hdep ⟨9, .data⟩ (by simp) rfl
        obtain ⟨da9, pa9, na9, ca9, rfl, ia9⟩ := e9
        go_simp
        refine (Add_any _ _ _ _ _ (ia4.raw (by have := la.out; omega)) (ia9.raw (by have := lb.out; omega))).mono ?_
        rintro e wy ⟨vy, rfl, iy, hby⟩
        have hsh := iy.shape
        obtain ⟨p5, n5, c5, rfl, iy⟩ := hsh
        go_wp2_with fail
        have hK' := hK.out
        simp only [putAll, Act.put, List.setIfInBounds_toArray, List.set_cons_zero, List.set_cons_succ] at hK'
        exact hK' _ _ ⟨_, _, _, _, rfl, iy⟩ hby (by simp)
      · go_simp
        have hK' := hK.out
        simp only [putAll, Act.put, List.setIfInBounds_toArray, List.set_cons_zero, List.set_cons_succ] at hK'
        exact hK' _ _ ⟨_, rfl, Pair.new .., hb.size⟩ (below1 _ _) (fun _ => rfl)
      · omega
    · intro vs wx hvl hb hf hdist
      have hvs := len12 hvl
      obtain ⟨s12, s13, s14, s15, s16, s17, s18, s19, s20, s21, s22, s7, rfl⟩ := hvs
      have f10 : (intF (p * dn s + r * dn q)).P s22 wx := hf 10 (by decide)
      have f11 : VarAt wx wc.heap.size s7 := hf 11 (by decide)
      obtain ⟨d7, p7, m7, c7, rfl, i7⟩ := f10
      obtain ⟨g7, rfl, hp7, hB7⟩ := f11
      have c7x := hp7.cells
      obtain ⟨_, _, q0, q1, q2, q3⟩ := c7x
      clear hf hdist hvl
      refine wpAny_one (i := 12) (by kernel_rfl) rfl ?_
      intro K hK
      simp only [putAll, Act.put, List.setIfInBounds_toArray, List.set_cons_zero, List.set_cons_succ]
      go_simp
      have hK' := hK.out
      apply hK'
      clear hK hK'
      have x7 := hid (IntCell.put hp7 i7)
      have hb7 := hid (Below.stored hb hB7 (.bool d7) (.slice p7 m7 c7))
      clear q0 q1 q2 q3 hp7 i7 hb
      generalize ((wx.setCell ⟨g7, 0, none⟩ (.bool d7)).setCell ⟨g7, 1, none⟩ (.slice p7 m7 c7)) = wd at *
      refine wpAny_done (by kernel_rfl) ?_ _
      have HRZ := hid (HRZ.out.below hb7.out)
      have HBW := hid (HBW.out.trans (hb7.out.mono (B' := w.heap.size) HBW.out.size))
      have HA2 := hid (HA2.out.below hb7.out); have HB2 := hid (HB2.out.below hb7.out)
      have HS3 : Hid (∀ w', Below wd.heap.size wd w' → w'.cell? ⟨g5, 2, none⟩ = some (.bool e5) ∧ w'.cell? ⟨g5, 3, none⟩ = some (.slice e6 e7 e8) ∧ w'.cell? ⟨g6, 2, none⟩ = some (.bool f5) ∧ w'.cell? ⟨g6, 3, none⟩ = some (.slice f6 f7 f8)) := by
        intro w' hb
        have a := HS2.out w' (Below.go hb hb7.out)
        exact ⟨a.2.2.1, a.2.2.2.1, a.2.2.2.2.2.2.1, a.2.2.2.2.2.2.2⟩
      clear HS2
      go_upto_region 3 with fail
      refine wp_region_facts (w0 := wd) 8 1 [23, 24, 25, 26, 27, 28, 29, 30] [u23, u24, u25, u26, u27, u28, u29, u30]
        (fun i => match i with | 0 => intF (p * dn s + r * dn q) | 1 => eqF (.pointer (some ⟨g5, 2, none⟩)) | 2 => eqF (.agg #[.bool e5, .slice e6 e7 e8]) | 3 => eqF (.pointer (some ⟨g6, 2, none⟩)) | 4 => eqF (.agg #[.bool f5, .slice f6 f7 f8]) | 5 => intF (dn q * dn s) | 6 => pairF (p * dn s + r * dn q) (dn q * dn s) | _ => ratF (Rat.divInt (p * dn s + r * dn q) (dn q * dn s))) [] (by kernel_rfl) (by kernel_rfl) (by kernel_rfl) (by kernel_rfl) (by decide) rfl (by kernel_rfl) rfl (by simp) ?he5 ?_ ?_ ?_
      case he5 => simp only [putAll, Act.put, List.setIfInBounds_toArray, List.set_cons_zero, List.set_cons_succ]
      · intro i hi; simp at hi
      · intro i o hi ho vs wx hvl hb hdep K hK
        have hvs := len8 hvl
        obtain ⟨s23, s24, s25, s26, s27, s28, s29, s30, rfl⟩ := hvs
        clear hvl
        have hk := HS3.out wx hb
        go_split_ands
        rcases i with _ | _ | _ | _ | _ | _ | _ | _ | i
        all_goals (simp only [List.getElem?_toArray, List.getElem?_cons_zero, List.getElem?_cons_succ, Option.some.injEq] at ho)
        all_goals try (subst ho)
        all_goals try simp only [putAll, Act.put, List.setIfInBounds_toArray, List.set_cons_zero, List.set_cons_succ]
        · have hc := x7.out.below hb
          obtain ⟨d5, p5, m5, c5, z5, i5⟩ := hc
          have z5' := two_cells z5
          obtain ⟨x50, x51, -, -⟩ := z5'
          go_simp
          have hK' := hK.out
          simp only [putAll, Act.put, List.setIfInBounds_toArray, List.set_cons_zero, List.set_cons_succ] at hK'
          exact hK' _ _ ⟨_, _, _, _, rfl, i5⟩ (Below.refl _ _) (by simp)
        · go_simp
          have hK' := hK.out
          simp only [putAll, Act.put, List.setIfInBounds_toArray, List.set_cons_zero, List.set_cons_succ] at hK'
          exact hK' _ _ rfl (Below.refl _ _) (by simp)
        · have e1 : s24 = _ := hdep ⟨1, .data⟩ (by simp) rfl
          subst e1
          go_simp
          have hK' := hK.out
          simp only [putAll, Act.put, List.setIfInBounds_toArray, List.set_cons_zero, List.set_cons_succ] at hK'
          exact hK' _ _ rfl (Below.refl _ _) (by simp)
        · go_simp
          have hK' := hK.out
          simp only [putAll, Act.put, List.setIfInBounds_toArray, List.set_cons_zero, List.set_cons_succ] at hK'
          exact hK' _ _ rfl (Below.refl _ _) (by simp)
        · have e3 : s26 = _ := hdep ⟨3, .data⟩ (by simp) rfl
          subst e3
          go_simp
          have hK' := hK.out
          simp only [putAll, Act.put, List.setIfInBounds_toArray, List.set_cons_zero, List.set_cons_succ] at hK'
          exact hK' _ _ rfl (Below.refl _ _) (by simp)
        · have e2 : s25 = _ := hdep ⟨2, .data⟩ (by simp) rfl
          subst e2
          have e4 : s27 = _ := hdep ⟨4, .data⟩ (by simp) rfl
          subst e4
          go_simp
          refine (Mul_any _ _ (dn q) (dn s) _ (HA2.out.below hb) (HB2.out.below hb) (by omega) (by omega)).mono ?_
          rintro e wy ⟨vy, rfl, iy, hby⟩
          have hsh := iy.shape
          obtain ⟨p5, n5, c5, rfl, iy⟩ := hsh
          go_wp2_with fail
          have hK' := hK.out
          simp only [putAll, Act.put, List.setIfInBounds_toArray, List.set_cons_zero, List.set_cons_succ] at hK'
          exact hK' _ _ ⟨_, _, _, _, rfl, iy⟩ hby (by simp)
        · have e0 : (intF (p * dn s + r * dn q)).P s23 wx := hdep ⟨0, .data⟩ (by simp) rfl
          obtain ⟨da0, pa0, na0, ca0, rfl, ia0⟩ := e0
          have e5 : (intF (dn q * dn s)).P s28 wx := hdep ⟨5, .data⟩ (by simp) rfl
          obtain ⟨da5, pa5, na5, ca5, rfl, ia5⟩ := e5
          go_simp
          have hK' := hK.out
          simp only [putAll, Act.put, List.setIfInBounds_toArray, List.set_cons_zero, List.set_cons_succ] at hK'
          exact hK' _ _ ⟨_, _, _, _, _, _, _, _, rfl, ia0.raw (by have := ld.out; omega), ia5.raw (by have := lc.out; omega)⟩ (Below.refl _ _) (by simp)
        · have e6 : (pairF (p * dn s + r * dn q) (dn q * dn s)).P s29 wx := hdep ⟨6, .data⟩ (by simp) rfl
          go_simp
          refine (low_any _ _ _ _ e6 Hne.out).mono ?_
          rintro e wy ⟨vy, rfl, iy, hby⟩
          obtain ⟨e1, e2, e3, e4, e5, e6, e7, rfl, iy0, iy1⟩ := iy
          go_wp2_with fail
          have hK' := hK.out
          simp only [putAll, Act.put, List.setIfInBounds_toArray, List.set_cons_zero, List.set_cons_succ] at hK'
          exact hK' _ _ ⟨_, _, _, _, _, _, _, rfl, iy0, iy1⟩ hby (by simp)
        · omega
      · intro vs wx hvl hb hf hdist
        have hvs := len8 hvl
        obtain ⟨s23, s24, s25, s26, s27, s28, s29, s30, rfl⟩ := hvs
        have f7 : RatTold wx s30 (Rat.divInt (p * dn s + r * dn q) (dn q * dn s)) := hf 7 (by decide)
        obtain ⟨e11, e12, e13, e14, e15, e16, e17, rfl, i1, i2⟩ := f7
        have rz := HRZ.out.below hb
        have xz := cells3 rz
        obtain ⟨z0, z1, z2⟩ := xz
        have fz := frozen4 rz
        obtain ⟨fz0, fz1, fz2, -⟩ := fz
        clear hf hdist hvl
        refine wpAny_one (i := 8) (by kernel_rfl) rfl ?_
        intro K hK
        simp only [putAll, Act.put, List.setIfInBounds_toArray, List.set_cons_zero, List.set_cons_succ]
        go_simp
        have hK' := hK.out
        apply hK'
        clear hK hK'
        have m := put3 rz (by simp [nonInt]) (.bool e11) (.slice e12 e13 e14) (.slice e15 e16 e17) (by simp [nonInt])
        have j1 := m.2.int _ _ i1; have j2 := m.2.int _ _ i2
        have jb := m.2.bel w.heap.size w (by omega) (HBW.out.trans (hb.mono (B' := w.heap.size) HBW.out.size))
        have xm := cells3 m.1
        clear m rz z0 z1 z2 fz0 fz1 fz2 i1 i2
        generalize (((wx.setCell ⟨w.heap.size + 1 + 1, 0, none⟩ (.bool e11)).setCell ⟨w.heap.size + 1 + 1, 1, none⟩ (.slice e12 e13 e14)).setCell ⟨w.heap.size + 1 + 1, 2, none⟩ (.slice e15 e16 e17)) = wz at *
        obtain ⟨z0, z1, z2⟩ := xm
        refine wpAny_done (by kernel_rfl) ?_ _
        go_wp2
        exact bodyPost_ret (v := .agg #[.bool e11, .slice e12 e13 e14, .slice e15 e16 e17]) (by simp [results, Try.results15, go_sem, z0, z1, z2]) rfl ⟨_, rfl, ⟨_, _, _, _, _, _, _, rfl, j1, j2⟩, jb⟩
end Go.Proofs.Ytlijekppbpefaaa
/- ratio.unlessZero, New. -/
namespace Go.Proofs.Ytlijekppbpefaaa
open Go.RowKit Big

def RNone (w : World) (e : Ending) (w' : World) : Prop := e = .returned (.tuple #[.agg #[.bool false, .slice none 0 0, .slice none 0 0], .int .i64 12]) ∧ Below w.heap.size w w'
def RSome (x : Rat) (w : World) (e : Ending) (w' : World) : Prop := ∃ v, e = .returned (.tuple #[v, .int .i64 0]) ∧ RatTold w' v x ∧ Below w.heap.size w w'
theorem RatTold.parts {w : World} {v : Value} {x : Rat} (h : RatTold w v x) : ∃ b p0 n0 c0 p1 n1 c1, v = .agg #[.bool b, .slice p0 n0 c0, .slice p1 n1 c1] ∧ RatTold w (.agg #[.bool b, .slice p0 n0 c0, .slice p1 n1 c1]) x := by
  obtain ⟨b, p0, n0, c0, p1, n1, c1, hv, h0, h1⟩ := h
  exact ⟨b, p0, n0, c0, p1, n1, c1, hv, b, p0, n0, c0, p1, n1, c1, rfl, h0, h1⟩
theorem RatTold.stay {w w' : World} {g : Nat} {v : Value} {x : Rat} (h : RatTold w v x) (hs : Stay w w' g) : RatTold w' v x := by
  obtain ⟨b, p0, n0, c0, p1, n1, c1, hv, h0, h1⟩ := h
  exact ⟨b, p0, n0, c0, p1, n1, c1, hv, hs.int _ _ h0, hs.int _ _ h1⟩

set_option maxRecDepth 100000 in
set_option maxHeartbeats 1600000 in
theorem unless_none (vb vp : Value) (w : World) (hb : RawAt w vb 0) : Calls Try.prog 37 #[vb, .func (.func 35) #[vp] #[]] w (RNone w) := by
  obtain ⟨b, p, n, c, rfl⟩ := hb.parts
  have hsg := Sign_any _ 0 ((w.alloc (.cells #[.bool b, .slice p n c] 25)).alloc (.cells #[.bool false, .slice none 0 0, .slice none 0 0] 27)) (hb.below ((below1 _ _).alloc (by simp) _))
  rw [Int.sign_zero] at hsg
  have Hsg := hid hsg
  have rz : ∀ o, Rec ((w.alloc o).alloc (.cells #[.bool false, .slice none 0 0, .slice none 0 0] 27)) (w.heap.size + 1) 27 #[.bool false, .slice none 0 0, .slice none 0 0] := fun o => by
    have := Rec.new (w.alloc o) #[.bool false, .slice none 0 0, .slice none 0 0] 27
    rwa [size_alloc] at this
  have Hrz := hid (rz (.cells #[.bool b, .slice p n c] 25))
  clear hsg hb rz
  go_enter Try.func37, Try.ntmps37
  go_wp2_with fail
  refine Hsg.out.mono ?_
  rintro e w1 ⟨rfl, b1⟩
  have r1 := Hrz.out.below b1
  have bw : Below w.heap.size w w1 := ((below1 _ _).alloc (by simp) _).trans (b1.mono (B' := w.heap.size) (by simp; omega))
  have x := cells3 r1
  obtain ⟨z0, z1, z2⟩ := x
  have f := frozen4 r1
  obtain ⟨f0, f1, f2, -⟩ := f
  have m := put3 r1 (by simp [nonInt]) (.bool false) (.slice none 0 0) (.slice none 0 0) (by simp [nonInt])
  have mb := hid (m.2.bel w.heap.size w (by omega) bw)
  clear m r1 b1 bw Hsg Hrz
  go_wp2
  exact bodyPost_ret (v := .tuple #[.agg #[.bool false, .slice none 0 0, .slice none 0 0], .int .i64 12]) (by simp [results, Try.results37, go_sem, z0, z1, z2]) rfl ⟨rfl, mb.out⟩

set_option maxRecDepth 100000 in
set_option maxHeartbeats 1600000 in
theorem unless_some (vb vp : Value) (p q z : Int) (w : World) (hb : RawAt w vb z) (hz : z ≠ 0) (hp : PairAt w vp p q) (hq : q ≠ 0) :
    Calls Try.prog 37 #[vb, .func (.func 35) #[vp] #[]] w (RSome (Rat.divInt p q) w) := by
  obtain ⟨b, pp, n, c, rfl⟩ := hb.parts
  have hsg := Sign_any _ z ((w.alloc (.cells #[.bool b, .slice pp n c] 25)).alloc (.cells #[.bool false, .slice none 0 0, .slice none 0 0] 27)) (hb.below ((below1 _ _).alloc (by simp) _))
  have hs : (z.sign == 0) = false := beq_eq_false_iff_ne.2 (fun e => hz (Int.sign_eq_zero_iff_zero.1 e))
  have Hsg := hid hsg
  have hlow := fun W' h => low_any vp p q W' (hp.below (w' := W') h) hq
  have Hlow := hid hlow
  have rz : ∀ o, Rec ((w.alloc o).alloc (.cells #[.bool false, .slice none 0 0, .slice none 0 0] 27)) (w.heap.size + 1) 27 #[.bool false, .slice none 0 0, .slice none 0 0] := fun o => by
    have := Rec.new (w.alloc o) #[.bool false, .slice none 0 0, .slice none 0 0] 27
    rwa [size_alloc] at this
  have Hrz := hid (rz (.cells #[.bool b, .slice pp n c] 25))
  clear hsg hb rz hlow hp hq hz
  go_enter Try.func37, Try.ntmps37
  go_wp2_with fail
  refine Hsg.out.mono ?_
  rintro e w1 ⟨rfl, b1⟩
  have Hbw : Hid (Below w.heap.size w w1) := ((below1 _ _).alloc (by simp) _).trans (b1.mono (B' := w.heap.size) (by simp; omega))
  have Hr1 := hid (Hrz.out.below b1)
  clear b1 Hsg Hrz
  go_wp2_with fail
  refine (Hlow.out _ Hbw.out).mono ?_
  rintro e w2 ⟨v2, rfl, i2, b2⟩
  have i2p := i2.parts
  obtain ⟨d0, q0, m0, k0, q1, m1, k1, rfl, i2⟩ := i2p
  have r1 := Hr1.out.below b2
  have bw : Below w.heap.size w w2 := Hbw.out.trans (b2.mono (B' := w.heap.size) Hbw.out.size)
  have x := cells3 r1
  obtain ⟨z0, z1, z2⟩ := x
  have f := frozen4 r1
  obtain ⟨f0, f1, f2, -⟩ := f
  have m := put3 r1 (by simp [nonInt]) (.bool d0) (.slice q0 m0 k0) (.slice q1 m1 k1) (by simp [nonInt])
  have mb := hid (m.2.bel w.heap.size w (by omega) bw)
  have mi := hid (i2.stay m.2)
  clear m r1 b2 bw Hr1 Hbw Hlow i2
  go_wp2
  exact bodyPost_ret (v := .tuple #[.agg #[.bool d0, .slice q0 m0 k0, .slice q1 m1 k1], .int .i64 0]) (by simp [results, Try.results37, go_sem, z0, z1, z2]) rfl ⟨_, rfl, mi.out, mb.out⟩

set_option maxRecDepth 100000 in
set_option maxHeartbeats 1600000 in
theorem QNew_none (v0 v1 : Value) (p : Int) (w : World) (h0 : RawAt w v0 p) (h1 : RawAt w v1 0) : Calls Try.prog 19 #[v0, v1] w (RNone w) := by
  obtain ⟨b, p0, n0, c0, rfl⟩ := h0.parts
  obtain ⟨b', p1, n1, c1, rfl⟩ := h1.parts
  have Hr : Hid (∀ o o', Rec (((w.alloc o).alloc o').alloc (.cells #[.bool false, .slice none 0 0, .slice none 0 0] 27)) (w.heap.size + 1 + 1) 27 #[.bool false, .slice none 0 0, .slice none 0 0]) := fun o o' => by
    have := Rec.new ((w.alloc o).alloc o') #[.bool false, .slice none 0 0, .slice none 0 0] 27
    rwa [size_alloc, size_alloc] at this
  have Hb : Hid (∀ o o' o'', Below w.heap.size w (((w.alloc o).alloc o').alloc o'')) := fun o o' o'' => ((below1 _ _).alloc (by simp) _).alloc (by simp; omega) _
  have H1 := hid h1
  clear h0 h1
  go_enter Try.func19, Try.ntmps19
  go_wp2_with fail
  refine (unless_none _ _ _ (H1.out.below (Hb.out _ _ _))).mono ?_
  rintro e w2 ⟨rfl, b2⟩
  have r1 := (Hr.out _ _).below b2
  have bw : Below w.heap.size w w2 := (Hb.out _ _ _).trans (b2.mono (B' := w.heap.size) (Hb.out _ _ _).size)
  have x := cells3 r1
  obtain ⟨z0, z1, z2⟩ := x
  have f := frozen4 r1
  obtain ⟨f0, f1, f2, -⟩ := f
  have m := put3 r1 (by simp [nonInt]) (.bool false) (.slice none 0 0) (.slice none 0 0) (by simp [nonInt])
  have mb := hid (m.2.bel w.heap.size w (by omega) bw)
  clear m r1 b2 bw Hr Hb
  go_wp2
  exact bodyPost_ret (v := .tuple #[.agg #[.bool false, .slice none 0 0, .slice none 0 0], .int .i64 12]) (by simp [results, Try.results19, go_sem, z0, z1, z2]) rfl ⟨rfl, mb.out⟩

set_option maxRecDepth 100000 in
set_option maxHeartbeats 1600000 in
theorem QNew_some (v0 v1 : Value) (p q : Int) (w : World) (h0 : RawAt w v0 p) (h1 : RawAt w v1 q) (hq : q ≠ 0) : Calls Try.prog 19 #[v0, v1] w (RSome (Rat.divInt p q) w) := by
  obtain ⟨b, p0, n0, c0, rfl⟩ := h0.parts
  obtain ⟨b', p1, n1, c1, rfl⟩ := h1.parts
  have Hr : Hid (∀ o o', Rec (((w.alloc o).alloc o').alloc (.cells #[.bool false, .slice none 0 0, .slice none 0 0] 27)) (w.heap.size + 1 + 1) 27 #[.bool false, .slice none 0 0, .slice none 0 0]) := fun o o' => by
    have := Rec.new ((w.alloc o).alloc o') #[.bool false, .slice none 0 0, .slice none 0 0] 27
    rwa [size_alloc, size_alloc] at this
  have Hb : Hid (∀ o o' o'', Below w.heap.size w (((w.alloc o).alloc o').alloc o'')) := fun o o' o'' => ((below1 _ _).alloc (by simp) _).alloc (by simp; omega) _
  have H0 := hid h0; have H1 := hid h1; have Hq := hid hq
  clear h0 h1 hq
  go_enter Try.func19, Try.ntmps19
  go_wp2_with fail
  refine (unless_some _ _ p q q _ (H1.out.below (Hb.out _ _ _)) Hq.out ⟨_, _, _, _, _, _, _, _, rfl, H0.out.below (Hb.out _ _ _), H1.out.below (Hb.out _ _ _)⟩ Hq.out).mono ?_
  rintro e w2 ⟨v2, rfl, i2, b2⟩
  have i2p := i2.parts
  obtain ⟨d0, q0, m0, k0, q1, m1, k1, rfl, i2⟩ := i2p
  have r1 := (Hr.out _ _).below b2
  have bw : Below w.heap.size w w2 := (Hb.out _ _ _).trans (b2.mono (B' := w.heap.size) (Hb.out _ _ _).size)
  have x := cells3 r1
  obtain ⟨z0, z1, z2⟩ := x
  have f := frozen4 r1
  obtain ⟨f0, f1, f2, -⟩ := f
  have m := put3 r1 (by simp [nonInt]) (.bool d0) (.slice q0 m0 k0) (.slice q1 m1 k1) (by simp [nonInt])
  have mb := hid (m.2.bel w.heap.size w (by omega) bw)
  have mi := hid (i2.stay m.2)
  clear m r1 b2 bw Hr Hb i2
  go_wp2
  exact bodyPost_ret (v := .tuple #[.agg #[.bool d0, .slice q0 m0 k0, .slice q1 m1 k1], .int .i64 0]) (by simp [results, Try.results19, go_sem, z0, z1, z2]) rfl ⟨_, rfl, mi.out, mb.out⟩
end Go.Proofs.Ytlijekppbpefaaa
/- ratio's small calls: Sign, negated, Floor, Ceil, Is, Sub. -/
namespace Go.Proofs.Ytlijekppbpefaaa
open Go.RowKit Big

def rawF (p q : Int) : SFact := ⟨fun v w => RatRaw w v p q, fun _ _ _ h hb => h.below hb⟩
theorem len4 {vs : List Value} (h : vs.length = 4) : ∃ a b c d, vs = [a, b, c, d] := by
  match vs, h with
  | [a, b, c, d], _ => exact ⟨a, b, c, d, rfl⟩
def RRaw (p q : Int) (w : World) (e : Ending) (w' : World) : Prop := ∃ v, e = .returned v ∧ RatRaw w' v p q ∧ Below w.heap.size w w'
theorem RatRaw.parts {w : World} {v : Value} {p q : Int} (h : RatRaw w v p q) : ∃ b p0 n0 c0 p1 n1 c1, v = .agg #[.bool b, .slice p0 n0 c0, .slice p1 n1 c1] ∧ RawAt w (.agg #[.bool b, .slice p0 n0 c0]) p ∧ RawAt w (.agg #[.bool false, .slice p1 n1 c1]) q := h

set_option maxRecDepth 100000 in
set_option maxHeartbeats 1600000 in
theorem QSign_any (v : Value) (p q : Int) (w : World) (h : RatRaw w v p q) : Calls Try.prog 18 #[v] w (RNum .i64 p.sign w) := by
  obtain ⟨b, p0, n0, c0, p1, n1, c1, rfl, ha0, ha1⟩ := id h
  have H := hid h; have HA := hid ha0; have HD := hid ha1
  clear h ha0 ha1
  go_enter Try.func18, Try.ntmps18
  go_wp2_with fail
  refine (Sign_any _ p _ (HA.out.below (below1 _ _))).mono ?_
  rintro e w1 ⟨rfl, b1⟩
  have bw := hid ((below1 w (.cells #[.bool b, .slice p0 n0 c0, .slice p1 n1 c1] 27)).trans (b1.mono (B' := w.heap.size) (by simp)))
  clear b1
  go_wp2_with fail
  go_ret
  exact ⟨rfl, bw.out⟩

set_option maxRecDepth 100000 in
set_option maxHeartbeats 1600000 in
theorem negated_any (v : Value) (p q : Int) (w : World) (h : RatRaw w v p q) (hp : sz W p.natAbs ≤ 100000) : Calls Try.prog 26 #[v] w (RRaw (-p) q w) := by
  have hp := hid (show sz W (-p).natAbs ≤ 1099511627776 by rw [Int.natAbs_neg]; omega)
  obtain ⟨b, p0, n0, c0, p1, n1, c1, rfl, ha0, ha1⟩ := id h
  have H := hid h; have HA := hid ha0; have HD := hid ha1
  clear h ha0 ha1
  go_enter Try.func26, Try.ntmps26
  go_upto_region 1 with fail
  generalize hW : World.alloc (World.alloc w _) _ = W0
  have bw : Below w.heap.size w W0 := by rw [← hW]; exact (below1 _ _).alloc (by simp) _
  have ra : Rec W0 w.heap.size 27 #[.bool b, .slice p0 n0 c0, .slice p1 n1 c1] := by
    rw [← hW]; exact ((Rec.new ..).below (below1 _ _))
  have rz : Rec W0 (w.heap.size + 1) 27 #[.bool false, .slice none 0 0, .slice none 0 0] := by
    rw [← hW]
    have := Rec.new (w.alloc (.cells #[.bool b, .slice p0 n0 c0, .slice p1 n1 c1] 27)) #[.bool false, .slice none 0 0, .slice none 0 0] 27
    rwa [size_alloc] at this
  clear hW
  have HA := hid (HA.out.below bw); have HD := hid (HD.out.below bw); have Hrz := hid rz; have Hbw := hid bw
  have HS : Hid (∀ w', Below W0.heap.size W0 w' → w'.cell? ⟨w.heap.size, 0, none⟩ = some (.bool b) ∧ w'.cell? ⟨w.heap.size, 1, none⟩ = some (.slice p0 n0 c0) ∧ w'.cell? ⟨w.heap.size, 2, none⟩ = some (.slice p1 n1 c1)) := fun w' hb => cells3 (ra.below hb)
  clear ra rz bw
  refine wp_region_facts (w0 := W0) 6 1 [3, 4, 5, 6, 7, 8] [undef, undef, undef, undef, undef, undef]
    (fun i => match i with | 0 => eqF (.pointer (some ⟨w.heap.size, 0, none⟩)) | 1 => eqF (.agg #[.bool b, .slice p0 n0 c0]) | 2 => intF (-p) | 3 => eqF (.pointer (some ⟨w.heap.size, 2, none⟩)) | 4 => eqF (.slice p1 n1 c1) | _ => rawF (-p) q) [] (by kernel_rfl) (by kernel_rfl) (by kernel_rfl) (by kernel_rfl) (by decide) rfl (by kernel_rfl) rfl (by simp) ?he7 ?_ ?_ ?_
  case he7 => simp only [putAll, Act.put, List.setIfInBounds_toArray, List.set_cons_zero, List.set_cons_succ]
  · intro i hi; simp at hi
  · intro i o hi ho vs wx hvl hb hdep K hK
    have hvs := len6 hvl
    obtain ⟨s3, s4, s5, s6, s7, s8, rfl⟩ := hvs
    clear hvl
    have hk := HS.out wx hb
    go_split_ands
    rcases i with _ | _ | _ | _ | _ | _ | i
    all_goals (simp only [List.getElem?_toArray, List.getElem?_cons_zero, List.getElem?_cons_succ, Option.some.injEq] at ho)
    all_goals try (subst ho)
    all_goals try simp only [putAll, Act.put, List.setIfInBounds_toArray, List.set_cons_zero, List.set_cons_succ]
    · go_simp
      have hK' := hK.out
      simp only [putAll, Act.put, List.setIfInBounds_toArray, List.set_cons_zero, List.set_cons_succ] at hK'
      exact hK' _ _ rfl (Below.refl _ _) (by simp)
    · have e0 : s3 = _ := hdep ⟨0, .data⟩ (by simp) rfl
      subst e0
      go_simp
      have hK' := hK.out
      simp only [putAll, Act.put, List.setIfInBounds_toArray, List.set_cons_zero, List.set_cons_succ] at hK'
      exact hK' _ _ rfl (Below.refl _ _) (by simp)
    · have e1 : s4 = _ := hdep ⟨1, .data⟩ (by simp) rfl
      subst e1
      go_simp
      refine (Neg_any _ p _ (HA.out.below hb)).mono ?_
      rintro e wy ⟨vy, rfl, iy, hby⟩
      have hsh := iy.parts'
      obtain ⟨q5, p5, n5, c5, rfl, iy⟩ := hsh
      go_wp2_with fail
      have hK' := hK.out
      simp only [putAll, Act.put, List.setIfInBounds_toArray, List.set_cons_zero, List.set_cons_succ] at hK'
      exact hK' _ _ ⟨_, _, _, _, rfl, iy⟩ hby (by simp)
    · go_simp
      have hK' := hK.out
      simp only [putAll, Act.put, List.setIfInBounds_toArray, List.set_cons_zero, List.set_cons_succ] at hK'
      exact hK' _ _ rfl (Below.refl _ _) (by simp)
    · have e3 : s6 = _ := hdep ⟨3, .data⟩ (by simp) rfl
      subst e3
      go_simp
      have hK' := hK.out
      simp only [putAll, Act.put, List.setIfInBounds_toArray, List.set_cons_zero, List.set_cons_succ] at hK'
      exact hK' _ _ rfl (Below.refl _ _) (by simp)
    · have e2 : (intF (-p)).P s5 wx := hdep ⟨2, .data⟩ (by simp) rfl
      obtain ⟨da2, pa2, na2, ca2, rfl, ia2⟩ := e2
      have e4 : s7 = _ := hdep ⟨4, .data⟩ (by simp) rfl
      subst e4
      go_simp
      have hK' := hK.out
      simp only [putAll, Act.put, List.setIfInBounds_toArray, List.set_cons_zero, List.set_cons_succ] at hK'
      exact hK' _ _ ⟨_, _, _, _, _, _, _, rfl, ia2.raw hp.out, HD.out.below hb⟩ (Below.refl _ _) (by simp)
    · omega
  · intro vs wx hvl hb hf hdist
    have hvs := len6 hvl
    obtain ⟨s3, s4, s5, s6, s7, s8, rfl⟩ := hvs
    have f5 : RatRaw wx s8 (-p) q := hf 5 (by decide)
    obtain ⟨e11, e12, e13, e14, e15, e16, e17, rfl, i1, i2⟩ := f5
    have rz := Hrz.out.below hb
    have xz := cells3 rz
    obtain ⟨z0, z1, z2⟩ := xz
    have fz := frozen4 rz
    obtain ⟨fz0, fz1, fz2, -⟩ := fz
    clear hf hdist hvl
    refine wpAny_one (i := 6) (by kernel_rfl) rfl ?_
    intro K hK
    simp only [putAll, Act.put, List.setIfInBounds_toArray, List.set_cons_zero, List.set_cons_succ]
    go_simp
    have hK' := hK.out
    apply hK'
    clear hK hK'
    have m := put3 rz (by simp [nonInt]) (.bool e11) (.slice e12 e13 e14) (.slice e15 e16 e17) (by simp [nonInt])
    have j1 := m.2.raw _ _ i1; have j2 := m.2.raw _ _ i2
    have jb := m.2.bel w.heap.size w (by omega) (Hbw.out.trans (hb.mono (B' := w.heap.size) Hbw.out.size))
    have xm := cells3 m.1
    clear m rz z0 z1 z2 fz0 fz1 fz2 i1 i2
    generalize (((wx.setCell ⟨w.heap.size + 1, 0, none⟩ (.bool e11)).setCell ⟨w.heap.size + 1, 1, none⟩ (.slice e12 e13 e14)).setCell ⟨w.heap.size + 1, 2, none⟩ (.slice e15 e16 e17)) = wz at *
    obtain ⟨z0, z1, z2⟩ := xm
    refine wpAny_done (by kernel_rfl) ?_ _
    go_wp2
    exact bodyPost_ret (v := .agg #[.bool e11, .slice e12 e13 e14, .slice e15 e16 e17]) (by simp [results, Try.results26, go_sem, z0, z1, z2]) rfl ⟨_, rfl, ⟨_, _, _, _, _, _, _, rfl, j1, j2⟩, jb⟩

set_option maxRecDepth 100000 in
set_option maxHeartbeats 1600000 in
theorem Floor_any (v : Value) (p q : Int) (w : World) (h : RatRaw w v p q) : Calls Try.prog 7 #[v] w (RInt (p / dn q) w) := by
  have hd : dn q ≠ 0 := by have := dn_pos h.den; omega
  obtain ⟨b, p0, n0, c0, p1, n1, c1, rfl, ha0, ha1⟩ := id h
  have H := hid h; have HA := hid ha0; have HD := hid ha1
  clear h ha0 ha1
  go_enter Try.func7, Try.ntmps7
  go_upto_region 1 with fail
  generalize hW : World.alloc (World.alloc w _) _ = W0
  have bw : Below w.heap.size w W0 := by rw [← hW]; exact (below1 _ _).alloc (by simp) _
  have ra : Rec W0 w.heap.size 27 #[.bool b, .slice p0 n0 c0, .slice p1 n1 c1] := by
    rw [← hW]; exact ((Rec.new ..).below (below1 _ _))
  have rz : Rec W0 (w.heap.size + 1) 25 #[.bool false, .slice none 0 0] := by
    rw [← hW]
    have := Rec.new (w.alloc (.cells #[.bool b, .slice p0 n0 c0, .slice p1 n1 c1] 27)) #[.bool false, .slice none 0 0] 25
    rwa [size_alloc] at this
  clear hW
  have x := cells3 ra
  obtain ⟨x0, x1, x2⟩ := x
  have hrd := read_any _ p q W0 (H.out.below bw)
  have Hrd := hid hrd; have Hbw := hid bw; have Hrz := hid rz
  clear hrd bw ra H HA HD rz
  go_wp2_with fail
  refine Hrd.out.mono ?_
  rintro e w1 ⟨v1, rfl, i1, b1⟩
  obtain ⟨e1, e2, e3, e4, e5, e6, e7, e8, rfl, r1, r2⟩ := i1
  go_upto_region 2 with fail
  generalize hW : World.alloc w1 _ = W1
  have X1 : Below W0.heap.size W0 W1 ∧ Rec W1 w1.heap.size 47 #[.bool e1, .slice e2 e3 e4, .bool e5, .slice e6 e7 e8] ∧ RawAt W1 (.agg #[.bool e1, .slice e2 e3 e4]) p ∧ RawAt W1 (.agg #[.bool e5, .slice e6 e7 e8]) (dn q) := by
    rw [← hW]; exact ⟨b1.trans ((below1 _ _).mono (B' := W0.heap.size) b1.size), Rec.new .., r1.below (below1 _ _), r2.below (below1 _ _)⟩
  have bw1 : Below w.heap.size w W1 := Hbw.out.trans (X1.1.mono (B' := w.heap.size) Hbw.out.size)
  have rz := Hrz.out.below X1.1
  have hdv := Div_any _ _ p (dn q) W1 X1.2.2.1 X1.2.2.2 hd
  have y := cells4 X1.2.1
  obtain ⟨g, hg⟩ : ∃ g, g = w1.heap.size := ⟨_, rfl⟩
  rw [← hg] at y ⊢
  obtain ⟨y0, y1, y2, y3⟩ := y
  have Hdv := hid hdv; have Hbw := hid bw1; have Hrz := hid rz
  clear hW hg X1 bw1 hdv b1 r1 r2 x0 x1 x2 Hrd hd rz
  go_wp2_with fail
  refine Hdv.out.mono ?_
  rintro e w2 ⟨vq, vr, rfl, hqq, hrr, b2⟩
  have hqq := hqq.parts'
  obtain ⟨dq, pq, nq, cq', rfl, hqq⟩ := hqq
  have hrr := hrr.parts'
  obtain ⟨dr, pr, nr, cr, rfl, hrr⟩ := hrr
  go_upto_region 3 with fail
  generalize hW : World.alloc (World.alloc w2 _) _ = W2
  have X2 : Below w2.heap.size w2 W2 ∧ Two W2 w2.heap.size (.bool dq) (.slice pq nq cq') (.bool dr) (.slice pr nr cr) := by
    rw [← hW]; exact ⟨((Below.refl _ _).alloc (Nat.le_refl _) _).alloc (by simp) _, Two.new ..⟩
  have b2' : Below W1.heap.size W1 W2 := b2.trans (X2.1.mono (B' := W1.heap.size) b2.size)
  have bw2 : Below w.heap.size w W2 := Hbw.out.trans (b2'.mono (B' := w.heap.size) Hbw.out.size)
  have iq := hqq.below X2.1; have ir := hrr.below X2.1
  have tw := X2.2
  have rz := Hrz.out.below b2'
  obtain ⟨g2, hg2⟩ : ∃ g, g = w2.heap.size := ⟨_, rfl⟩
  rw [← hg2] at tw ⊢
  have z00 := tw.c00; have z01 := tw.c01; have z10 := tw.c10; have z11 := tw.c11
  clear hW hg2 X2 b2 b2' hqq hrr y0 y1 y2 y3 Hbw Hdv tw
  have xz0 := rz.cell 0; have xz1 := rz.cell 1
  simp only [List.getElem?_toArray, List.getElem?_cons_zero, List.getElem?_cons_succ] at xz0 xz1
  have f := frozen4 rz
  obtain ⟨f0, f1, -, -⟩ := f
  have m := put2 rz (by simp [nonInt]) (.bool dq) (.slice pq nq cq') (by simp [nonInt])
  have mi := hid (m.2.int _ _ iq)
  have mb := hid (m.2.bel w.heap.size w (by omega) bw2)
  clear m rz bw2 iq ir Hrz
  go_wp2
  exact bodyPost_ret (v := .agg #[.bool dq, .slice pq nq cq']) (by simp [results, Try.results7, go_sem, xz0, xz1]) rfl ⟨_, rfl, mi.out, mb.out⟩

set_option maxRecDepth 100000 in
set_option maxHeartbeats 1600000 in
theorem Is_any (v : Value) (p q : Int) (w : World) (h : RatRaw w v p q) (hq : sz W q.natAbs ≤ 1000) : Calls Try.prog 12 #[v] w (RBool (decide (p % dn q = 0)) w) := by
  have hd : dn q ≠ 0 := by have := dn_pos h.den; omega
  have hsr : sz W (p % dn q).natAbs ≤ 1099511627776 := by
    have h1 := Int.emod_lt_of_pos p (dn_pos h.den)
    have h2 := Int.emod_nonneg p hd
    exact Nat.le_trans (sz_mono W2 (by omega : (p % dn q).natAbs ≤ (dn q).natAbs)) (Nat.le_trans (sz_dn hq (by decide)) (by decide))
  obtain ⟨r, hr⟩ : ∃ r, r = decide (p % dn q = 0) := ⟨_, rfl⟩
  rw [← hr]
  have Hr : Hid (((p % dn q).sign == 0) = r) := by
    unfold Hid
    rw [hr, Bool.eq_iff_iff, beq_iff_eq, decide_eq_true_iff, Int.sign_eq_zero_iff_zero]
  have Hsr := hid hsr
  clear hr hsr
  obtain ⟨b, p0, n0, c0, p1, n1, c1, rfl, ha0, ha1⟩ := id h
  have H := hid h; have HA := hid ha0; have HD := hid ha1
  clear h ha0 ha1
  go_enter Try.func12, Try.ntmps12
  go_upto_region 1 with fail
  generalize hW : World.alloc w _ = W0
  have bw : Below w.heap.size w W0 := by rw [← hW]; exact below1 _ _
  have ra : Rec W0 w.heap.size 27 #[.bool b, .slice p0 n0 c0, .slice p1 n1 c1] := by
    rw [← hW]; exact Rec.new ..
  clear hW
  have x := cells3 ra
  obtain ⟨x0, x1, x2⟩ := x
  have hrd := read_any _ p q W0 (H.out.below bw)
  have Hrd := hid hrd; have Hbw := hid bw
  clear hrd bw ra H HA HD
  go_wp2_with fail
  refine Hrd.out.mono ?_
  rintro e w1 ⟨v1, rfl, i1, b1⟩
  obtain ⟨e1, e2, e3, e4, e5, e6, e7, e8, rfl, r1, r2⟩ := i1
  go_upto_region 2 with fail
  generalize hW : World.alloc w1 _ = W1
  have X1 : Below W0.heap.size W0 W1 ∧ Rec W1 w1.heap.size 47 #[.bool e1, .slice e2 e3 e4, .bool e5, .slice e6 e7 e8] ∧ RawAt W1 (.agg #[.bool e1, .slice e2 e3 e4]) p ∧ RawAt W1 (.agg #[.bool e5, .slice e6 e7 e8]) (dn q) := by
    rw [← hW]; exact ⟨b1.trans ((below1 _ _).mono (B' := W0.heap.size) b1.size), Rec.new .., r1.below (below1 _ _), r2.below (below1 _ _)⟩
  have bw1 : Below w.heap.size w W1 := Hbw.out.trans (X1.1.mono (B' := w.heap.size) Hbw.out.size)
  have hdv := Div_any _ _ p (dn q) W1 X1.2.2.1 X1.2.2.2 hd
  have y := cells4 X1.2.1
  obtain ⟨g, hg⟩ : ∃ g, g = w1.heap.size := ⟨_, rfl⟩
  rw [← hg] at y ⊢
  obtain ⟨y0, y1, y2, y3⟩ := y
  have Hdv := hid hdv; have Hbw := hid bw1
  clear hW hg X1 bw1 hdv b1 r1 r2 x0 x1 x2 Hrd hd
  go_wp2_with fail
  refine Hdv.out.mono ?_
  rintro e w2 ⟨vq, vr, rfl, hqq, hrr, b2⟩
  have hqq := hqq.parts'
  obtain ⟨dq, pq, nq, cq', rfl, hqq⟩ := hqq
  have hrr := hrr.parts'
  obtain ⟨dr, pr, nr, cr, rfl, hrr⟩ := hrr
  go_upto_region 3 with fail
  generalize hW : World.alloc (World.alloc w2 _) _ = W2
  have X2 : Below w2.heap.size w2 W2 ∧ Two W2 w2.heap.size (.bool dq) (.slice pq nq cq') (.bool dr) (.slice pr nr cr) := by
    rw [← hW]; exact ⟨((Below.refl _ _).alloc (Nat.le_refl _) _).alloc (by simp) _, Two.new ..⟩
  have b2' : Below W1.heap.size W1 W2 := b2.trans (X2.1.mono (B' := W1.heap.size) b2.size)
  have bw2 : Below w.heap.size w W2 := Hbw.out.trans (b2'.mono (B' := w.heap.size) Hbw.out.size)
  have iq := hqq.below X2.1; have ir := hrr.below X2.1
  have tw := X2.2
  obtain ⟨g2, hg2⟩ : ∃ g, g = w2.heap.size := ⟨_, rfl⟩
  rw [← hg2] at tw ⊢
  have z00 := tw.c00; have z01 := tw.c01; have z10 := tw.c10; have z11 := tw.c11
  clear hW hg2 X2 b2 b2' hqq hrr y0 y1 y2 y3 Hbw Hdv tw
  have hsg := Sign_any _ _ W2 (ir.raw Hsr.out)
  have Hsg := hid hsg; have Hbw := hid bw2
  clear hsg bw2 iq ir
  go_wp2_with fail
  refine Hsg.out.mono ?_
  rintro e w3 ⟨rfl, b3⟩
  have Hbw := hid (Hbw.out.trans (b3.mono (B' := w.heap.size) Hbw.out.size))
  clear b3
  have hr := Hr.out
  go_wp2_with fail
  go_ret
  exact ⟨by first | rfl | rw [← Hr.out], Hbw.out⟩

set_option maxRecDepth 100000 in
set_option maxHeartbeats 1600000 in
theorem Ceil_any (v : Value) (p q : Int) (w : World) (h : RatRaw w v p q) (hp : sz W p.natAbs ≤ 1000) : Calls Try.prog 8 #[v] w (RInt (-(-p / dn q)) w) := by
  have hdiv : sz W (-p / dn q).natAbs ≤ 1099511627776 := by
    refine Nat.le_trans (sz_mono W2 (Int.natAbs_ediv_le_natAbs _ _)) ?_
    rw [Int.natAbs_neg]; omega
  have Hdiv := hid hdiv
  clear hdiv
  obtain ⟨b, p0, n0, c0, p1, n1, c1, rfl, ha0, ha1⟩ := id h
  have H := hid h; have HA := hid ha0; have HD := hid ha1
  clear h ha0 ha1
  go_enter Try.func8, Try.ntmps8
  go_upto_region 1 with fail
  generalize hW : World.alloc (World.alloc w _) _ = W0
  have bw : Below w.heap.size w W0 := by rw [← hW]; exact (below1 _ _).alloc (by simp) _
  have ra : Rec W0 w.heap.size 27 #[.bool b, .slice p0 n0 c0, .slice p1 n1 c1] := by
    rw [← hW]; exact ((Rec.new ..).below (below1 _ _))
  have rz : Rec W0 (w.heap.size + 1) 25 #[.bool false, .slice none 0 0] := by
    rw [← hW]
    have := Rec.new (w.alloc (.cells #[.bool b, .slice p0 n0 c0, .slice p1 n1 c1] 27)) #[.bool false, .slice none 0 0] 25
    rwa [size_alloc] at this
  clear hW
  have x := cells3 ra
  obtain ⟨x0, x1, x2⟩ := x
  have hng := negated_any _ p q W0 (H.out.below bw) (by omega)
  have Hng := hid hng; have Hbw := hid bw; have Hrz := hid rz
  clear hng bw ra H HA HD rz
  go_wp2_with fail
  refine Hng.out.mono ?_
  rintro e w1 ⟨v1, rfl, i1, b1⟩
  obtain ⟨e1, e2, e3, e4, e5, e6, e7, rfl, -⟩ := id i1
  have Hfl := hid (Floor_any _ (-p) q w1 i1)
  have Hb1 := hid b1
  clear i1 b1 Hng x0 x1 x2
  go_wp2_with fail
  refine Hfl.out.mono ?_
  rintro e w2 ⟨v2, rfl, i2, b2⟩
  have i2p := i2.parts'
  obtain ⟨f1, f2, f3, f4, rfl, i2⟩ := i2p
  have Hn := hid (Neg_any _ _ w2 (i2.raw Hdiv.out))
  have Hb2 := hid b2
  clear i2 b2 Hfl
  go_wp2_with fail
  refine Hn.out.mono ?_
  rintro e w3 ⟨v3, rfl, i3, b3⟩
  have i3p := i3.parts'
  obtain ⟨d0, q0, m0, k0, rfl, i3⟩ := i3p
  have b03 : Below W0.heap.size W0 w3 := (Hb1.out.trans (Hb2.out.mono (B' := W0.heap.size) Hb1.out.size)).trans (b3.mono (B' := W0.heap.size) (Nat.le_trans Hb1.out.size Hb2.out.size))
  have bw : Below w.heap.size w w3 := Hbw.out.trans (b03.mono (B' := w.heap.size) Hbw.out.size)
  have rz := Hrz.out.below b03
  have xz0 := rz.cell 0; have xz1 := rz.cell 1
  simp only [List.getElem?_toArray, List.getElem?_cons_zero, List.getElem?_cons_succ] at xz0 xz1
  have f := frozen4 rz
  obtain ⟨g0, g1, -, -⟩ := f
  have m := put2 rz (by simp [nonInt]) (.bool d0) (.slice q0 m0 k0) (by simp [nonInt])
  have mi := hid (m.2.int _ _ i3)
  have mb := hid (m.2.bel w.heap.size w (by omega) bw)
  clear m rz bw b03 i3 b3 Hb1 Hb2 Hn Hrz
  go_wp2
  exact bodyPost_ret (v := .agg #[.bool d0, .slice q0 m0 k0]) (by simp [results, Try.results8, go_sem, xz0, xz1]) rfl ⟨_, rfl, mi.out, mb.out⟩

set_option maxRecDepth 100000 in
set_option maxHeartbeats 3200000 in
theorem QSub_any (v0 v1 : Value) (p q r s : Int) (w : World) (h0 : RatRaw w v0 p q) (h1 : RatRaw w v1 r s) (l0 : sz W p.natAbs ≤ 1000) (l1 : sz W q.natAbs ≤ 1000) (l2 : sz W r.natAbs ≤ 1000) (l3 : sz W s.natAbs ≤ 1000) :
    Calls Try.prog 16 #[v0, v1] w (RRat (Rat.divInt p (dn q) - Rat.divInt r (dn s)) w) := by
  have hx : Rat.divInt p (dn q) - Rat.divInt r (dn s) = Rat.divInt p (dn q) + Rat.divInt (-r) (dn s) := by
    rw [Rat.sub_eq_add_neg, Rat.neg_divInt]
  rw [hx]
  have l2' : sz W (-r).natAbs ≤ 1000 := by rw [Int.natAbs_neg]; exact l2
  clear hx
  obtain ⟨b, p0, n0, c0, p1, n1, c1, rfl, ha0, ha1⟩ := id h0
  obtain ⟨b', p2, n2, c2, p3, n3, c3, rfl, hb0, hb1⟩ := id h1
  have HRA := hid h0; have HRB := hid h1
  clear ha0 ha1 hb0 hb1 h0 h1
  go_enter Try.func16, Try.ntmps16
  go_upto_region 1 with fail
  generalize hW : World.alloc (World.alloc (World.alloc w _) _) _ = W0
  have bw : Below w.heap.size w W0 := by rw [← hW]; exact ((below1 _ _).alloc (by simp) _).alloc (by simp; omega) _
  have ra : Rec W0 w.heap.size 27 #[.bool b, .slice p0 n0 c0, .slice p1 n1 c1] := by
    rw [← hW]; exact ((Rec.new ..).below (below1 _ _)).below (below1 _ _)
  have rb : Rec W0 (w.heap.size + 1) 27 #[.bool b', .slice p2 n2 c2, .slice p3 n3 c3] := by
    rw [← hW]
    have := (Rec.new (w.alloc (.cells #[.bool b, .slice p0 n0 c0, .slice p1 n1 c1] 27)) #[.bool b', .slice p2 n2 c2, .slice p3 n3 c3] 27)
    rw [size_alloc] at this
    exact this.below (below1 _ _)
  have rz : Rec W0 (w.heap.size + 1 + 1) 27 #[.bool false, .slice none 0 0, .slice none 0 0] := by
    rw [← hW]
    have := Rec.new ((w.alloc (.cells #[.bool b, .slice p0 n0 c0, .slice p1 n1 c1] 27)).alloc (.cells #[.bool b', .slice p2 n2 c2, .slice p3 n3 c3] 27)) #[.bool false, .slice none 0 0, .slice none 0 0] 27
    rwa [size_alloc, size_alloc] at this
  have Hrz := hid rz
  clear rz
  have HS : Hid (∀ w', Below W0.heap.size W0 w' → w'.cell? ⟨w.heap.size, 0, none⟩ = some (.bool b) ∧ w'.cell? ⟨w.heap.size, 1, none⟩ = some (.slice p0 n0 c0) ∧ w'.cell? ⟨w.heap.size, 2, none⟩ = some (.slice p1 n1 c1) ∧
      w'.cell? ⟨w.heap.size + 1, 0, none⟩ = some (.bool b') ∧ w'.cell? ⟨w.heap.size + 1, 1, none⟩ = some (.slice p2 n2 c2) ∧ w'.cell? ⟨w.heap.size + 1, 2, none⟩ = some (.slice p3 n3 c3)) := by
    intro w' hb
    have xa := cells3 (ra.below hb)
    have xb := cells3 (rb.below hb)
    exact ⟨xa.1, xa.2.1, xa.2.2, xb.1, xb.2.1, xb.2.2⟩
  have HRA := hid (HRA.out.below bw); have HRB := hid (HRB.out.below bw); have Hbw := hid bw
  clear hW ra rb bw
  refine wp_region_facts (w0 := W0) 4 1 [5, 6, 7, 8] [undef, undef, undef, undef]
    (fun i => match i with | 0 => eqF (.agg #[.bool b, .slice p0 n0 c0, .slice p1 n1 c1]) | 1 => eqF (.agg #[.bool b', .slice p2 n2 c2, .slice p3 n3 c3]) | 2 => rawF (-r) s | _ => ratF (Rat.divInt p (dn q) + Rat.divInt (-r) (dn s))) [] (by kernel_rfl) (by kernel_rfl) (by kernel_rfl) (by kernel_rfl) (by decide) rfl (by kernel_rfl) rfl (by simp) ?he8 ?_ ?_ ?_
  case he8 => simp only [putAll, Act.put, List.setIfInBounds_toArray, List.set_cons_zero, List.set_cons_succ]
  · intro i hi; simp at hi
  · intro i o hi ho vs wx hvl hb hdep K hK
    have hvs := len4 hvl
    obtain ⟨s5, s6, s7, s8, rfl⟩ := hvs
    clear hvl
    have hk := HS.out wx hb
    go_split_ands
    rcases i with _ | _ | _ | _ | i
    all_goals (simp only [List.getElem?_toArray, List.getElem?_cons_zero, List.getElem?_cons_succ, Option.some.injEq] at ho)
    all_goals try (subst ho)
    all_goals try simp only [putAll, Act.put, List.setIfInBounds_toArray, List.set_cons_zero, List.set_cons_succ]
    · go_simp
      have hK' := hK.out
      simp only [putAll, Act.put, List.setIfInBounds_toArray, List.set_cons_zero, List.set_cons_succ] at hK'
      exact hK' _ _ rfl (Below.refl _ _) (by simp)
    · go_simp
      have hK' := hK.out
      simp only [putAll, Act.put, List.setIfInBounds_toArray, List.set_cons_zero, List.set_cons_succ] at hK'
      exact hK' _ _ rfl (Below.refl _ _) (by simp)
    · have e1 : s6 = _ := hdep ⟨1, .data⟩ (by simp) rfl
      subst e1
      go_simp
      refine (negated_any _ r s _ (HRB.out.below hb) (by omega)).mono ?_
      rintro e wy ⟨vy, rfl, iy, hby⟩
      obtain ⟨e1, e2, e3, e4, e5, e6, e7, rfl, iy0, iy1⟩ := iy
      go_wp2_with fail
      have hK' := hK.out
      simp only [putAll, Act.put, List.setIfInBounds_toArray, List.set_cons_zero, List.set_cons_succ] at hK'
      exact hK' _ _ ⟨_, _, _, _, _, _, _, rfl, iy0, iy1⟩ hby (by simp)
    · have e0 : s5 = _ := hdep ⟨0, .data⟩ (by simp) rfl
      subst e0
      have e2 : (rawF (-r) s).P s7 wx := hdep ⟨2, .data⟩ (by simp) rfl
      go_simp
      refine (QAdd_any _ _ p q (-r) s _ (HRA.out.below hb) e2 l0 l1 l2' l3).mono ?_
      rintro e wy ⟨vy, rfl, iy, hby⟩
      obtain ⟨e1, e2, e3, e4, e5, e6, e7, rfl, iy0, iy1⟩ := iy
      go_wp2_with fail
      have hK' := hK.out
      simp only [putAll, Act.put, List.setIfInBounds_toArray, List.set_cons_zero, List.set_cons_succ] at hK'
      exact hK' _ _ ⟨_, _, _, _, _, _, _, rfl, iy0, iy1⟩ hby (by simp)
    · omega
  · intro vs wx hvl hb hf hdist
    have hvs := len4 hvl
    obtain ⟨s5, s6, s7, s8, rfl⟩ := hvs
    have f3 : RatTold wx s8 (Rat.divInt p (dn q) + Rat.divInt (-r) (dn s)) := hf 3 (by decide)
    obtain ⟨e11, e12, e13, e14, e15, e16, e17, rfl, i1, i2⟩ := f3
    have rz := Hrz.out.below hb
    have xz := cells3 rz
    obtain ⟨z0, z1, z2⟩ := xz
    have fz := frozen4 rz
    obtain ⟨fz0, fz1, fz2, -⟩ := fz
    clear hf hdist hvl
    refine wpAny_one (i := 4) (by kernel_rfl) rfl ?_
    intro K hK
    simp only [putAll, Act.put, List.setIfInBounds_toArray, List.set_cons_zero, List.set_cons_succ]
    go_simp
    have hK' := hK.out
    apply hK'
    clear hK hK'
    have m := put3 rz (by simp [nonInt]) (.bool e11) (.slice e12 e13 e14) (.slice e15 e16 e17) (by simp [nonInt])
    have j1 := m.2.int _ _ i1; have j2 := m.2.int _ _ i2
    have jb := m.2.bel w.heap.size w (by omega) (Hbw.out.trans (hb.mono (B' := w.heap.size) Hbw.out.size))
    have xm := cells3 m.1
    clear m rz z0 z1 z2 fz0 fz1 fz2 i1 i2
    generalize (((wx.setCell ⟨w.heap.size + 1 + 1, 0, none⟩ (.bool e11)).setCell ⟨w.heap.size + 1 + 1, 1, none⟩ (.slice e12 e13 e14)).setCell ⟨w.heap.size + 1 + 1, 2, none⟩ (.slice e15 e16 e17)) = wz at *
    obtain ⟨z0, z1, z2⟩ := xm
    refine wpAny_done (by kernel_rfl) ?_ _
    go_wp2
    exact bodyPost_ret (v := .agg #[.bool e11, .slice e12 e13 e14, .slice e15 e16 e17]) (by simp [results, Try.results16, go_sem, z0, z1, z2]) rfl ⟨_, rfl, ⟨_, _, _, _, _, _, _, rfl, j1, j2⟩, jb⟩
end Go.Proofs.Ytlijekppbpefaaa
