/- Texts put together: RatSmall, RatDiv, RatLaw, RatFixed, RatIn, LawOrder, OpenNum. -/
import Derived.Test.YteiniokddopacaaOrderCardM7
import Derived.Deep.DeepCutAuto
import Derived.Lib.SmallJoins
import Derived.ChangeSlices
import Derived.OpenShut
import Derived.Carry
/- ratio's small calls: Sign, negated, Floor, Ceil, Is, Sub. -/
namespace Go.Proofs.Yteiniokddopacaa
open Go.RowKit Big

def rawF (p q : Int) : SFact := ⟨fun v w => RatRaw w v p q, fun _ _ _ h hb => h.below hb⟩
theorem len4 {vs : List Value} (h : vs.length = 4) : ∃ a b c d, vs = [a, b, c, d] := by
  match vs, h with
  | [a, b, c, d], _ => exact ⟨a, b, c, d, rfl⟩
def RRaw (p q : Int) (w : World) (e : Ending) (w' : World) : Prop := ∃ v, e = .returned v ∧ RatRaw w' v p q ∧ Below w.heap.size w w'
theorem RatRaw.parts {w : World} {v : Value} {p q : Int} (h : RatRaw w v p q) : ∃ b p0 n0 c0 p1 n1 c1, v = .agg #[.bool b, .slice p0 n0 c0, .slice p1 n1 c1] ∧ RawAt w (.agg #[.bool b, .slice p0 n0 c0]) p ∧ RawAt w (.agg #[.bool false, .slice p1 n1 c1]) q := h

set_option maxRecDepth 100000 in
set_option maxHeartbeats 1600000 in
theorem QSign_any (v : Value) (p q : Int) (w : World) (h : RatRaw w v p q) : Calls Try.prog 23 #[v] w (RNum .i64 p.sign w) := by
  obtain ⟨b, p0, n0, c0, p1, n1, c1, rfl, ha0, ha1⟩ := id h
  have H := hid h; have HA := hid ha0; have HD := hid ha1
  clear h ha0 ha1
  go_enter Try.func23, Try.ntmps23
  go_wp2_with fail
  refine (Sign_any _ p _ (HA.out.below (below1 _ _))).mono ?_
  rintro e w1 ⟨rfl, b1⟩
  have bw := hid ((below1 w (.cells #[.bool b, .slice p0 n0 c0, .slice p1 n1 c1] 29)).trans (b1.mono (B' := w.heap.size) (by simp)))
  clear b1
  go_wp2_with fail
  go_ret
  exact ⟨rfl, bw.out⟩

set_option maxRecDepth 100000 in
set_option maxHeartbeats 1600000 in
theorem negated_any (v : Value) (p q : Int) (w : World) (h : RatRaw w v p q) (hp : sz W p.natAbs ≤ 100000) : Calls Try.prog 50 #[v] w (RRaw (-p) q w) := by
  have hp := hid (show sz W (-p).natAbs ≤ 1099511627776 by rw [Int.natAbs_neg]; omega)
  obtain ⟨b, p0, n0, c0, p1, n1, c1, rfl, ha0, ha1⟩ := id h
  have H := hid h; have HA := hid ha0; have HD := hid ha1
  clear h ha0 ha1
  go_enter Try.func50, Try.ntmps50
  go_upto_region 1 with fail
  generalize hW : World.alloc (World.alloc w _) _ = W0
  have bw : Below w.heap.size w W0 := by rw [← hW]; exact (below1 _ _).alloc (by simp) _
  have ra : Rec W0 w.heap.size 29 #[.bool b, .slice p0 n0 c0, .slice p1 n1 c1] := by
    rw [← hW]; exact ((Rec.new ..).below (below1 _ _))
  have rz : Rec W0 (w.heap.size + 1) 29 #[.bool false, .slice none 0 0, .slice none 0 0] := by
    rw [← hW]
    have := Rec.new (w.alloc (.cells #[.bool b, .slice p0 n0 c0, .slice p1 n1 c1] 29)) #[.bool false, .slice none 0 0, .slice none 0 0] 29
    rwa [size_alloc] at this
  clear hW
  have HA := hid (HA.out.below bw); have HD := hid (HD.out.below bw); have Hrz := hid rz; have Hbw := hid bw
  have HS : Hid (∀ w', Below W0.heap.size W0 w' → w'.cell? ⟨w.heap.size, 0, none⟩ = some (.bool b) ∧ w'.cell? ⟨w.heap.size, 1, none⟩ = some (.slice p0 n0 c0) ∧ w'.cell? ⟨w.heap.size, 2, none⟩ = some (.slice p1 n1 c1)) := fun w' hb => cells3 (ra.below hb)
  clear ra rz bw
  refine wp_region_facts (w0 := W0) 6 1 [3, 4, 5, 6, 7, 8] [undef, undef, undef, undef, undef, undef]
    (fun i => match i with | 0 => eqF (.pointer (some ⟨w.heap.size, 0, none⟩)) | 1 => eqF (.agg #[.bool b, .slice p0 n0 c0]) | 2 => intF (-p) | 3 => eqF (.pointer (some ⟨w.heap.size, 2, none⟩)) | 4 => eqF (.slice p1 n1 c1) | _ => rawF (-p) q) [] (by kernel_rfl) (by kernel_rfl) (by kernel_rfl) (by kernel_rfl) (by decide) rfl (by kernel_rfl) rfl (by simp) ?he7 ?_ ?_ ?_
  case he7 => simp only [putAll, Act.put, List.setIfInBounds_toArray, List.set_cons_zero, List.set_cons_succ]
  · intro i hi; simp at hi
  · intro i o hi ho vs wx hvl hb hdep K hK
    have hvs := len6 hvl
    obtain ⟨s3, s4, s5, s6, s7, s8, rfl⟩ := hvs
    clear hvl
    have hk := HS.out wx hb
    go_split_ands
    rcases i with _ | _ | _ | _ | _ | _ | i
    all_goals (simp only [List.getElem?_toArray, List.getElem?_cons_zero, List.getElem?_cons_succ, Option.some.injEq] at ho)
    all_goals try (subst ho)
    all_goals try simp only [putAll, Act.put, List.setIfInBounds_toArray, List.set_cons_zero, List.set_cons_succ]
    · go_simp
      have hK' := hK.out
      simp only [putAll, Act.put, List.setIfInBounds_toArray, List.set_cons_zero, List.set_cons_succ] at hK'
      exact hK' _ _ rfl (Below.refl _ _) (by simp)
    · have e0 : s3 = _ := hdep ⟨0, .data⟩ (by simp) rfl
      subst e0
      go_simp
      have hK' := hK.out
      simp only [putAll, Act.put, List.setIfInBounds_toArray, List.set_cons_zero, List.set_cons_succ] at hK'
      exact hK' _ _ rfl (Below.refl _ _) (by simp)
    · have e1 : s4 = _ := hdep ⟨1, .data⟩ (by simp) rfl
      subst e1
      go_simp
      refine (Neg_any _ p _ (HA.out.below hb)).mono ?_
      rintro e wy ⟨vy, rfl, iy, hby⟩
      have hsh := iy.parts'
      obtain ⟨q5, p5, n5, c5, rfl, iy⟩ := hsh
      go_wp2_with fail
      have hK' := hK.out
      simp only [putAll, Act.put, List.setIfInBounds_toArray, List.set_cons_zero, List.set_cons_succ] at hK'
      exact hK' _ _ ⟨_, _, _, _, rfl, iy⟩ hby (by simp)
    · go_simp
      have hK' := hK.out
      simp only [putAll, Act.put, List.setIfInBounds_toArray, List.set_cons_zero, List.set_cons_succ] at hK'
      exact hK' _ _ rfl (Below.refl _ _) (by simp)
    · have e3 : s6 = _ := hdep ⟨3, .data⟩ (by simp) rfl
      subst e3
      go_simp
      have hK' := hK.out
      simp only [putAll, Act.put, List.setIfInBounds_toArray, List.set_cons_zero, List.set_cons_succ] at hK'
      exact hK' _ _ rfl (Below.refl _ _) (by simp)
    · have e2 : (intF (-p)).P s5 wx := hdep ⟨2, .data⟩ (by simp) rfl
      obtain ⟨da2, pa2, na2, ca2, rfl, ia2⟩ := e2
      have e4 : s7 = _ := hdep ⟨4, .data⟩ (by simp) rfl
      subst e4
      go_simp
      have hK' := hK.out
      simp only [putAll, Act.put, List.setIfInBounds_toArray, List.set_cons_zero, List.set_cons_succ] at hK'
      exact hK' _ _ ⟨_, _, _, _, _, _, _, rfl, ia2.raw hp.out, HD.out.below hb⟩ (Below.refl _ _) (by simp)
    · omega
  · intro vs wx hvl hb hf hdist
    have hvs := len6 hvl
    obtain ⟨s3, s4, s5, s6, s7, s8, rfl⟩ := hvs
    have f5 : RatRaw wx s8 (-p) q := hf 5 (by decide)
    obtain ⟨e11, e12, e13, e14, e15, e16, e17, rfl, i1, i2⟩ := f5
    have rz := Hrz.out.below hb
    have xz := cells3 rz
    obtain ⟨z0, z1, z2⟩ := xz
    have fz := frozen4 rz
    obtain ⟨fz0, fz1, fz2, -⟩ := fz
    clear hf hdist hvl
    refine wpAny_one (i := 6) (by kernel_rfl) rfl ?_
    intro K hK
    simp only [putAll, Act.put, List.setIfInBounds_toArray, List.set_cons_zero, List.set_cons_succ]
    go_simp
    have hK' := hK.out
    apply hK'
    clear hK hK'
    have m := put3 rz (by simp [nonInt]) (.bool e11) (.slice e12 e13 e14) (.slice e15 e16 e17) (by simp [nonInt])
    have j1 := m.2.raw _ _ i1; have j2 := m.2.raw _ _ i2
    have jb := m.2.bel w.heap.size w (by omega) (Hbw.out.trans (hb.mono (B' := w.heap.size) Hbw.out.size))
    have xm := cells3 m.1
    clear m rz z0 z1 z2 fz0 fz1 fz2 i1 i2
    generalize (((wx.setCell ⟨w.heap.size + 1, 0, none⟩ (.bool e11)).setCell ⟨w.heap.size + 1, 1, none⟩ (.slice e12 e13 e14)).setCell ⟨w.heap.size + 1, 2, none⟩ (.slice e15 e16 e17)) = wz at *
    obtain ⟨z0, z1, z2⟩ := xm
    refine wpAny_done (by kernel_rfl) ?_ _
    go_wp2
    exact bodyPost_ret (v := .agg #[.bool e11, .slice e12 e13 e14, .slice e15 e16 e17]) (by simp [results, Try.results50, go_sem, z0, z1, z2]) rfl ⟨_, rfl, ⟨_, _, _, _, _, _, _, rfl, j1, j2⟩, jb⟩

set_option maxRecDepth 100000 in
set_option maxHeartbeats 1600000 in
theorem Floor_any (v : Value) (p q : Int) (w : World) (h : RatRaw w v p q) : Calls Try.prog 29 #[v] w (RInt (p / dn q) w) := by
  have hd : dn q ≠ 0 := by have := dn_pos h.den; omega
  obtain ⟨b, p0, n0, c0, p1, n1, c1, rfl, ha0, ha1⟩ := id h
  have H := hid h; have HA := hid ha0; have HD := hid ha1
  clear h ha0 ha1
  go_enter Try.func29, Try.ntmps29
  go_upto_region 1 with fail
  generalize hW : World.alloc (World.alloc w _) _ = W0
  have bw : Below w.heap.size w W0 := by rw [← hW]; exact (below1 _ _).alloc (by simp) _
  have ra : Rec W0 w.heap.size 29 #[.bool b, .slice p0 n0 c0, .slice p1 n1 c1] := by
    rw [← hW]; exact ((Rec.new ..).below (below1 _ _))
  have rz : Rec W0 (w.heap.size + 1) 25 #[.bool false, .slice none 0 0] := by
    rw [← hW]
    have := Rec.new (w.alloc (.cells #[.bool b, .slice p0 n0 c0, .slice p1 n1 c1] 29)) #[.bool false, .slice none 0 0] 25
    rwa [size_alloc] at this
  clear hW
  have x := cells3 ra
  obtain ⟨x0, x1, x2⟩ := x
  have hrd := read_any _ p q W0 (H.out.below bw)
  have Hrd := hid hrd; have Hbw := hid bw; have Hrz := hid rz
  clear hrd bw ra H HA HD rz
  go_wp2_with fail
  refine Hrd.out.mono ?_
  rintro e w1 ⟨v1, rfl, i1, b1⟩
  obtain ⟨e1, e2, e3, e4, e5, e6, e7, e8, rfl, r1, r2⟩ := i1
  go_upto_region 2 with fail
  generalize hW : World.alloc w1 _ = W1
  have X1 : Below W0.heap.size W0 W1 ∧ Rec W1 w1.heap.size 51 #[.bool e1, .slice e2 e3 e4, .bool e5, .slice e6 e7 e8] ∧ RawAt W1 (.agg #[.bool e1, .slice e2 e3 e4]) p ∧ RawAt W1 (.agg #[.bool e5, .slice e6 e7 e8]) (dn q) := by
    rw [← hW]; exact ⟨b1.trans ((below1 _ _).mono (B' := W0.heap.size) b1.size), Rec.new .., r1.below (below1 _ _), r2.below (below1 _ _)⟩
  have bw1 : Below w.heap.size w W1 := Hbw.out.trans (X1.1.mono (B' := w.heap.size) Hbw.out.size)
  have rz := Hrz.out.below X1.1
  have hdv := Div_any _ _ p (dn q) W1 X1.2.2.1 X1.2.2.2 hd
  have y := cells4 X1.2.1
  obtain ⟨g, hg⟩ : ∃ g, g = w1.heap.size := ⟨_, rfl⟩
  rw [← hg] at y ⊢
  obtain ⟨y0, y1, y2, y3⟩ := y
  have Hdv := hid hdv; have Hbw := hid bw1; have Hrz := hid rz
  clear hW hg X1 bw1 hdv b1 r1 r2 x0 x1 x2 Hrd hd rz
  go_wp2_with fail
  refine Hdv.out.mono ?_
  rintro e w2 ⟨vq, vr, rfl, hqq, hrr, b2⟩
  have hqq := hqq.parts'
  obtain ⟨dq, pq, nq, cq', rfl, hqq⟩ := hqq
  have hrr := hrr.parts'
  obtain ⟨dr, pr, nr, cr, rfl, hrr⟩ := hrr
  go_upto_region 3 with fail
  generalize hW : World.alloc (World.alloc w2 _) _ = W2
  have X2 : Below w2.heap.size w2 W2 ∧ Two W2 w2.heap.size (.bool dq) (.slice pq nq cq') (.bool dr) (.slice pr nr cr) := by
    rw [← hW]; exact ⟨((Below.refl _ _).alloc (Nat.le_refl _) _).alloc (by simp) _, Two.new ..⟩
  have b2' : Below W1.heap.size W1 W2 := b2.trans (X2.1.mono (B' := W1.heap.size) b2.size)
  have bw2 : Below w.heap.size w W2 := Hbw.out.trans (b2'.mono (B' := w.heap.size) Hbw.out.size)
  have iq := hqq.below X2.1; have ir := hrr.below X2.1
  have tw := X2.2
  have rz := Hrz.out.below b2'
  obtain ⟨g2, hg2⟩ : ∃ g, g = w2.heap.size := ⟨_, rfl⟩
  rw [← hg2] at tw ⊢
  have z00 := tw.c00; have z01 := tw.c01; have z10 := tw.c10; have z11 := tw.c11
  clear hW hg2 X2 b2 b2' hqq hrr y0 y1 y2 y3 Hbw Hdv tw
  have xz0 := rz.cell 0; have xz1 := rz.cell 1
  simp only [List.getElem?_toArray, List.getElem?_cons_zero, List.getElem?_cons_succ] at xz0 xz1
  have f := frozen4 rz
  obtain ⟨f0, f1, -, -⟩ := f
  have m := put2 rz (by simp [nonInt]) (.bool dq) (.slice pq nq cq') (by simp [nonInt])
  have mi := hid (m.2.int _ _ iq)
  have mb := hid (m.2.bel w.heap.size w (by omega) bw2)
  clear m rz bw2 iq ir Hrz
  go_wp2
  exact bodyPost_ret (v := .agg #[.bool dq, .slice pq nq cq']) (by simp [results, Try.results29, go_sem, xz0, xz1]) rfl ⟨_, rfl, mi.out, mb.out⟩

set_option maxRecDepth 100000 in
set_option maxHeartbeats 1600000 in
theorem Is_any (v : Value) (p q : Int) (w : World) (h : RatRaw w v p q) (hq : sz W q.natAbs ≤ 1000) : Calls Try.prog 34 #[v] w (RBool (decide (p % dn q = 0)) w) := by
  have hd : dn q ≠ 0 := by have := dn_pos h.den; omega
  have hsr : sz W (p % dn q).natAbs ≤ 1099511627776 := by
    have h1 := Int.emod_lt_of_pos p (dn_pos h.den)
    have h2 := Int.emod_nonneg p hd
    exact Nat.le_trans (sz_mono W2 (by omega : (p % dn q).natAbs ≤ (dn q).natAbs)) (Nat.le_trans (sz_dn hq (by decide)) (by decide))
  obtain ⟨r, hr⟩ : ∃ r, r = decide (p % dn q = 0) := ⟨_, rfl⟩
  rw [← hr]
  have Hr : Hid (((p % dn q).sign == 0) = r) := by
    unfold Hid
    rw [hr, Bool.eq_iff_iff, beq_iff_eq, decide_eq_true_iff, Int.sign_eq_zero_iff_zero]
  have Hsr := hid hsr
  clear hr hsr
  obtain ⟨b, p0, n0, c0, p1, n1, c1, rfl, ha0, ha1⟩ := id h
  have H := hid h; have HA := hid ha0; have HD := hid ha1
  clear h ha0 ha1
  go_enter Try.func34, Try.ntmps34
  go_upto_region 1 with fail
  generalize hW : World.alloc w _ = W0
  have bw : Below w.heap.size w W0 := by rw [← hW]; exact below1 _ _
  have ra : Rec W0 w.heap.size 29 #[.bool b, .slice p0 n0 c0, .slice p1 n1 c1] := by
    rw [← hW]; exact Rec.new ..
  clear hW
  have x := cells3 ra
  obtain ⟨x0, x1, x2⟩ := x
  have hrd := read_any _ p q W0 (H.out.below bw)
  have Hrd := hid hrd; have Hbw := hid bw
  clear hrd bw ra H HA HD
  go_wp2_with fail
  refine Hrd.out.mono ?_
  rintro e w1 ⟨v1, rfl, i1, b1⟩
  obtain ⟨e1, e2, e3, e4, e5, e6, e7, e8, rfl, r1, r2⟩ := i1
  go_upto_region 2 with fail
  generalize hW : World.alloc w1 _ = W1
  have X1 : Below W0.heap.size W0 W1 ∧ Rec W1 w1.heap.size 51 #[.bool e1, .slice e2 e3 e4, .bool e5, .slice e6 e7 e8] ∧ RawAt W1 (.agg #[.bool e1, .slice e2 e3 e4]) p ∧ RawAt W1 (.agg #[.bool e5, .slice e6 e7 e8]) (dn q) := by
    rw [← hW]; exact ⟨b1.trans ((below1 _ _).mono (B' := W0.heap.size) b1.size), Rec.new .., r1.below (below1 _ _), r2.below (below1 _ _)⟩
  have bw1 : Below w.heap.size w W1 := Hbw.out.trans (X1.1.mono (B' := w.heap.size) Hbw.out.size)
  have hdv := Div_any _ _ p (dn q) W1 X1.2.2.1 X1.2.2.2 hd
  have y := cells4 X1.2.1
  obtain ⟨g, hg⟩ : ∃ g, g = w1.heap.size := ⟨_, rfl⟩
  rw [← hg] at y ⊢
  obtain ⟨y0, y1, y2, y3⟩ := y
  have Hdv := hid hdv; have Hbw := hid bw1
  clear hW hg X1 bw1 hdv b1 r1 r2 x0 x1 x2 Hrd hd
  go_wp2_with fail
  refine Hdv.out.mono ?_
  rintro e w2 ⟨vq, vr, rfl, hqq, hrr, b2⟩
  have hqq := hqq.parts'
  obtain ⟨dq, pq, nq, cq', rfl, hqq⟩ := hqq
  have hrr := hrr.parts'
  obtain ⟨dr, pr, nr, cr, rfl, hrr⟩ := hrr
  go_upto_region 3 with fail
  generalize hW : World.alloc (World.alloc w2 _) _ = W2
  have X2 : Below w2.heap.size w2 W2 ∧ Two W2 w2.heap.size (.bool dq) (.slice pq nq cq') (.bool dr) (.slice pr nr cr) := by
    rw [← hW]; exact ⟨((Below.refl _ _).alloc (Nat.le_refl _) _).alloc (by simp) _, Two.new ..⟩
  have b2' : Below W1.heap.size W1 W2 := b2.trans (X2.1.mono (B' := W1.heap.size) b2.size)
  have bw2 : Below w.heap.size w W2 := Hbw.out.trans (b2'.mono (B' := w.heap.size) Hbw.out.size)
  have iq := hqq.below X2.1; have ir := hrr.below X2.1
  have tw := X2.2
  obtain ⟨g2, hg2⟩ : ∃ g, g = w2.heap.size := ⟨_, rfl⟩
  rw [← hg2] at tw ⊢
  have z00 := tw.c00; have z01 := tw.c01; have z10 := tw.c10; have z11 := tw.c11
  clear hW hg2 X2 b2 b2' hqq hrr y0 y1 y2 y3 Hbw Hdv tw
  have hsg := Sign_any _ _ W2 (ir.raw Hsr.out)
  have Hsg := hid hsg; have Hbw := hid bw2
  clear hsg bw2 iq ir
  go_wp2_with fail
  refine Hsg.out.mono ?_
  rintro e w3 ⟨rfl, b3⟩
  have Hbw := hid (Hbw.out.trans (b3.mono (B' := w.heap.size) Hbw.out.size))
  clear b3
  have hr := Hr.out
  go_wp2_with fail
  go_ret
  exact ⟨by first | rfl | rw [← Hr.out], Hbw.out⟩

set_option maxRecDepth 100000 in
set_option maxHeartbeats 1600000 in
theorem Ceil_any (v : Value) (p q : Int) (w : World) (h : RatRaw w v p q) (hp : sz W p.natAbs ≤ 1000) : Calls Try.prog 30 #[v] w (RInt (-(-p / dn q)) w) := by
  have hdiv : sz W (-p / dn q).natAbs ≤ 1099511627776 := by
    refine Nat.le_trans (sz_mono W2 (Int.natAbs_ediv_le_natAbs _ _)) ?_
    rw [Int.natAbs_neg]; omega
  have Hdiv := hid hdiv
  clear hdiv
  obtain ⟨b, p0, n0, c0, p1, n1, c1, rfl, ha0, ha1⟩ := id h
  have H := hid h; have HA := hid ha0; have HD := hid ha1
  clear h ha0 ha1
  go_enter Try.func30, Try.ntmps30
  go_upto_region 1 with fail
  generalize hW : World.alloc (World.alloc w _) _ = W0
  have bw : Below w.heap.size w W0 := by rw [← hW]; exact (below1 _ _).alloc (by simp) _
  have ra : Rec W0 w.heap.size 29 #[.bool b, .slice p0 n0 c0, .slice p1 n1 c1] := by
    rw [← hW]; exact ((Rec.new ..).below (below1 _ _))
  have rz : Rec W0 (w.heap.size + 1) 25 #[.bool false, .slice none 0 0] := by
    rw [← hW]
    have := Rec.new (w.alloc (.cells #[.bool b, .slice p0 n0 c0, .slice p1 n1 c1] 29)) #[.bool false, .slice none 0 0] 25
    rwa [size_alloc] at this
  clear hW
  have x := cells3 ra
  obtain ⟨x0, x1, x2⟩ := x
  have hng := negated_any _ p q W0 (H.out.below bw) (by omega)
  have Hng := hid hng; have Hbw := hid bw; have Hrz := hid rz
  clear hng bw ra H HA HD rz
  go_wp2_with fail
  refine Hng.out.mono ?_
  rintro e w1 ⟨v1, rfl, i1, b1⟩
  obtain ⟨e1, e2, e3, e4, e5, e6, e7, rfl, -⟩ := id i1
  have Hfl := hid (Floor_any _ (-p) q w1 i1)
  have Hb1 := hid b1
  clear i1 b1 Hng x0 x1 x2
  go_wp2_with fail
  refine Hfl.out.mono ?_
  rintro e w2 ⟨v2, rfl, i2, b2⟩
  have i2p := i2.parts'
  obtain ⟨f1, f2, f3, f4, rfl, i2⟩ := i2p
  have Hn := hid (Neg_any _ _ w2 (i2.raw Hdiv.out))
  have Hb2 := hid b2
  clear i2 b2 Hfl
  go_wp2_with fail
  refine Hn.out.mono ?_
  rintro e w3 ⟨v3, rfl, i3, b3⟩
  have i3p := i3.parts'
  obtain ⟨d0, q0, m0, k0, rfl, i3⟩ := i3p
  have b03 : Below W0.heap.size W0 w3 := (Hb1.out.trans (Hb2.out.mono (B' := W0.heap.size) Hb1.out.size)).trans (b3.mono (B' := W0.heap.size) (Nat.le_trans Hb1.out.size Hb2.out.size))
  have bw : Below w.heap.size w w3 := Hbw.out.trans (b03.mono (B' := w.heap.size) Hbw.out.size)
  have rz := Hrz.out.below b03
  have xz0 := rz.cell 0; have xz1 := rz.cell 1
  simp only [List.getElem?_toArray, List.getElem?_cons_zero, List.getElem?_cons_succ] at xz0 xz1
  have f := frozen4 rz
  obtain ⟨g0, g1, -, -⟩ := f
  have m := put2 rz (by simp [nonInt]) (.bool d0) (.slice q0 m0 k0) (by simp [nonInt])
  have mi := hid (m.2.int _ _ i3)
  have mb := hid (m.2.bel w.heap.size w (by omega) bw)
  clear m rz bw b03 i3 b3 Hb1 Hb2 Hn Hrz
  go_wp2
  exact bodyPost_ret (v := .agg #[.bool d0, .slice q0 m0 k0]) (by simp [results, Try.results30, go_sem, xz0, xz1]) rfl ⟨_, rfl, mi.out, mb.out⟩

set_option maxRecDepth 100000 in
set_option maxHeartbeats 3200000 in
theorem QSub_any (v0 v1 : Value) (p q r s : Int) (w : World) (h0 : RatRaw w v0 p q) (h1 : RatRaw w v1 r s) (l0 : sz W p.natAbs ≤ 1000) (l1 : sz W q.natAbs ≤ 1000) (l2 : sz W r.natAbs ≤ 1000) (l3 : sz W s.natAbs ≤ 1000) :
    Calls Try.prog 19 #[v0, v1] w (RRat (Rat.divInt p (dn q) - Rat.divInt r (dn s)) w) := by
  have hx : Rat.divInt p (dn q) - Rat.divInt r (dn s) = Rat.divInt p (dn q) + Rat.divInt (-r) (dn s) := by
    rw [Rat.sub_eq_add_neg, Rat.neg_divInt]
  rw [hx]
  have l2' : sz W (-r).natAbs ≤ 1000 := by rw [Int.natAbs_neg]; exact l2
  clear hx
  obtain ⟨b, p0, n0, c0, p1, n1, c1, rfl, ha0, ha1⟩ := id h0
  obtain ⟨b', p2, n2, c2, p3, n3, c3, rfl, hb0, hb1⟩ := id h1
  have HRA := hid h0; have HRB := hid h1
  clear ha0 ha1 hb0 hb1 h0 h1
  go_enter Try.func19, Try.ntmps19
  go_upto_region 1 with fail
  generalize hW : World.alloc (World.alloc (World.alloc w _) _) _ = W0
  have bw : Below w.heap.size w W0 := by rw [← hW]; exact ((below1 _ _).alloc (by simp) _).alloc (by simp; omega) _
  have ra : Rec W0 w.heap.size 29 #[.bool b, .slice p0 n0 c0, .slice p1 n1 c1] := by
    rw [← hW]; exact ((Rec.new ..).below (below1 _ _)).below (below1 _ _)
  have rb : Rec W0 (w.heap.size + 1) 29 #[.bool b', .slice p2 n2 c2, .slice p3 n3 c3] := by
    rw [← hW]
    have := (Rec.new (w.alloc (.cells #[.bool b, .slice p0 n0 c0, .slice p1 n1 c1] 29)) #[.bool b', .slice p2 n2 c2, .slice p3 n3 c3] 29)
    rw [size_alloc] at this
    exact this.below (below1 _ _)
  have rz : Rec W0 (w.heap.size + 1 + 1) 29 #[.bool false, .slice none 0 0, .slice none 0 0] := by
    rw [← hW]
    have := Rec.new ((w.alloc (.cells #[.bool b, .slice p0 n0 c0, .slice p1 n1 c1] 29)).alloc (.cells #[.bool b', .slice p2 n2 c2, .slice p3 n3 c3] 29)) #[.bool false, .slice none 0 0, .slice none 0 0] 29
    rwa [size_alloc, size_alloc] at this
  have Hrz := hid rz
  clear rz
  have HS : Hid (∀ w', Below W0.heap.size W0 w' → w'.cell? ⟨w.heap.size, 0, none⟩ = some (.bool b) ∧ w'.cell? ⟨w.heap.size, 1, none⟩ = some (.slice p0 n0 c0) ∧ w'.cell? ⟨w.heap.size, 2, none⟩ = some (.slice p1 n1 c1) ∧
      w'.cell? ⟨w.heap.size + 1, 0, none⟩ = some (.bool b') ∧ w'.cell? ⟨w.heap.size + 1, 1, none⟩ = some (.slice p2 n2 c2) ∧ w'.cell? ⟨w.heap.size + 1, 2, none⟩ = some (.slice p3 n3 c3)) := by
    intro w' hb
    have xa := cells3 (ra.below hb)
    have xb := cells3 (rb.below hb)
    exact ⟨xa.1, xa.2.1, xa.2.2, xb.1, xb.2.1, xb.2.2⟩
  have HRA := hid (HRA.out.below bw); have HRB := hid (HRB.out.below bw); have Hbw := hid bw
  clear hW ra rb bw
  refine wp_region_facts (w0 := W0) 4 1 [5, 6, 7, 8] [undef, undef, undef, undef]
    (fun i => match i with | 0 => eqF (.agg #[.bool b, .slice p0 n0 c0, .slice p1 n1 c1]) | 1 => eqF (.agg #[.bool b', .slice p2 n2 c2, .slice p3 n3 c3]) | 2 => rawF (-r) s | _ => ratF (Rat.divInt p (dn q) + Rat.divInt (-r) (dn s))) [] (by kernel_rfl) (by kernel_rfl) (by kernel_rfl) (by kernel_rfl) (by decide) rfl (by kernel_rfl) rfl (by simp) ?he8 ?_ ?_ ?_
  case he8 => simp only [putAll, Act.put, List.setIfInBounds_toArray, List.set_cons_zero, List.set_cons_succ]
  · intro i hi; simp at hi
  · intro i o hi ho vs wx hvl hb hdep K hK
    have hvs := len4 hvl
    obtain ⟨s5, s6, s7, s8, rfl⟩ := hvs
    clear hvl
    have hk := HS.out wx hb
    go_split_ands
    rcases i with _ | _ | _ | _ | i
    all_goals (simp only [List.getElem?_toArray, List.getElem?_cons_zero, List.getElem?_cons_succ, Option.some.injEq] at ho)
    all_goals try (subst ho)
    all_goals try simp only [putAll, Act.put, List.setIfInBounds_toArray, List.set_cons_zero, List.set_cons_succ]
    · go_simp
      have hK' := hK.out
      simp only [putAll, Act.put, List.setIfInBounds_toArray, List.set_cons_zero, List.set_cons_succ] at hK'
      exact hK' _ _ rfl (Below.refl _ _) (by simp)
    · go_simp
      have hK' := hK.out
      simp only [putAll, Act.put, List.setIfInBounds_toArray, List.set_cons_zero, List.set_cons_succ] at hK'
      exact hK' _ _ rfl (Below.refl _ _) (by simp)
    · have e1 : s6 = _ := hdep ⟨1, .data⟩ (by simp) rfl
      subst e1
      go_simp
      refine (negated_any _ r s _ (HRB.out.below hb) (by omega)).mono ?_
      rintro e wy ⟨vy, rfl, iy, hby⟩
      obtain ⟨e1, e2, e3, e4, e5, e6, e7, rfl, iy0, iy1⟩ := iy
      go_wp2_with fail
      have hK' := hK.out
      simp only [putAll, Act.put, List.setIfInBounds_toArray, List.set_cons_zero, List.set_cons_succ] at hK'
      exact hK' _ _ ⟨_, _, _, _, _, _, _, rfl, iy0, iy1⟩ hby (by simp)
    · have e0 : s5 = _ := hdep ⟨0, .data⟩ (by simp) rfl
      subst e0
      have e2 : (rawF (-r) s).P s7 wx := hdep ⟨2, .data⟩ (by simp) rfl
      go_simp
      refine (QAdd_any _ _ p q (-r) s _ (HRA.out.below hb) e2 l0 l1 l2' l3).mono ?_
      rintro e wy ⟨vy, rfl, iy, hby⟩
      obtain ⟨e1, e2, e3, e4, e5, e6, e7, rfl, iy0, iy1⟩ := iy
      go_wp2_with fail
      have hK' := hK.out
      simp only [putAll, Act.put, List.setIfInBounds_toArray, List.set_cons_zero, List.set_cons_succ] at hK'
      exact hK' _ _ ⟨_, _, _, _, _, _, _, rfl, iy0, iy1⟩ hby (by simp)
    · omega
  · intro vs wx hvl hb hf hdist
    have hvs := len4 hvl
    obtain ⟨s5, s6, s7, s8, rfl⟩ := hvs
    have f3 : RatTold wx s8 (Rat.divInt p (dn q) + Rat.divInt (-r) (dn s)) := hf 3 (by decide)
    obtain ⟨e11, e12, e13, e14, e15, e16, e17, rfl, i1, i2⟩ := f3
    have rz := Hrz.out.below hb
    have xz := cells3 rz
    obtain ⟨z0, z1, z2⟩ := xz
    have fz := frozen4 rz
    obtain ⟨fz0, fz1, fz2, -⟩ := fz
    clear hf hdist hvl
    refine wpAny_one (i := 4) (by kernel_rfl) rfl ?_
    intro K hK
    simp only [putAll, Act.put, List.setIfInBounds_toArray, List.set_cons_zero, List.set_cons_succ]
    go_simp
    have hK' := hK.out
    apply hK'
    clear hK hK'
    have m := put3 rz (by simp [nonInt]) (.bool e11) (.slice e12 e13 e14) (.slice e15 e16 e17) (by simp [nonInt])
    have j1 := m.2.int _ _ i1; have j2 := m.2.int _ _ i2
    have jb := m.2.bel w.heap.size w (by omega) (Hbw.out.trans (hb.mono (B' := w.heap.size) Hbw.out.size))
    have xm := cells3 m.1
    clear m rz z0 z1 z2 fz0 fz1 fz2 i1 i2
    generalize (((wx.setCell ⟨w.heap.size + 1 + 1, 0, none⟩ (.bool e11)).setCell ⟨w.heap.size + 1 + 1, 1, none⟩ (.slice e12 e13 e14)).setCell ⟨w.heap.size + 1 + 1, 2, none⟩ (.slice e15 e16 e17)) = wz at *
    obtain ⟨z0, z1, z2⟩ := xm
    refine wpAny_done (by kernel_rfl) ?_ _
    go_wp2
    exact bodyPost_ret (v := .agg #[.bool e11, .slice e12 e13 e14, .slice e15 e16 e17]) (by simp [results, Try.results19, go_sem, z0, z1, z2]) rfl ⟨_, rfl, ⟨_, _, _, _, _, _, _, rfl, j1, j2⟩, jb⟩
end Go.Proofs.Yteiniokddopacaa
/- ratio.Div. -/
namespace Go.Proofs.Yteiniokddopacaa
open Go.RowKit Big

set_option maxRecDepth 100000 in
set_option maxHeartbeats 6400000 in
theorem QDiv_none (v0 v1 : Value) (p q r s : Int) (w : World) (h0 : RatRaw w v0 p q) (h1 : RatRaw w v1 r s) (l0 : sz W p.natAbs ≤ 1000) (l1 : sz W q.natAbs ≤ 1000) (l2 : sz W r.natAbs ≤ 1000) (l3 : sz W s.natAbs ≤ 1000) (hr : r = 0) :
    Calls Try.prog 25 #[v0, v1] w (RNone w) := by
  have Hr0 := hid hr
  clear hr
  have l1' := sz_dn l1 (by decide)
  have l3' := sz_dn l3 (by decide)
  have la := hid (sz_mul2 l0 l3'); have lb := hid (sz_mul2 l1' l2)
  obtain ⟨b, p0, n0, c0, p1, n1, c1, rfl, ha0, ha1⟩ := id h0
  obtain ⟨b', p2, n2, c2, p3, n3, c3, rfl, hb0, hb1⟩ := id h1
  have HRA := hid h0; have HRB := hid h1
  clear ha0 ha1 hb0 hb1 h0 h1
  go_enter Try.func25, Try.ntmps25
  go_upto_region 1 with fail
  generalize hW : World.alloc (World.alloc (World.alloc w _) _) _ = W0
  have bw : Below w.heap.size w W0 := by rw [← hW]; exact ((below1 _ _).alloc (by simp) _).alloc (by simp; omega) _
  have ra : Rec W0 w.heap.size 29 #[.bool b, .slice p0 n0 c0, .slice p1 n1 c1] := by
    rw [← hW]; exact ((Rec.new ..).below (below1 _ _)).below (below1 _ _)
  have rb : Rec W0 (w.heap.size + 1) 29 #[.bool b', .slice p2 n2 c2, .slice p3 n3 c3] := by
    rw [← hW]
    have := (Rec.new (w.alloc (.cells #[.bool b, .slice p0 n0 c0, .slice p1 n1 c1] 29)) #[.bool b', .slice p2 n2 c2, .slice p3 n3 c3] 29)
    rw [size_alloc] at this
    exact this.below (below1 _ _)
  have rz : Rec W0 (w.heap.size + 1 + 1) 29 #[.bool false, .slice none 0 0, .slice none 0 0] := by
    rw [← hW]
    have := Rec.new ((w.alloc (.cells #[.bool b, .slice p0 n0 c0, .slice p1 n1 c1] 29)).alloc (.cells #[.bool b', .slice p2 n2 c2, .slice p3 n3 c3] 29)) #[.bool false, .slice none 0 0, .slice none 0 0] 29
    rwa [size_alloc, size_alloc] at this
  have Hrz := hid rz
  clear rz
  have HS : Hid (∀ w', Below W0.heap.size W0 w' → w'.cell? ⟨w.heap.size, 0, none⟩ = some (.bool b) ∧ w'.cell? ⟨w.heap.size, 1, none⟩ = some (.slice p0 n0 c0) ∧ w'.cell? ⟨w.heap.size, 2, none⟩ = some (.slice p1 n1 c1) ∧
      w'.cell? ⟨w.heap.size + 1, 0, none⟩ = some (.bool b') ∧ w'.cell? ⟨w.heap.size + 1, 1, none⟩ = some (.slice p2 n2 c2) ∧ w'.cell? ⟨w.heap.size + 1, 2, none⟩ = some (.slice p3 n3 c3)) := by
    intro w' hb
    have xa := cells3 (ra.below hb)
    have xb := cells3 (rb.below hb)
    exact ⟨xa.1, xa.2.1, xa.2.2, xb.1, xb.2.1, xb.2.2⟩
  have HRA := hid (HRA.out.below bw); have HRB := hid (HRB.out.below bw); have Hbw := hid bw
  clear hW ra rb bw
  go_upto_region 1 with fail
  go_cut [6, 7] (fun s5 s6 wx => ∃ g5 g6, s5 = .pointer (some ⟨g5, 0, none⟩) ∧ s6 = .pointer (some ⟨g6, 0, none⟩) ∧ g5 ≠ g6 ∧ W0.heap.size ≤ g5 ∧ W0.heap.size ≤ g6 ∧ PairVar wx g5 p (dn q) ∧ PairVar wx g6 r (dn s) ∧ Below W0.heap.size W0 wx)
  case first =>
    rename_i Jc Kc hJc hKc
    refine wp_region_facts (w0 := W0) 6 2 [9, 10, 11, 12, 6, 7] [undef, undef, undef, undef, undef, undef]
      (fun i => match i with | 0 => eqF (.agg #[.bool b, .slice p0 n0 c0, .slice p1 n1 c1]) | 1 => pairF p (dn q) | 2 => eqF (.agg #[.bool b', .slice p2 n2 c2, .slice p3 n3 c3]) | 3 => pairF r (dn s) | 4 => recF W0.heap.size 51 | _ => recF W0.heap.size 51) [4, 5] (by kernel_rfl) (by kernel_rfl) (by kernel_rfl) (by kernel_rfl) (by decide) rfl (by kernel_rfl) rfl (by simp) ?he7 ?_ ?_ ?_
    case he7 => simp only [putAll, Act.put, List.setIfInBounds_toArray, List.set_cons_zero, List.set_cons_succ]
    · intro i hi v w' h
      simp only [List.mem_cons, List.not_mem_nil, or_false] at hi
      rcases hi with rfl | rfl
      · obtain ⟨g, x1, x2, x3, x4, hg, hp, -⟩ := (show (recF W0.heap.size 51).P v w' from h); exact ⟨g, hg, hp.lt⟩
      · obtain ⟨g, x1, x2, x3, x4, hg, hp, -⟩ := (show (recF W0.heap.size 51).P v w' from h); exact ⟨g, hg, hp.lt⟩
    · intro i o hi ho vs wx hvl hb hdep K hK
      have hvs := len6 hvl
      obtain ⟨s9, s10, s11, s12, s6, s7, rfl⟩ := hvs
      clear hvl
      have hk := HS.out wx hb
      go_split_ands
      rcases i with _ | _ | _ | _ | _ | _ | i
      all_goals (simp only [List.getElem?_toArray, List.getElem?_cons_zero, List.getElem?_cons_succ, Option.some.injEq] at ho)
      all_goals try (subst ho)
      all_goals try simp only [putAll, Act.put, List.setIfInBounds_toArray, List.set_cons_zero, List.set_cons_succ]
      · go_simp
        have hK' := hK.out
        simp only [putAll, Act.put, List.setIfInBounds_toArray, List.set_cons_zero, List.set_cons_succ] at hK'
        exact hK' _ _ rfl (Below.refl _ _) (by simp)
      · have e0 : s9 = _ := hdep ⟨0, .data⟩ (by simp) rfl
        subst e0
        go_simp
        refine (read_any _ p q _ (HRA.out.below hb)).mono ?_
        rintro e wy ⟨vy, rfl, iy, hby⟩
        obtain ⟨e1, e2, e3, e4, e5, e6, e7, e8, rfl, iy0, iy1⟩ := iy
        go_wp2_with fail
        have hK' := hK.out
        simp only [putAll, Act.put, List.setIfInBounds_toArray, List.set_cons_zero, List.set_cons_succ] at hK'
        exact hK' _ _ ⟨_, _, _, _, _, _, _, _, rfl, iy0, iy1⟩ hby (by simp)
      · go_simp
        have hK' := hK.out
        simp only [putAll, Act.put, List.setIfInBounds_toArray, List.set_cons_zero, List.set_cons_succ] at hK'
        exact hK' _ _ rfl (Below.refl _ _) (by simp)
      · have e2 : s11 = _ := hdep ⟨2, .data⟩ (by simp) rfl
        subst e2
        go_simp
        refine (read_any _ r s _ (HRB.out.below hb)).mono ?_
        rintro e wy ⟨vy, rfl, iy, hby⟩
        obtain ⟨e1, e2, e3, e4, e5, e6, e7, e8, rfl, iy0, iy1⟩ := iy
        go_wp2_with fail
        have hK' := hK.out
        simp only [putAll, Act.put, List.setIfInBounds_toArray, List.set_cons_zero, List.set_cons_succ] at hK'
        exact hK' _ _ ⟨_, _, _, _, _, _, _, _, rfl, iy0, iy1⟩ hby (by simp)
      · go_simp
        have hK' := hK.out
        simp only [putAll, Act.put, List.setIfInBounds_toArray, List.set_cons_zero, List.set_cons_succ] at hK'
        exact hK' _ _ ⟨_, _, _, _, _, rfl, Rec.new .., by simp [nonInt], hb.size⟩ (below1 _ _) (fun _ => rfl)
      · go_simp
        have hK' := hK.out
        simp only [putAll, Act.put, List.setIfInBounds_toArray, List.set_cons_zero, List.set_cons_succ] at hK'
        exact hK' _ _ ⟨_, _, _, _, _, rfl, Rec.new .., by simp [nonInt], hb.size⟩ (below1 _ _) (fun _ => rfl)
      · omega
    · intro vs wx hvl hb hf hdist
      have hvs := len6 hvl
      obtain ⟨s9, s10, s11, s12, s6, s7, rfl⟩ := hvs
      have k1 : PairAt wx s10 p (dn q) := hf 1 (by decide)
      have k3 : PairAt wx s12 r (dn s) := hf 3 (by decide)
      have k4 : (recF W0.heap.size 51).P s6 wx := hf 4 (by decide)
      have k5 : (recF W0.heap.size 51).P s7 wx := hf 5 (by decide)
      have hne : s6 ≠ s7 := hdist 4 (by simp) 5 (by simp) (by decide)
      obtain ⟨e1, e2, e3, e4, e5, e6, e7, e8, rfl, i1, i2⟩ := k1
      obtain ⟨f1, f2, f3, f4, f5, f6, f7, f8, rfl, j1, j2⟩ := k3
      obtain ⟨g5, xa, xb, xc, xd, rfl, rec5, non5, hB5⟩ := k4
      obtain ⟨g6, ya, yb, yc, yd, rfl, rec6, non6, hB6⟩ := k5
      have hgne : g5 ≠ g6 := fun e => hne (by rw [e])
      clear hf hdist hvl hne
      have c5 := cells4 rec5
      obtain ⟨x0, x1, x2, x3⟩ := c5
      have f5x := frozen4 rec5
      obtain ⟨y0, y1, y2, y3⟩ := f5x
      refine wpAny_one (i := 6) (by kernel_rfl) rfl ?_
      intro K hK
      simp only [putAll, Act.put, List.setIfInBounds_toArray, List.set_cons_zero, List.set_cons_succ]
      go_simp
      have hK' := hK.out
      apply hK'
      clear hK hK'
      have m5 := put4 rec5 non5 (.bool e1) (.slice e2 e3 e4) (.bool e5) (.slice e6 e7 e8) (by simp [nonInt])
      have i1 := m5.2.raw _ _ i1; have i2 := m5.2.raw _ _ i2; have j1 := m5.2.raw _ _ j1; have j2 := m5.2.raw _ _ j2
      have rec6 := m5.2.rcs _ _ _ hgne.symm rec6
      have hb := m5.2.bel W0.heap.size W0 hB5 hb
      have rec5 := m5.1
      clear m5 x0 x1 x2 x3 y0 y1 y2 y3
      generalize ((((wx.setCell ⟨g5, 0, none⟩ (.bool e1)).setCell ⟨g5, 1, none⟩ (.slice e2 e3 e4)).setCell ⟨g5, 2, none⟩ (.bool e5)).setCell ⟨g5, 3, none⟩ (.slice e6 e7 e8)) = wy at *
      have c6 := cells4 rec6
      obtain ⟨x0, x1, x2, x3⟩ := c6
      have f6x := frozen4 rec6
      obtain ⟨y0, y1, y2, y3⟩ := f6x
      refine wpAny_one (i := 7) (by kernel_rfl) rfl ?_
      intro K hK
      go_simp
      have hK' := hK.out
      apply hK'
      clear hK hK'
      have m6 := put4 rec6 non6 (.bool f1) (.slice f2 f3 f4) (.bool f5) (.slice f6 f7 f8) (by simp [nonInt])
      refine wpAny_done (by kernel_rfl) ?_ _
      refine hKc _ _ (Met.intro (hJc _ _ ?_))
      (repeat apply Exists.intro)
      exact ⟨⟨g5, g6, rfl, rfl, hgne, hB5, hB6, ⟨_, _, _, _, _, _, _, _, m6.2.rcs _ _ _ hgne rec5, m6.2.raw _ _ i1, m6.2.raw _ _ i2⟩, ⟨_, _, _, _, _, _, _, _, m6.1, m6.2.raw _ _ j1, m6.2.raw _ _ j2⟩, m6.2.bel W0.heap.size W0 hB6 hb⟩, rfl⟩
  case rest =>
    obtain ⟨g5, g6, rfl, rfl, hgne, hB5, hB6, V5, V6, hbc⟩ := hcut
    obtain ⟨e1, e2, e3, e4, e5, e6, e7, e8, rec5, A1, A2⟩ := V5
    obtain ⟨f1, f2, f3, f4, f5, f6, f7, f8, rec6, B1, B2⟩ := V6
    have Hrec5 := hid rec5; have Hrec6 := hid rec6
    have HA1 := hid A1; have HA2 := hid A2; have HB1 := hid B1; have HB2 := hid B2; have Hbc := hid hbc
    have HS2 : Hid (∀ w', Below wc.heap.size wc w' → w'.cell? ⟨g5, 0, none⟩ = some (.bool e1) ∧ w'.cell? ⟨g5, 1, none⟩ = some (.slice e2 e3 e4) ∧ w'.cell? ⟨g5, 2, none⟩ = some (.bool e5) ∧ w'.cell? ⟨g5, 3, none⟩ = some (.slice e6 e7 e8) ∧
        w'.cell? ⟨g6, 0, none⟩ = some (.bool f1) ∧ w'.cell? ⟨g6, 1, none⟩ = some (.slice f2 f3 f4) ∧ w'.cell? ⟨g6, 2, none⟩ = some (.bool f5) ∧ w'.cell? ⟨g6, 3, none⟩ = some (.slice f6 f7 f8)) := by
      intro w' hb
      have xa := cells4 (Hrec5.out.below hb)
      have xb := cells4 (Hrec6.out.below hb)
      exact ⟨xa.1, xa.2.1, xa.2.2.1, xa.2.2.2, xb.1, xb.2.1, xb.2.2.1, xb.2.2.2⟩
    clear rec5 rec6 A1 A2 B1 B2 hbc HS HRA HRB Hrec5 Hrec6
    have HRZ := hid (Hrz.out.below Hbc.out)
    have HBW := hid (Hbw.out.trans (Hbc.out.mono (B' := w.heap.size) Hbw.out.size))
    go_upto_region 2 with fail
    refine wp_region_facts (w0 := wc) 12 1 [13, 14, 15, 16, 17, 18, 19, 20, 21, 22, 23, 8] [u13, u14, u15, u16, u17, u18, u19, u20, u21, u22, u23, undef]
      (fun i => match i with | 0 => eqF (.pointer (some ⟨g5, 0, none⟩)) | 1 => eqF (.agg #[.bool e1, .slice e2 e3 e4]) | 2 => eqF (.pointer (some ⟨g6, 2, none⟩)) | 3 => eqF (.agg #[.bool f5, .slice f6 f7 f8]) | 4 => intF (p * dn s) | 5 => eqF (.pointer (some ⟨g5, 2, none⟩)) | 6 => eqF (.agg #[.bool e5, .slice e6 e7 e8]) | 7 => eqF (.pointer (some ⟨g6, 0, none⟩)) | 8 => eqF (.agg #[.bool f1, .slice f2 f3 f4]) | 9 => intF (dn q * r) | 10 => pairF (p * dn s) (dn q * r) | _ => recF wc.heap.size 51) [11] (by kernel_rfl) (by kernel_rfl) (by kernel_rfl) (by kernel_rfl) (by decide) rfl (by kernel_rfl) rfl (by simp) ?he8 ?_ ?_ ?_
    case he8 => simp only [putAll, Act.put, List.setIfInBounds_toArray, List.set_cons_zero, List.set_cons_succ]
    · intro i hi v w' h
      simp only [List.mem_cons, List.not_mem_nil, or_false] at hi
      rcases hi with rfl
      · obtain ⟨g, x1, x2, x3, x4, hg, hp, -⟩ := (show (recF wc.heap.size 51).P v w' from h); exact ⟨g, hg, hp.lt⟩
    · intro i o hi ho vs wx hvl hb hdep K hK
      have hvs := len12 hvl
      obtain ⟨s13, s14, s15, s16, s17, s18, s19, s20, s21, s22, s23, s8, rfl⟩ := hvs
      clear hvl
      have hk := HS2.out wx hb
      go_split_ands
      rcases i with _ | _ | _ | _ | _ | _ | _ | _ | _ | _ | _ | _ | i
      all_goals (simp only [List.getElem?_toArray, List.getElem?_cons_zero, List.getElem?_cons_succ, Option.some.injEq] at ho)
      all_goals try (subst ho)
      all_goals try simp only [putAll, Act.put, List.setIfInBounds_toArray, List.set_cons_zero, List.set_cons_succ]
      · go_simp
        have hK' := hK.out
        simp only [putAll, Act.put, List.setIfInBounds_toArray, List.set_cons_zero, List.set_cons_succ] at hK'
        exact hK' _ _ rfl (Below.refl _ _) (by simp)
      · have e0 : s13 = _ := hdep ⟨0, .data⟩ (by simp) rfl
        subst e0
        go_simp
        have hK' := hK.out
        simp only [putAll, Act.put, List.setIfInBounds_toArray, List.set_cons_zero, List.set_cons_succ] at hK'
        exact hK' _ _ rfl (Below.refl _ _) (by simp)
      · go_simp
        have hK' := hK.out
        simp only [putAll, Act.put, List.setIfInBounds_toArray, List.set_cons_zero, List.set_cons_succ] at hK'
        exact hK' _ _ rfl (Below.refl _ _) (by simp)
      · have e2 : s15 = _ := hdep ⟨2, .data⟩ (by simp) rfl
        subst e2
        go_simp
        have hK' := hK.out
        simp only [putAll, Act.put, List.setIfInBounds_toArray, List.set_cons_zero, List.set_cons_succ] at hK'
        exact hK' _ _ rfl (Below.refl _ _) (by simp)
      · have e1 : s14 = _ := hdep ⟨1, .data⟩ (by simp) rfl
        subst e1
        have e3 : s16 = _ := hdep ⟨3, .data⟩ (by simp) rfl
        subst e3
        go_simp
        refine (Mul_any _ _ (p) (dn s) _ (HA1.out.below hb) (HB2.out.below hb) (by omega) (by omega)).mono ?_
        rintro e wy ⟨vy, rfl, iy, hby⟩
        have hsh := iy.parts'
        obtain ⟨q5, p5, n5, c5, rfl, iy⟩ := hsh
        go_wp2_with fail
        have hK' := hK.out
        simp only [putAll, Act.put, List.setIfInBounds_toArray, List.set_cons_zero, List.set_cons_succ] at hK'
        exact hK' _ _ ⟨_, _, _, _, rfl, iy⟩ hby (by simp)
      · go_simp
        have hK' := hK.out
        simp only [putAll, Act.put, List.setIfInBounds_toArray, List.set_cons_zero, List.set_cons_succ] at hK'
        exact hK' _ _ rfl (Below.refl _ _) (by simp)
      · have e5 : s18 = _ := hdep ⟨5, .data⟩ (by simp) rfl
        subst e5
        go_simp
        have hK' := hK.out
        simp only [putAll, Act.put, List.setIfInBounds_toArray, List.set_cons_zero, List.set_cons_succ] at hK'
        exact hK' _ _ rfl (Below.refl _ _) (by simp)
      · go_simp
        have hK' := hK.out
        simp only [putAll, Act.put, List.setIfInBounds_toArray, List.set_cons_zero, List.set_cons_succ] at hK'
        exact hK' _ _ rfl (Below.refl _ _) (by simp)
      · have e7 : s20 = _ := hdep ⟨7, .data⟩ (by simp) rfl
        subst e7
        go_simp
        have hK' := hK.out
        simp only [putAll, Act.put, List.setIfInBounds_toArray, List.set_cons_zero, List.set_cons_succ] at hK'
        exact hK' _ _ rfl (Below.refl _ _) (by simp)
      · have e6 : s19 = _ := hdep ⟨6, .data⟩ (by simp) rfl
        subst e6
        have e8 : s21 = _ := hdep ⟨8, .data⟩ (by simp) rfl
        subst e8
        go_simp
        refine (Mul_any _ _ (dn q) (r) _ (HA2.out.below hb) (HB1.out.below hb) (by omega) (by omega)).mono ?_
        rintro e wy ⟨vy, rfl, iy, hby⟩
        have hsh := iy.parts'
        obtain ⟨q5, p5, n5, c5, rfl, iy⟩ := hsh
        go_wp2_with fail
        have hK' := hK.out
        simp only [putAll, Act.put, List.setIfInBounds_toArray, List.set_cons_zero, List.set_cons_succ] at hK'
        exact hK' _ _ ⟨_, _, _, _, rfl, iy⟩ hby (by simp)
      · have e4 : (intF (p * dn s)).P s17 wx := hdep ⟨4, .data⟩ (by simp) rfl
        obtain ⟨da4, pa4, na4, ca4, rfl, ia4⟩ := e4
        have e9 : (intF (dn q * r)).P s22 wx := hdep ⟨9, .data⟩ (by simp) rfl
        obtain ⟨da9, pa9, na9, ca9, rfl, ia9⟩ := e9
        go_simp
        have hK' := hK.out
        simp only [putAll, Act.put, List.setIfInBounds_toArray, List.set_cons_zero, List.set_cons_succ] at hK'
        exact hK' _ _ ⟨_, _, _, _, _, _, _, _, rfl, ia4.raw (by have := la.out; omega), ia9.raw (by have := lb.out; omega)⟩ (Below.refl _ _) (by simp)
      · go_simp
        have hK' := hK.out
        simp only [putAll, Act.put, List.setIfInBounds_toArray, List.set_cons_zero, List.set_cons_succ] at hK'
        exact hK' _ _ ⟨_, _, _, _, _, rfl, Rec.new .., by simp [nonInt], hb.size⟩ (below1 _ _) (fun _ => rfl)
      · omega
    · intro vs wx hvl hb hf hdist
      have hvs := len12 hvl
      obtain ⟨s13, s14, s15, s16, s17, s18, s19, s20, s21, s22, s23, s8, rfl⟩ := hvs
      have f10 : PairAt wx s23 (p * dn s) (dn q * r) := hf 10 (by decide)
      have f11 : (recF wc.heap.size 51).P s8 wx := hf 11 (by decide)
      obtain ⟨h1, h2, h3, h4, h5, h6, h7, h8, rfl, i1, i2⟩ := f10
      obtain ⟨g8, xa, xb, xc, xd, rfl, rec8, non8, hB8⟩ := f11
      have c8x := cells4 rec8
      obtain ⟨x0, x1, x2, x3⟩ := c8x
      have f8x := frozen4 rec8
      obtain ⟨y0, y1, y2, y3⟩ := f8x
      clear hf hdist hvl
      refine wpAny_one (i := 12) (by kernel_rfl) rfl ?_
      intro K hK
      simp only [putAll, Act.put, List.setIfInBounds_toArray, List.set_cons_zero, List.set_cons_succ]
      go_simp
      have hK' := hK.out
      apply hK'
      clear hK hK'
      have m := put4 rec8 non8 (.bool h1) (.slice h2 h3 h4) (.bool h5) (.slice h6 h7 h8) (by simp [nonInt])
      have i1 := hid (m.2.raw _ _ i1); have i2 := hid (m.2.raw _ _ i2)
      have hb8 := hid (m.2.bel wc.heap.size wc hB8 hb)
      have rec8 := m.1
      clear m x0 x1 x2 x3 y0 y1 y2 y3 hb
      generalize ((((wx.setCell ⟨g8, 0, none⟩ (.bool h1)).setCell ⟨g8, 1, none⟩ (.slice h2 h3 h4)).setCell ⟨g8, 2, none⟩ (.bool h5)).setCell ⟨g8, 3, none⟩ (.slice h6 h7 h8)) = wd at *
      refine wpAny_done (by kernel_rfl) ?_ _
      have c8x := cells4 rec8
      obtain ⟨x0, x1, x2, x3⟩ := c8x
      have a := HS2.out wd hb8.out
      obtain ⟨-, -, -, -, z0, z1, -, -⟩ := a
      have HRZ := hid (HRZ.out.below hb8.out)
      have HBW := hid (HBW.out.trans (hb8.out.mono (B' := w.heap.size) HBW.out.size))
      have HB1 := hid (HB1.out.below hb8.out)
      clear HS2 rec8
      go_wp2_with fail
      refine (unless_none _ _ _ (Hr0.out ▸ HB1.out)).mono ?_
      rintro e we ⟨rfl, be⟩
      have rz := HRZ.out.below be
      have bw := HBW.out.trans (be.mono (B' := w.heap.size) HBW.out.size)
      have xz := cells3 rz
      obtain ⟨u0, u1, u2⟩ := xz
      have fz := frozen4 rz
      obtain ⟨fz0, fz1, fz2, -⟩ := fz
      have m := put3 rz (by simp [nonInt]) (.bool false) (.slice none 0 0) (.slice none 0 0) (by simp [nonInt])
      have mb := hid (m.2.bel w.heap.size w (by omega) bw)
      clear m rz bw be x0 x1 x2 x3 z0 z1
      go_wp2
      exact bodyPost_ret (v := .tuple #[.agg #[.bool false, .slice none 0 0, .slice none 0 0], .int .i64 12]) (by simp [results, Try.results25, go_sem, u0, u1, u2]) rfl ⟨rfl, mb.out⟩

set_option maxRecDepth 100000 in
set_option maxHeartbeats 6400000 in
theorem QDiv_some (v0 v1 : Value) (p q r s : Int) (w : World) (h0 : RatRaw w v0 p q) (h1 : RatRaw w v1 r s) (l0 : sz W p.natAbs ≤ 1000) (l1 : sz W q.natAbs ≤ 1000) (l2 : sz W r.natAbs ≤ 1000) (l3 : sz W s.natAbs ≤ 1000) (hr : r ≠ 0) :
    Calls Try.prog 25 #[v0, v1] w (RSome (Rat.divInt p (dn q) / Rat.divInt r (dn s)) w) := by
  have hx : Rat.divInt p (dn q) / Rat.divInt r (dn s) = Rat.divInt (p * dn s) (dn q * r) := by
    rw [Rat.div_def, Rat.inv_divInt, Rat.divInt_mul_divInt]
  have hne : dn q * r ≠ 0 := Int.mul_ne_zero (by have := dn_pos h0.den; omega) hr
  rw [hx]
  have Hne := hid hne
  have Hr0 := hid hr
  clear hx hne hr
  have l1' := sz_dn l1 (by decide)
  have l3' := sz_dn l3 (by decide)
  have la := hid (sz_mul2 l0 l3'); have lb := hid (sz_mul2 l1' l2)
  obtain ⟨b, p0, n0, c0, p1, n1, c1, rfl, ha0, ha1⟩ := id h0
  obtain ⟨b', p2, n2, c2, p3, n3, c3, rfl, hb0, hb1⟩ := id h1
  have HRA := hid h0; have HRB := hid h1
  clear ha0 ha1 hb0 hb1 h0 h1
  go_enter Try.func25, Try.ntmps25
  go_upto_region 1 with fail
  generalize hW : World.alloc (World.alloc (World.alloc w _) _) _ = W0
  have bw : Below w.heap.size w W0 := by rw [← hW]; exact ((below1 _ _).alloc (by simp) _).alloc (by simp; omega) _
  have ra : Rec W0 w.heap.size 29 #[.bool b, .slice p0 n0 c0, .slice p1 n1 c1] := by
    rw [← hW]; exact ((Rec.new ..).below (below1 _ _)).below (below1 _ _)
  have rb : Rec W0 (w.heap.size + 1) 29 #[.bool b', .slice p2 n2 c2, .slice p3 n3 c3] := by
    rw [← hW]
    have := (Rec.new (w.alloc (.cells #[.bool b, .slice p0 n0 c0, .slice p1 n1 c1] 29)) #[.bool b', .slice p2 n2 c2, .slice p3 n3 c3] 29)
    rw [size_alloc] at this
    exact this.below (below1 _ _)
  have rz : Rec W0 (w.heap.size + 1 + 1) 29 #[.bool false, .slice none 0 0, .slice none 0 0] := by
    rw [← hW]
    have := Rec.new ((w.alloc (.cells #[.bool b, .slice p0 n0 c0, .slice p1 n1 c1] 29)).alloc (.cells #[.bool b', .slice p2 n2 c2, .slice p3 n3 c3] 29)) #[.bool false, .slice none 0 0, .slice none 0 0] 29
    rwa [size_alloc, size_alloc] at this
  have Hrz := hid rz
  clear rz
  have HS : Hid (∀ w', Below W0.heap.size W0 w' → w'.cell? ⟨w.heap.size, 0, none⟩ = some (.bool b) ∧ w'.cell? ⟨w.heap.size, 1, none⟩ = some (.slice p0 n0 c0) ∧ w'.cell? ⟨w.heap.size, 2, none⟩ = some (.slice p1 n1 c1) ∧
      w'.cell? ⟨w.heap.size + 1, 0, none⟩ = some (.bool b') ∧ w'.cell? ⟨w.heap.size + 1, 1, none⟩ = some (.slice p2 n2 c2) ∧ w'.cell? ⟨w.heap.size + 1, 2, none⟩ = some (.slice p3 n3 c3)) := by
    intro w' hb
    have xa := cells3 (ra.below hb)
    have xb := cells3 (rb.below hb)
    exact ⟨xa.1, xa.2.1, xa.2.2, xb.1, xb.2.1, xb.2.2⟩
  have HRA := hid (HRA.out.below bw); have HRB := hid (HRB.out.below bw); have Hbw := hid bw
  clear hW ra rb bw
  go_upto_region 1 with fail
  go_cut [6, 7] (fun s5 s6 wx => ∃ g5 g6, s5 = .pointer (some ⟨g5, 0, none⟩) ∧ s6 = .pointer (some ⟨g6, 0, none⟩) ∧ g5 ≠ g6 ∧ W0.heap.size ≤ g5 ∧ W0.heap.size ≤ g6 ∧ PairVar wx g5 p (dn q) ∧ PairVar wx g6 r (dn s) ∧ Below W0.heap.size W0 wx)
  case first =>
    rename_i Jc Kc hJc hKc
    refine wp_region_facts (w0 := W0) 6 2 [9, 10, 11, 12, 6, 7] [undef, undef, undef, undef, undef, undef]
      (fun i => match i with | 0 => eqF (.agg #[.bool b, .slice p0 n0 c0, .slice p1 n1 c1]) | 1 => pairF p (dn q) | 2 => eqF (.agg #[.bool b', .slice p2 n2 c2, .slice p3 n3 c3]) | 3 => pairF r (dn s) | 4 => recF W0.heap.size 51 | _ => recF W0.heap.size 51) [4, 5] (by kernel_rfl) (by kernel_rfl) (by kernel_rfl) (by kernel_rfl) (by decide) rfl (by kernel_rfl) rfl (by simp) ?he9 ?_ ?_ ?_
    case he9 => simp only [putAll, Act.put, List.setIfInBounds_toArray, List.set_cons_zero, List.set_cons_succ]
    · intro i hi v w' h
      simp only [List.mem_cons, List.not_mem_nil, or_false] at hi
      rcases hi with rfl | rfl
      · obtain ⟨g, x1, x2, x3, x4, hg, hp, -⟩ := (show (recF W0.heap.size 51).P v w' from h); exact ⟨g, hg, hp.lt⟩
      · obtain ⟨g, x1, x2, x3, x4, hg, hp, -⟩ := (show (recF W0.heap.size 51).P v w' from h); exact ⟨g, hg, hp.lt⟩
    · intro i o hi ho vs wx hvl hb hdep K hK
      have hvs := len6 hvl
      obtain ⟨s9, s10, s11, s12, s6, s7, rfl⟩ := hvs
      clear hvl
      have hk := HS.out wx hb
      go_split_ands
      rcases i with _ | _ | _ | _ | _ | _ | i
      all_goals (simp only [List.getElem?_toArray, List.getElem?_cons_zero, List.getElem?_cons_succ, Option.some.injEq] at ho)
      all_goals try (subst ho)
      all_goals try simp only [putAll, Act.put, List.setIfInBounds_toArray, List.set_cons_zero, List.set_cons_succ]
      · go_simp
        have hK' := hK.out
        simp only [putAll, Act.put, List.setIfInBounds_toArray, List.set_cons_zero, List.set_cons_succ] at hK'
        exact hK' _ _ rfl (Below.refl _ _) (by simp)
      · have e0 : s9 = _ := hdep ⟨0, .data⟩ (by simp) rfl
        subst e0
        go_simp
        refine (read_any _ p q _ (HRA.out.below hb)).mono ?_
        rintro e wy ⟨vy, rfl, iy, hby⟩
        obtain ⟨e1, e2, e3, e4, e5, e6, e7, e8, rfl, iy0, iy1⟩ := iy
        go_wp2_with fail
        have hK' := hK.out
        simp only [putAll, Act.put, List.setIfInBounds_toArray, List.set_cons_zero, List.set_cons_succ] at hK'
        exact hK' _ _ ⟨_, _, _, _, _, _, _, _, rfl, iy0, iy1⟩ hby (by simp)
      · go_simp
        have hK' := hK.out
        simp only [putAll, Act.put, List.setIfInBounds_toArray, List.set_cons_zero, List.set_cons_succ] at hK'
        exact hK' _ _ rfl (Below.refl _ _) (by simp)
      · have e2 : s11 = _ := hdep ⟨2, .data⟩ (by simp) rfl
        subst e2
        go_simp
        refine (read_any _ r s _ (HRB.out.below hb)).mono ?_
        rintro e wy ⟨vy, rfl, iy, hby⟩
        obtain ⟨e1, e2, e3, e4, e5, e6, e7, e8, rfl, iy0, iy1⟩ := iy
        go_wp2_with fail
        have hK' := hK.out
        simp only [putAll, Act.put, List.setIfInBounds_toArray, List.set_cons_zero, List.set_cons_succ] at hK'
        exact hK' _ _ ⟨_, _, _, _, _, _, _, _, rfl, iy0, iy1⟩ hby (by simp)
      · go_simp
        have hK' := hK.out
        simp only [putAll, Act.put, List.setIfInBounds_toArray, List.set_cons_zero, List.set_cons_succ] at hK'
        exact hK' _ _ ⟨_, _, _, _, _, rfl, Rec.new .., by simp [nonInt], hb.size⟩ (below1 _ _) (fun _ => rfl)
      · go_simp
        have hK' := hK.out
        simp only [putAll, Act.put, List.setIfInBounds_toArray, List.set_cons_zero, List.set_cons_succ] at hK'
        exact hK' _ _ ⟨_, _, _, _, _, rfl, Rec.new .., by simp [nonInt], hb.size⟩ (below1 _ _) (fun _ => rfl)
      · omega
    · intro vs wx hvl hb hf hdist
      have hvs := len6 hvl
      obtain ⟨s9, s10, s11, s12, s6, s7, rfl⟩ := hvs
      have k1 : PairAt wx s10 p (dn q) := hf 1 (by decide)
      have k3 : PairAt wx s12 r (dn s) := hf 3 (by decide)
      have k4 : (recF W0.heap.size 51).P s6 wx := hf 4 (by decide)
      have k5 : (recF W0.heap.size 51).P s7 wx := hf 5 (by decide)
      have hne : s6 ≠ s7 := hdist 4 (by simp) 5 (by simp) (by decide)
      obtain ⟨e1, e2, e3, e4, e5, e6, e7, e8, rfl, i1, i2⟩ := k1
      obtain ⟨f1, f2, f3, f4, f5, f6, f7, f8, rfl, j1, j2⟩ := k3
      obtain ⟨g5, xa, xb, xc, xd, rfl, rec5, non5, hB5⟩ := k4
      obtain ⟨g6, ya, yb, yc, yd, rfl, rec6, non6, hB6⟩ := k5
      have hgne : g5 ≠ g6 := fun e => hne (by rw [e])
      clear hf hdist hvl hne
      have c5 := cells4 rec5
      obtain ⟨x0, x1, x2, x3⟩ := c5
      have f5x := frozen4 rec5
      obtain ⟨y0, y1, y2, y3⟩ := f5x
      refine wpAny_one (i := 6) (by kernel_rfl) rfl ?_
      intro K hK
      simp only [putAll, Act.put, List.setIfInBounds_toArray, List.set_cons_zero, List.set_cons_succ]
      go_simp
      have hK' := hK.out
      apply hK'
      clear hK hK'
      have m5 := put4 rec5 non5 (.bool e1) (.slice e2 e3 e4) (.bool e5) (.slice e6 e7 e8) (by simp [nonInt])
      have i1 := m5.2.raw _ _ i1; have i2 := m5.2.raw _ _ i2; have j1 := m5.2.raw _ _ j1; have j2 := m5.2.raw _ _ j2
      have rec6 := m5.2.rcs _ _ _ hgne.symm rec6
      have hb := m5.2.bel W0.heap.size W0 hB5 hb
      have rec5 := m5.1
      clear m5 x0 x1 x2 x3 y0 y1 y2 y3
      generalize ((((wx.setCell ⟨g5, 0, none⟩ (.bool e1)).setCell ⟨g5, 1, none⟩ (.slice e2 e3 e4)).setCell ⟨g5, 2, none⟩ (.bool e5)).setCell ⟨g5, 3, none⟩ (.slice e6 e7 e8)) = wy at *
      have c6 := cells4 rec6
      obtain ⟨x0, x1, x2, x3⟩ := c6
      have f6x := frozen4 rec6
      obtain ⟨y0, y1, y2, y3⟩ := f6x
      refine wpAny_one (i := 7) (by kernel_rfl) rfl ?_
      intro K hK
      go_simp
      have hK' := hK.out
      apply hK'
      clear hK hK'
      have m6 := put4 rec6 non6 (.bool f1) (.slice f2 f3 f4) (.bool f5) (.slice f6 f7 f8) (by simp [nonInt])
      refine wpAny_done (by kernel_rfl) ?_ _
      refine hKc _ _ (Met.intro (hJc _ _ ?_))
      (repeat apply Exists.intro)
      exact ⟨⟨g5, g6, rfl, rfl, hgne, hB5, hB6, ⟨_, _, _, _, _, _, _, _, m6.2.rcs _ _ _ hgne rec5, m6.2.raw _ _ i1, m6.2.raw _ _ i2⟩, ⟨_, _, _, _, _, _, _, _, m6.1, m6.2.raw _ _ j1, m6.2.raw _ _ j2⟩, m6.2.bel W0.heap.size W0 hB6 hb⟩, rfl⟩
  case rest =>
    obtain ⟨g5, g6, rfl, rfl, hgne, hB5, hB6, V5, V6, hbc⟩ := hcut
    obtain ⟨e1, e2, e3, e4, e5, e6, e7, e8, rec5, A1, A2⟩ := V5
    obtain ⟨f1, f2, f3, f4, f5, f6, f7, f8, rec6, B1, B2⟩ := V6
    have Hrec5 := hid rec5; have Hrec6 := hid rec6
    have HA1 := hid A1; have HA2 := hid A2; have HB1 := hid B1; have HB2 := hid B2; have Hbc := hid hbc
    have HS2 : Hid (∀ w', Below wc.heap.size wc w' → w'.cell? ⟨g5, 0, none⟩ = some (.bool e1) ∧ w'.cell? ⟨g5, 1, none⟩ = some (.slice e2 e3 e4) ∧ w'.cell? ⟨g5, 2, none⟩ = some (.bool e5) ∧ w'.cell? ⟨g5, 3, none⟩ = some (.slice e6 e7 e8) ∧
        w'.cell? ⟨g6, 0, none⟩ = some (.bool f1) ∧ w'.cell? ⟨g6, 1, none⟩ = some (.slice f2 f3 f4) ∧ w'.cell? ⟨g6, 2, none⟩ = some (.bool f5) ∧ w'.cell? ⟨g6, 3, none⟩ = some (.slice f6 f7 f8)) := by
      intro w' hb
      have xa := cells4 (Hrec5.out.below hb)
      have xb := cells4 (Hrec6.out.below hb)
      exact ⟨xa.1, xa.2.1, xa.2.2.1, xa.2.2.2, xb.1, xb.2.1, xb.2.2.1, xb.2.2.2⟩
    clear rec5 rec6 A1 A2 B1 B2 hbc HS HRA HRB Hrec5 Hrec6
    have HRZ := hid (Hrz.out.below Hbc.out)
    have HBW := hid (Hbw.out.trans (Hbc.out.mono (B' := w.heap.size) Hbw.out.size))
    go_upto_region 2 with fail
    refine wp_region_facts (w0 := wc) 12 1 [13, 14, 15, 16, 17, 18, 19, 20, 21, 22, 23, 8] [u13, u14, u15, u16, u17, u18, u19, u20, u21, u22, u23, undef]
      (fun i => match i with | 0 => eqF (.pointer (some ⟨g5, 0, none⟩)) | 1 => eqF (.agg #[.bool e1, .slice e2 e3 e4]) | 2 => eqF (.pointer (some ⟨g6, 2, none⟩)) | 3 => eqF (.agg #[.bool f5, .slice f6 f7 f8]) | 4 => intF (p * dn s) | 5 => eqF (.pointer (some ⟨g5, 2, none⟩)) | 6 => eqF (.agg #[.bool e5, .slice e6 e7 e8]) | 7 => eqF (.pointer (some ⟨g6, 0, none⟩)) | 8 => eqF (.agg #[.bool f1, .slice f2 f3 f4]) | 9 => intF (dn q * r) | 10 => pairF (p * dn s) (dn q * r) | _ => recF wc.heap.size 51) [11] (by kernel_rfl) (by kernel_rfl) (by kernel_rfl) (by kernel_rfl) (by decide) rfl (by kernel_rfl) rfl (by simp) ?he10 ?_ ?_ ?_
    case he10 => simp only [putAll, Act.put, List.setIfInBounds_toArray, List.set_cons_zero, List.set_cons_succ]
    · intro i hi v w' h
      simp only [List.mem_cons, List.not_mem_nil, or_false] at hi
      rcases hi with rfl
      · obtain ⟨g, x1, x2, x3, x4, hg, hp, -⟩ := (show (recF wc.heap.size 51).P v w' from h); exact ⟨g, hg, hp.lt⟩
    · intro i o hi ho vs wx hvl hb hdep K hK
      have hvs := len12 hvl
      obtain ⟨s13, s14, s15, s16, s17, s18, s19, s20, s21, s22, s23, s8, rfl⟩ := hvs
      clear hvl
      have hk := HS2.out wx hb
      go_split_ands
      rcases i with _ | _ | _ | _ | _ | _ | _ | _ | _ | _ | _ | _ | i
      all_goals (simp only [List.getElem?_toArray, List.getElem?_cons_zero, List.getElem?_cons_succ, Option.some.injEq] at ho)
      all_goals try (subst ho)
      all_goals try simp only [putAll, Act.put, List.setIfInBounds_toArray, List.set_cons_zero, List.set_cons_succ]
      · go_simp
        have hK' := hK.out
        simp only [putAll, Act.put, List.setIfInBounds_toArray, List.set_cons_zero, List.set_cons_succ] at hK'
        exact hK' _ _ rfl (Below.refl _ _) (by simp)
      · have e0 : s13 = _ := hdep ⟨0, .data⟩ (by simp) rfl
        subst e0
        go_simp
        have hK' := hK.out
        simp only [putAll, Act.put, List.setIfInBounds_toArray, List.set_cons_zero, List.set_cons_succ] at hK'
        exact hK' _ _ rfl (Below.refl _ _) (by simp)
      · go_simp
        have hK' := hK.out
        simp only [putAll, Act.put, List.setIfInBounds_toArray, List.set_cons_zero, List.set_cons_succ] at hK'
        exact hK' _ _ rfl (Below.refl _ _) (by simp)
      · have e2 : s15 = _ := hdep ⟨2, .data⟩ (by simp) rfl
        subst e2
        go_simp
        have hK' := hK.out
        simp only [putAll, Act.put, List.setIfInBounds_toArray, List.set_cons_zero, List.set_cons_succ] at hK'
        exact hK' _ _ rfl (Below.refl _ _) (by simp)
      · have e1 : s14 = _ := hdep ⟨1, .data⟩ (by simp) rfl
        subst e1
        have e3 : s16 = _ := hdep ⟨3, .data⟩ (by simp) rfl
        subst e3
        go_simp
        refine (Mul_any _ _ (p) (dn s) _ (HA1.out.below hb) (HB2.out.below hb) (by omega) (by omega)).mono ?_
        rintro e wy ⟨vy, rfl, iy, hby⟩
        have hsh := iy.parts'
        obtain ⟨q5, p5, n5, c5, rfl, iy⟩ := hsh
        go_wp2_with fail
        have hK' := hK.out
        simp only [putAll, Act.put, List.setIfInBounds_toArray, List.set_cons_zero, List.set_cons_succ] at hK'
        exact hK' _ _ ⟨_, _, _, _, rfl, iy⟩ hby (by simp)
      · go_simp
        have hK' := hK.out
        simp only [putAll, Act.put, List.setIfInBounds_toArray, List.set_cons_zero, List.set_cons_succ] at hK'
        exact hK' _ _ rfl (Below.refl _ _) (by simp)
      · have e5 : s18 = _ := hdep ⟨5, .data⟩ (by simp) rfl
        subst e5
        go_simp
        have hK' := hK.out
        simp only [putAll, Act.put, List.setIfInBounds_toArray, List.set_cons_zero, List.set_cons_succ] at hK'
        exact hK' _ _ rfl (Below.refl _ _) (by simp)
      · go_simp
        have hK' := hK.out
        simp only [putAll, Act.put, List.setIfInBounds_toArray, List.set_cons_zero, List.set_cons_succ] at hK'
        exact hK' _ _ rfl (Below.refl _ _) (by simp)
      · have e7 : s20 = _ := hdep ⟨7, .data⟩ (by simp) rfl
        subst e7
        go_simp
        have hK' := hK.out
        simp only [putAll, Act.put, List.setIfInBounds_toArray, List.set_cons_zero, List.set_cons_succ] at hK'
        exact hK' _ _ rfl (Below.refl _ _) (by simp)
      · have e6 : s19 = _ := hdep ⟨6, .data⟩ (by simp) rfl
        subst e6
        have e8 : s21 = _ := hdep ⟨8, .data⟩ (by simp) rfl
        subst e8
        go_simp
        refine (Mul_any _ _ (dn q) (r) _ (HA2.out.below hb) (HB1.out.below hb) (by omega) (by omega)).mono ?_
        rintro e wy ⟨vy, rfl, iy, hby⟩
        have hsh := iy.parts'
        obtain ⟨q5, p5, n5, c5, rfl, iy⟩ := hsh
        go_wp2_with fail
        have hK' := hK.out
        simp only [putAll, Act.put, List.setIfInBounds_toArray, List.set_cons_zero, List.set_cons_succ] at hK'
        exact hK' _ _ ⟨_, _, _, _, rfl, iy⟩ hby (by simp)
      · have e4 : (intF (p * dn s)).P s17 wx := hdep ⟨4, .data⟩ (by simp) rfl
        obtain ⟨da4, pa4, na4, ca4, rfl, ia4⟩ := e4
        have e9 : (intF (dn q * r)).P s22 wx := hdep ⟨9, .data⟩ (by simp) rfl
        obtain ⟨da9, pa9, na9, ca9, rfl, ia9⟩ := e9
        go_simp
        have hK' := hK.out
        simp only [putAll, Act.put, List.setIfInBounds_toArray, List.set_cons_zero, List.set_cons_succ] at hK'
        exact hK' _ _ ⟨_, _, _, _, _, _, _, _, rfl, ia4.raw (by have := la.out; omega), ia9.raw (by have := lb.out; omega)⟩ (Below.refl _ _) (by simp)
      · go_simp
        have hK' := hK.out
        simp only [putAll, Act.put, List.setIfInBounds_toArray, List.set_cons_zero, List.set_cons_succ] at hK'
        exact hK' _ _ ⟨_, _, _, _, _, rfl, Rec.new .., by simp [nonInt], hb.size⟩ (below1 _ _) (fun _ => rfl)
      · omega
    · intro vs wx hvl hb hf hdist
      have hvs := len12 hvl
      obtain ⟨s13, s14, s15, s16, s17, s18, s19, s20, s21, s22, s23, s8, rfl⟩ := hvs
      have f10 : PairAt wx s23 (p * dn s) (dn q * r) := hf 10 (by decide)
      have f11 : (recF wc.heap.size 51).P s8 wx := hf 11 (by decide)
      obtain ⟨h1, h2, h3, h4, h5, h6, h7, h8, rfl, i1, i2⟩ := f10
      obtain ⟨g8, xa, xb, xc, xd, rfl, rec8, non8, hB8⟩ := f11
      have c8x := cells4 rec8
      obtain ⟨x0, x1, x2, x3⟩ := c8x
      have f8x := frozen4 rec8
      obtain ⟨y0, y1, y2, y3⟩ := f8x
      clear hf hdist hvl
      refine wpAny_one (i := 12) (by kernel_rfl) rfl ?_
      intro K hK
      simp only [putAll, Act.put, List.setIfInBounds_toArray, List.set_cons_zero, List.set_cons_succ]
      go_simp
      have hK' := hK.out
      apply hK'
      clear hK hK'
      have m := put4 rec8 non8 (.bool h1) (.slice h2 h3 h4) (.bool h5) (.slice h6 h7 h8) (by simp [nonInt])
      have i1 := hid (m.2.raw _ _ i1); have i2 := hid (m.2.raw _ _ i2)
      have hb8 := hid (m.2.bel wc.heap.size wc hB8 hb)
      have rec8 := m.1
      clear m x0 x1 x2 x3 y0 y1 y2 y3 hb
      generalize ((((wx.setCell ⟨g8, 0, none⟩ (.bool h1)).setCell ⟨g8, 1, none⟩ (.slice h2 h3 h4)).setCell ⟨g8, 2, none⟩ (.bool h5)).setCell ⟨g8, 3, none⟩ (.slice h6 h7 h8)) = wd at *
      refine wpAny_done (by kernel_rfl) ?_ _
      have c8x := cells4 rec8
      obtain ⟨x0, x1, x2, x3⟩ := c8x
      have a := HS2.out wd hb8.out
      obtain ⟨-, -, -, -, z0, z1, -, -⟩ := a
      have HRZ := hid (HRZ.out.below hb8.out)
      have HBW := hid (HBW.out.trans (hb8.out.mono (B' := w.heap.size) HBW.out.size))
      have HB1 := hid (HB1.out.below hb8.out)
      clear HS2 rec8
      go_wp2_with fail
      refine (unless_some _ _ (p * dn s) (dn q * r) r _ HB1.out Hr0.out ⟨_, _, _, _, _, _, _, _, rfl, i1.out, i2.out⟩ Hne.out).mono ?_
      rintro e we ⟨ve, rfl, ie, be⟩
      have iep := ie.parts
      obtain ⟨d0, q0, m0, k0, q1, m1, k1, rfl, ie⟩ := iep
      have rz := HRZ.out.below be
      have bw := HBW.out.trans (be.mono (B' := w.heap.size) HBW.out.size)
      have xz := cells3 rz
      obtain ⟨u0, u1, u2⟩ := xz
      have fz := frozen4 rz
      obtain ⟨fz0, fz1, fz2, -⟩ := fz
      have m := put3 rz (by simp [nonInt]) (.bool d0) (.slice q0 m0 k0) (.slice q1 m1 k1) (by simp [nonInt])
      have mb := hid (m.2.bel w.heap.size w (by omega) bw)
      have mi := hid (ie.stay m.2)
      clear m rz bw be x0 x1 x2 x3 z0 z1 ie
      go_wp2
      exact bodyPost_ret (v := .tuple #[.agg #[.bool d0, .slice q0 m0 k0, .slice q1 m1 k1], .int .i64 0]) (by simp [results, Try.results25, go_sem, u0, u1, u2]) rfl ⟨_, rfl, mi.out, mb.out⟩

end Go.Proofs.Yteiniokddopacaa
/- elenchuslaw02's few and fixed; elenchusref02.Same. -/
namespace Go.Proofs.Yteiniokddopacaa
open Go.RowKit Big

theorem dec_eq {r : Bool} {P : Prop} [Decidable P] (h : r = true ↔ P) : r = decide P := by
  rw [Bool.eq_iff_iff, decide_eq_true_iff]; exact h
set_option maxRecDepth 100000 in
set_option maxHeartbeats 1600000 in
theorem few_any (b k cap : Nat) (N D : Nat → Nat) (r : Bool) (w : World)
    (hc : ∀ i, i < k → ∃ neg p c p' c', w.cell? ⟨b, i * 3, none⟩ = some (.bool neg) ∧ w.cell? ⟨b, i * 3 + 1, none⟩ = some (.slice p (N i) c) ∧ w.cell? ⟨b, i * 3 + 2, none⟩ = some (.slice p' (D i) c'))
    (hk : k ≤ 1000) (hb : b < w.heap.size) (hn : ∀ i, i < k → N i ≤ 9223372036854775807 ∧ D i ≤ 9223372036854775807) (hr : r = true ↔ ∀ i, i < k → N i ≤ 4 ∧ D i ≤ 4) :
    Calls Try.prog 10 #[.slice (some ⟨b, 0, none⟩) k cap] w (RBool r w) := by
  have Hc := hid hc; have Hn := hid hn; have Hr := hid hr
  clear hc hn hr
  go_enter Try.func10, Try.ntmps10
  go_wp2_with fail
  go_loopw [7] (fun i wr => ∃ j : Nat, j ≤ k ∧ i = .int .i64 (j : Nat) ∧ Hid (Below w.heap.size w wr) ∧ Hid (∀ i, i < j → N i ≤ 4 ∧ D i ≤ 4)) (fun i _ => k - (RowKit.intOf i).toNat)
  case atStart => exact ⟨0, Nat.zero_le _, rfl, Below.refl _ _, fun i h => absurd h (Nat.not_lt_zero _)⟩
  case round =>
    obtain ⟨j, hj, rfl, hbel, hall⟩ := hrel
    by_cases hlt : j < k
    · obtain ⟨neg, p, c, p', c', e0, e1, e2⟩ := Hc.out j hlt
      obtain ⟨hn1, hn2⟩ := Hn.out j hlt
      have e0 := (hbel.out.cell (p := ⟨b, j * 3, none⟩) hb).trans e0
      have e1 := (hbel.out.cell (p := ⟨b, j * 3 + 1, none⟩) hb).trans e1
      have e2 := (hbel.out.cell (p := ⟨b, j * 3 + 2, none⟩) hb).trans e2
      by_cases h1 : N j ≤ 4
      · by_cases h2 : D j ≤ 4
        · have hall' : Hid (∀ i, i < j + 1 → N i ≤ 4 ∧ D i ≤ 4) := fun i hi => by
            by_cases hij : i = j
            · subst hij; exact ⟨h1, h2⟩
            · exact hall.out i (by omega)
          have hb' : Hid (∀ o, Below w.heap.size w (wr.alloc o)) := fun o => hbel.out.trans ((below1 _ o).mono hbel.out.size)
          generalize N j = x at *
          generalize D j = y at *
          go_wp2_with fail
          go_roundw
          case rel => exact ⟨j + 1, by omega, by go_num, hb'.out _, hall'⟩
          case measure => (simp [RowKit.intOf] <;> omega)
        · have hf : Hid (r = false) := by
            unfold Hid
            cases hh : r with
            | false => rfl
            | true => exact absurd (Hr.out.1 hh j hlt).2 h2
          have hb' : Hid (∀ o, Below w.heap.size w (wr.alloc o)) := fun o => hbel.out.trans ((below1 _ o).mono hbel.out.size)
          generalize N j = x at *
          generalize D j = y at *
          go_wp2_with fail
          go_ret
          exact ⟨by rw [hf.out]; rfl, hb'.out _⟩
      · have hf : Hid (r = false) := by
          unfold Hid
          cases hh : r with
          | false => rfl
          | true => exact absurd (Hr.out.1 hh j hlt).1 h1
        have hb' : Hid (∀ o, Below w.heap.size w (wr.alloc o)) := fun o => hbel.out.trans ((below1 _ o).mono hbel.out.size)
        generalize N j = x at *
        generalize D j = y at *
        go_wp2_with fail
        go_ret
        exact ⟨by rw [hf.out]; rfl, hb'.out _⟩
    · have hjk : j = k := by omega
      have hf : Hid (r = true) := Hr.out.2 (fun i hi => hall.out i (by omega))
      go_wp2_with fail
      go_ret
      exact ⟨by rw [hf.out]; rfl, hbel.out⟩

set_option maxRecDepth 100000 in
set_option maxHeartbeats 1600000 in
theorem QSame_told (v0 v1 : Value) (x : Rat) (w : World) (h0 : RatTold w v0 x) (h1 : RatTold w v1 x) : Calls Try.prog 12 #[v0, v1] w (RBool true w) := by
  obtain ⟨b, p0, n0, c0, p1, n1, c1, rfl, i0, i1⟩ := h0
  obtain ⟨b', p2, n2, c2, p3, n3, c3, rfl, j0, j1⟩ := h1
  have hat : ∀ {w p n c} {z : Nat}, IntAt w (.agg #[.bool false, .slice p n c]) (z : Nat) → At w .u64 (.slice p n c) (dig W z) := fun {w p n c z} h => by
    obtain ⟨s, hs, ha⟩ := h
    injection hs with hs
    simp at hs
    subst hs
    simpa using ha
  have a1 := hat i1; have a3 := hat j1
  have H : ∀ o o', Below w.heap.size w ((w.alloc o).alloc o') := fun o o' => (below1 _ _).alloc (by simp) _
  have hs1 : ∀ o o', Calls Try.prog 31 #[.agg #[.bool b, .slice p0 n0 c0], .agg #[.bool b', .slice p2 n2 c2]] ((w.alloc o).alloc o') (RBool true ((w.alloc o).alloc o')) := fun o o' => SameInt_same _ _ _ _ (i0.below (H o o')) (j0.below (H o o'))
  have hs2 : ∀ w', Below w.heap.size w w' → Calls Try.prog 38 #[.slice p1 n1 c1, .slice p3 n3 c3] w' (RDrawn (.bool true) w') := fun w' hb => by
    have := Same_any _ _ _ _ w' (a1.below hb) (a3.below hb)
    rwa [decide_eq_true rfl] at this
  have HH := hid H; have Hs1 := hid hs1; have Hs2 := hid hs2
  have xa : Hid (∀ o w', Below (w.alloc (.cells #[.bool b, .slice p0 n0 c0, .slice p1 n1 c1] 29) |>.alloc o).heap.size (w.alloc (.cells #[.bool b, .slice p0 n0 c0, .slice p1 n1 c1] 29) |>.alloc o) w' → w'.cell? ⟨w.heap.size, 2, none⟩ = some (.slice p1 n1 c1)) := fun o w' hb => (cells3 (((Rec.new ..).below (below1 _ _)).below hb)).2.2
  have xb : Hid (∀ o w', Below ((w.alloc o).alloc (.cells #[.bool b', .slice p2 n2 c2, .slice p3 n3 c3] 29)).heap.size ((w.alloc o).alloc (.cells #[.bool b', .slice p2 n2 c2, .slice p3 n3 c3] 29)) w' → w'.cell? ⟨w.heap.size + 1, 2, none⟩ = some (.slice p3 n3 c3)) := fun o w' hb => by
    have := Rec.new (w.alloc o) #[.bool b', .slice p2 n2 c2, .slice p3 n3 c3] 29
    rw [size_alloc] at this
    exact (cells3 (this.below hb)).2.2
  clear i0 i1 j0 j1 a1 a3 hat H hs1 hs2
  go_enter Try.func12, Try.ntmps12
  go_wp2_with fail
  refine (Hs1.out _ _).mono ?_
  rintro e w1 ⟨rfl, b1⟩
  have y0 := xa.out _ w1 b1
  have y1 := xb.out _ w1 b1
  have bw := (HH.out _ _).trans (b1.mono (B' := w.heap.size) (HH.out _ _).size)
  have Hbw := hid bw
  have Hs := hid (Hs2.out w1 bw)
  clear bw b1 xa xb Hs1 Hs2
  go_wp2_with fail
  refine Hs.out.mono ?_
  rintro e w2 ⟨rfl, k, rfl⟩
  go_wp2_with fail
  go_ret
  exact ⟨rfl, below_drewN Hbw.out _⟩
end Go.Proofs.Yteiniokddopacaa
/- elenchuslaw02.fixed answers true. -/
namespace Go.Proofs.Yteiniokddopacaa
open Go.RowKit Big

theorem RatTold.raw {w : World} {v : Value} {x : Rat} (h : RatTold w v x) (h0 : sz W x.num.natAbs ≤ 1099511627776) (h1 : sz W x.den ≤ 1099511627776) : RatRaw w v x.num (x.den : Nat) := by
  obtain ⟨b, p0, n0, c0, p1, n1, c1, hv, i0, i1⟩ := h
  exact ⟨b, p0, n0, c0, p1, n1, c1, hv, i0.raw h0, i1.raw (by simpa using h1)⟩
theorem IntAt.parts'' {w : World} {v : Value} {z : Int} (h : IntAt w v z) : ∃ b p n c, v = .agg #[.bool b, .slice p n c] ∧ IntAt w (.agg #[.bool b, .slice p n c]) z := h.parts'
theorem told_23 {w : World} {d : Bool} {p : Option Addr} {n c : Nat} {u : Value} (h : IntAt w (.agg #[.bool d, .slice p n c]) (-2)) (hu : At w .u64 u [3]) (hs : ∃ q, u = .slice (some q) 1 1) : RatTold w (.agg #[.bool d, .slice p n c, u]) (Rat.divInt 4 (-6)) := by
  obtain ⟨q, rfl⟩ := hs
  refine ⟨d, p, n, c, some q, 1, 1, rfl, ?_, ⟨_, rfl, ?_⟩⟩
  · have : (Rat.divInt 4 (-6)).num = -2 := by decide +kernel
    rw [this]; exact h
  · have : (Rat.divInt 4 (-6)).den = 3 := by decide +kernel
    rw [this]
    have e : dig W ((3 : Nat) : Int).natAbs = [3] := by decide +kernel
    rw [e]; exact hu

set_option maxRecDepth 100000 in
set_option maxHeartbeats 3200000 in
theorem fixed2_any (w : World) : Calls Try.prog 9 #[] w (RBool true w) := by
  go_enter Try.func9, Try.ntmps9
  go_wp2_with fail
  refine (ROf_any 4 _ (by decide) (by decide)).mono ?_
  rintro e w1 ⟨v1, rfl, i1, b1⟩
  go_wp2_with fail
  refine (ROf_any (-6) _ (by decide) (by decide)).mono ?_
  rintro e w2 ⟨v2, rfl, i2, b2⟩
  have hn := QNew_some v1 v2 4 (-6) w2 ((i1.below b2).raw (by decide)) (i2.raw (by decide)) (by decide)
  have Hn := hid hn
  have Hb := hid (b1.trans (b2.mono (B' := w.heap.size) b1.size))
  clear hn i1 i2 b1 b2
  go_wp2_with fail
  refine Hn.out.mono ?_
  rintro e w3 ⟨v3, rfl, i3, b3⟩
  have i3p := i3.parts
  obtain ⟨d0, q0, m0, k0, q1, m1, k1, rfl, i3⟩ := i3p
  have Hb3 := hid (Hb.out.trans (b3.mono (B' := w.heap.size) Hb.out.size))
  go_upto_region 2 with fail
  generalize hW : World.alloc w3 _ = W4
  have X4 : Below w3.heap.size w3 W4 ∧ Rec W4 w3.heap.size 29 #[.bool d0, .slice q0 m0 k0, .slice q1 m1 k1] := by
    rw [← hW]; exact ⟨below1 _ _, Rec.new ..⟩
  have Hb4 := hid (Hb3.out.trans (X4.1.mono (B' := w.heap.size) Hb3.out.size))
  have HI := hid (i3.below X4.1)
  have HR := hid X4.2
  obtain ⟨g, hg⟩ : ∃ g, g = w3.heap.size := ⟨_, rfl⟩
  rw [← hg] at HR ⊢
  clear hW X4 hg i3 b3 Hb Hb3 Hn
  have HS : Hid (∀ w', Below W4.heap.size W4 w' → w'.cell? ⟨g, 0, none⟩ = some (.bool d0) ∧ w'.cell? ⟨g, 1, none⟩ = some (.slice q0 m0 k0) ∧ w'.cell? ⟨g, 2, none⟩ = some (.slice q1 m1 k1) ∧ Below W4.heap.size W4 w') := fun w' hb => by
    have a := cells3 (HR.out.below hb)
    exact ⟨a.1, a.2.1, a.2.2, hb⟩
  have hraw : ∀ w', Below W4.heap.size W4 w' → RatRaw w' (.agg #[.bool d0, .slice q0 m0 k0, .slice q1 m1 k1]) (-2) 3 := fun w' hb => by
    have := (HI.out.below hb).raw (by decide +kernel) (by decide +kernel)
    rwa [show (Rat.divInt 4 (-6)).num = -2 by decide +kernel, show (Rat.divInt 4 (-6)).den = 3 by decide +kernel] at this
  have hfl : ∀ w', Below W4.heap.size W4 w' → Calls Try.prog 29 #[.agg #[.bool d0, .slice q0 m0 k0, .slice q1 m1 k1]] w' (RInt (-1) w') := fun w' hb => by
    have := Floor_any _ _ _ w' (hraw w' hb)
    rwa [show (-2 : Int) / dn 3 = -1 by decide] at this
  have hce : ∀ w', Below W4.heap.size W4 w' → Calls Try.prog 30 #[.agg #[.bool d0, .slice q0 m0 k0, .slice q1 m1 k1]] w' (RInt 0 w') := fun w' hb => by
    have := Ceil_any _ _ _ w' (hraw w' hb) (by decide)
    rwa [show -(-(-2 : Int) / dn 3) = 0 by decide] at this
  have his : ∀ w', Below W4.heap.size W4 w' → Calls Try.prog 34 #[.agg #[.bool d0, .slice q0 m0 k0, .slice q1 m1 k1]] w' (RBool false w') := fun w' hb => by
    have := Is_any _ _ _ w' (hraw w' hb) (by decide)
    rwa [show decide ((-2 : Int) % dn 3 = 0) = false by decide] at this
  have Hfl := hid hfl; have Hce := hid hce; have His := hid his
  clear hraw hfl hce his
  go_region_held3 (fun w' => w'.cell? ⟨g, 0, none⟩ = some (.bool d0) ∧ w'.cell? ⟨g, 1, none⟩ = some (.slice q0 m0 k0) ∧ w'.cell? ⟨g, 2, none⟩ = some (.slice q1 m1 k1) ∧ Below W4.heap.size W4 w')
    (first | exact HS.out _ (Below.drew (Below.refl _ _)) | (refine HS.out _ (Below.go hb ?_); go_split_ands; assumption) | exact HS.out _ (Below.drew (below1 _ _)) | (refine HS.out _ (Below.go (below1 _ _) ?_); go_split_ands; assumption))
    (first
      | (go_at_call 35; (fail_if_success have _t := i5); refine (ROf_any (-2) _ (by decide) (by decide)).mono ?_; rintro e wa ⟨v5, rfl, i5, hb⟩; have i5p := i5.parts'; obtain ⟨d5, p5, n5, c5, rfl, i5⟩ := i5p; have hb5 := hb)
      | (go_at_call 12; refine (QSame_told _ _ (Rat.divInt 4 (-6)) _ (HI.out.below (by go_split_ands; assumption)) (by first | exact told_23 (i5.below (below1 _ _)) (At.oneI _ _ _ 3 _ rfl) ⟨_, rfl⟩ | exact told_23 i5 (At.below (At.drew (At.oneI _ _ _ 3 _ rfl)) hb5) ⟨_, rfl⟩ | exact told_23 i5 (At.below (At.oneI _ _ _ 3 _ rfl) hb5) ⟨_, rfl⟩)).mono ?_; rintro e wb ⟨rfl, hb⟩)
      | (go_at_call 29; refine (Hfl.out _ (by go_split_ands; assumption)).mono ?_; rintro e wc ⟨v6, rfl, i6, hb⟩)
      | (go_at_call 35; have _t := i6; refine (ROf_any (-1) _ (by decide) (by decide)).mono ?_; rintro e wd ⟨v7, rfl, i7, hb⟩; clear _t; have i6 := i6.below hb)
      | (go_at_call 31; refine (SameInt_same _ _ (-1) _ i6 i7).mono ?_; rintro e we ⟨rfl, hb⟩)
      | (go_at_call 30; refine (Hce.out _ (by go_split_ands; assumption)).mono ?_; rintro e wf ⟨v8, rfl, i8, hb⟩)
      | (go_at_call 15; refine (RSign_any _ 0 _ (i8.raw (by decide))).mono ?_; rintro e wg ⟨rfl, hb⟩)
      | (go_at_call 34; refine (His.out _ (by go_split_ands; assumption)).mono ?_; rintro e wh ⟨rfl, hb⟩))
  all_goals
    rename_i hHeld
    go_split_ands
    have HBf := hid (show Below W4.heap.size W4 wh by assumption)
    go_wp2_with fail
    go_ret
    exact ⟨rfl, Hb4.out.trans (HBf.out.mono (B' := w.heap.size) Hb4.out.size)⟩
end Go.Proofs.Yteiniokddopacaa
/- ratio's calls, on fractions in any form, in terms of rational numbers. -/
namespace Go.Proofs.Yteiniokddopacaa
open Go.RowKit Big

/-- a fraction in any form: x, of so many words -/
def QIn (w : World) (v : Value) (x : Rat) (k : Nat) : Prop := ∃ p q, RatRaw w v p q ∧ Rat.divInt p (dn q) = x ∧ sz W p.natAbs ≤ k ∧ sz W q.natAbs ≤ k
theorem QIn.below {w w' : World} {v : Value} {x : Rat} {k : Nat} (h : QIn w v x k) (hb : Below w.heap.size w w') : QIn w' v x k := by
  obtain ⟨p, q, h1, h2⟩ := h
  exact ⟨p, q, h1.below hb, h2⟩
theorem QIn.mono {w : World} {v : Value} {x : Rat} {k k' : Nat} (h : QIn w v x k) (hk : k ≤ k') : QIn w v x k' := by
  obtain ⟨p, q, h1, h2, h3, h4⟩ := h
  exact ⟨p, q, h1, h2, by omega, by omega⟩
def RSz (x : Rat) (k : Nat) : Prop := sz W x.num.natAbs ≤ k ∧ sz W x.den ≤ k
theorem RSz.mono {x : Rat} {k k' : Nat} (h : RSz x k) (hk : k ≤ k') : RSz x k' := ⟨Nat.le_trans h.1 hk, Nat.le_trans h.2 hk⟩
theorem RSz.of {p q : Int} {k : Nat} (hq : q ≠ 0) (h0 : sz W p.natAbs ≤ k) (h1 : sz W q.natAbs ≤ k) : RSz (Rat.divInt p q) k :=
  ⟨Nat.le_trans (sz_mono W2 (num_le hq)) h0, Nat.le_trans (sz_mono W2 (den_le hq)) h1⟩
theorem QIn.sz {w : World} {v : Value} {x : Rat} {k : Nat} (h : QIn w v x k) (hk : 1 ≤ k) : RSz x k := by
  obtain ⟨p, q, h1, rfl, h3, h4⟩ := h
  exact RSz.of (by have := dn_pos h1.den; omega) h3 (sz_dn h4 hk)
theorem as_div (x : Rat) : x = Rat.divInt x.num (x.den : Nat) := (Rat.num_divInt_den x).symm
theorem den_ne (x : Rat) : ((x.den : Nat) : Int) ≠ 0 := by have := x.den_nz; omega
theorem RSz.add {x y : Rat} {a b : Nat} (hx : RSz x a) (hy : RSz y b) : RSz (x + y) (a + b + 1) := by
  have e : x + y = Rat.divInt (x.num * y.den + y.num * x.den) (x.den * y.den) := by
    conv => lhs; rw [as_div x, as_div y]
    exact Rat.divInt_add_divInt _ _ (den_ne x) (den_ne y)
  rw [e]
  have h1 := sz_mul W2 x.num.natAbs y.den
  have h2 := sz_mul W2 y.num.natAbs x.den
  have h3 := sz_mul W2 x.den y.den
  obtain ⟨a1, a2⟩ := hx
  obtain ⟨b1, b2⟩ := hy
  refine RSz.of (Int.mul_ne_zero (den_ne x) (den_ne y)) ?_ ?_
  · refine sz_add2 ?_ ?_
    · rw [Int.natAbs_mul, Int.natAbs_natCast]; omega
    · rw [Int.natAbs_mul, Int.natAbs_natCast]; omega
  · rw [Int.natAbs_mul, Int.natAbs_natCast, Int.natAbs_natCast]; omega
theorem RSz.neg {x : Rat} {a : Nat} (hx : RSz x a) : RSz (-x) a := ⟨by rw [Rat.neg_num, Int.natAbs_neg]; exact hx.1, by rw [Rat.neg_den]; exact hx.2⟩
theorem RSz.sub {x y : Rat} {a b : Nat} (hx : RSz x a) (hy : RSz y b) : RSz (x - y) (a + b + 1) := by
  rw [Rat.sub_eq_add_neg]; exact hx.add hy.neg
theorem RSz.mul {x y : Rat} {a b : Nat} (hx : RSz x a) (hy : RSz y b) : RSz (x * y) (a + b) := by
  have e : x * y = Rat.divInt (x.num * y.num) (x.den * y.den) := by
    conv => lhs; rw [as_div x, as_div y]
    exact Rat.divInt_mul_divInt _ _
  rw [e]
  have h1 := sz_mul W2 x.num.natAbs y.num.natAbs
  have h3 := sz_mul W2 x.den y.den
  obtain ⟨a1, a2⟩ := hx
  obtain ⟨b1, b2⟩ := hy
  refine RSz.of (Int.mul_ne_zero (den_ne x) (den_ne y)) ?_ ?_
  · rw [Int.natAbs_mul]; omega
  · rw [Int.natAbs_mul, Int.natAbs_natCast, Int.natAbs_natCast]; omega
theorem RSz.div {x y : Rat} {a b : Nat} (hx : RSz x a) (hy : RSz y b) (h0 : y ≠ 0) : RSz (x / y) (a + b) := by
  have e : x / y = Rat.divInt (x.num * y.den) (x.den * y.num) := by
    conv => lhs; rw [as_div x, as_div y]
    rw [Rat.div_def, Rat.inv_divInt, Rat.divInt_mul_divInt]
  rw [e]
  have h1 := sz_mul W2 x.num.natAbs y.den
  have h3 := sz_mul W2 x.den y.num.natAbs
  obtain ⟨a1, a2⟩ := hx
  obtain ⟨b1, b2⟩ := hy
  refine RSz.of (Int.mul_ne_zero (den_ne x) (fun e => h0 (Rat.num_eq_zero.1 e))) ?_ ?_
  · rw [Int.natAbs_mul, Int.natAbs_natCast]; omega
  · rw [Int.natAbs_mul, Int.natAbs_natCast]; omega
theorem RatTold.qin {w : World} {v : Value} {x : Rat} {k : Nat} (h : RatTold w v x) (hx : RSz x k) (hk : k ≤ 1000) : QIn w v x k := by
  refine ⟨x.num, (x.den : Nat), h.raw (Nat.le_trans hx.1 (by omega)) (Nat.le_trans hx.2 (by omega)), ?_, hx.1, by simpa using hx.2⟩
  unfold dn
  rw [if_neg (den_ne x)]
  exact Rat.num_divInt_den x
theorem QAdd_in {w : World} {v0 v1 : Value} {x y : Rat} (h0 : QIn w v0 x 1000) (h1 : QIn w v1 y 1000) : Calls Try.prog 17 #[v0, v1] w (RRat (x + y) w) := by
  obtain ⟨p, q, a, rfl, l0, l1⟩ := h0
  obtain ⟨r, s, b, rfl, l2, l3⟩ := h1
  exact QAdd_any _ _ p q r s w a b l0 l1 l2 l3
theorem QSub_in {w : World} {v0 v1 : Value} {x y : Rat} (h0 : QIn w v0 x 1000) (h1 : QIn w v1 y 1000) : Calls Try.prog 19 #[v0, v1] w (RRat (x - y) w) := by
  obtain ⟨p, q, a, rfl, l0, l1⟩ := h0
  obtain ⟨r, s, b, rfl, l2, l3⟩ := h1
  exact QSub_any _ _ p q r s w a b l0 l1 l2 l3
theorem QMul_in {w : World} {v0 v1 : Value} {x y : Rat} (h0 : QIn w v0 x 1000) (h1 : QIn w v1 y 1000) : Calls Try.prog 26 #[v0, v1] w (RRat (x * y) w) := by
  obtain ⟨p, q, a, rfl, l0, l1⟩ := h0
  obtain ⟨r, s, b, rfl, l2, l3⟩ := h1
  exact QMul_any _ _ p q r s w a b l0 l1 l2 l3
theorem QCmp_in {w : World} {v0 v1 : Value} {x y : Rat} (h0 : QIn w v0 x 1000) (h1 : QIn w v1 y 1000) : Calls Try.prog 21 #[v0, v1] w (RNum .i64 (cq x y) w) := by
  obtain ⟨p, q, a, rfl, l0, l1⟩ := h0
  obtain ⟨r, s, b, rfl, l2, l3⟩ := h1
  exact QCmp_any _ _ p q r s w a b l0 l1 l2 l3
theorem div_zero_iff {p q : Int} (hq : 0 < q) : Rat.divInt p q = 0 ↔ p = 0 := by
  rw [← Rat.num_eq_zero]
  constructor
  · intro h
    have h2 := Rat.num_eq_zero.1 h
    have h3 : Rat.divInt p q = Rat.divInt 0 q := by rw [h2, Rat.zero_divInt]
    have := (Rat.divInt_eq_divInt_iff (by omega) (by omega)).1 h3
    rcases Int.mul_eq_zero.1 (show p * q = 0 by omega) with h | h
    · exact h
    · omega
  · intro h; subst h; rw [Rat.zero_divInt]; rfl
theorem QDiv_in {w : World} {v0 v1 : Value} {x y : Rat} (h0 : QIn w v0 x 1000) (h1 : QIn w v1 y 1000) (hy : y ≠ 0) : Calls Try.prog 25 #[v0, v1] w (RSome (x / y) w) := by
  obtain ⟨p, q, a, rfl, l0, l1⟩ := h0
  obtain ⟨r, s, b, rfl, l2, l3⟩ := h1
  exact QDiv_some _ _ p q r s w a b l0 l1 l2 l3 (fun e => hy ((div_zero_iff (dn_pos b.den)).2 e))
theorem QDiv_in0 {w : World} {v0 v1 : Value} {x : Rat} (h0 : QIn w v0 x 1000) (h1 : QIn w v1 0 1000) : Calls Try.prog 25 #[v0, v1] w (RNone w) := by
  obtain ⟨p, q, a, rfl, l0, l1⟩ := h0
  obtain ⟨r, s, b, e, l2, l3⟩ := h1
  exact QDiv_none _ _ p q r s w a b l0 l1 l2 l3 ((div_zero_iff (dn_pos b.den)).1 e)
theorem QSign_in {w : World} {v : Value} {x : Rat} {k : Nat} (h : QIn w v x k) : Calls Try.prog 23 #[v] w (RNum .i64 (cq x 0) w) := by
  obtain ⟨p, q, a, rfl, -⟩ := h
  have := QSign_any v p q w a
  have e : p.sign = cq (Rat.divInt p (dn q)) 0 := by
    have h := cq_ord (p := p) (r := 0) (dn_pos a.den) (show (0 : Int) < 1 by decide)
    rw [Rat.zero_divInt, Int.mul_one, Int.zero_mul] at h
    rw [← h]
    rcases Int.lt_trichotomy p 0 with h1 | h1 | h1
    · rw [ord_lt h1, Int.sign_eq_neg_one_of_neg h1]
    · subst h1; rfl
    · rw [ord_gt h1, Int.sign_eq_one_of_pos h1]
  rwa [e] at this
theorem cq_zero {x y : Rat} (h : cq x y = 0) : x = y := by
  unfold cq at h
  split at h
  · omega
  · split at h
    · assumption
    · omega
theorem cq_bounds (x y : Rat) : -1 ≤ cq x y ∧ cq x y ≤ 1 := by unfold cq; (repeat' split) <;> omega

/-- a fraction as data: its lengths, and what it means -/
def RatIn (w : World) (v : Value) (k0 k1 : Nat) : Prop := ∃ neg p0 c0 p1 c1 l0 l1, v = .agg #[.bool neg, .slice p0 k0 c0, .slice p1 k1 c1] ∧ At w .u64 (.slice p0 k0 c0) l0 ∧ At w .u64 (.slice p1 k1 c1) l1 ∧ Small W l0 ∧ Small W l1 ∧ l0.length = k0 ∧ l1.length = k1
theorem RatIn.below {w w' : World} {v : Value} {k0 k1 : Nat} (h : RatIn w v k0 k1) (hb : Below w.heap.size w w') : RatIn w' v k0 k1 := by
  obtain ⟨neg, p0, c0, p1, c1, l0, l1, hv, h0, h1, r⟩ := h
  exact ⟨neg, p0, c0, p1, c1, l0, l1, hv, h0.below hb, h1.below hb, r⟩
theorem RatIn.le {w : World} {v : Value} {k0 k1 : Nat} (h : RatIn w v k0 k1) : k0 ≤ 9223372036854775807 ∧ k1 ≤ 9223372036854775807 := by
  obtain ⟨neg, p0, c0, p1, c1, l0, l1, hv, h0, h1, -, -, e0, e1⟩ := h
  obtain ⟨_, _, hv0, a0, b0, -⟩ := h0
  obtain ⟨_, _, hv1, a1, b1, -⟩ := h1
  unfold maxLen at b0 b1
  omega
theorem RatIn.q {w : World} {v : Value} {k0 k1 : Nat} (h : RatIn w v k0 k1) (m0 : k0 ≤ 4) (m1 : k1 ≤ 4) : ∃ x, QIn w v x 4 := by
  obtain ⟨neg, p0, c0, p1, c1, l0, l1, rfl, h0, h1, s0, s1, rfl, rfl⟩ := h
  refine ⟨_, sg neg (val W l0), sg false (val W l1), ⟨neg, p0, _, c0, p1, _, c1, rfl, ⟨neg, _, l0, rfl, h0, s0, by omega, rfl⟩, ⟨false, _, l1, rfl, h1, s1, by omega, rfl⟩⟩, rfl, ?_, ?_⟩
  · rw [sg_natAbs]; exact Nat.le_trans (sz_val W2 s0) (by omega)
  · rw [sg_natAbs]; exact Nat.le_trans (sz_val W2 s1) (by omega)
end Go.Proofs.Yteiniokddopacaa
/- elenchuslaw02.RatioOrder answers true. -/
namespace Go.Proofs.Yteiniokddopacaa
open Go.RowKit Big

theorem order_facts (x y z : Rat) : ∃ X Y Z : Int, cq x y = X ∧ cq y z = Y ∧ cq x z = Z ∧ cq y x = -X ∧ (X = -1 ∨ X = 0 ∨ X = 1) ∧ (Y = -1 ∨ Y = 0 ∨ Y = 1) ∧ (Z = -1 ∨ Z = 0 ∨ Z = 1) ∧ (X > 0 ∨ Y > 0 ∨ Z ≤ 0) ∧ (X < 0 ∨ Y < 0 ∨ Z ≥ 0) := by
  have h := cq_trans x y z
  have b1 := cq_bounds x y; have b2 := cq_bounds y z; have b3 := cq_bounds x z
  exact ⟨_, _, _, rfl, rfl, rfl, cq_turn y x, by omega, by omega, by omega, h.1, h.2⟩
/-- what the cells of three fractions that were boxed read as -/
theorem nine {w : World} {a b c d e f g h i : Value} (t : TypeId) (j : Nat) : (w.alloc (.cells #[a, b, c, d, e, f, g, h, i] t)).cell? ⟨w.heap.size, j, none⟩ = #[a, b, c, d, e, f, g, h, i][j]? := cell_of_row _ _ j _ t (0, 0) (heap_alloc_new w _)

set_option maxRecDepth 100000 in
set_option maxHeartbeats 6400000 in
theorem lawOrder_any (v0 v1 v2 : Value) (k0 k1 k2 d0 d1 d2 : Nat) (w : World) (h0 : RatIn w v0 k0 d0) (h1 : RatIn w v1 k1 d1) (h2 : RatIn w v2 k2 d2) :
    Calls Try.prog 8 #[v0, v1, v2] w (RBool true w) := by
  have H0 := hid h0; have H1 := hid h1; have H2 := hid h2
  have m0 := h0.le; have m1 := h1.le; have m2 := h2.le
  obtain ⟨a0, a1, a2, a3, a4, -, -, rfl, -⟩ := h0
  obtain ⟨b0, b1, b2, b3, b4, -, -, rfl, -⟩ := h1
  obtain ⟨c0, c1, c2, c3, c4, -, -, rfl, -⟩ := h2
  have hf := fun o o' o'' => fixed2_any (((w.alloc o).alloc o').alloc o'')
  have Hf := hid hf
  clear hf
  go_enter Try.func8, Try.ntmps8
  go_wp2_with fail
  refine (Hf.out _ _ _).mono ?_
  rintro e u1 ⟨rfl, g1⟩
  have ra := (((Rec.new w #[.bool a0, .slice a1 k0 a2, .slice a3 d0 a4] 29).below (below1 _ (.cells #[.bool b0, .slice b1 k1 b2, .slice b3 d1 b4] 29))).below (below1 _ (.cells #[.bool c0, .slice c1 k2 c2, .slice c3 d2 c4] 29))).below g1
  have rb := (((Rec.new (w.alloc (.cells #[.bool a0, .slice a1 k0 a2, .slice a3 d0 a4] 29)) #[.bool b0, .slice b1 k1 b2, .slice b3 d1 b4] 29).below (below1 _ (.cells #[.bool c0, .slice c1 k2 c2, .slice c3 d2 c4] 29))).below g1)
  have rc := (Rec.new ((w.alloc (.cells #[.bool a0, .slice a1 k0 a2, .slice a3 d0 a4] 29)).alloc (.cells #[.bool b0, .slice b1 k1 b2, .slice b3 d1 b4] 29)) #[.bool c0, .slice c1 k2 c2, .slice c3 d2 c4] 29).below g1
  rw [size_alloc] at rb
  rw [size_alloc, size_alloc] at rc
  have bw := hid (((((below1 _ _).alloc (by simp) _).alloc (by simp; omega) _) : Below w.heap.size w (((w.alloc (.cells #[.bool a0, .slice a1 k0 a2, .slice a3 d0 a4] 29)).alloc (.cells #[.bool b0, .slice b1 k1 b2, .slice b3 d1 b4] 29)).alloc (.cells #[.bool c0, .slice c1 k2 c2, .slice c3 d2 c4] 29))).trans (g1.mono (B' := w.heap.size) (by simp; omega)))
  have HS0 : Hid (∀ w', Below u1.heap.size u1 w' → w'.cell? ⟨w.heap.size, 0, none⟩ = some (.bool a0) ∧ w'.cell? ⟨w.heap.size, 1, none⟩ = some (.slice a1 k0 a2) ∧ w'.cell? ⟨w.heap.size, 2, none⟩ = some (.slice a3 d0 a4) ∧
      w'.cell? ⟨w.heap.size + 1, 0, none⟩ = some (.bool b0) ∧ w'.cell? ⟨w.heap.size + 1, 1, none⟩ = some (.slice b1 k1 b2) ∧ w'.cell? ⟨w.heap.size + 1, 2, none⟩ = some (.slice b3 d1 b4) ∧
      w'.cell? ⟨w.heap.size + 1 + 1, 0, none⟩ = some (.bool c0) ∧ w'.cell? ⟨w.heap.size + 1 + 1, 1, none⟩ = some (.slice c1 k2 c2) ∧ w'.cell? ⟨w.heap.size + 1 + 1, 2, none⟩ = some (.slice c3 d2 c4) ∧ Below u1.heap.size u1 w') := by
    intro w' hb
    have xa := cells3 (ra.below hb); have xb := cells3 (rb.below hb); have xc := cells3 (rc.below hb)
    exact ⟨xa.1, xa.2.1, xa.2.2, xb.1, xb.2.1, xb.2.2, xc.1, xc.2.1, xc.2.2, hb⟩
  obtain ⟨r, hr⟩ : ∃ r, r = decide ((k0 ≤ 4 ∧ d0 ≤ 4) ∧ (k1 ≤ 4 ∧ d1 ≤ 4) ∧ (k2 ≤ 4 ∧ d2 ≤ 4)) := ⟨_, rfl⟩
  have hfew := few_any u1.heap.size 3 3 (fun | 0 => k0 | 1 => k1 | _ => k2) (fun | 0 => d0 | 1 => d1 | _ => d2) r (u1.alloc (.cells #[.bool a0, .slice a1 k0 a2, .slice a3 d0 a4, .bool b0, .slice b1 k1 b2, .slice b3 d1 b4, .bool c0, .slice c1 k2 c2, .slice c3 d2 c4] 29))
    (fun i hi => by
      match i, hi with
      | 0, _ => exact ⟨a0, a1, a2, a3, a4, nine _ 0, nine _ 1, nine _ 2⟩
      | 1, _ => exact ⟨b0, b1, b2, b3, b4, nine _ 3, nine _ 4, nine _ 5⟩
      | 2, _ => exact ⟨c0, c1, c2, c3, c4, nine _ 6, nine _ 7, nine _ 8⟩)
    (by decide) (by simp) (fun i hi => by
      match i, hi with
      | 0, _ => exact m0
      | 1, _ => exact m1
      | 2, _ => exact m2)
    (by
      rw [hr, decide_eq_true_iff]
      constructor
      · intro h i hi
        match i, hi with
        | 0, _ => exact h.1
        | 1, _ => exact h.2.1
        | 2, _ => exact h.2.2
      · intro h
        exact ⟨h 0 (by decide), h 1 (by decide), h 2 (by decide)⟩)
  have Hfew := hid hfew
  have hcells := HS0.out _ (Below.refl _ _)
  clear hfew g1 ra rb rc m0 m1 m2 Hf
  go_split_ands
  by_cases hall : (k0 ≤ 4 ∧ d0 ≤ 4) ∧ (k1 ≤ 4 ∧ d1 ≤ 4) ∧ (k2 ≤ 4 ∧ d2 ≤ 4)
  · have hrt : r = true := by rw [hr]; exact decide_eq_true hall
    rw [hrt] at Hfew
    clear hr hrt
    obtain ⟨⟨hk0, hd0⟩, ⟨hk1, hd1⟩, ⟨hk2, hd2⟩⟩ := hall
    go_wp2_with fail
    refine Hfew.out.mono ?_
    rintro e u2 ⟨rfl, d2'⟩
    have b12 : Below u1.heap.size u1 u2 := (below1 _ _).trans (d2'.mono (B' := u1.heap.size) (by simp))
    have bw2 := hid (bw.out.trans (b12.mono (B' := w.heap.size) bw.out.size))
    obtain ⟨x, hx⟩ := (H0.out.below bw2.out).q hk0 hd0
    obtain ⟨y, hy⟩ := (H1.out.below bw2.out).q hk1 hd1
    obtain ⟨z, hz⟩ := (H2.out.below bw2.out).q hk2 hd2
    have hx := hx.mono (show 4 ≤ 1000 by decide); have hy := hy.mono (show 4 ≤ 1000 by decide); have hz := hz.mono (show 4 ≤ 1000 by decide)
    obtain ⟨X, Y, Z, eX, eY, eZ, eX', bX, bY, bZ, t1, t2⟩ := order_facts x y z
    have hab := fun w' (hb : Below u2.heap.size u2 w') => QCmp_in (hx.below hb) (hy.below hb)
    have hbc := fun w' (hb : Below u2.heap.size u2 w') => QCmp_in (hy.below hb) (hz.below hb)
    have hac := fun w' (hb : Below u2.heap.size u2 w') => QCmp_in (hx.below hb) (hz.below hb)
    have hba := fun w' (hb : Below u2.heap.size u2 w') => QCmp_in (hy.below hb) (hx.below hb)
    rw [eX] at hab; rw [eY] at hbc; rw [eZ] at hac; rw [eX'] at hba
    have hsub := fun w' (hb : Below u2.heap.size u2 w') => QSub_in (hx.below hb) (hy.below hb)
    have Hab := hid hab; have Hbc := hid hbc; have Hac := hid hac; have Hba := hid hba; have Hsub := hid hsub
    have HX0 : Hid (X = 0 → x - y = 0) := fun h => by rw [cq_zero (eX.trans h), Rat.sub_self]
    have B12 := hid b12
    have HS : Hid (∀ w', Below u2.heap.size u2 w' → w'.cell? ⟨w.heap.size, 0, none⟩ = some (.bool a0) ∧ w'.cell? ⟨w.heap.size, 1, none⟩ = some (.slice a1 k0 a2) ∧ w'.cell? ⟨w.heap.size, 2, none⟩ = some (.slice a3 d0 a4) ∧
      w'.cell? ⟨w.heap.size + 1, 0, none⟩ = some (.bool b0) ∧ w'.cell? ⟨w.heap.size + 1, 1, none⟩ = some (.slice b1 k1 b2) ∧ w'.cell? ⟨w.heap.size + 1, 2, none⟩ = some (.slice b3 d1 b4) ∧
      w'.cell? ⟨w.heap.size + 1 + 1, 0, none⟩ = some (.bool c0) ∧ w'.cell? ⟨w.heap.size + 1 + 1, 1, none⟩ = some (.slice c1 k2 c2) ∧ w'.cell? ⟨w.heap.size + 1 + 1, 2, none⟩ = some (.slice c3 d2 c4) ∧ Below u2.heap.size u2 w') := by
      intro w' hb
      obtain ⟨q1, q2, q3, q4, q5, q6, q7, q8, q9, -⟩ := HS0.out w' (Below.go hb B12.out)
      exact ⟨q1, q2, q3, q4, q5, q6, q7, q8, q9, hb⟩
    clear d2' Hfew b12 hx hy hz hab hbc hac hba hsub eX eY eZ eX' hk0 hd0 hk1 hd1 hk2 hd2 H0 H1 H2 bw HS0
    go_upto_region 5 with fail
    go_region_held3 (fun w' => w'.cell? ⟨w.heap.size, 0, none⟩ = some (.bool a0) ∧ w'.cell? ⟨w.heap.size, 1, none⟩ = some (.slice a1 k0 a2) ∧ w'.cell? ⟨w.heap.size, 2, none⟩ = some (.slice a3 d0 a4) ∧
      w'.cell? ⟨w.heap.size + 1, 0, none⟩ = some (.bool b0) ∧ w'.cell? ⟨w.heap.size + 1, 1, none⟩ = some (.slice b1 k1 b2) ∧ w'.cell? ⟨w.heap.size + 1, 2, none⟩ = some (.slice b3 d1 b4) ∧
      w'.cell? ⟨w.heap.size + 1 + 1, 0, none⟩ = some (.bool c0) ∧ w'.cell? ⟨w.heap.size + 1 + 1, 1, none⟩ = some (.slice c1 k2 c2) ∧ w'.cell? ⟨w.heap.size + 1 + 1, 2, none⟩ = some (.slice c3 d2 c4) ∧ Below u2.heap.size u2 w')
      (first | exact HS.out _ (Below.drew (Below.refl _ _)) | (refine HS.out _ (Below.go hb ?_); go_split_ands; assumption))
      (first
        | (go_at_call 21; (with_reducible refine (Hab.out _ (by go_split_ands; assumption)).mono ?_); rintro e wa ⟨rfl, hb⟩)
        | (go_at_call 21; (with_reducible refine (Hbc.out _ (by go_split_ands; assumption)).mono ?_); rintro e wa ⟨rfl, hb⟩)
        | (go_at_call 21; (with_reducible refine (Hac.out _ (by go_split_ands; assumption)).mono ?_); rintro e wb ⟨rfl, hb⟩))
    rename_i hHeld
    go_split_ands
    have HBb := hid (show Below u2.heap.size u2 wb by assumption)
    have hz0 : ∀ w' v, RatTold w' v 0 → Calls Try.prog 23 #[v] w' (RNum .i64 0 w') := fun w' v h => by
      have := QSign_in (h.qin (k := 1) ⟨by decide, by decide⟩ (by decide))
      rwa [cq_self] at this
    have Hz0 := hid hz0
    clear hz0 hb
    rcases bX with rfl | rfl | rfl <;> rcases bY with rfl | rfl | rfl <;> rcases bZ with rfl | rfl | rfl
    all_goals try (exfalso; omega)
    all_goals
      clear t1 t2
      go_wp2_with fail
      refine (Hba.out _ HBb.out).mono ?_
      rintro e wc ⟨rfl, hb⟩
      have HBc := hid (Below.go hb HBb.out)
      have hk := HS.out _ HBc.out
      clear hb
      go_split_ands
      go_wp2_with fail
      first
        | (go_ret; exact ⟨rfl, bw2.out.trans (HBc.out.mono (B' := w.heap.size) bw2.out.size)⟩)
        | (refine (Hsub.out _ HBc.out).mono ?_
           rintro e wd ⟨vd, rfl, hd, hb⟩
           rw [HX0.out (by first | rfl | trivial)] at hd
           have HBd := hid (Below.go hb HBc.out)
           have Hd := hid hd
           clear hb hd
           go_wp2_with fail
           refine (Hz0.out _ _ Hd.out).mono ?_
           rintro e we ⟨rfl, hb⟩
           have HBe := hid (Below.go hb HBd.out)
           clear hb
           go_wp2_with fail
           go_ret
           exact ⟨rfl, bw2.out.trans (HBe.out.mono (B' := w.heap.size) bw2.out.size)⟩)
  · have hrt : r = false := by rw [hr]; exact decide_eq_false hall
    rw [hrt] at Hfew
    clear hr hrt hall
    go_wp2_with fail
    refine Hfew.out.mono ?_
    rintro e u2 ⟨rfl, d2'⟩
    have bw2 := hid (bw.out.trans (((below1 _ _).trans (d2'.mono (B' := u1.heap.size) (by simp))).mono (B' := w.heap.size) bw.out.size))
    clear d2' Hfew
    go_wp2_with fail
    go_ret
    exact ⟨rfl, bw2.out⟩
end Go.Proofs.Yteiniokddopacaa
/- A number that comes in as data: a bool and a slice of words; how it reads. -/
namespace Go.Proofs.Yteiniokddopacaa
open Go.ChangeShapes Go.WideShapes Go.ChangeAt Go.RowKit Go.Deep Go.Joins Big

theorem laidOut : laidOutB Try.prog = true := by kernel_rfl
theorem fieldsInt : ∃ f0 f1 : Field, Try.prog.underlying 25 = some (.struct #[f0, f1]) ∧ oneCellFields Try.prog #[f0, f1] = true ∧ f0.type = 4 ∧ f1.type = 23 := ⟨_, _, Try.underlying25, by kernel_rfl, rfl, rfl⟩
theorem cellsInt : Try.prog.cellsOf 25 = 2 := by kernel_rfl
theorem cellsU64 : Try.prog.cellsOf 46 = 1 := by kernel_rfl

section
variable {H : Type} {enc : TypeId × Value → H} {w : World} {base : Nat} {spare : Nat → Bool} {held : Bool}
theorem wf_u64 {n : Int} (h : (Lit.int .u64 n).wf = true) : 0 ≤ n ∧ n < (W : Int) := by
  have h' : (decide (IntKind.u64.min ≤ n) && decide (n ≤ IntKind.u64.max)) = true := h
  have e1 : IntKind.u64.min = 0 := by decide
  have e2 : IntKind.u64.max = 18446744073709551615 := by decide
  rw [e1, e2] at h'
  simp only [Bool.and_eq_true, decide_eq_true_eq] at h'
  unfold W
  omega
/-- a slice of words that comes in -/
theorem open_nat {fuel : Nat} {v : Value} {y : DataW H × List MemPlace} (h : DataW.trod enc Try.prog w base spare held fuel 23 [v] = some y) : ∃ l, At w .u64 v l ∧ Small W l := by
  rcases open_ints Try.underlying23 Try.underlying46 cellsU64 h with ⟨hv, -⟩ | ⟨a, len, cap, zs, hv, hb, hl, hm, hz, -, hc, hwf⟩
  · obtain rfl : v = .slice none 0 0 := by simpa using hv
    exact ⟨[], At.nil w .u64, fun n hn => by cases hn⟩
  · obtain rfl : v = .slice (some a) len cap := by simpa using hv
    have hlz : len ≤ zs.length := by rw [hz]; split <;> omega
    refine ⟨(zs.take len).map Int.toNat, ?_, ?_⟩
    · have e : ((zs.take len).map Int.toNat).length = len := by simp [Nat.min_eq_left hlz]
      refine ⟨some a, cap, by rw [e], by rw [e]; exact hl, hm, nofun, fun h0 => ?_⟩
      rw [e] at h0
      have hs := hc 0 (by omega)
      obtain ⟨b, off, spot⟩ := a
      cases spot with
      | some x =>
        exfalso
        revert hs
        unfold World.cell? Addr.add
        split <;> simp
      | none =>
        refine ⟨b, off, rfl, ?_, fun i hi => ?_⟩
        · exact World.block_lt_of_cell? w _ hs
        · rw [e] at hi
          have hci := hc i (by omega)
          have hw := wf_u64 (hwf _ (List.getElem_mem (n := i) (l := zs) (by omega)))
          rw [add_plain] at hci
          rw [hci]
          have hg : zs.getD i 0 = zs[i]'(by omega) := by simp [List.getD, show i < zs.length by omega]
          rw [hg]
          simp only [List.getElem_map, List.getElem_take]
          congr 2
          omega
    · intro n hn
      obtain ⟨x, hx, rfl⟩ := List.mem_map.1 hn
      have hw := wf_u64 (hwf x (List.mem_of_mem_take hx))
      omega
set_option maxRecDepth 100000 in
/-- a number that comes in -/
theorem open_num {r : Reach} {b0 : Nat} {v : Value} {d : DataW H} {p : List MemPlace} (hv : Value.okWide Try.prog w r b0 25 v) (h : DataW.Trod enc Try.prog w base spare held 25 v d p) :
    ∃ neg s l, v = .agg #[.bool neg, s] ∧ At w .u64 s l ∧ Small W l := by
  obtain ⟨f0, f1, hs, hone, e0, e1⟩ := fieldsInt
  obtain ⟨v0, v1, y0, y1, n, rfl, -, -, h0, h1⟩ := open_agg2 hs hone cellsInt hv h
  rw [e0] at h0
  rw [e1] at h1
  obtain ⟨b, hb, -⟩ := DataW.trod_bool Try.underlying4 h0
  obtain ⟨l, ha, hl⟩ := open_nat h1
  obtain rfl : v0 = .bool b := by simpa using hb
  exact ⟨b, v1, l, rfl, ha, hl⟩
end
end Go.Proofs.Yteiniokddopacaa
