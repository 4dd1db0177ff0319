/- Texts put together: Ref2Floor, LawRounds, OpenNum, OpenRat. -/
import Derived.Test.YtlijekppbpefaaaRoundsCardM8
import Derived.Deep.DeepCutAuto
import Derived.Lib.SmallJoins
import Derived.ChangeSlices
import Derived.OpenShut
import Derived.Carry
import Derived.Deep.DeepHandedRow
import Derived.ProofKit
import Derived.ChangeSame
/- elenchusref02's Floor, Ceil. -/
namespace Go.Proofs.Ytlijekppbpefaaa
open Go.RowKit Big

def twoF (q r : Int) : SFact := ⟨fun v w => ∃ d p n c d' p' n' c', v = .tuple #[.agg #[.bool d, .slice p n c], .agg #[.bool d', .slice p' n' c']] ∧ IntAt w (.agg #[.bool d, .slice p n c]) q ∧ IntAt w (.agg #[.bool d', .slice p' n' c']) r,
  fun _ _ _ ⟨d, p, n, c, d', p', n', c', h1, h2, h3⟩ hb => ⟨d, p, n, c, d', p', n', c', h1, h2.below hb, h3.below hb⟩⟩
theorem len10 {vs : List Value} (h : vs.length = 10) : ∃ a b c d e f g h i j, vs = [a, b, c, d, e, f, g, h, i, j] := by
  match vs, h with
  | [a, b, c, d, e, f, g, h, i, j], _ => exact ⟨a, b, c, d, e, f, g, h, i, j, rfl⟩

set_option maxRecDepth 100000 in
set_option maxHeartbeats 3200000 in
theorem RFloor2_any (v : Value) (p q : Int) (w : World) (h : RatRaw w v p q) (sp : sz W p.natAbs ≤ 1000) (sq : sz W q.natAbs ≤ 1000) : Calls Try.prog 10 #[v] w (RInt (p / dn q) w) := by
  have hd : dn q ≠ 0 := by have := dn_pos h.den; omega
  have sqd := sz_dn sq (by decide)
  have HdnNe := hid hd
  clear hd
  obtain ⟨b, p0, n0, c0, p1, n1, c1, rfl, ha0, ha1⟩ := id h
  have H := hid h; have HA := hid ha0; have HD := hid ha1
  clear h ha0 ha1
  go_enter Try.func10, Try.ntmps10
  go_upto_region 1 with fail
  generalize hW : World.alloc (World.alloc w _) _ = W0
  have bw : Below w.heap.size w W0 := by rw [← hW]; exact (below1 _ _).alloc (by simp) _
  have ra : Rec W0 w.heap.size 27 #[.bool b, .slice p0 n0 c0, .slice p1 n1 c1] := by
    rw [← hW]; exact ((Rec.new ..).below (below1 _ _))
  have rz : Rec W0 (w.heap.size + 1) 25 #[.bool false, .slice none 0 0] := by
    rw [← hW]
    have := Rec.new (w.alloc (.cells #[.bool b, .slice p0 n0 c0, .slice p1 n1 c1] 27)) #[.bool false, .slice none 0 0] 25
    rwa [size_alloc] at this
  clear hW
  have H := hid (H.out.below bw); have HA := hid (HA.out.below bw); have Hrz := hid rz; have Hbw := hid bw
  have HS : Hid (∀ w', Below W0.heap.size W0 w' → w'.cell? ⟨w.heap.size, 0, none⟩ = some (.bool b) ∧ w'.cell? ⟨w.heap.size, 1, none⟩ = some (.slice p0 n0 c0) ∧ w'.cell? ⟨w.heap.size, 2, none⟩ = some (.slice p1 n1 c1)) := fun w' hb => cells3 (ra.below hb)
  clear ra rz bw HD
  go_cut [3] (fun s3 wz => ∃ g5, s3 = .pointer (some ⟨g5, 0, none⟩) ∧ IntCell wz g5 (p / dn q) ∧ Rec wz (w.heap.size + 1) 25 #[.bool false, .slice none 0 0] ∧ Below w.heap.size w wz)
  case first =>
    rename_i Jc Kc hJc hKc
    refine wp_region_late (w0 := W0) 10 2 [6, 7, 8, 9, 10, 5, 11, 12, 3, 4] [undef, undef, undef, undef, undef, undef, undef, undef, undef, undef]
      (fun i => match i with | 0 => eqF (.pointer (some ⟨w.heap.size, 0, none⟩)) | 1 => eqF (.agg #[.bool b, .slice p0 n0 c0]) | 2 => eqF (.agg #[.bool b, .slice p0 n0 c0, .slice p1 n1 c1]) | 3 => intF (dn q) | 4 => twoF (p / dn q) (p % dn q) | 5 => twoF (p / dn q) (p % dn q) | 6 => intF (p / dn q) | 7 => intF (p % dn q) | 8 => varF W0.heap.size | _ => varF W0.heap.size) [8, 9] (by kernel_rfl) (by kernel_rfl) (by kernel_rfl) 7 (by decide) (by kernel_rfl) (by decide) rfl (by kernel_rfl) rfl (by simp) ?he12 ?_ ?_ ?_ ?_
    case he12 => simp only [putAll, Act.put, List.setIfInBounds_toArray, List.set_cons_zero, List.set_cons_succ]
    · intro i hi v w' h
      simp only [List.mem_cons, List.not_mem_nil, or_false] at hi
      rcases hi with rfl | rfl
      · obtain ⟨g, hg, hp, -⟩ := (show (varF W0.heap.size).P v w' from h); exact ⟨g, hg, hp.lt⟩
      · obtain ⟨g, hg, hp, -⟩ := (show (varF W0.heap.size).P v w' from h); exact ⟨g, hg, hp.lt⟩
    · intro i o hi ho vs wx hvl hb hdep K hK
      have hvs := len10 hvl
      obtain ⟨s6, s7, s8, s9, s10, s5, s11, s12, s3, s4, rfl⟩ := hvs
      clear hvl
      have hk := HS.out wx hb
      go_split_ands
      rcases i with _ | _ | _ | _ | _ | _ | _ | _ | _ | _ | i
      all_goals (simp only [List.getElem?_toArray, List.getElem?_cons_zero, List.getElem?_cons_succ, Option.some.injEq] at ho)
      all_goals try (subst ho)
      all_goals try simp only [putAll, Act.put, List.setIfInBounds_toArray, List.set_cons_zero, List.set_cons_succ]
      · go_simp
        have hK' := hK.out
        simp only [putAll, Act.put, List.setIfInBounds_toArray, List.set_cons_zero, List.set_cons_succ] at hK'
        exact hK' _ _ rfl (Below.refl _ _) (by simp)
      · have e0 : s6 = _ := hdep ⟨0, .data⟩ (by simp) rfl
        subst e0
        go_simp
        have hK' := hK.out
        simp only [putAll, Act.put, List.setIfInBounds_toArray, List.set_cons_zero, List.set_cons_succ] at hK'
        exact hK' _ _ rfl (Below.refl _ _) (by simp)
      · go_simp
        have hK' := hK.out
        simp only [putAll, Act.put, List.setIfInBounds_toArray, List.set_cons_zero, List.set_cons_succ] at hK'
        exact hK' _ _ rfl (Below.refl _ _) (by simp)
      · have e2 : s8 = _ := hdep ⟨2, .data⟩ (by simp) rfl
        subst e2
        go_simp
        refine (Den_any _ p q _ (H.out.below hb) sq).mono ?_
        rintro e wy ⟨vy, rfl, iy, hby⟩
        have hsh := iy.parts'
        obtain ⟨q5, p5, n5, c5, rfl, iy⟩ := hsh
        go_wp2_with fail
        have hK' := hK.out
        simp only [putAll, Act.put, List.setIfInBounds_toArray, List.set_cons_zero, List.set_cons_succ] at hK'
        exact hK' _ _ ⟨_, _, _, _, rfl, iy⟩ hby (by simp)
      · have e1 : s7 = _ := hdep ⟨1, .data⟩ (by simp) rfl
        subst e1
        have e3 : (intF (dn q)).P s9 wx := hdep ⟨3, .data⟩ (by simp) rfl
        obtain ⟨da3, pa3, na3, ca3, rfl, ia3⟩ := e3
        go_simp
        refine (RDiv_any _ _ _ _ _ (HA.out.below hb) (ia3.raw (by omega)) HdnNe.out (by omega) (by omega)).mono ?_
        rintro e wy ⟨vy, vz, rfl, iy, iz, hby⟩
        have hsh := iy.shape
        obtain ⟨p5, n5, c5, rfl, iy⟩ := hsh
        have hsz := iz.shape
        obtain ⟨p6, n6, c6, rfl, iz⟩ := hsz
        go_wp2_with fail
        have hK' := hK.out
        simp only [putAll, Act.put, List.setIfInBounds_toArray, List.set_cons_zero, List.set_cons_succ] at hK'
        exact hK' _ _ ⟨_, _, _, _, _, _, _, _, rfl, iy, iz⟩ hby (by simp)
      · have e4 : (twoF (p / dn q) (p % dn q)).P s10 wx := hdep ⟨4, .data⟩ (by simp) rfl
        obtain ⟨da4, pa4, na4, ca4, db4, pb4, nb4, cb4, rfl, ia4, ib4⟩ := e4
        go_simp
        have hK' := hK.out
        simp only [putAll, Act.put, List.setIfInBounds_toArray, List.set_cons_zero, List.set_cons_succ] at hK'
        exact hK' _ _ ⟨_, _, _, _, _, _, _, _, rfl, ia4, ib4⟩ (Below.refl _ _) (by simp)
      · have e5 : (twoF (p / dn q) (p % dn q)).P s5 wx := hdep ⟨5, .data⟩ (by simp) rfl
        obtain ⟨da5, pa5, na5, ca5, db5, pb5, nb5, cb5, rfl, ia5, ib5⟩ := e5
        go_simp
        have hK' := hK.out
        simp only [putAll, Act.put, List.setIfInBounds_toArray, List.set_cons_zero, List.set_cons_succ] at hK'
        exact hK' _ _ ⟨_, _, _, _, rfl, ia5⟩ (Below.refl _ _) (by simp)
      · have e5 : (twoF (p / dn q) (p % dn q)).P s5 wx := hdep ⟨5, .data⟩ (by simp) rfl
        obtain ⟨da5, pa5, na5, ca5, db5, pb5, nb5, cb5, rfl, ia5, ib5⟩ := e5
        go_simp
        have hK' := hK.out
        simp only [putAll, Act.put, List.setIfInBounds_toArray, List.set_cons_zero, List.set_cons_succ] at hK'
        exact hK' _ _ ⟨_, _, _, _, rfl, ib5⟩ (Below.refl _ _) (by simp)
      · go_simp
        have hK' := hK.out
        simp only [putAll, Act.put, List.setIfInBounds_toArray, List.set_cons_zero, List.set_cons_succ] at hK'
        exact hK' _ _ ⟨_, rfl, Pair.new .., hb.size⟩ (below1 _ _) (fun _ => rfl)
      · go_simp
        have hK' := hK.out
        simp only [putAll, Act.put, List.setIfInBounds_toArray, List.set_cons_zero, List.set_cons_succ] at hK'
        exact hK' _ _ ⟨_, rfl, Pair.new .., hb.size⟩ (below1 _ _) (fun _ => rfl)
      · omega
    · intro vs wx hvl hb hf hdist
      have hvs := len10 hvl
      obtain ⟨s6, s7, s8, s9, s10, s5, s11, s12, s3, s4, rfl⟩ := hvs
      have f6 : (intF (p / dn q)).P s11 wx := hf 6 (by decide)
      have f8 : VarAt wx W0.heap.size s3 := hf 8 (by decide)
      have f9 : VarAt wx W0.heap.size s4 := hf 9 (by decide)
      have hne : s3 ≠ s4 := hdist 8 (by simp) 9 (by simp) (by decide)
      have f7 : (intF (p % dn q)).P s12 wx := hf 7 (by decide)
      obtain ⟨d8, p8, m8, c8, rfl, i8⟩ := f7
      obtain ⟨d7, p7, m7, c7, rfl, i7⟩ := f6
      obtain ⟨g5, rfl, hp5, hB5⟩ := f8
      obtain ⟨g6, rfl, hp6, hB6⟩ := f9
      have hgne : g5 ≠ g6 := fun e => hne (by rw [e])
      have c5 := hp5.cells
      obtain ⟨_, _, q0, q1, q2, q3⟩ := c5
      have rz := Hrz.out.below hb
      have hgl := Hrz.out.lt
      have HBx := hid (Hbw.out.trans (hb.mono (B' := w.heap.size) Hbw.out.size))
      clear hf hdist hvl hne hb
      refine wpAny_one (i := 10) (by kernel_rfl) rfl ?_
      intro K hK
      simp only [putAll, Act.put, List.setIfInBounds_toArray, List.set_cons_zero, List.set_cons_succ]
      go_simp
      have hK' := hK.out
      apply hK'
      clear hK hK'
      have x5 := IntCell.put hp5 i7
      have hp6' := hp6.apart hgne.symm (.bool d7) (.slice p7 m7 c7)
      have i8' := i8.stored hp5 d7 p7 m7 c7
      have rz' := (rz.apart (show w.heap.size + 1 ≠ g5 by omega) 0 (.bool d7)).apart (show w.heap.size + 1 ≠ g5 by omega) 1 (.slice p7 m7 c7)
      have HBy := hid (Below.stored HBx.out (g := g5) (by have := Hbw.out.size; omega) (.bool d7) (.slice p7 m7 c7))
      clear q0 q1 q2 q3 hp5 hp6 i7 i8 rz HBx
      generalize ((wx.setCell ⟨g5, 0, none⟩ (.bool d7)).setCell ⟨g5, 1, none⟩ (.slice p7 m7 c7)) = wy at *
      have c6 := hp6'.cells
      obtain ⟨_, _, q0, q1, q2, q3⟩ := c6
      refine wpAny_one (i := 11) (by kernel_rfl) rfl ?_
      intro K hK
      go_simp
      have hK' := hK.out
      apply hK'
      clear hK hK'
      refine wpAny_done (by kernel_rfl) ?_ _
      have x5' := x5.apart hp6' hgne d8 p8 m8 c8
      have rz := (rz'.apart (show w.heap.size + 1 ≠ g6 by omega) 0 (.bool d8)).apart (show w.heap.size + 1 ≠ g6 by omega) 1 (.slice p8 m8 c8)
      have HBz := Below.stored HBy.out (g := g6) (by have := Hbw.out.size; omega) (.bool d8) (.slice p8 m8 c8)
      refine hKc _ _ (Met.intro (hJc _ _ ?_))
      (repeat apply Exists.intro)
      exact ⟨⟨g5, rfl, x5', rz, HBz⟩, rfl⟩
    · intro vs wx hvl hb hf hdist
      have hvs := len10 hvl
      obtain ⟨s6, s7, s8, s9, s10, s5, s11, s12, s3, s4, rfl⟩ := hvs
      have f6 : (intF (p / dn q)).P s11 wx := hf 6 (by decide) (by decide)
      have f8 : VarAt wx W0.heap.size s3 := hf 8 (by decide) (by decide)
      have f9 : VarAt wx W0.heap.size s4 := hf 9 (by decide) (by decide)
      have hne : s3 ≠ s4 := hdist 8 (by simp) 9 (by simp) (by decide) (by decide) (by decide)
      have f5 : (twoF (p / dn q) (p % dn q)).P s5 wx := hf 5 (by decide) (by decide)
      obtain ⟨d9, p9, m9, c9, d8, p8, m8, c8, rfl, -, i8⟩ := f5
      obtain ⟨d7, p7, m7, c7, rfl, i7⟩ := f6
      obtain ⟨g5, rfl, hp5, hB5⟩ := f8
      obtain ⟨g6, rfl, hp6, hB6⟩ := f9
      have hgne : g5 ≠ g6 := fun e => hne (by rw [e])
      have c5 := hp5.cells
      obtain ⟨_, _, q0, q1, q2, q3⟩ := c5
      have rz := Hrz.out.below hb
      have hgl := Hrz.out.lt
      have HBx := hid (Hbw.out.trans (hb.mono (B' := w.heap.size) Hbw.out.size))
      clear hf hdist hvl hne hb
      refine wpAny_two (i := 7) (j := 10) (by kernel_rfl) rfl rfl ?_ ?_
      · intro K hK
        simp only [putAll, Act.put, List.setIfInBounds_toArray, List.set_cons_zero, List.set_cons_succ]
        go_simp
        have hK' := hK.out
        apply hK'
        clear hK hK'
        refine wpAny_one (i := 10) (by kernel_rfl) rfl ?_
        intro K hK
        go_simp
        have hK' := hK.out
        apply hK'
        clear hK hK'
        have x5 := IntCell.put hp5 i7
        have hp6' := hp6.apart hgne.symm (.bool d7) (.slice p7 m7 c7)
        have i8' := i8.stored hp5 d7 p7 m7 c7
        have rz' := (rz.apart (show w.heap.size + 1 ≠ g5 by omega) 0 (.bool d7)).apart (show w.heap.size + 1 ≠ g5 by omega) 1 (.slice p7 m7 c7)
        have HBy := hid (Below.stored HBx.out (g := g5) (by have := Hbw.out.size; omega) (.bool d7) (.slice p7 m7 c7))
        clear q0 q1 q2 q3 hp5 hp6 i7 i8 rz HBx
        generalize ((wx.setCell ⟨g5, 0, none⟩ (.bool d7)).setCell ⟨g5, 1, none⟩ (.slice p7 m7 c7)) = wy at *
        have c6 := hp6'.cells
        obtain ⟨_, _, q0, q1, q2, q3⟩ := c6
        refine wpAny_one (i := 11) (by kernel_rfl) rfl ?_
        intro K hK
        go_simp
        have hK' := hK.out
        apply hK'
        clear hK hK'
        refine wpAny_done (by kernel_rfl) ?_ _
        have x5' := x5.apart hp6' hgne d8 p8 m8 c8
        have rz := (rz'.apart (show w.heap.size + 1 ≠ g6 by omega) 0 (.bool d8)).apart (show w.heap.size + 1 ≠ g6 by omega) 1 (.slice p8 m8 c8)
        have HBz := Below.stored HBy.out (g := g6) (by have := Hbw.out.size; omega) (.bool d8) (.slice p8 m8 c8)
        refine hKc _ _ (Met.intro (hJc _ _ ?_))
        (repeat apply Exists.intro)
        exact ⟨⟨g5, rfl, x5', rz, HBz⟩, rfl⟩
      · intro K hK
        simp only [putAll, Act.put, List.setIfInBounds_toArray, List.set_cons_zero, List.set_cons_succ]
        go_simp
        have hK' := hK.out
        apply hK'
        clear hK hK'
        have x5 := IntCell.put hp5 i7
        have hp6' := hp6.apart hgne.symm (.bool d7) (.slice p7 m7 c7)
        have i8' := i8.stored hp5 d7 p7 m7 c7
        have rz' := (rz.apart (show w.heap.size + 1 ≠ g5 by omega) 0 (.bool d7)).apart (show w.heap.size + 1 ≠ g5 by omega) 1 (.slice p7 m7 c7)
        have HBy := hid (Below.stored HBx.out (g := g5) (by have := Hbw.out.size; omega) (.bool d7) (.slice p7 m7 c7))
        clear q0 q1 q2 q3 hp5 hp6 i7 i8 rz HBx
        generalize ((wx.setCell ⟨g5, 0, none⟩ (.bool d7)).setCell ⟨g5, 1, none⟩ (.slice p7 m7 c7)) = wy at *
        have c6 := hp6'.cells
        obtain ⟨_, _, q0, q1, q2, q3⟩ := c6
        refine wpAny_one (i := 7) (by kernel_rfl) rfl ?_
        intro K hK
        go_simp
        have hK' := hK.out
        apply hK'
        clear hK hK'
        refine wpAny_one (i := 11) (by kernel_rfl) rfl ?_
        intro K hK
        go_simp
        have hK' := hK.out
        apply hK'
        clear hK hK'
        refine wpAny_done (by kernel_rfl) ?_ _
        have x5' := x5.apart hp6' hgne d8 p8 m8 c8
        have rz := (rz'.apart (show w.heap.size + 1 ≠ g6 by omega) 0 (.bool d8)).apart (show w.heap.size + 1 ≠ g6 by omega) 1 (.slice p8 m8 c8)
        have HBz := Below.stored HBy.out (g := g6) (by have := Hbw.out.size; omega) (.bool d8) (.slice p8 m8 c8)
        refine hKc _ _ (Met.intro (hJc _ _ ?_))
        (repeat apply Exists.intro)
        exact ⟨⟨g5, rfl, x5', rz, HBz⟩, rfl⟩

  case rest =>
    obtain ⟨g5, rfl, C5, rz, HBz⟩ := hcut
    obtain ⟨d8, p8, m8, c8, e8, i8⟩ := id C5
    have e8' := two_cells e8
    obtain ⟨y0, y1, -, -⟩ := e8'
    have xz0 := rz.cell 0; have xz1 := rz.cell 1
    simp only [List.getElem?_toArray, List.getElem?_cons_zero, List.getElem?_cons_succ] at xz0 xz1
    have fz := frozen4 rz
    obtain ⟨g0, g1, -, -⟩ := fz
    have m := put2 rz (by simp [nonInt]) (.bool d8) (.slice p8 m8 c8) (by simp [nonInt])
    have mi := hid (m.2.int _ _ i8)
    have mb := hid (m.2.bel w.heap.size w (by omega) HBz)
    clear m rz HBz i8 e8 C5
    go_wp2
    exact bodyPost_ret (v := .agg #[.bool d8, .slice p8 m8 c8]) (by simp [results, Try.results10, go_sem, xz0, xz1]) rfl ⟨_, rfl, mi.out, mb.out⟩

set_option maxRecDepth 100000 in
set_option maxHeartbeats 3200000 in
theorem RCeil2_any (v : Value) (p q : Int) (w : World) (h : RatRaw w v p q) (hp : sz W p.natAbs ≤ 1000) (hq : sz W q.natAbs ≤ 1000) : Calls Try.prog 11 #[v] w (RInt (-(-p / dn q)) w) := by
  have hdiv : sz W (-p / dn q).natAbs ≤ 1099511627776 := by
    refine Nat.le_trans (sz_mono W2 (Int.natAbs_ediv_le_natAbs _ _)) ?_
    rw [Int.natAbs_neg]; omega
  have Hdiv := hid hdiv
  have hd := dn_pos h.den
  have Hsz : Hid (RSz (-(Rat.divInt p (dn q))) 1000) := (RSz.of (show dn q ≠ 0 by omega) hp (sz_dn hq (by decide))).neg
  have Hfq : Hid ((-(Rat.divInt p (dn q))).num / dn (((-(Rat.divInt p (dn q))).den : Nat) : Int) = -p / dn q) := by
    have h1 : dn (((-(Rat.divInt p (dn q))).den : Nat) : Int) = (((-(Rat.divInt p (dn q))).den : Nat) : Int) := by unfold dn; rw [if_neg (den_ne _)]
    unfold Hid
    rw [h1, floor_low hd, ← Rat.floor_def, Rat.neg_divInt]
  clear hd
  clear hdiv
  obtain ⟨b, p0, n0, c0, p1, n1, c1, rfl, ha0, ha1⟩ := id h
  have H := hid h; have HA := hid ha0; have HD := hid ha1
  clear h ha0 ha1
  go_enter Try.func11, Try.ntmps11
  go_upto_region 1 with fail
  generalize hW : World.alloc (World.alloc w _) _ = W0
  have bw : Below w.heap.size w W0 := by rw [← hW]; exact (below1 _ _).alloc (by simp) _
  have ra : Rec W0 w.heap.size 27 #[.bool b, .slice p0 n0 c0, .slice p1 n1 c1] := by
    rw [← hW]; exact ((Rec.new ..).below (below1 _ _))
  have rz : Rec W0 (w.heap.size + 1) 25 #[.bool false, .slice none 0 0] := by
    rw [← hW]
    have := Rec.new (w.alloc (.cells #[.bool b, .slice p0 n0 c0, .slice p1 n1 c1] 27)) #[.bool false, .slice none 0 0] 25
    rwa [size_alloc] at this
  clear hW
  have x := cells3 ra
  obtain ⟨x0, x1, x2⟩ := x
  have hng := RNeg2_any _ p q W0 (H.out.below bw) hp hq
  have Hng := hid hng; have Hbw := hid bw; have Hrz := hid rz
  clear hng bw ra H HA HD rz
  go_wp2_with fail
  refine Hng.out.mono ?_
  rintro e w1 ⟨v1, rfl, i1, b1⟩
  obtain ⟨e1, e2, e3, e4, e5, e6, e7, rfl, -⟩ := id i1
  have hfl := RFloor2_any _ _ _ w1 (i1.raw (Nat.le_trans Hsz.out.1 (by decide)) (Nat.le_trans Hsz.out.2 (by decide))) Hsz.out.1 (by have := Hsz.out.2; rwa [Int.natAbs_natCast])
  rw [Hfq.out] at hfl
  have Hfl := hid hfl
  clear hfl
  have Hb1 := hid b1
  clear i1 b1 Hng x0 x1 x2
  go_wp2_with fail
  refine Hfl.out.mono ?_
  rintro e w2 ⟨v2, rfl, i2, b2⟩
  have i2p := i2.parts'
  obtain ⟨f1, f2, f3, f4, rfl, i2⟩ := i2p
  have Hn := hid (RNeg_any _ _ w2 (i2.raw Hdiv.out))
  have Hb2 := hid b2
  clear i2 b2 Hfl
  go_wp2_with fail
  refine Hn.out.mono ?_
  rintro e w3 ⟨v3, rfl, i3, b3⟩
  have i3p := i3.parts'
  obtain ⟨d0, q0, m0, k0, rfl, i3⟩ := i3p
  have b03 : Below W0.heap.size W0 w3 := (Hb1.out.trans (Hb2.out.mono (B' := W0.heap.size) Hb1.out.size)).trans (b3.mono (B' := W0.heap.size) (Nat.le_trans Hb1.out.size Hb2.out.size))
  have bw : Below w.heap.size w w3 := Hbw.out.trans (b03.mono (B' := w.heap.size) Hbw.out.size)
  have rz := Hrz.out.below b03
  have xz0 := rz.cell 0; have xz1 := rz.cell 1
  simp only [List.getElem?_toArray, List.getElem?_cons_zero, List.getElem?_cons_succ] at xz0 xz1
  have f := frozen4 rz
  obtain ⟨g0, g1, -, -⟩ := f
  have m := put2 rz (by simp [nonInt]) (.bool d0) (.slice q0 m0 k0) (by simp [nonInt])
  have mi := hid (m.2.int _ _ i3)
  have mb := hid (m.2.bel w.heap.size w (by omega) bw)
  clear m rz bw b03 i3 b3 Hb1 Hb2 Hn Hrz
  go_wp2
  exact bodyPost_ret (v := .agg #[.bool d0, .slice q0 m0 k0]) (by simp [results, Try.results11, go_sem, xz0, xz1]) rfl ⟨_, rfl, mi.out, mb.out⟩


end Go.Proofs.Ytlijekppbpefaaa
/- elenchuslaw02.RatioRounds answers true. -/
namespace Go.Proofs.Ytlijekppbpefaaa
open Go.RowKit Big

theorem dig_same (a b : Int) (h : decide (a < 0) = decide (b < 0)) : decide (dig W a.natAbs = dig W b.natAbs) = decide (a = b) := by
  rw [decide_eq_decide]
  constructor
  · intro e
    have e2 := congrArg (val W) e
    rw [val_dig W2, val_dig W2] at e2
    rw [decide_eq_decide] at h
    omega
  · rintro rfl; rfl
theorem sign_apart (a b : Int) (h : (decide (a < 0) == decide (b < 0)) = false) : decide (a = b) = false := by
  rw [decide_eq_false_iff_not]
  rintro rfl
  simp at h

set_option maxHeartbeats 800000 in
theorem SameInt_told (v0 v1 : Value) (a b : Int) (w : World) (h0 : IntAt w v0 a) (h1 : IntAt w v1 b) :
    Calls Try.prog 9 #[v0, v1] w (RBool (decide (a = b)) w) := by
  obtain ⟨s0, rfl, a0⟩ := h0
  obtain ⟨s1, rfl, a1⟩ := h1
  obtain ⟨r, hr⟩ : ∃ r, r = decide (a = b) := ⟨_, rfl⟩
  rw [← hr]
  have hd := dig_same a b; have hs := sign_apart a b
  rw [← hr] at hd hs
  obtain ⟨n0, hn0⟩ : ∃ n, n = decide (a < 0) := ⟨_, rfl⟩
  obtain ⟨n1, hn1⟩ : ∃ n, n = decide (b < 0) := ⟨_, rfl⟩
  rw [← hn0] at hd hs ⊢
  rw [← hn1] at hd hs ⊢
  have Hd := hid hd; have Hs := hid hs
  clear hr hd hs hn0 hn1
  by_cases hn : n0 = n1
  · subst hn
    have g : ∀ o o', Calls Try.prog 27 #[s0, s1] ((w.alloc o).alloc o') (RDrawn (.bool r) ((w.alloc o).alloc o')) := fun o o' => by
      have := Same_any s0 s1 _ _ _ ((a0.alloc o).alloc o') ((a1.alloc o).alloc o')
      rwa [Hd.out rfl] at this
    have G := hid g
    clear g a0 a1
    go_enter Try.func9, Try.ntmps9
    go_wp2_with fail
    refine (G.out _ _).mono ?_
    rintro e w' ⟨rfl, k, rfl⟩
    go_wp2_with fail
    go_ret
    exact ⟨rfl, below_drewN ((below1 _ _).alloc (by simp) _) _⟩
  · have hn' : (n0 == n1) = false := by simpa using hn
    have hr := Hs.out hn'
    subst hr
    clear hn a0 a1 Hs Hd
    go_enter Try.func9, Try.ntmps9
    go_wp2
    go_ret
    exact ⟨rfl, (below1 _ _).alloc (by simp) _⟩

set_option maxRecDepth 100000 in
set_option maxHeartbeats 6400000 in
theorem lawRounds_any (v0 : Value) (k0 d0 : Nat) (w : World) (h0 : RatIn w v0 k0 d0) : Calls Try.prog 3 #[v0] w (RBool true w) := by
  have H0 := hid h0
  have m0 := h0.le
  obtain ⟨a0, a1, a2, a3, a4, -, -, rfl, -⟩ := h0
  have hf := fun o => fixed2_any (w.alloc o)
  have Hf := hid hf
  clear hf
  go_enter Try.func3, Try.ntmps3
  go_wp2_with fail
  refine (Hf.out _).mono ?_
  rintro e u1 ⟨rfl, g1⟩
  have ra := (Rec.new w #[.bool a0, .slice a1 k0 a2, .slice a3 d0 a4] 27).below g1
  have bw := hid ((below1 w (.cells #[.bool a0, .slice a1 k0 a2, .slice a3 d0 a4] 27)).trans (g1.mono (B' := w.heap.size) (by simp)))
  have HS0 : Hid (∀ w', Below u1.heap.size u1 w' → w'.cell? ⟨w.heap.size, 0, none⟩ = some (.bool a0) ∧ w'.cell? ⟨w.heap.size, 1, none⟩ = some (.slice a1 k0 a2) ∧ w'.cell? ⟨w.heap.size, 2, none⟩ = some (.slice a3 d0 a4)) := by
    intro w' hb
    exact cells3 (ra.below hb)
  obtain ⟨r, hr⟩ : ∃ r, r = decide (k0 ≤ 4 ∧ d0 ≤ 4) := ⟨_, rfl⟩
  have hfew := few_any u1.heap.size 1 1 (fun _ => k0) (fun _ => d0) r (u1.alloc (.cells #[.bool a0, .slice a1 k0 a2, .slice a3 d0 a4] 27))
    (fun i hi => by
      match i, hi with
      | 0, _ => exact ⟨a0, a1, a2, a3, a4, cell_of_row _ _ 0 _ _ (0, 0) (heap_alloc_new u1 _), cell_of_row _ _ 1 _ _ (0, 0) (heap_alloc_new u1 _), cell_of_row _ _ 2 _ _ (0, 0) (heap_alloc_new u1 _)⟩)
    (by decide) (by simp) (fun i hi => m0)
    (by
      rw [hr, decide_eq_true_iff]
      exact ⟨fun h i _ => h, fun h => h 0 (by decide)⟩)
  have Hfew := hid hfew
  have hcells := HS0.out _ (Below.refl _ _)
  clear hfew g1 ra m0 Hf
  go_split_ands
  by_cases hall : k0 ≤ 4 ∧ d0 ≤ 4
  · have hrt : r = true := by rw [hr]; exact decide_eq_true hall
    rw [hrt] at Hfew
    clear hr hrt
    obtain ⟨hk0, hd0⟩ := hall
    go_wp2_with fail
    refine Hfew.out.mono ?_
    rintro e u2 ⟨rfl, d2'⟩
    have b12 : Below u1.heap.size u1 u2 := (below1 _ _).trans (d2'.mono (B' := u1.heap.size) (by simp))
    have bw2 := hid (bw.out.trans (b12.mono (B' := w.heap.size) bw.out.size))
    obtain ⟨x, hx⟩ := (H0.out.below bw2.out).q hk0 hd0
    obtain ⟨p, q, hx, -, l0, l1⟩ := hx
    have HX := hid hx; have B12 := hid b12
    have hk := HS0.out _ b12
    have HS : Hid (∀ w', Below u2.heap.size u2 w' → w'.cell? ⟨w.heap.size, 0, none⟩ = some (.bool a0) ∧ w'.cell? ⟨w.heap.size, 1, none⟩ = some (.slice a1 k0 a2) ∧ w'.cell? ⟨w.heap.size, 2, none⟩ = some (.slice a3 d0 a4)) := fun w' hb => HS0.out w' (Below.go hb B12.out)
    have HF1 : Hid (∀ w', Below u2.heap.size u2 w' → Calls Try.prog 7 #[.agg #[.bool a0, .slice a1 k0 a2, .slice a3 d0 a4]] w' (RInt (p / dn q) w')) := fun w' hb => Floor_any _ p q w' (HX.out.below hb)
    have HF2 : Hid (∀ w', Below u2.heap.size u2 w' → Calls Try.prog 10 #[.agg #[.bool a0, .slice a1 k0 a2, .slice a3 d0 a4]] w' (RInt (p / dn q) w')) := fun w' hb => RFloor2_any _ p q w' (HX.out.below hb) (by omega) (by omega)
    have HC1 : Hid (∀ w', Below u2.heap.size u2 w' → Calls Try.prog 8 #[.agg #[.bool a0, .slice a1 k0 a2, .slice a3 d0 a4]] w' (RInt (-(-p / dn q)) w')) := fun w' hb => Ceil_any _ p q w' (HX.out.below hb) (by omega)
    have HC2 : Hid (∀ w', Below u2.heap.size u2 w' → Calls Try.prog 11 #[.agg #[.bool a0, .slice a1 k0 a2, .slice a3 d0 a4]] w' (RInt (-(-p / dn q)) w')) := fun w' hb => RCeil2_any _ p q w' (HX.out.below hb) (by omega) (by omega)
    obtain ⟨t, ht⟩ : ∃ t, t = decide (p % dn q = 0) := ⟨_, rfl⟩
    have HI1 : Hid (∀ w', Below u2.heap.size u2 w' → Calls Try.prog 12 #[.agg #[.bool a0, .slice a1 k0 a2, .slice a3 d0 a4]] w' (RBool t w')) := fun w' hb => by rw [ht]; exact Is_any _ p q w' (HX.out.below hb) (by omega)
    have Ht : Hid (decide (p / dn q = -(-p / dn q)) = t) := by
      unfold Hid
      rw [ht, decide_eq_decide]
      exact (whole_iff (dn_pos hx.den)).symm
    clear d2' Hfew b12 hx hk0 hd0 H0 bw HS0 B12 l0 l1 ht HX
    generalize p / dn q = X at *
    generalize -(-p / dn q) = Y at *
    go_split_ands
    go_upto_region 5 with fail
    go_cut [3, 4] (fun s3 s4 wz => ∃ g3 g4, s3 = .pointer (some ⟨g3, 0, none⟩) ∧ s4 = .pointer (some ⟨g4, 0, none⟩) ∧ IntCell wz g3 X ∧ IntCell wz g4 Y ∧ Below u2.heap.size u2 wz)
    case first =>
      rename_i Jc Kc hJc hKc
      refine wp_region_facts (w0 := u2) 6 2 [11, 12, 13, 14, 3, 4] [undef, undef, undef, undef, undef, undef]
        (fun i => match i with | 0 => eqF (.agg #[.bool a0, .slice a1 k0 a2, .slice a3 d0 a4]) | 1 => intF X | 2 => eqF (.agg #[.bool a0, .slice a1 k0 a2, .slice a3 d0 a4]) | 3 => intF Y | 4 => varF u2.heap.size | _ => varF u2.heap.size) [4, 5] (by kernel_rfl) (by kernel_rfl) (by kernel_rfl) (by kernel_rfl) (by decide) rfl (by kernel_rfl) rfl (by simp) ?he13 ?_ ?_ ?_
      case he13 => simp only [putAll, Act.put, List.setIfInBounds_toArray, List.set_cons_zero, List.set_cons_succ]
      · intro i hi v w' h
        simp only [List.mem_cons, List.not_mem_nil, or_false] at hi
        rcases hi with rfl | rfl
        · obtain ⟨g, hg, hp, -⟩ := (show (varF u2.heap.size).P v w' from h); exact ⟨g, hg, hp.lt⟩
        · obtain ⟨g, hg, hp, -⟩ := (show (varF u2.heap.size).P v w' from h); exact ⟨g, hg, hp.lt⟩
      · intro i o hi ho vs wx hvl hb hdep K hK
        have hvs := len6 hvl
        obtain ⟨s11, s12, s13, s14, s3, s4, rfl⟩ := hvs
        clear hvl
        have hk := HS.out wx hb
        go_split_ands
        rcases i with _ | _ | _ | _ | _ | _ | i
        all_goals (simp only [List.getElem?_toArray, List.getElem?_cons_zero, List.getElem?_cons_succ, Option.some.injEq] at ho)
        all_goals try (subst ho)
        all_goals try simp only [putAll, Act.put, List.setIfInBounds_toArray, List.set_cons_zero, List.set_cons_succ]
        · go_simp
          have hK' := hK.out
          simp only [putAll, Act.put, List.setIfInBounds_toArray, List.set_cons_zero, List.set_cons_succ] at hK'
          exact hK' _ _ rfl (Below.refl _ _) (by simp)
        · have e0 : s11 = _ := hdep ⟨0, .data⟩ (by simp) rfl
          subst e0
          go_simp
          refine (HF1.out _ hb).mono ?_
          rintro e wy ⟨vy, rfl, iy, hby⟩
          have hsh := iy.parts'
          obtain ⟨q5, p5, n5, c5, rfl, iy⟩ := hsh
          go_wp2_with fail
          have hK' := hK.out
          simp only [putAll, Act.put, List.setIfInBounds_toArray, List.set_cons_zero, List.set_cons_succ] at hK'
          exact hK' _ _ ⟨_, _, _, _, rfl, iy⟩ hby (by simp)
        · go_simp
          have hK' := hK.out
          simp only [putAll, Act.put, List.setIfInBounds_toArray, List.set_cons_zero, List.set_cons_succ] at hK'
          exact hK' _ _ rfl (Below.refl _ _) (by simp)
        · have e2 : s13 = _ := hdep ⟨2, .data⟩ (by simp) rfl
          subst e2
          go_simp
          refine (HC1.out _ hb).mono ?_
          rintro e wy ⟨vy, rfl, iy, hby⟩
          have hsh := iy.parts'
          obtain ⟨q5, p5, n5, c5, rfl, iy⟩ := hsh
          go_wp2_with fail
          have hK' := hK.out
          simp only [putAll, Act.put, List.setIfInBounds_toArray, List.set_cons_zero, List.set_cons_succ] at hK'
          exact hK' _ _ ⟨_, _, _, _, rfl, iy⟩ hby (by simp)
        · go_simp
          have hK' := hK.out
          simp only [putAll, Act.put, List.setIfInBounds_toArray, List.set_cons_zero, List.set_cons_succ] at hK'
          exact hK' _ _ ⟨_, rfl, Pair.new .., hb.size⟩ (below1 _ _) (fun _ => rfl)
        · go_simp
          have hK' := hK.out
          simp only [putAll, Act.put, List.setIfInBounds_toArray, List.set_cons_zero, List.set_cons_succ] at hK'
          exact hK' _ _ ⟨_, rfl, Pair.new .., hb.size⟩ (below1 _ _) (fun _ => rfl)
        · omega
      · intro vs wx hvl hb hf hdist
        have hvs := len6 hvl
        obtain ⟨s11, s12, s13, s14, s3, s4, rfl⟩ := hvs
        have f1 : (intF X).P s12 wx := hf 1 (by decide)
        have f3 : (intF Y).P s14 wx := hf 3 (by decide)
        have f4 : VarAt wx u2.heap.size s3 := hf 4 (by decide)
        have f5 : VarAt wx u2.heap.size s4 := hf 5 (by decide)
        have hne : s3 ≠ s4 := hdist 4 (by simp) 5 (by simp) (by decide)
        obtain ⟨d7, p7, m7, c7, rfl, i7⟩ := f1
        obtain ⟨d8, p8, m8, c8, rfl, i8⟩ := f3
        obtain ⟨g5, rfl, hp5, hB5⟩ := f4
        obtain ⟨g6, rfl, hp6, hB6⟩ := f5
        have hgne : g5 ≠ g6 := fun e => hne (by rw [e])
        have c5 := hp5.cells
        obtain ⟨_, _, q0, q1, q2, q3⟩ := c5
        have HBx := hid hb
        clear hf hdist hvl hne hb
        refine wpAny_one (i := 6) (by kernel_rfl) rfl ?_
        intro K hK
        simp only [putAll, Act.put, List.setIfInBounds_toArray, List.set_cons_zero, List.set_cons_succ]
        go_simp
        have hK' := hK.out
        apply hK'
        clear hK hK'
        have x5 := IntCell.put hp5 i7
        have hp6' := hp6.apart hgne.symm (.bool d7) (.slice p7 m7 c7)
        have i8' := i8.stored hp5 d7 p7 m7 c7
        have HBy := hid (Below.stored HBx.out (g := g5) hB5 (.bool d7) (.slice p7 m7 c7))
        clear q0 q1 q2 q3 hp5 hp6 i7 i8 HBx
        generalize ((wx.setCell ⟨g5, 0, none⟩ (.bool d7)).setCell ⟨g5, 1, none⟩ (.slice p7 m7 c7)) = wy at *
        have c6 := hp6'.cells
        obtain ⟨_, _, q0, q1, q2, q3⟩ := c6
        refine wpAny_one (i := 7) (by kernel_rfl) rfl ?_
        intro K hK
        go_simp
        have hK' := hK.out
        apply hK'
        clear hK hK'
        refine wpAny_done (by kernel_rfl) ?_ _
        have x5' := x5.apart hp6' hgne d8 p8 m8 c8
        have x6 := IntCell.put hp6' i8'
        have HBz := Below.stored HBy.out (g := g6) hB6 (.bool d8) (.slice p8 m8 c8)
        refine hKc _ _ (Met.intro (hJc _ _ ?_))
        (repeat apply Exists.intro)
        exact ⟨⟨g5, g6, rfl, rfl, x5', x6, HBz⟩, rfl⟩
    case rest =>
      obtain ⟨g3, g4, rfl, rfl, C3, C4, HBz⟩ := hcut
      obtain ⟨e0, e1, e2, e3, ec, ei⟩ := id C3
      obtain ⟨f0, f1, f2, f3, fc, fi⟩ := id C4
      have HE := hid ei; have HF := hid fi
      have HSz : Hid (∀ w', Below wc.heap.size wc w' → w'.cell? ⟨w.heap.size, 0, none⟩ = some (.bool a0) ∧ w'.cell? ⟨w.heap.size, 1, none⟩ = some (.slice a1 k0 a2) ∧ w'.cell? ⟨w.heap.size, 2, none⟩ = some (.slice a3 d0 a4) ∧ w'.cell? ⟨g3, 0, none⟩ = some (.bool e0) ∧ w'.cell? ⟨g3, 1, none⟩ = some (.slice e1 e2 e3) ∧ w'.cell? ⟨g4, 0, none⟩ = some (.bool f0) ∧ w'.cell? ⟨g4, 1, none⟩ = some (.slice f1 f2 f3) ∧ Below wc.heap.size wc w') := by
        intro w' hb
        obtain ⟨q1, q2, q3⟩ := HS.out w' (Below.go hb HBz)
        have z3 := two_cells ((hb.block g3 (Array.getElem?_eq_some_iff.1 ec).1).trans ec)
        have z4 := two_cells ((hb.block g4 (Array.getElem?_eq_some_iff.1 fc).1).trans fc)
        exact ⟨q1, q2, q3, z3.1, z3.2.1, z4.1, z4.2.1, hb⟩
      have HBz := hid HBz
      clear ei fi ec fc C3 C4 HS HF1 HC1
      go_upto_region 6 with fail
      go_region_held3 (fun w' => w'.cell? ⟨w.heap.size, 0, none⟩ = some (.bool a0) ∧ w'.cell? ⟨w.heap.size, 1, none⟩ = some (.slice a1 k0 a2) ∧ w'.cell? ⟨w.heap.size, 2, none⟩ = some (.slice a3 d0 a4) ∧ w'.cell? ⟨g3, 0, none⟩ = some (.bool e0) ∧ w'.cell? ⟨g3, 1, none⟩ = some (.slice e1 e2 e3) ∧ w'.cell? ⟨g4, 0, none⟩ = some (.bool f0) ∧ w'.cell? ⟨g4, 1, none⟩ = some (.slice f1 f2 f3) ∧ Below wc.heap.size wc w')
        (first | exact HSz.out _ (Below.drew (Below.refl _ _)) | (refine HSz.out _ (Below.go hb ?_); go_split_ands; assumption))
        (first
          | (go_at_call 10; refine (HF2.out _ (Below.go (by go_split_ands; assumption) HBz.out)).mono ?_; rintro e wa ⟨v1, rfl, i1, hb⟩; have I1 := hid i1; clear i1)
          | (go_at_call_of 9 (v1); refine (SameInt_same _ _ X _ (HE.out.below (by go_split_ands; assumption)) I1.out).mono ?_; rintro e wb ⟨rfl, hb⟩; clear I1)
          | (go_at_call 11; refine (HC2.out _ (Below.go (by go_split_ands; assumption) HBz.out)).mono ?_; rintro e wh ⟨v2, rfl, i2, hb⟩; have I2 := hid i2; clear i2)
          | (go_at_call_of 9 (v2); refine (SameInt_same _ _ Y _ (HF.out.below (by go_split_ands; assumption)) I2.out).mono ?_; rintro e wd ⟨rfl, hb⟩; clear I2)
          | (go_at_call 12; refine (HI1.out _ (Below.go (by go_split_ands; assumption) HBz.out)).mono ?_; rintro e we ⟨rfl, hb⟩)
          | (go_at_call_of 9 (e1); have hsi := SameInt_told _ _ X Y _ (HE.out.below (by go_split_ands; assumption)) (HF.out.below (by go_split_ands; assumption)); rw [Ht.out] at hsi; refine hsi.mono ?_; rintro e wf ⟨rfl, hb⟩; clear hsi))
      all_goals
        rename_i hHeld
        go_split_ands
        go_wp2_with fail
        go_ret
        first
          | exact ⟨by simp, bw2.out.trans ((Below.go (show Below wc.heap.size wc wf by assumption) HBz.out).mono (B' := w.heap.size) bw2.out.size)⟩
          | exact ⟨by simp, bw2.out.trans ((Below.go (show Below wc.heap.size wc we by assumption) HBz.out).mono (B' := w.heap.size) bw2.out.size)⟩
  · have hrt : r = false := by rw [hr]; exact decide_eq_false hall
    rw [hrt] at Hfew
    clear hr hrt hall
    go_wp2_with fail
    refine Hfew.out.mono ?_
    rintro e u2 ⟨rfl, d2'⟩
    have bw2 := hid (bw.out.trans (((below1 _ _).trans (d2'.mono (B' := u1.heap.size) (by simp))).mono (B' := w.heap.size) bw.out.size))
    clear d2' Hfew
    go_wp2_with fail
    go_ret
    exact ⟨rfl, bw2.out⟩
end Go.Proofs.Ytlijekppbpefaaa
/- A number that comes in as data: a bool and a slice of words; how it reads. -/
namespace Go.Proofs.Ytlijekppbpefaaa
open Go.ChangeShapes Go.WideShapes Go.ChangeAt Go.RowKit Go.Deep Go.Joins Big

theorem laidOut : laidOutB Try.prog = true := by kernel_rfl
theorem fieldsInt : ∃ f0 f1 : Field, Try.prog.underlying 25 = some (.struct #[f0, f1]) ∧ oneCellFields Try.prog #[f0, f1] = true ∧ f0.type = 4 ∧ f1.type = 23 := ⟨_, _, Try.underlying25, by kernel_rfl, rfl, rfl⟩
theorem cellsInt : Try.prog.cellsOf 25 = 2 := by kernel_rfl
theorem cellsU64 : Try.prog.cellsOf 43 = 1 := by kernel_rfl

section
variable {H : Type} {enc : TypeId × Value → H} {w : World} {base : Nat} {spare : Nat → Bool} {held : Bool}
theorem wf_u64 {n : Int} (h : (Lit.int .u64 n).wf = true) : 0 ≤ n ∧ n < (W : Int) := by
  have h' : (decide (IntKind.u64.min ≤ n) && decide (n ≤ IntKind.u64.max)) = true := h
  have e1 : IntKind.u64.min = 0 := by decide
  have e2 : IntKind.u64.max = 18446744073709551615 := by decide
  rw [e1, e2] at h'
  simp only [Bool.and_eq_true, decide_eq_true_eq] at h'
  unfold W
  omega
/-- a slice of words that comes in -/
theorem open_nat {fuel : Nat} {v : Value} {y : DataW H × List MemPlace} (h : DataW.trod enc Try.prog w base spare held fuel 23 [v] = some y) : ∃ l, At w .u64 v l ∧ Small W l := by
  rcases open_ints Try.underlying23 Try.underlying43 cellsU64 h with ⟨hv, -⟩ | ⟨a, len, cap, zs, hv, hb, hl, hm, hz, -, hc, hwf⟩
  · obtain rfl : v = .slice none 0 0 := by simpa using hv
    exact ⟨[], At.nil w .u64, fun n hn => by cases hn⟩
  · obtain rfl : v = .slice (some a) len cap := by simpa using hv
    have hlz : len ≤ zs.length := by rw [hz]; split <;> omega
    refine ⟨(zs.take len).map Int.toNat, ?_, ?_⟩
    · have e : ((zs.take len).map Int.toNat).length = len := by simp [Nat.min_eq_left hlz]
      refine ⟨some a, cap, by rw [e], by rw [e]; exact hl, hm, nofun, fun h0 => ?_⟩
      rw [e] at h0
      have hs := hc 0 (by omega)
      obtain ⟨b, off, spot⟩ := a
      cases spot with
      | some x =>
        exfalso
        revert hs
        unfold World.cell? Addr.add
        split <;> simp
      | none =>
        refine ⟨b, off, rfl, ?_, fun i hi => ?_⟩
        · exact World.block_lt_of_cell? w _ hs
        · rw [e] at hi
          have hci := hc i (by omega)
          have hw := wf_u64 (hwf _ (List.getElem_mem (n := i) (l := zs) (by omega)))
          rw [add_plain] at hci
          rw [hci]
          have hg : zs.getD i 0 = zs[i]'(by omega) := by simp [List.getD, show i < zs.length by omega]
          rw [hg]
          simp only [List.getElem_map, List.getElem_take]
          congr 2
          omega
    · intro n hn
      obtain ⟨x, hx, rfl⟩ := List.mem_map.1 hn
      have hw := wf_u64 (hwf x (List.mem_of_mem_take hx))
      omega
set_option maxRecDepth 100000 in
/-- a number that comes in -/
theorem open_num {r : Reach} {b0 : Nat} {v : Value} {d : DataW H} {p : List MemPlace} (hv : Value.okWide Try.prog w r b0 25 v) (h : DataW.Trod enc Try.prog w base spare held 25 v d p) :
    ∃ neg s l, v = .agg #[.bool neg, s] ∧ At w .u64 s l ∧ Small W l := by
  obtain ⟨f0, f1, hs, hone, e0, e1⟩ := fieldsInt
  obtain ⟨v0, v1, y0, y1, n, rfl, -, -, h0, h1⟩ := open_agg2 hs hone cellsInt hv h
  rw [e0] at h0
  rw [e1] at h1
  obtain ⟨b, hb, -⟩ := DataW.trod_bool Try.underlying4 h0
  obtain ⟨l, ha, hl⟩ := open_nat h1
  obtain rfl : v0 = .bool b := by simpa using hb
  exact ⟨b, v1, l, rfl, ha, hl⟩
end
end Go.Proofs.Ytlijekppbpefaaa
/- A fraction that comes in as data: how it reads. -/
namespace Go.Proofs.Ytlijekppbpefaaa
open Go.ChangeShapes Go.WideShapes Go.ChangeAt Go.RowKit Go.Deep Go.Joins Big

theorem own : ownKnob Try.prog.godebug = none := by kernel_rfl
theorem fieldsRat : ∃ f0 f1 : Field, Try.prog.underlying 27 = some (.struct #[f0, f1]) ∧ f0.type = 25 ∧ f1.type = 23 ∧ f0.offset = 0 ∧ f1.offset = 2 := ⟨_, _, Try.underlying27, rfl, rfl, rfl, rfl⟩
theorem fieldsInt2 : ∃ f0 f1 : Field, Try.prog.underlying 25 = some (.struct #[f0, f1]) ∧ f0.type = 4 ∧ f1.type = 23 ∧ f0.offset = 0 ∧ f1.offset = 1 := ⟨_, _, Try.underlying25, rfl, rfl, rfl, rfl⟩
theorem cellsRat : Try.prog.cellsOf 27 = 3 := by kernel_rfl
theorem cellsInt2 : Try.prog.cellsOf 25 = 2 := by kernel_rfl
theorem cellsNat : Try.prog.cellsOf 23 = 1 := by kernel_rfl
theorem cellsBool : Try.prog.cellsOf 4 = 1 := by kernel_rfl
section
variable {H : Type} {enc : TypeId × Value → H} {w : World} {base : Nat} {spare : Nat → Bool} {held : Bool}
set_option maxRecDepth 100000 in
theorem open_rat {r : Reach} {b0 : Nat} {v : Value} {d : DataW H} {p : List MemPlace} (hv : Value.okWide Try.prog w r b0 27 v) (h : DataW.Trod enc Try.prog w base spare held 27 v d p) :
    ∃ k0 k1, RatIn w v k0 k1 := by
  obtain ⟨f0, f1, hs, e0, e1, o0, o1⟩ := fieldsRat
  obtain ⟨cs, rfl, hsz⟩ := okWide_struct hs hv
  obtain ⟨fuel, hf⟩ := h
  obtain ⟨y0, y1, n, -, hl, h0, h1⟩ := trod_struct2 hs hf
  rw [e0, o0] at h0
  rw [e1, o1] at h1
  rw [cellsRat] at hl
  rw [cellsInt2] at h0
  rw [cellsNat] at h1
  obtain ⟨a, b, c, hcs⟩ : ∃ a b c, cs = #[a, b, c] := by
    obtain ⟨l⟩ := cs
    have hl' : l.length = 3 := by simpa [Value.cells] using hl
    match l, hl' with
    | [a, b, c], _ => exact ⟨a, b, c, rfl⟩
  subst hcs
  have h0' : DataW.trod enc Try.prog w base spare held n 25 [a, b] = some y0 := h0
  have h1' : DataW.trod enc Try.prog w base spare held n 23 [c] = some y1 := h1
  obtain ⟨g0, g1, hs2, e2, e3, o2, o3⟩ := fieldsInt2
  obtain ⟨z0, z1, m, -, -, k0, k1⟩ := trod_struct2 hs2 h0'
  rw [e2, o2, cellsBool] at k0
  rw [e3, o3, cellsNat] at k1
  have k0' : DataW.trod enc Try.prog w base spare held m 4 [a] = some z0 := k0
  have k1' : DataW.trod enc Try.prog w base spare held m 23 [b] = some z1 := k1
  obtain ⟨q, hq, -⟩ := DataW.trod_bool Try.underlying4 k0'
  obtain ⟨l0, ha, hl0⟩ := open_nat k1'
  obtain ⟨l1, hc, hl1⟩ := open_nat h1'
  obtain rfl : a = .bool q := by simpa using hq
  obtain ⟨p0, c0, rfl, r0⟩ := id ha
  obtain ⟨p1, c1, rfl, r1⟩ := id hc
  exact ⟨_, _, q, p0, c0, p1, c1, l0, l1, rfl, ha, hc, hl0, hl1, rfl, rfl⟩
end
end Go.Proofs.Ytlijekppbpefaaa
