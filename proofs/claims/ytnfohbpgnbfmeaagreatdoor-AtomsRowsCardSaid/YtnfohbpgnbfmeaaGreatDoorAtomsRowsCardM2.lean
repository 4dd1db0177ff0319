/- Texts put together: LnSame2, AtLawRows. -/
import Derived.Test.YtnfohbpgnbfmeaaGreatDoorAtomsRowsCardM1
/- elenchusref06.Same of any two told sums. Made by gen_lnsame2.py. -/
namespace Go.Proofs.YtnfohbpgnbfmeaaGreatDoor
open Go.RowKit Big

theorem vlenS29 {vs : List Value} (h : vs.length = 29) : ∃ v0 v1 v2 v3 v4 v5 v6 v7 v8 v9 v10 v11 v12 v13 v14 v15 v16 v17 v18 v19 v20 v21 v22 v23 v24 v25 v26 v27 v28, vs = [v0, v1, v2, v3, v4, v5, v6, v7, v8, v9, v10, v11, v12, v13, v14, v15, v16, v17, v18, v19, v20, v21, v22, v23, v24, v25, v26, v27, v28] := by
  match vs, h with
  | v0 :: v1 :: v2 :: v3 :: v4 :: v5 :: v6 :: v7 :: v8 :: v9 :: v10 :: v11 :: v12 :: v13 :: v14 :: v15 :: v16 :: v17 :: v18 :: v19 :: v20 :: v21 :: v22 :: v23 :: v24 :: v25 :: v26 :: v27 :: v28 :: [], _ => exact ⟨v0, v1, v2, v3, v4, v5, v6, v7, v8, v9, v10, v11, v12, v13, v14, v15, v16, v17, v18, v19, v20, v21, v22, v23, v24, v25, v26, v27, v28, rfl⟩
set_option maxRecDepth 100000 in
set_option maxHeartbeats 25600000 in
theorem Same6_any (va vb : Value) (a b : List (Int × Int) × Int) (w : World) (ha : LnT w va a) (hb : LnT w vb b) (hl : a.1.length ≤ 1000000000000) (hlb : b.1.length ≤ 1000000000000) : Calls Tryz.prog 17 #[va, vb] w (RBool (decide (a = b)) w) := by
  obtain ⟨l, x⟩ := a
  obtain ⟨m, y⟩ := b
  obtain ⟨pv, s, rfl, ⟨pa, ca, rfl, ia1, -, -, ia4⟩, hxa⟩ := ha
  obtain ⟨pv', s', rfl, ⟨pb, cb, rfl, ib1, -, -, ib4⟩, hxb⟩ := hb
  have hl : l.length ≤ 1000000000000 := hl
  have hlb : m.length ≤ 1000000000000 := hlb
  have ia1 : l.length ≤ ca := ia1
  have ib1 : m.length ≤ cb := ib1
  have HA4 := hid ia4; have HB4 := hid ib4
  have hsh := hxa.shape
  obtain ⟨px, nx, cx, ex, hxa⟩ := hsh
  injection ex with ex
  obtain rfl : s = .slice px nx cx := by simpa using ex
  have hsh := hxb.shape
  obtain ⟨py, ny, cy, ey, hxb⟩ := hsh
  injection ey with ey
  obtain rfl : s' = .slice py ny cy := by simpa using ey
  clear ex ey
  show Calls Tryz.prog 17 #[.agg #[.slice pa l.length ca, .bool (decide (x < 0)), .slice px nx cx], .agg #[.slice pb m.length cb, .bool (decide (y < 0)), .slice py ny cy]] w (RBool (decide ((l, x) = (m, y))) w)
  obtain ⟨W, hW⟩ : ∃ W, W = (w.alloc (.cells #[.slice pa l.length ca, .bool (decide (x < 0)), .slice px nx cx] 37)).alloc (.cells #[.slice pb m.length cb, .bool (decide (y < 0)), .slice py ny cy] 37) := ⟨_, rfl⟩
  have b0 : Below w.heap.size w W := by rw [hW]; exact (below1 w _).alloc (by simp) _
  have z0 : W.heap.size = w.heap.size + 2 := by rw [hW, size_alloc, size_alloc]
  have e0 : W.heap[w.heap.size]? = some (.cells #[.slice pa l.length ca, .bool (decide (x < 0)), .slice px nx cx] 37 (0, 0)) := by rw [hW, heap_alloc_old _ _ (by simp)]; exact heap_alloc_new w _
  have e1 : W.heap[w.heap.size + 1]? = some (.cells #[.slice pb m.length cb, .bool (decide (y < 0)), .slice py ny cy] 37 (0, 0)) := by
    have := heap_alloc_new (w.alloc (.cells #[.slice pa l.length ca, .bool (decide (x < 0)), .slice px nx cx] 37)) (.cells #[.slice pb m.length cb, .bool (decide (y < 0)), .slice py ny cy] 37)
    rw [size_alloc] at this
    rw [hW]; exact this
  have HXa := hid (hxa.below b0); have HXb := hid (hxb.below b0)
  have B0 := hid b0; have Z0 := hid z0
  obtain ⟨L, hLL⟩ : ∃ L, L = l.length := ⟨_, rfl⟩
  obtain ⟨M, hMM⟩ : ∃ L, L = m.length := ⟨_, rfl⟩
  have HLL := hid hLL; have HMM := hid hMM
  rw [← hLL] at hl e0 hW ia1 ⊢
  rw [← hMM] at hlb e1 hW ib1 ⊢
  generalize decide (x < 0) = nn at *
  generalize decide (y < 0) = nm at *
  obtain ⟨res, hres⟩ : ∃ r, r = decide ((l, x) = (m, y)) := ⟨_, rfl⟩
  rw [← hres]
  have Hres := hid hres
  have E0 := hid e0; have E1 := hid e1
  obtain ⟨y0, y1, y2⟩ := lnCells3 e0
  obtain ⟨y3, y4, y5⟩ := lnCells3 e1
  clear hxa hxb ia4 ib4 b0 e0 e1 z0 hLL hMM hres
  by_cases hLM : L = M
  case neg =>
    have hd : ((L : Int) == (M : Int)) = false := by rw [beq_eq_false_iff_ne]; omega
    obtain rfl : res = false := by
      rw [Hres.out, decide_eq_false_iff_not]
      intro e
      injection e with e _
      exact hLM (by rw [HLL.out, HMM.out, e])
    go_enter Tryz.func17, Tryz.ntmps17
    go_upto_region 1 with fail
    rw [← hW]
    clear hW
    go_wp2
    go_ret
    exact ⟨rfl, B0.out⟩
  case pos =>
  subst hLM
  have HSx := hid (SameInt_told10 _ _ x y W HXa.out HXb.out)
  go_enter Tryz.func17, Tryz.ntmps17
  go_upto_region 1 with fail
  rw [← hW]
  clear hW
  go_wp2_with fail
  refine HSx.out.mono ?_
  rintro e w1 ⟨rfl, b1⟩
  have HB1 := hid b1
  have HB1w := hid (lnGo b1 B0.out)
  have hz1 := b1.size
  obtain ⟨y0, y1, y2⟩ := lnCells3 ((b1.block w.heap.size (by have := Z0.out; omega)).trans E0.out)
  clear b1 y3 y4 y5 HSx
  by_cases hxy : x = y
  case neg =>
    have hd : decide (x = y) = false := by simpa using hxy
    obtain rfl : res = false := by
      rw [Hres.out, decide_eq_false_iff_not]
      intro e
      injection e with _ e
      exact hxy e
    go_wp2
    go_ret
    exact ⟨rfl, HB1w.out⟩
  case pos =>
  have hd : decide (x = y) = true := by simpa using hxy
  have Hxy := hid hxy
  clear hxy
  go_wp2_with fail
  clear y0 y1 y2
  go_loopw [24] (fun i wr => ∃ (k : Nat), k ≤ L ∧ i = .int .i64 (k : Nat) ∧ Hid (l.take k = m.take k) ∧ Hid (Below W.heap.size W wr)) (fun i _ => L - (intOf i).toNat)
  case atStart => exact ⟨0, Nat.zero_le _, rfl, hid (by simp), HB1⟩
  case round =>
    obtain ⟨k, hk, rfl, HT, HB⟩ := hrel
    have HBw := hid (lnGo HB.out B0.out)
    by_cases hlt : k < L
    · have hkt : k < l.length := by rw [← HLL.out]; exact hlt
      have hkm : k < m.length := by rw [← HMM.out]; exact hlt
      have hlt' : (k : Int) < (L : Int) := by omega
      obtain ⟨ba, oa, rfl, hba, hca⟩ := HA4.out (by show 0 < l.length; omega)
      obtain ⟨bb, ob, rfl, hbb, hcb⟩ := HB4.out (by show 0 < m.length; omega)
      obtain ⟨cs, ka, s1, ecs, i1, -⟩ := hca k hkt
      obtain ⟨cs', kb, s2, ecs', i2, -⟩ := hcb k hkm
      have hsh := i1.shape
      obtain ⟨qa, na, da, e1, i1⟩ := hsh
      injection e1 with e1
      obtain rfl : s1 = .slice qa na da := by simpa using e1
      have hsh := i2.shape
      obtain ⟨qb, nb, db, e2, i2⟩ := hsh
      injection e2 with e2
      obtain rfl : s2 = .slice qb nb db := by simpa using e2
      clear e1 e2
      have ecs : cs = [.bool (decide ((l[k]'hkt).1 < 0)), .slice qa na da, .int .i64 (l[k]'hkt).2] := ecs
      have ecs' : cs' = [.bool (decide ((m[k]'hkm).1 < 0)), .slice qb nb db, .int .i64 (m[k]'hkm).2] := ecs'
      subst ecs ecs'
      have a0 := (HBw.out.cell (p := ⟨ba, oa + k * 3, none⟩) hba).trans (ka 0 _ rfl)
      have a1 := (HBw.out.cell (p := ⟨ba, oa + k * 3 + 1, none⟩) hba).trans (ka 1 _ rfl)
      have a2 := (HBw.out.cell (p := ⟨ba, oa + k * 3 + 2, none⟩) hba).trans (ka 2 _ rfl)
      have b0 := (HBw.out.cell (p := ⟨bb, ob + k * 3, none⟩) hbb).trans (kb 0 _ rfl)
      have b1 := (HBw.out.cell (p := ⟨bb, ob + k * 3 + 1, none⟩) hbb).trans (kb 1 _ rfl)
      have b2 := (HBw.out.cell (p := ⟨bb, ob + k * 3 + 2, none⟩) hbb).trans (kb 2 _ rfl)
      have hia : IntAt wr (.agg #[.bool (decide ((l[k]'hkt).1 < 0)), .slice qa na da]) (l[k]'hkt).1 := i1.below HBw.out
      have hib : IntAt wr (.agg #[.bool (decide ((m[k]'hkm).1 < 0)), .slice qb nb db]) (m[k]'hkm).1 := i2.below HBw.out
      have hsn : l.take (k + 1) = m.take (k + 1) ↔ l[k]'hkt = m[k]'hkm := by
        rw [List.take_succ_eq_append_getElem hkt, List.take_succ_eq_append_getElem hkm, HT.out]
        exact ⟨fun h => by simpa using List.append_cancel_left h, fun h => by rw [h]⟩
      have hns : l[k]'hkt ≠ m[k]'hkm → res = false := fun hn => by
        rw [Hres.out, decide_eq_false_iff_not]
        intro e
        injection e with e _
        subst e
        exact hn rfl
      have hzr := HB.out.size
      generalize l[k]'hkt = pa1 at *
      generalize m[k]'hkm = pb1 at *
      obtain ⟨c1, t1⟩ := pa1
      obtain ⟨c2, t2⟩ := pb1
      have a0 : wr.cell? ⟨ba, oa + k * 3, none⟩ = some (.bool (decide (c1 < 0))) := a0
      have a2 : wr.cell? ⟨ba, oa + k * 3 + 2, none⟩ = some (.int .i64 t1) := a2
      have b0 : wr.cell? ⟨bb, ob + k * 3, none⟩ = some (.bool (decide (c2 < 0))) := b0
      have b2 : wr.cell? ⟨bb, ob + k * 3 + 2, none⟩ = some (.int .i64 t2) := b2
      have hia : IntAt wr (.agg #[.bool (decide (c1 < 0)), .slice qa na da]) c1 := hia
      have hib : IntAt wr (.agg #[.bool (decide (c2 < 0)), .slice qb nb db]) c2 := hib
      generalize decide (c1 < 0) = ga at *
      generalize decide (c2 < 0) = gb at *
      have hbar : ba < wr.heap.size := Nat.lt_of_lt_of_le hba HBw.out.size
      have hbbr : bb < wr.heap.size := Nat.lt_of_lt_of_le hbb HBw.out.size
      have HSi := hid (fun w' (hb : Below wr.heap.size wr w') => SameInt_told10 _ _ c1 c2 w' (hia.below hb) (hib.below hb))
      have HS : Hid (∀ w', Below wr.heap.size wr w' → w'.cell? ⟨w.heap.size, 0, none⟩ = some (.slice (some ⟨ba, oa, none⟩) L ca) ∧ w'.cell? ⟨w.heap.size + 1, 0, none⟩ = some (.slice (some ⟨bb, ob, none⟩) L cb) ∧
          (w'.cell? ⟨ba, oa + k * 3, none⟩ = some (.bool ga) ∧ w'.cell? ⟨ba, oa + k * 3 + 1, none⟩ = some (.slice qa na da) ∧ w'.cell? ⟨ba, oa + k * 3 + 2, none⟩ = some (.int .i64 t1)) ∧
          (w'.cell? ⟨bb, ob + k * 3, none⟩ = some (.bool gb) ∧ w'.cell? ⟨bb, ob + k * 3 + 1, none⟩ = some (.slice qb nb db) ∧ w'.cell? ⟨bb, ob + k * 3 + 2, none⟩ = some (.int .i64 t2))) := hid fun w' hb => by
        have hzz := Z0.out
        obtain ⟨t0, -, -⟩ := lnCells3 ((hb.block w.heap.size (by omega)).trans ((HB.out.block w.heap.size (by omega)).trans E0.out))
        obtain ⟨t1, -, -⟩ := lnCells3 ((hb.block (w.heap.size + 1) (by omega)).trans ((HB.out.block (w.heap.size + 1) (by omega)).trans E1.out))
        have ca' : ∀ o, w'.cell? ⟨ba, o, none⟩ = wr.cell? ⟨ba, o, none⟩ := fun o => hb.cell (p := ⟨ba, o, none⟩) hbar
        have cb' : ∀ o, w'.cell? ⟨bb, o, none⟩ = wr.cell? ⟨bb, o, none⟩ := fun o => hb.cell (p := ⟨bb, o, none⟩) hbbr
        exact ⟨t0, t1, ⟨(ca' _).trans a0, (ca' _).trans a1, (ca' _).trans a2⟩, (cb' _).trans b0, (cb' _).trans b1, (cb' _).trans b2⟩
      have Hsn := hid hsn; have Hns := hid hns
      clear a0 a1 a2 b0 b1 b2 ka kb hca hcb i1 i2 HA4 HB4 hia hib hsn hns HT
      go_upto_region 6 with fail
      by_cases ht : t1 = t2
      case neg =>
        obtain rfl : res = false := Hns.out (fun e => ht (by injection e))
        refine wp_region_facts (w0 := wr) 29 0 [27, 28, 29, 30, 31, 32, 33, 34, 35, 36, 37, 38, 39, 40, 41, 42, 43, 44, 45, 46, 47, 48, 49, 50, 51, 52, 53, 54, 55] [u27, u28, u29, u30, u31, u32, u33, u34, u35, u36, u37, u38, u39, u40, u41, u42, u43, u44, u45, u46, u47, u48, u49, u50, u51, u52, u53, u54, u55]
          (fun i => match i with | 0 => lnE (.pointer (some ⟨w.heap.size, 0, none⟩)) | 1 => lnE (.slice (some ⟨ba, oa, none⟩) L ca) | 2 => lnE (.int .i64 (k : Nat)) | 3 => lnE (.pointer (some ⟨ba, oa + k * 3, none⟩)) | 4 => lnE (.pointer (some ⟨ba, oa + k * 3 + 2, none⟩)) | 5 => lnE (.int .i64 t1) | 6 => lnE (.pointer (some ⟨w.heap.size + 1, 0, none⟩)) | 7 => lnE (.slice (some ⟨bb, ob, none⟩) L cb) | 8 => lnE (.int .i64 (k : Nat)) | 9 => lnE (.pointer (some ⟨bb, ob + k * 3, none⟩)) | 10 => lnE (.pointer (some ⟨bb, ob + k * 3 + 2, none⟩)) | 11 => lnE (.int .i64 t2) | 12 => lnE (.bool true) | 13 => lnE (.bool true) | 14 => lnE (undef) | 15 => lnE (undef) | 16 => lnE (undef) | 17 => lnE (undef) | 18 => lnE (undef) | 19 => lnE (undef) | 20 => lnE (undef) | 21 => lnE (undef) | 22 => lnE (undef) | 23 => lnE (undef) | 24 => lnE (undef) | 25 => lnE (undef) | 26 => lnE (undef) | 27 => lnE (undef) | _ => lnE (.bool true)) [] (by kernel_rfl) (by kernel_rfl) (by kernel_rfl) (by kernel_rfl) (by decide) rfl (by kernel_rfl) rfl (by simp) ?he1 ?_ ?_ ?_
        case he1 => simp only [putAll, Act.put, List.setIfInBounds_toArray, List.set_cons_zero, List.set_cons_succ]
        · intro i hi; simp at hi
        · intro i o hi ho vs wx hvl hb hdep K hK
          have hvs := vlenS29 hvl
          obtain ⟨s27, s28, s29, s30, s31, s32, s33, s34, s35, s36, s37, s38, s39, s40, s41, s42, s43, s44, s45, s46, s47, s48, s49, s50, s51, s52, s53, s54, s55, rfl⟩ := hvs
          clear hvl
          have hk5 := HS.out wx hb
          obtain ⟨y0, y1, ⟨y2, y3, y4⟩, y5, y6, y7⟩ := hk5
          rcases i with _ | _ | _ | _ | _ | _ | _ | _ | _ | _ | _ | _ | _ | _ | _ | _ | _ | _ | _ | _ | _ | _ | _ | _ | _ | _ | _ | _ | _ | i
          all_goals (simp only [List.getElem?_toArray, List.getElem?_cons_zero, List.getElem?_cons_succ, Option.some.injEq] at ho)
          all_goals try (subst ho)
          all_goals try simp only [putAll, Act.put, List.setIfInBounds_toArray, List.set_cons_zero, List.set_cons_succ]
          · go_simp
            have hK' := hK.out
            simp only [putAll, Act.put, List.setIfInBounds_toArray, List.set_cons_zero, List.set_cons_succ] at hK'
            exact hK' _ _ rfl (Below.refl _ _) (by simp)
          · have e0 : s27 = _ := hdep ⟨0, .data⟩ (by simp) rfl
            have e0 := e0.symm
            subst e0
            go_simp
            have hK' := hK.out
            simp only [putAll, Act.put, List.setIfInBounds_toArray, List.set_cons_zero, List.set_cons_succ] at hK'
            exact hK' _ _ rfl (Below.refl _ _) (by simp)
          · go_simp
            have hK' := hK.out
            simp only [putAll, Act.put, List.setIfInBounds_toArray, List.set_cons_zero, List.set_cons_succ] at hK'
            exact hK' _ _ rfl (Below.refl _ _) (by simp)
          · have e1 : s28 = _ := hdep ⟨1, .data⟩ (by simp) rfl
            have e1 := e1.symm
            subst e1
            have e2 : s29 = _ := hdep ⟨2, .data⟩ (by simp) rfl
            have e2 := e2.symm
            subst e2
            go_simp
            have hK' := hK.out
            simp only [putAll, Act.put, List.setIfInBounds_toArray, List.set_cons_zero, List.set_cons_succ] at hK'
            exact hK' _ _ rfl (Below.refl _ _) (by simp)
          · have e3 : s30 = _ := hdep ⟨3, .data⟩ (by simp) rfl
            have e3 := e3.symm
            subst e3
            go_simp
            have hK' := hK.out
            simp only [putAll, Act.put, List.setIfInBounds_toArray, List.set_cons_zero, List.set_cons_succ] at hK'
            exact hK' _ _ rfl (Below.refl _ _) (by simp)
          · have e4 : s31 = _ := hdep ⟨4, .data⟩ (by simp) rfl
            have e4 := e4.symm
            subst e4
            go_simp
            have hK' := hK.out
            simp only [putAll, Act.put, List.setIfInBounds_toArray, List.set_cons_zero, List.set_cons_succ] at hK'
            exact hK' _ _ rfl (Below.refl _ _) (by simp)
          · go_simp
            have hK' := hK.out
            simp only [putAll, Act.put, List.setIfInBounds_toArray, List.set_cons_zero, List.set_cons_succ] at hK'
            exact hK' _ _ rfl (Below.refl _ _) (by simp)
          · have e6 : s33 = _ := hdep ⟨6, .data⟩ (by simp) rfl
            have e6 := e6.symm
            subst e6
            go_simp
            have hK' := hK.out
            simp only [putAll, Act.put, List.setIfInBounds_toArray, List.set_cons_zero, List.set_cons_succ] at hK'
            exact hK' _ _ rfl (Below.refl _ _) (by simp)
          · go_simp
            have hK' := hK.out
            simp only [putAll, Act.put, List.setIfInBounds_toArray, List.set_cons_zero, List.set_cons_succ] at hK'
            exact hK' _ _ rfl (Below.refl _ _) (by simp)
          · have e7 : s34 = _ := hdep ⟨7, .data⟩ (by simp) rfl
            have e7 := e7.symm
            subst e7
            have e8 : s35 = _ := hdep ⟨8, .data⟩ (by simp) rfl
            have e8 := e8.symm
            subst e8
            go_simp
            have hK' := hK.out
            simp only [putAll, Act.put, List.setIfInBounds_toArray, List.set_cons_zero, List.set_cons_succ] at hK'
            exact hK' _ _ rfl (Below.refl _ _) (by simp)
          · have e9 : s36 = _ := hdep ⟨9, .data⟩ (by simp) rfl
            have e9 := e9.symm
            subst e9
            go_simp
            have hK' := hK.out
            simp only [putAll, Act.put, List.setIfInBounds_toArray, List.set_cons_zero, List.set_cons_succ] at hK'
            exact hK' _ _ rfl (Below.refl _ _) (by simp)
          · have e10 : s37 = _ := hdep ⟨10, .data⟩ (by simp) rfl
            have e10 := e10.symm
            subst e10
            go_simp
            have hK' := hK.out
            simp only [putAll, Act.put, List.setIfInBounds_toArray, List.set_cons_zero, List.set_cons_succ] at hK'
            exact hK' _ _ rfl (Below.refl _ _) (by simp)
          · have e5 : s32 = _ := hdep ⟨5, .data⟩ (by simp) rfl
            have e5 := e5.symm
            subst e5
            have e11 : s38 = _ := hdep ⟨11, .data⟩ (by simp) rfl
            have e11 := e11.symm
            subst e11
            go_simp
            have hK' := hK.out
            simp only [putAll, Act.put, List.setIfInBounds_toArray, List.set_cons_zero, List.set_cons_succ] at hK'
            exact hK' _ _ (show _ = Value.bool true by simpa using ht) (Below.refl _ _) (by simp)
          · have e12 : s39 = _ := hdep ⟨12, .data⟩ (by simp) rfl
            have e12 := e12.symm
            subst e12
            go_simp
            have hK' := hK.out
            simp only [putAll, Act.put, List.setIfInBounds_toArray, List.set_cons_zero, List.set_cons_succ] at hK'
            exact hK' _ _ rfl (Below.refl _ _) (by simp)
          · go_simp
            have eg : s40 = _ := hdep ⟨13, .guard⟩ (by simp) rfl
            have eg := eg.symm
            subst eg
            first | go_simp | skip
            try rw [if_neg (by simp [undef])]
            have hK' := hK.out
            simp only [putAll, Act.put, List.setIfInBounds_toArray, List.set_cons_zero, List.set_cons_succ] at hK'
            exact hK' _ _ rfl (Below.refl _ _) (by simp)
          · go_simp
            have eg : s40 = _ := hdep ⟨13, .guard⟩ (by simp) rfl
            have eg := eg.symm
            subst eg
            first | go_simp | skip
            try rw [if_neg (by simp [undef])]
            have hK' := hK.out
            simp only [putAll, Act.put, List.setIfInBounds_toArray, List.set_cons_zero, List.set_cons_succ] at hK'
            exact hK' _ _ rfl (Below.refl _ _) (by simp)
          · go_simp
            have eg : s40 = _ := hdep ⟨13, .guard⟩ (by simp) rfl
            have eg := eg.symm
            subst eg
            first | go_simp | skip
            try rw [if_neg (by simp [undef])]
            have hK' := hK.out
            simp only [putAll, Act.put, List.setIfInBounds_toArray, List.set_cons_zero, List.set_cons_succ] at hK'
            exact hK' _ _ rfl (Below.refl _ _) (by simp)
          · go_simp
            have eg : s40 = _ := hdep ⟨13, .guard⟩ (by simp) rfl
            have eg := eg.symm
            subst eg
            first | go_simp | skip
            try rw [if_neg (by simp [undef])]
            have hK' := hK.out
            simp only [putAll, Act.put, List.setIfInBounds_toArray, List.set_cons_zero, List.set_cons_succ] at hK'
            exact hK' _ _ rfl (Below.refl _ _) (by simp)
          · go_simp
            have eg : s40 = _ := hdep ⟨13, .guard⟩ (by simp) rfl
            have eg := eg.symm
            subst eg
            first | go_simp | skip
            try rw [if_neg (by simp [undef])]
            have hK' := hK.out
            simp only [putAll, Act.put, List.setIfInBounds_toArray, List.set_cons_zero, List.set_cons_succ] at hK'
            exact hK' _ _ rfl (Below.refl _ _) (by simp)
          · go_simp
            have eg : s40 = _ := hdep ⟨13, .guard⟩ (by simp) rfl
            have eg := eg.symm
            subst eg
            first | go_simp | skip
            try rw [if_neg (by simp [undef])]
            have hK' := hK.out
            simp only [putAll, Act.put, List.setIfInBounds_toArray, List.set_cons_zero, List.set_cons_succ] at hK'
            exact hK' _ _ rfl (Below.refl _ _) (by simp)
          · go_simp
            have eg : s40 = _ := hdep ⟨13, .guard⟩ (by simp) rfl
            have eg := eg.symm
            subst eg
            first | go_simp | skip
            try rw [if_neg (by simp [undef])]
            have hK' := hK.out
            simp only [putAll, Act.put, List.setIfInBounds_toArray, List.set_cons_zero, List.set_cons_succ] at hK'
            exact hK' _ _ rfl (Below.refl _ _) (by simp)
          · go_simp
            have eg : s40 = _ := hdep ⟨13, .guard⟩ (by simp) rfl
            have eg := eg.symm
            subst eg
            first | go_simp | skip
            try rw [if_neg (by simp [undef])]
            have hK' := hK.out
            simp only [putAll, Act.put, List.setIfInBounds_toArray, List.set_cons_zero, List.set_cons_succ] at hK'
            exact hK' _ _ rfl (Below.refl _ _) (by simp)
          · go_simp
            have eg : s40 = _ := hdep ⟨13, .guard⟩ (by simp) rfl
            have eg := eg.symm
            subst eg
            first | go_simp | skip
            try rw [if_neg (by simp [undef])]
            have hK' := hK.out
            simp only [putAll, Act.put, List.setIfInBounds_toArray, List.set_cons_zero, List.set_cons_succ] at hK'
            exact hK' _ _ rfl (Below.refl _ _) (by simp)
          · go_simp
            have eg : s40 = _ := hdep ⟨13, .guard⟩ (by simp) rfl
            have eg := eg.symm
            subst eg
            first | go_simp | skip
            try rw [if_neg (by simp [undef])]
            have hK' := hK.out
            simp only [putAll, Act.put, List.setIfInBounds_toArray, List.set_cons_zero, List.set_cons_succ] at hK'
            exact hK' _ _ rfl (Below.refl _ _) (by simp)
          · go_simp
            have eg : s40 = _ := hdep ⟨13, .guard⟩ (by simp) rfl
            have eg := eg.symm
            subst eg
            first | go_simp | skip
            try rw [if_neg (by simp [undef])]
            have hK' := hK.out
            simp only [putAll, Act.put, List.setIfInBounds_toArray, List.set_cons_zero, List.set_cons_succ] at hK'
            exact hK' _ _ rfl (Below.refl _ _) (by simp)
          · go_simp
            have eg : s40 = _ := hdep ⟨13, .guard⟩ (by simp) rfl
            have eg := eg.symm
            subst eg
            first | go_simp | skip
            try rw [if_neg (by simp [undef])]
            have hK' := hK.out
            simp only [putAll, Act.put, List.setIfInBounds_toArray, List.set_cons_zero, List.set_cons_succ] at hK'
            exact hK' _ _ rfl (Below.refl _ _) (by simp)
          · go_simp
            have eg : s40 = _ := hdep ⟨13, .guard⟩ (by simp) rfl
            have eg := eg.symm
            subst eg
            first | go_simp | skip
            try rw [if_neg (by simp [undef])]
            have hK' := hK.out
            simp only [putAll, Act.put, List.setIfInBounds_toArray, List.set_cons_zero, List.set_cons_succ] at hK'
            exact hK' _ _ rfl (Below.refl _ _) (by simp)
          · go_simp
            have eg : s40 = _ := hdep ⟨13, .guard⟩ (by simp) rfl
            have eg := eg.symm
            subst eg
            first | go_simp | skip
            try rw [if_neg (by simp [undef])]
            have hK' := hK.out
            simp only [putAll, Act.put, List.setIfInBounds_toArray, List.set_cons_zero, List.set_cons_succ] at hK'
            exact hK' _ _ rfl (Below.refl _ _) (by simp)
          · have e13 : s40 = _ := hdep ⟨13, .data⟩ (by simp) rfl
            have e13 := e13.symm
            subst e13
            have e27 : s54 = _ := hdep ⟨27, .data⟩ (by simp) rfl
            have e27 := e27.symm
            subst e27
            go_simp
            have hK' := hK.out
            simp only [putAll, Act.put, List.setIfInBounds_toArray, List.set_cons_zero, List.set_cons_succ] at hK'
            exact hK' _ _ rfl (Below.refl _ _) (by simp)
          · omega
        · intro vs wx hvl hb hf hdist
          have hvs := vlenS29 hvl
          obtain ⟨s27, s28, s29, s30, s31, s32, s33, s34, s35, s36, s37, s38, s39, s40, s41, s42, s43, s44, s45, s46, s47, s48, s49, s50, s51, s52, s53, s54, s55, rfl⟩ := hvs
          have f28 : s55 = .bool true := hf 28 (by decide)
          subst f28
          have HB9 := hid (lnGo hb HB.out)
          have HB9w := hid (lnGo hb HBw.out)
          clear hf hvl hdist
          refine wpAny_done (by kernel_rfl) ?_ _
          try simp only [putAll, Act.put, List.setIfInBounds_toArray, List.set_cons_zero, List.set_cons_succ]
          go_wp2
          go_ret
          exact ⟨rfl, HB9w.out⟩
      case pos =>
      subst ht
      obtain ⟨t, ht⟩ : ∃ t, t = t1 := ⟨_, rfl⟩
      subst ht
      by_cases hc : c1 = c2
      case neg =>
        obtain rfl : res = false := Hns.out (fun e => hc (by injection e))
        rw [show decide (c1 = c2) = false by simpa using hc] at HSi
        refine wp_region_facts (w0 := wr) 29 0 [27, 28, 29, 30, 31, 32, 33, 34, 35, 36, 37, 38, 39, 40, 41, 42, 43, 44, 45, 46, 47, 48, 49, 50, 51, 52, 53, 54, 55] [u27, u28, u29, u30, u31, u32, u33, u34, u35, u36, u37, u38, u39, u40, u41, u42, u43, u44, u45, u46, u47, u48, u49, u50, u51, u52, u53, u54, u55]
          (fun i => match i with | 0 => lnE (.pointer (some ⟨w.heap.size, 0, none⟩)) | 1 => lnE (.slice (some ⟨ba, oa, none⟩) L ca) | 2 => lnE (.int .i64 (k : Nat)) | 3 => lnE (.pointer (some ⟨ba, oa + k * 3, none⟩)) | 4 => lnE (.pointer (some ⟨ba, oa + k * 3 + 2, none⟩)) | 5 => lnE (.int .i64 t) | 6 => lnE (.pointer (some ⟨w.heap.size + 1, 0, none⟩)) | 7 => lnE (.slice (some ⟨bb, ob, none⟩) L cb) | 8 => lnE (.int .i64 (k : Nat)) | 9 => lnE (.pointer (some ⟨bb, ob + k * 3, none⟩)) | 10 => lnE (.pointer (some ⟨bb, ob + k * 3 + 2, none⟩)) | 11 => lnE (.int .i64 t) | 12 => lnE (.bool false) | 13 => lnE (.bool false) | 14 => lnE (.pointer (some ⟨w.heap.size, 0, none⟩)) | 15 => lnE (.slice (some ⟨ba, oa, none⟩) L ca) | 16 => lnE (.int .i64 (k : Nat)) | 17 => lnE (.pointer (some ⟨ba, oa + k * 3, none⟩)) | 18 => lnE (.pointer (some ⟨ba, oa + k * 3, none⟩)) | 19 => lnE (.agg #[.bool ga, .slice qa na da]) | 20 => lnE (.pointer (some ⟨w.heap.size + 1, 0, none⟩)) | 21 => lnE (.slice (some ⟨bb, ob, none⟩) L cb) | 22 => lnE (.int .i64 (k : Nat)) | 23 => lnE (.pointer (some ⟨bb, ob + k * 3, none⟩)) | 24 => lnE (.pointer (some ⟨bb, ob + k * 3, none⟩)) | 25 => lnE (.agg #[.bool gb, .slice qb nb db]) | 26 => lnE (.bool false) | 27 => lnE (.bool true) | _ => lnE (.bool true)) [] (by kernel_rfl) (by kernel_rfl) (by kernel_rfl) (by kernel_rfl) (by decide) rfl (by kernel_rfl) rfl (by simp) ?he3 ?_ ?_ ?_
        case he3 => simp only [putAll, Act.put, List.setIfInBounds_toArray, List.set_cons_zero, List.set_cons_succ]
        · intro i hi; simp at hi
        · intro i o hi ho vs wx hvl hb hdep K hK
          have hvs := vlenS29 hvl
          obtain ⟨s27, s28, s29, s30, s31, s32, s33, s34, s35, s36, s37, s38, s39, s40, s41, s42, s43, s44, s45, s46, s47, s48, s49, s50, s51, s52, s53, s54, s55, rfl⟩ := hvs
          clear hvl
          have hk5 := HS.out wx hb
          obtain ⟨y0, y1, ⟨y2, y3, y4⟩, y5, y6, y7⟩ := hk5
          rcases i with _ | _ | _ | _ | _ | _ | _ | _ | _ | _ | _ | _ | _ | _ | _ | _ | _ | _ | _ | _ | _ | _ | _ | _ | _ | _ | _ | _ | _ | i
          all_goals (simp only [List.getElem?_toArray, List.getElem?_cons_zero, List.getElem?_cons_succ, Option.some.injEq] at ho)
          all_goals try (subst ho)
          all_goals try simp only [putAll, Act.put, List.setIfInBounds_toArray, List.set_cons_zero, List.set_cons_succ]
          · go_simp
            have hK' := hK.out
            simp only [putAll, Act.put, List.setIfInBounds_toArray, List.set_cons_zero, List.set_cons_succ] at hK'
            exact hK' _ _ rfl (Below.refl _ _) (by simp)
          · have e0 : s27 = _ := hdep ⟨0, .data⟩ (by simp) rfl
            have e0 := e0.symm
            subst e0
            go_simp
            have hK' := hK.out
            simp only [putAll, Act.put, List.setIfInBounds_toArray, List.set_cons_zero, List.set_cons_succ] at hK'
            exact hK' _ _ rfl (Below.refl _ _) (by simp)
          · go_simp
            have hK' := hK.out
            simp only [putAll, Act.put, List.setIfInBounds_toArray, List.set_cons_zero, List.set_cons_succ] at hK'
            exact hK' _ _ rfl (Below.refl _ _) (by simp)
          · have e1 : s28 = _ := hdep ⟨1, .data⟩ (by simp) rfl
            have e1 := e1.symm
            subst e1
            have e2 : s29 = _ := hdep ⟨2, .data⟩ (by simp) rfl
            have e2 := e2.symm
            subst e2
            go_simp
            have hK' := hK.out
            simp only [putAll, Act.put, List.setIfInBounds_toArray, List.set_cons_zero, List.set_cons_succ] at hK'
            exact hK' _ _ rfl (Below.refl _ _) (by simp)
          · have e3 : s30 = _ := hdep ⟨3, .data⟩ (by simp) rfl
            have e3 := e3.symm
            subst e3
            go_simp
            have hK' := hK.out
            simp only [putAll, Act.put, List.setIfInBounds_toArray, List.set_cons_zero, List.set_cons_succ] at hK'
            exact hK' _ _ rfl (Below.refl _ _) (by simp)
          · have e4 : s31 = _ := hdep ⟨4, .data⟩ (by simp) rfl
            have e4 := e4.symm
            subst e4
            go_simp
            have hK' := hK.out
            simp only [putAll, Act.put, List.setIfInBounds_toArray, List.set_cons_zero, List.set_cons_succ] at hK'
            exact hK' _ _ rfl (Below.refl _ _) (by simp)
          · go_simp
            have hK' := hK.out
            simp only [putAll, Act.put, List.setIfInBounds_toArray, List.set_cons_zero, List.set_cons_succ] at hK'
            exact hK' _ _ rfl (Below.refl _ _) (by simp)
          · have e6 : s33 = _ := hdep ⟨6, .data⟩ (by simp) rfl
            have e6 := e6.symm
            subst e6
            go_simp
            have hK' := hK.out
            simp only [putAll, Act.put, List.setIfInBounds_toArray, List.set_cons_zero, List.set_cons_succ] at hK'
            exact hK' _ _ rfl (Below.refl _ _) (by simp)
          · go_simp
            have hK' := hK.out
            simp only [putAll, Act.put, List.setIfInBounds_toArray, List.set_cons_zero, List.set_cons_succ] at hK'
            exact hK' _ _ rfl (Below.refl _ _) (by simp)
          · have e7 : s34 = _ := hdep ⟨7, .data⟩ (by simp) rfl
            have e7 := e7.symm
            subst e7
            have e8 : s35 = _ := hdep ⟨8, .data⟩ (by simp) rfl
            have e8 := e8.symm
            subst e8
            go_simp
            have hK' := hK.out
            simp only [putAll, Act.put, List.setIfInBounds_toArray, List.set_cons_zero, List.set_cons_succ] at hK'
            exact hK' _ _ rfl (Below.refl _ _) (by simp)
          · have e9 : s36 = _ := hdep ⟨9, .data⟩ (by simp) rfl
            have e9 := e9.symm
            subst e9
            go_simp
            have hK' := hK.out
            simp only [putAll, Act.put, List.setIfInBounds_toArray, List.set_cons_zero, List.set_cons_succ] at hK'
            exact hK' _ _ rfl (Below.refl _ _) (by simp)
          · have e10 : s37 = _ := hdep ⟨10, .data⟩ (by simp) rfl
            have e10 := e10.symm
            subst e10
            go_simp
            have hK' := hK.out
            simp only [putAll, Act.put, List.setIfInBounds_toArray, List.set_cons_zero, List.set_cons_succ] at hK'
            exact hK' _ _ rfl (Below.refl _ _) (by simp)
          · have e5 : s32 = _ := hdep ⟨5, .data⟩ (by simp) rfl
            have e5 := e5.symm
            subst e5
            have e11 : s38 = _ := hdep ⟨11, .data⟩ (by simp) rfl
            have e11 := e11.symm
            subst e11
            go_simp
            have hK' := hK.out
            simp only [putAll, Act.put, List.setIfInBounds_toArray, List.set_cons_zero, List.set_cons_succ] at hK'
            exact hK' _ _ (show _ = Value.bool false by first | rfl | simp) (Below.refl _ _) (by simp)
          · have e12 : s39 = _ := hdep ⟨12, .data⟩ (by simp) rfl
            have e12 := e12.symm
            subst e12
            go_simp
            have hK' := hK.out
            simp only [putAll, Act.put, List.setIfInBounds_toArray, List.set_cons_zero, List.set_cons_succ] at hK'
            exact hK' _ _ rfl (Below.refl _ _) (by simp)
          · have eg : s40 = _ := hdep ⟨13, .guard⟩ (by simp) rfl
            have eg := eg.symm
            subst eg
            go_simp
            have hK' := hK.out
            simp only [putAll, Act.put, List.setIfInBounds_toArray, List.set_cons_zero, List.set_cons_succ] at hK'
            exact hK' _ _ rfl (Below.refl _ _) (by simp)
          · have e14 : s41 = _ := hdep ⟨14, .data⟩ (by simp) rfl
            have e14 := e14.symm
            subst e14
            have eg : s40 = _ := hdep ⟨13, .guard⟩ (by simp) rfl
            have eg := eg.symm
            subst eg
            go_simp
            have hK' := hK.out
            simp only [putAll, Act.put, List.setIfInBounds_toArray, List.set_cons_zero, List.set_cons_succ] at hK'
            exact hK' _ _ rfl (Below.refl _ _) (by simp)
          · have eg : s40 = _ := hdep ⟨13, .guard⟩ (by simp) rfl
            have eg := eg.symm
            subst eg
            go_simp
            have hK' := hK.out
            simp only [putAll, Act.put, List.setIfInBounds_toArray, List.set_cons_zero, List.set_cons_succ] at hK'
            exact hK' _ _ rfl (Below.refl _ _) (by simp)
          · have e15 : s42 = _ := hdep ⟨15, .data⟩ (by simp) rfl
            have e15 := e15.symm
            subst e15
            have e16 : s43 = _ := hdep ⟨16, .data⟩ (by simp) rfl
            have e16 := e16.symm
            subst e16
            have eg : s40 = _ := hdep ⟨13, .guard⟩ (by simp) rfl
            have eg := eg.symm
            subst eg
            go_simp
            have hK' := hK.out
            simp only [putAll, Act.put, List.setIfInBounds_toArray, List.set_cons_zero, List.set_cons_succ] at hK'
            exact hK' _ _ rfl (Below.refl _ _) (by simp)
          · have e17 : s44 = _ := hdep ⟨17, .data⟩ (by simp) rfl
            have e17 := e17.symm
            subst e17
            have eg : s40 = _ := hdep ⟨13, .guard⟩ (by simp) rfl
            have eg := eg.symm
            subst eg
            go_simp
            have hK' := hK.out
            simp only [putAll, Act.put, List.setIfInBounds_toArray, List.set_cons_zero, List.set_cons_succ] at hK'
            exact hK' _ _ rfl (Below.refl _ _) (by simp)
          · have e18 : s45 = _ := hdep ⟨18, .data⟩ (by simp) rfl
            have e18 := e18.symm
            subst e18
            have eg : s40 = _ := hdep ⟨13, .guard⟩ (by simp) rfl
            have eg := eg.symm
            subst eg
            go_simp
            have hK' := hK.out
            simp only [putAll, Act.put, List.setIfInBounds_toArray, List.set_cons_zero, List.set_cons_succ] at hK'
            exact hK' _ _ rfl (Below.refl _ _) (by simp)
          · have eg : s40 = _ := hdep ⟨13, .guard⟩ (by simp) rfl
            have eg := eg.symm
            subst eg
            go_simp
            have hK' := hK.out
            simp only [putAll, Act.put, List.setIfInBounds_toArray, List.set_cons_zero, List.set_cons_succ] at hK'
            exact hK' _ _ rfl (Below.refl _ _) (by simp)
          · have e20 : s47 = _ := hdep ⟨20, .data⟩ (by simp) rfl
            have e20 := e20.symm
            subst e20
            have eg : s40 = _ := hdep ⟨13, .guard⟩ (by simp) rfl
            have eg := eg.symm
            subst eg
            go_simp
            have hK' := hK.out
            simp only [putAll, Act.put, List.setIfInBounds_toArray, List.set_cons_zero, List.set_cons_succ] at hK'
            exact hK' _ _ rfl (Below.refl _ _) (by simp)
          · have eg : s40 = _ := hdep ⟨13, .guard⟩ (by simp) rfl
            have eg := eg.symm
            subst eg
            go_simp
            have hK' := hK.out
            simp only [putAll, Act.put, List.setIfInBounds_toArray, List.set_cons_zero, List.set_cons_succ] at hK'
            exact hK' _ _ rfl (Below.refl _ _) (by simp)
          · have e21 : s48 = _ := hdep ⟨21, .data⟩ (by simp) rfl
            have e21 := e21.symm
            subst e21
            have e22 : s49 = _ := hdep ⟨22, .data⟩ (by simp) rfl
            have e22 := e22.symm
            subst e22
            have eg : s40 = _ := hdep ⟨13, .guard⟩ (by simp) rfl
            have eg := eg.symm
            subst eg
            go_simp
            have hK' := hK.out
            simp only [putAll, Act.put, List.setIfInBounds_toArray, List.set_cons_zero, List.set_cons_succ] at hK'
            exact hK' _ _ rfl (Below.refl _ _) (by simp)
          · have e23 : s50 = _ := hdep ⟨23, .data⟩ (by simp) rfl
            have e23 := e23.symm
            subst e23
            have eg : s40 = _ := hdep ⟨13, .guard⟩ (by simp) rfl
            have eg := eg.symm
            subst eg
            go_simp
            have hK' := hK.out
            simp only [putAll, Act.put, List.setIfInBounds_toArray, List.set_cons_zero, List.set_cons_succ] at hK'
            exact hK' _ _ rfl (Below.refl _ _) (by simp)
          · have e24 : s51 = _ := hdep ⟨24, .data⟩ (by simp) rfl
            have e24 := e24.symm
            subst e24
            have eg : s40 = _ := hdep ⟨13, .guard⟩ (by simp) rfl
            have eg := eg.symm
            subst eg
            go_simp
            have hK' := hK.out
            simp only [putAll, Act.put, List.setIfInBounds_toArray, List.set_cons_zero, List.set_cons_succ] at hK'
            exact hK' _ _ rfl (Below.refl _ _) (by simp)
          · have e19 : s46 = _ := hdep ⟨19, .data⟩ (by simp) rfl
            have e19 := e19.symm
            subst e19
            have e25 : s52 = _ := hdep ⟨25, .data⟩ (by simp) rfl
            have e25 := e25.symm
            subst e25
            have eg : s40 = _ := hdep ⟨13, .guard⟩ (by simp) rfl
            have eg := eg.symm
            subst eg
            go_simp
            go_simp
            refine (HSi.out wx hb).mono ?_
            rintro e wy ⟨rfl, hby⟩
            go_wp2_with fail
            have hK' := hK.out
            simp only [putAll, Act.put, List.setIfInBounds_toArray, List.set_cons_zero, List.set_cons_succ] at hK'
            exact hK' _ _ rfl hby (by simp)
          · have e26 : s53 = _ := hdep ⟨26, .data⟩ (by simp) rfl
            have e26 := e26.symm
            subst e26
            have eg : s40 = _ := hdep ⟨13, .guard⟩ (by simp) rfl
            have eg := eg.symm
            subst eg
            go_simp
            have hK' := hK.out
            simp only [putAll, Act.put, List.setIfInBounds_toArray, List.set_cons_zero, List.set_cons_succ] at hK'
            exact hK' _ _ rfl (Below.refl _ _) (by simp)
          · have e13 : s40 = _ := hdep ⟨13, .data⟩ (by simp) rfl
            have e13 := e13.symm
            subst e13
            have e27 : s54 = _ := hdep ⟨27, .data⟩ (by simp) rfl
            have e27 := e27.symm
            subst e27
            go_simp
            have hK' := hK.out
            simp only [putAll, Act.put, List.setIfInBounds_toArray, List.set_cons_zero, List.set_cons_succ] at hK'
            exact hK' _ _ rfl (Below.refl _ _) (by simp)
          · omega
        · intro vs wx hvl hb hf hdist
          have hvs := vlenS29 hvl
          obtain ⟨s27, s28, s29, s30, s31, s32, s33, s34, s35, s36, s37, s38, s39, s40, s41, s42, s43, s44, s45, s46, s47, s48, s49, s50, s51, s52, s53, s54, s55, rfl⟩ := hvs
          have f28 : s55 = .bool true := hf 28 (by decide)
          subst f28
          have HB9 := hid (lnGo hb HB.out)
          have HB9w := hid (lnGo hb HBw.out)
          clear hf hvl hdist
          refine wpAny_done (by kernel_rfl) ?_ _
          try simp only [putAll, Act.put, List.setIfInBounds_toArray, List.set_cons_zero, List.set_cons_succ]
          go_wp2
          go_ret
          exact ⟨rfl, HB9w.out⟩
      case pos =>
        have HT2 := hid (Hsn.out.2 (by rw [hc]))
        rw [show decide (c1 = c2) = true by simpa using hc] at HSi
        refine wp_region_facts (w0 := wr) 29 0 [27, 28, 29, 30, 31, 32, 33, 34, 35, 36, 37, 38, 39, 40, 41, 42, 43, 44, 45, 46, 47, 48, 49, 50, 51, 52, 53, 54, 55] [u27, u28, u29, u30, u31, u32, u33, u34, u35, u36, u37, u38, u39, u40, u41, u42, u43, u44, u45, u46, u47, u48, u49, u50, u51, u52, u53, u54, u55]
          (fun i => match i with | 0 => lnE (.pointer (some ⟨w.heap.size, 0, none⟩)) | 1 => lnE (.slice (some ⟨ba, oa, none⟩) L ca) | 2 => lnE (.int .i64 (k : Nat)) | 3 => lnE (.pointer (some ⟨ba, oa + k * 3, none⟩)) | 4 => lnE (.pointer (some ⟨ba, oa + k * 3 + 2, none⟩)) | 5 => lnE (.int .i64 t) | 6 => lnE (.pointer (some ⟨w.heap.size + 1, 0, none⟩)) | 7 => lnE (.slice (some ⟨bb, ob, none⟩) L cb) | 8 => lnE (.int .i64 (k : Nat)) | 9 => lnE (.pointer (some ⟨bb, ob + k * 3, none⟩)) | 10 => lnE (.pointer (some ⟨bb, ob + k * 3 + 2, none⟩)) | 11 => lnE (.int .i64 t) | 12 => lnE (.bool false) | 13 => lnE (.bool false) | 14 => lnE (.pointer (some ⟨w.heap.size, 0, none⟩)) | 15 => lnE (.slice (some ⟨ba, oa, none⟩) L ca) | 16 => lnE (.int .i64 (k : Nat)) | 17 => lnE (.pointer (some ⟨ba, oa + k * 3, none⟩)) | 18 => lnE (.pointer (some ⟨ba, oa + k * 3, none⟩)) | 19 => lnE (.agg #[.bool ga, .slice qa na da]) | 20 => lnE (.pointer (some ⟨w.heap.size + 1, 0, none⟩)) | 21 => lnE (.slice (some ⟨bb, ob, none⟩) L cb) | 22 => lnE (.int .i64 (k : Nat)) | 23 => lnE (.pointer (some ⟨bb, ob + k * 3, none⟩)) | 24 => lnE (.pointer (some ⟨bb, ob + k * 3, none⟩)) | 25 => lnE (.agg #[.bool gb, .slice qb nb db]) | 26 => lnE (.bool true) | 27 => lnE (.bool false) | _ => lnE (.bool false)) [] (by kernel_rfl) (by kernel_rfl) (by kernel_rfl) (by kernel_rfl) (by decide) rfl (by kernel_rfl) rfl (by simp) ?he2 ?_ ?_ ?_
        case he2 => simp only [putAll, Act.put, List.setIfInBounds_toArray, List.set_cons_zero, List.set_cons_succ]
        · intro i hi; simp at hi
        · intro i o hi ho vs wx hvl hb hdep K hK
          have hvs := vlenS29 hvl
          obtain ⟨s27, s28, s29, s30, s31, s32, s33, s34, s35, s36, s37, s38, s39, s40, s41, s42, s43, s44, s45, s46, s47, s48, s49, s50, s51, s52, s53, s54, s55, rfl⟩ := hvs
          clear hvl
          have hk5 := HS.out wx hb
          obtain ⟨y0, y1, ⟨y2, y3, y4⟩, y5, y6, y7⟩ := hk5
          rcases i with _ | _ | _ | _ | _ | _ | _ | _ | _ | _ | _ | _ | _ | _ | _ | _ | _ | _ | _ | _ | _ | _ | _ | _ | _ | _ | _ | _ | _ | i
          all_goals (simp only [List.getElem?_toArray, List.getElem?_cons_zero, List.getElem?_cons_succ, Option.some.injEq] at ho)
          all_goals try (subst ho)
          all_goals try simp only [putAll, Act.put, List.setIfInBounds_toArray, List.set_cons_zero, List.set_cons_succ]
          · go_simp
            have hK' := hK.out
            simp only [putAll, Act.put, List.setIfInBounds_toArray, List.set_cons_zero, List.set_cons_succ] at hK'
            exact hK' _ _ rfl (Below.refl _ _) (by simp)
          · have e0 : s27 = _ := hdep ⟨0, .data⟩ (by simp) rfl
            have e0 := e0.symm
            subst e0
            go_simp
            have hK' := hK.out
            simp only [putAll, Act.put, List.setIfInBounds_toArray, List.set_cons_zero, List.set_cons_succ] at hK'
            exact hK' _ _ rfl (Below.refl _ _) (by simp)
          · go_simp
            have hK' := hK.out
            simp only [putAll, Act.put, List.setIfInBounds_toArray, List.set_cons_zero, List.set_cons_succ] at hK'
            exact hK' _ _ rfl (Below.refl _ _) (by simp)
          · have e1 : s28 = _ := hdep ⟨1, .data⟩ (by simp) rfl
            have e1 := e1.symm
            subst e1
            have e2 : s29 = _ := hdep ⟨2, .data⟩ (by simp) rfl
            have e2 := e2.symm
            subst e2
            go_simp
            have hK' := hK.out
            simp only [putAll, Act.put, List.setIfInBounds_toArray, List.set_cons_zero, List.set_cons_succ] at hK'
            exact hK' _ _ rfl (Below.refl _ _) (by simp)
          · have e3 : s30 = _ := hdep ⟨3, .data⟩ (by simp) rfl
            have e3 := e3.symm
            subst e3
            go_simp
            have hK' := hK.out
            simp only [putAll, Act.put, List.setIfInBounds_toArray, List.set_cons_zero, List.set_cons_succ] at hK'
            exact hK' _ _ rfl (Below.refl _ _) (by simp)
          · have e4 : s31 = _ := hdep ⟨4, .data⟩ (by simp) rfl
            have e4 := e4.symm
            subst e4
            go_simp
            have hK' := hK.out
            simp only [putAll, Act.put, List.setIfInBounds_toArray, List.set_cons_zero, List.set_cons_succ] at hK'
            exact hK' _ _ rfl (Below.refl _ _) (by simp)
          · go_simp
            have hK' := hK.out
            simp only [putAll, Act.put, List.setIfInBounds_toArray, List.set_cons_zero, List.set_cons_succ] at hK'
            exact hK' _ _ rfl (Below.refl _ _) (by simp)
          · have e6 : s33 = _ := hdep ⟨6, .data⟩ (by simp) rfl
            have e6 := e6.symm
            subst e6
            go_simp
            have hK' := hK.out
            simp only [putAll, Act.put, List.setIfInBounds_toArray, List.set_cons_zero, List.set_cons_succ] at hK'
            exact hK' _ _ rfl (Below.refl _ _) (by simp)
          · go_simp
            have hK' := hK.out
            simp only [putAll, Act.put, List.setIfInBounds_toArray, List.set_cons_zero, List.set_cons_succ] at hK'
            exact hK' _ _ rfl (Below.refl _ _) (by simp)
          · have e7 : s34 = _ := hdep ⟨7, .data⟩ (by simp) rfl
            have e7 := e7.symm
            subst e7
            have e8 : s35 = _ := hdep ⟨8, .data⟩ (by simp) rfl
            have e8 := e8.symm
            subst e8
            go_simp
            have hK' := hK.out
            simp only [putAll, Act.put, List.setIfInBounds_toArray, List.set_cons_zero, List.set_cons_succ] at hK'
            exact hK' _ _ rfl (Below.refl _ _) (by simp)
          · have e9 : s36 = _ := hdep ⟨9, .data⟩ (by simp) rfl
            have e9 := e9.symm
            subst e9
            go_simp
            have hK' := hK.out
            simp only [putAll, Act.put, List.setIfInBounds_toArray, List.set_cons_zero, List.set_cons_succ] at hK'
            exact hK' _ _ rfl (Below.refl _ _) (by simp)
          · have e10 : s37 = _ := hdep ⟨10, .data⟩ (by simp) rfl
            have e10 := e10.symm
            subst e10
            go_simp
            have hK' := hK.out
            simp only [putAll, Act.put, List.setIfInBounds_toArray, List.set_cons_zero, List.set_cons_succ] at hK'
            exact hK' _ _ rfl (Below.refl _ _) (by simp)
          · have e5 : s32 = _ := hdep ⟨5, .data⟩ (by simp) rfl
            have e5 := e5.symm
            subst e5
            have e11 : s38 = _ := hdep ⟨11, .data⟩ (by simp) rfl
            have e11 := e11.symm
            subst e11
            go_simp
            have hK' := hK.out
            simp only [putAll, Act.put, List.setIfInBounds_toArray, List.set_cons_zero, List.set_cons_succ] at hK'
            exact hK' _ _ (show _ = Value.bool false by first | rfl | simp) (Below.refl _ _) (by simp)
          · have e12 : s39 = _ := hdep ⟨12, .data⟩ (by simp) rfl
            have e12 := e12.symm
            subst e12
            go_simp
            have hK' := hK.out
            simp only [putAll, Act.put, List.setIfInBounds_toArray, List.set_cons_zero, List.set_cons_succ] at hK'
            exact hK' _ _ rfl (Below.refl _ _) (by simp)
          · have eg : s40 = _ := hdep ⟨13, .guard⟩ (by simp) rfl
            have eg := eg.symm
            subst eg
            go_simp
            have hK' := hK.out
            simp only [putAll, Act.put, List.setIfInBounds_toArray, List.set_cons_zero, List.set_cons_succ] at hK'
            exact hK' _ _ rfl (Below.refl _ _) (by simp)
          · have e14 : s41 = _ := hdep ⟨14, .data⟩ (by simp) rfl
            have e14 := e14.symm
            subst e14
            have eg : s40 = _ := hdep ⟨13, .guard⟩ (by simp) rfl
            have eg := eg.symm
            subst eg
            go_simp
            have hK' := hK.out
            simp only [putAll, Act.put, List.setIfInBounds_toArray, List.set_cons_zero, List.set_cons_succ] at hK'
            exact hK' _ _ rfl (Below.refl _ _) (by simp)
          · have eg : s40 = _ := hdep ⟨13, .guard⟩ (by simp) rfl
            have eg := eg.symm
            subst eg
            go_simp
            have hK' := hK.out
            simp only [putAll, Act.put, List.setIfInBounds_toArray, List.set_cons_zero, List.set_cons_succ] at hK'
            exact hK' _ _ rfl (Below.refl _ _) (by simp)
          · have e15 : s42 = _ := hdep ⟨15, .data⟩ (by simp) rfl
            have e15 := e15.symm
            subst e15
            have e16 : s43 = _ := hdep ⟨16, .data⟩ (by simp) rfl
            have e16 := e16.symm
            subst e16
            have eg : s40 = _ := hdep ⟨13, .guard⟩ (by simp) rfl
            have eg := eg.symm
            subst eg
            go_simp
            have hK' := hK.out
            simp only [putAll, Act.put, List.setIfInBounds_toArray, List.set_cons_zero, List.set_cons_succ] at hK'
            exact hK' _ _ rfl (Below.refl _ _) (by simp)
          · have e17 : s44 = _ := hdep ⟨17, .data⟩ (by simp) rfl
            have e17 := e17.symm
            subst e17
            have eg : s40 = _ := hdep ⟨13, .guard⟩ (by simp) rfl
            have eg := eg.symm
            subst eg
            go_simp
            have hK' := hK.out
            simp only [putAll, Act.put, List.setIfInBounds_toArray, List.set_cons_zero, List.set_cons_succ] at hK'
            exact hK' _ _ rfl (Below.refl _ _) (by simp)
          · have e18 : s45 = _ := hdep ⟨18, .data⟩ (by simp) rfl
            have e18 := e18.symm
            subst e18
            have eg : s40 = _ := hdep ⟨13, .guard⟩ (by simp) rfl
            have eg := eg.symm
            subst eg
            go_simp
            have hK' := hK.out
            simp only [putAll, Act.put, List.setIfInBounds_toArray, List.set_cons_zero, List.set_cons_succ] at hK'
            exact hK' _ _ rfl (Below.refl _ _) (by simp)
          · have eg : s40 = _ := hdep ⟨13, .guard⟩ (by simp) rfl
            have eg := eg.symm
            subst eg
            go_simp
            have hK' := hK.out
            simp only [putAll, Act.put, List.setIfInBounds_toArray, List.set_cons_zero, List.set_cons_succ] at hK'
            exact hK' _ _ rfl (Below.refl _ _) (by simp)
          · have e20 : s47 = _ := hdep ⟨20, .data⟩ (by simp) rfl
            have e20 := e20.symm
            subst e20
            have eg : s40 = _ := hdep ⟨13, .guard⟩ (by simp) rfl
            have eg := eg.symm
            subst eg
            go_simp
            have hK' := hK.out
            simp only [putAll, Act.put, List.setIfInBounds_toArray, List.set_cons_zero, List.set_cons_succ] at hK'
            exact hK' _ _ rfl (Below.refl _ _) (by simp)
          · have eg : s40 = _ := hdep ⟨13, .guard⟩ (by simp) rfl
            have eg := eg.symm
            subst eg
            go_simp
            have hK' := hK.out
            simp only [putAll, Act.put, List.setIfInBounds_toArray, List.set_cons_zero, List.set_cons_succ] at hK'
            exact hK' _ _ rfl (Below.refl _ _) (by simp)
          · have e21 : s48 = _ := hdep ⟨21, .data⟩ (by simp) rfl
            have e21 := e21.symm
            subst e21
            have e22 : s49 = _ := hdep ⟨22, .data⟩ (by simp) rfl
            have e22 := e22.symm
            subst e22
            have eg : s40 = _ := hdep ⟨13, .guard⟩ (by simp) rfl
            have eg := eg.symm
            subst eg
            go_simp
            have hK' := hK.out
            simp only [putAll, Act.put, List.setIfInBounds_toArray, List.set_cons_zero, List.set_cons_succ] at hK'
            exact hK' _ _ rfl (Below.refl _ _) (by simp)
          · have e23 : s50 = _ := hdep ⟨23, .data⟩ (by simp) rfl
            have e23 := e23.symm
            subst e23
            have eg : s40 = _ := hdep ⟨13, .guard⟩ (by simp) rfl
            have eg := eg.symm
            subst eg
            go_simp
            have hK' := hK.out
            simp only [putAll, Act.put, List.setIfInBounds_toArray, List.set_cons_zero, List.set_cons_succ] at hK'
            exact hK' _ _ rfl (Below.refl _ _) (by simp)
          · have e24 : s51 = _ := hdep ⟨24, .data⟩ (by simp) rfl
            have e24 := e24.symm
            subst e24
            have eg : s40 = _ := hdep ⟨13, .guard⟩ (by simp) rfl
            have eg := eg.symm
            subst eg
            go_simp
            have hK' := hK.out
            simp only [putAll, Act.put, List.setIfInBounds_toArray, List.set_cons_zero, List.set_cons_succ] at hK'
            exact hK' _ _ rfl (Below.refl _ _) (by simp)
          · have e19 : s46 = _ := hdep ⟨19, .data⟩ (by simp) rfl
            have e19 := e19.symm
            subst e19
            have e25 : s52 = _ := hdep ⟨25, .data⟩ (by simp) rfl
            have e25 := e25.symm
            subst e25
            have eg : s40 = _ := hdep ⟨13, .guard⟩ (by simp) rfl
            have eg := eg.symm
            subst eg
            go_simp
            go_simp
            refine (HSi.out wx hb).mono ?_
            rintro e wy ⟨rfl, hby⟩
            go_wp2_with fail
            have hK' := hK.out
            simp only [putAll, Act.put, List.setIfInBounds_toArray, List.set_cons_zero, List.set_cons_succ] at hK'
            exact hK' _ _ rfl hby (by simp)
          · have e26 : s53 = _ := hdep ⟨26, .data⟩ (by simp) rfl
            have e26 := e26.symm
            subst e26
            have eg : s40 = _ := hdep ⟨13, .guard⟩ (by simp) rfl
            have eg := eg.symm
            subst eg
            go_simp
            have hK' := hK.out
            simp only [putAll, Act.put, List.setIfInBounds_toArray, List.set_cons_zero, List.set_cons_succ] at hK'
            exact hK' _ _ rfl (Below.refl _ _) (by simp)
          · have e13 : s40 = _ := hdep ⟨13, .data⟩ (by simp) rfl
            have e13 := e13.symm
            subst e13
            have e27 : s54 = _ := hdep ⟨27, .data⟩ (by simp) rfl
            have e27 := e27.symm
            subst e27
            go_simp
            have hK' := hK.out
            simp only [putAll, Act.put, List.setIfInBounds_toArray, List.set_cons_zero, List.set_cons_succ] at hK'
            exact hK' _ _ rfl (Below.refl _ _) (by simp)
          · omega
        · intro vs wx hvl hb hf hdist
          have hvs := vlenS29 hvl
          obtain ⟨s27, s28, s29, s30, s31, s32, s33, s34, s35, s36, s37, s38, s39, s40, s41, s42, s43, s44, s45, s46, s47, s48, s49, s50, s51, s52, s53, s54, s55, rfl⟩ := hvs
          have f28 : s55 = .bool false := hf 28 (by decide)
          subst f28
          have HB9 := hid (lnGo hb HB.out)
          have HB9w := hid (lnGo hb HBw.out)
          clear hf hvl hdist
          refine wpAny_done (by kernel_rfl) ?_ _
          try simp only [putAll, Act.put, List.setIfInBounds_toArray, List.set_cons_zero, List.set_cons_succ]
          go_wp2_with fail
          go_roundw
          case rel => exact ⟨k + 1, by omega, by go_num, HT2, HB9⟩
          case measure => simp [intOf] <;> omega
    · obtain rfl : k = L := by omega
      obtain rfl : res = true := by
        rw [Hres.out, decide_eq_true_eq, Hxy.out]
        have e := HT.out
        rw [HLL.out, List.take_length, ← HLL.out, HMM.out, List.take_length] at e
        rw [e]
      go_wp2
      go_ret
      exact ⟨rfl, HBw.out⟩
end Go.Proofs.YtnfohbpgnbfmeaaGreatDoor
/- elenchuslaw10.AtomsRows. Made by gen_atlawrows.py. -/
namespace Go.Proofs.YtnfohbpgnbfmeaaGreatDoor
open Go.RowKit Big

theorem vlenR30 {vs : List Value} (h : vs.length = 30) : ∃ v0 v1 v2 v3 v4 v5 v6 v7 v8 v9 v10 v11 v12 v13 v14 v15 v16 v17 v18 v19 v20 v21 v22 v23 v24 v25 v26 v27 v28 v29, vs = [v0, v1, v2, v3, v4, v5, v6, v7, v8, v9, v10, v11, v12, v13, v14, v15, v16, v17, v18, v19, v20, v21, v22, v23, v24, v25, v26, v27, v28, v29] := by
  match vs, h with
  | v0 :: v1 :: v2 :: v3 :: v4 :: v5 :: v6 :: v7 :: v8 :: v9 :: v10 :: v11 :: v12 :: v13 :: v14 :: v15 :: v16 :: v17 :: v18 :: v19 :: v20 :: v21 :: v22 :: v23 :: v24 :: v25 :: v26 :: v27 :: v28 :: v29 :: [], _ => exact ⟨v0, v1, v2, v3, v4, v5, v6, v7, v8, v9, v10, v11, v12, v13, v14, v15, v16, v17, v18, v19, v20, v21, v22, v23, v24, v25, v26, v27, v28, v29, rfl⟩
theorem one_sz10 : sz W (1 : Int).natAbs ≤ 1 := sz_le_of_lt W2 (by decide)
theorem sign_pos10 {a : Int} (h : 0 < a) : a.sign = 1 := Int.sign_eq_one_of_pos h
set_option maxRecDepth 100000 in
set_option maxHeartbeats 51200000 in
theorem lawRows_any (v : Value) (l : List Lx) (w : World) (h : LxsIn w v l) (htab : Tb w.heap.size w) : Calls Tryz.prog 8 #[v] w (RBool true w) := by
  have HFx := hid (fixed10_any w htab)
  have Ht := hid htab
  have HFw := hid (fun w' (hb : Below w.heap.size w w') => few10_any v l w' (h.below hb))
  obtain ⟨p, cp, rfl, j1, j2, -, j4⟩ := h
  have J4 := hid j4
  unfold maxLen at j2
  obtain ⟨L, hLL⟩ : ∃ L, L = l.length := ⟨_, rfl⟩
  have HLL := hid hLL
  have j1 : l.length ≤ cp := j1
  rw [← hLL] at j1
  rw [← hLL] at HFw ⊢
  clear j4 hLL htab
  go_enter Tryz.func8, Tryz.ntmps8
  go_wp2_with fail
  refine HFx.out.mono ?_
  rintro e w1 ⟨rfl, b1⟩
  have B1 := hid b1
  have HFw1 := hid (HFw.out w1 b1)
  clear b1 HFx HFw
  go_wp2_with fail
  refine HFw1.out.mono ?_
  rintro e w2 ⟨bf, rfl, hfit, b2⟩
  have B2 := hid (lnGo b2 B1.out)
  clear b2 HFw1
  cases bf with
  | false =>
    clear hfit
    go_wp2
    go_ret
    exact ⟨rfl, B2.out⟩
  | true =>
  have Hfit := hid (hfit rfl)
  clear hfit
  have hL40 : L ≤ 40 := Hfit.out.1
  go_wp2_with fail
  refine (New_any w2).mono ?_
  rintro e w3 ⟨rfl, hA3, b3⟩
  have HTb := hid (tab_later Ht.out B2.out)
  have HA3 := hid hA3
  have HB3 := hid b3
  clear hA3 b3
  go_wp2_with fail
  go_loopw [27] (fun i wr => ∃ (k : Nat), k ≤ L ∧ i = .int .i64 (k : Nat) ∧ Hid (∃ S, AtAt w2.heap.size wr w2.heap.size S ∧ AtGood 7 S ∧ S.rows.length ≤ k ∧ S.atoms.length ≤ k) ∧ Hid (Below w2.heap.size w2 wr)) (fun i _ => L - (intOf i).toNat)
  case atStart => exact ⟨0, Nat.zero_le _, rfl, hid ⟨⟨[], []⟩, HA3.out, AtGood.nil 7, by simp, by simp⟩, hid HB3.out⟩
  case round =>
    obtain ⟨j, hj, rfl, HT, HB⟩ := hrel
    have HBw0 := hid (B2.out.trans (HB.out.mono B2.out.size))
    by_cases hlt : j < L
    · have hkt : j < l.length := by rw [← HLL.out]; exact hlt
      have hlt' : (j : Int) < (L : Int) := by omega
      obtain ⟨b, o, rfl, hb, hc⟩ := J4.out (by show 0 < l.length; omega)
      obtain ⟨cs, k0, a1, b1, d1, ecs, hq⟩ := hc j hkt
      subst ecs
      obtain ⟨pp, cc, qq, kk, dd, eag⟩ := hq.agg3
      injection eag with eag
      simp only [Array.mk.injEq, List.cons.injEq, and_true] at eag
      obtain ⟨ea1, eb1, ed1⟩ := eag
      obtain ⟨nn, hnn⟩ : ∃ n, n = (l[j]'hkt).parts.length := ⟨_, rfl⟩
      obtain ⟨bb, hbb⟩ : ∃ n, n = (l[j]'hkt).rest.neg := ⟨_, rfl⟩
      rw [← hnn] at ea1
      rw [← hbb] at eb1
      subst ea1 eb1 ed1
      have y0 : wr.cell? ⟨b, o + j * 3, none⟩ = some (.slice pp nn cc) := (HBw0.out.cell (p := ⟨b, o + j * 3, none⟩) hb).trans (k0 0 _ rfl)
      have y1 : wr.cell? ⟨b, o + j * 3 + 1, none⟩ = some (.bool bb) := (HBw0.out.cell (p := ⟨b, o + j * 3 + 1, none⟩) hb).trans (k0 1 _ rfl)
      have y2 : wr.cell? ⟨b, o + j * 3 + 2, none⟩ = some (.slice qq kk dd) := (HBw0.out.cell (p := ⟨b, o + j * 3 + 2, none⟩) hb).trans (k0 2 _ rfl)
      have hft := Hfit.out.2 _ (List.getElem_mem hkt)
      have LA := hid (hq.raw hft)
      have SA := hid (hq.small hft)
      have la : ((l[j]'hkt).a).1.length ≤ 40 := by show ((l[j]'hkt).parts.map Px6.p).length ≤ 40; rw [List.length_map]; exact hft.1
      obtain ⟨⟨ll, c⟩, hxa⟩ : ∃ a, a = (l[j]'hkt).a := ⟨_, rfl⟩
      rw [← hxa] at LA SA la
      have la : ll.length ≤ 40 := la
      clear hxa hft hq k0 hc hnn hbb
      obtain ⟨W2, hW2⟩ : ∃ W2, W2 = wr.alloc (.cells #[.slice pp nn cc, .bool bb, .slice qq kk dd] 37) := ⟨_, rfl⟩
      have b2 : Below wr.heap.size wr W2 := by rw [hW2]; exact below1 _ _
      have e2 : W2.heap[wr.heap.size]? = some (.cells #[.slice pp nn cc, .bool bb, .slice qq kk dd] 37 (0, 0)) := by rw [hW2]; exact heap_alloc_new _ _
      have Bo2 := hid (lnGo b2 HB.out)
      have B22 := hid (lnGo b2 HBw0.out)
      obtain ⟨S, hS1, hS2, hS3, hS4⟩ := HT.out
      obtain ⟨vr, va, m1, m2, hIn⟩ := hS1
      have hwf : ∀ p ∈ ll, -9223372036854775808 ≤ p.2 ∧ p.2 ≤ 9223372036854775807 := by
        obtain ⟨pv, n, s, e, hp, hx⟩ := LA.out
        exact hp.wf
      have HC := Ask_any w2.heap.size w2.heap.size vr va m1 m2 S _ ll c W2 (hIn.below b2) hS2 Bo2.out.size (LA.out.below B22.out) SA.out (by omega) (by omega) (by omega) (tab_go HTb.out Bo2.out)
      obtain ⟨⟨NA, RA, EA⟩, hAA⟩ : ∃ a, a = atAns S ll c := ⟨_, rfl⟩
      rw [← hAA] at HC
      have HC := hid HC
      have HOw := hid (hIn.below b2).own
      have HG1 := hid (hS2.ask1 SA.out.1 SA.out.2 (by omega) hwf)
      have HL1 : Hid ((atAsk1 S (ll, c)).rows.length ≤ j + 1 ∧ (atAsk1 S (ll, c)).atoms.length ≤ j + 1) := hid (by
        have := atAsk1_len S (ll, c)
        omega)
      obtain ⟨x0, x1, x2⟩ := lnCells3 e2
      clear b2 e2 hS2 hS3 hS4 hIn hwf HT hAA
      go_upto_region 9 with fail
      rw [← hW2]
      clear hW2
      go_wp2_with fail
      refine HC.out.mono ?_
      rintro e w5 ⟨rfl, vr5, va5, m15, m25, hI5, hA5, -⟩
      have HT5 : Hid (∃ S, AtAt w2.heap.size w5 w2.heap.size S ∧ AtGood 7 S ∧ S.rows.length ≤ j + 1 ∧ S.atoms.length ≤ j + 1) := hid ⟨_, ⟨_, _, _, _, hI5⟩, HG1.out, HL1.out⟩
      have Bo5 := hid (Bo2.out.trans (Apart.below hA5 Bo2.out.size (fun b hb => (HOw.out b hb).1)))
      clear hI5 hA5 HC HOw HG1 HL1 x0 x1 x2 y0 y1 y2
      go_wp2_with fail
      go_roundw
      case rel => exact ⟨j + 1, by omega, by go_num, HT5, Bo5⟩
      case measure => simp [intOf] <;> omega
    · obtain rfl : j = L := by omega
      obtain ⟨S, hS1, hG, hS3, hS4⟩ := HT.out
      obtain ⟨vr, va, m1, m2, hIn⟩ := hS1
      have HG := hid hG
      have HRw := hid (Rows_any w2.heap.size w2.heap.size vr va m1 m2 S wr hIn hG (by omega))
      have HLs := hid (fun w' (hb : Below wr.heap.size wr w') => List_any w2.heap.size w2.heap.size vr va m1 m2 S w' (hIn.below hb) hG (by omega))
      obtain ⟨NR, hNR⟩ : ∃ n, n = S.rows.length := ⟨_, rfl⟩
      obtain ⟨NA, hNA⟩ : ∃ n, n = S.atoms.length := ⟨_, rfl⟩
      have hNR5 : NR ≤ 40 := by omega
      have hNA5 : NA ≤ 40 := by omega
      have HNR := hid hNR; have HNA := hid hNA
      clear hG hS3 hS4 hIn HT hNR hNA
      go_wp2_with fail
      refine HRw.out.mono ?_
      rintro e w7 ⟨v7, rfl, hR7, b7⟩
      have HL7 := hid (HLs.out w7 b7)
      have B7 := hid (lnGo b7 HBw0.out)
      have HR7 := hid hR7
      obtain ⟨p7, cap7, rfl, i7, -, -, -⟩ := hR7
      have i7 : S.rows.length ≤ cap7 := i7
      rw [← HNR.out] at i7 ⊢
      clear b7 HLs HRw
      go_wp2_with fail
      refine HL7.out.mono ?_
      rintro e w8 ⟨v8, rfl, hL8, b8⟩
      have B8 := hid (lnGo b8 B7.out)
      have hR8 : LsIn 3 (RwQ fun _ => True) w8 (.slice p7 S.rows.length cap7) S.rows := LsIn.below (Q := RwQ fun _ => True) (fun h hb => h.go (S := fun _ => False) (Apart.of_below hb) (fun _ hf => hf.elim) (fun _ _ hf => hf) (fun _ _ _ => trivial)) HR7.out b8
      obtain ⟨p7', cap7', e7, -, -, -, r4⟩ := hR8
      injection e7 with e71 _ e72
      subst e71 e72
      have R4 := hid r4
      obtain ⟨p8, cap8, rfl, i8, -, -, a4⟩ := hL8
      have A4 := hid a4
      have i8 : S.atoms.length ≤ cap8 := i8
      rw [← HNA.out] at i8 ⊢
      clear b8 HR7 HL7 r4 a4 J4
      go_wp2_with fail
      go_loopw [41] (fun i wr => ∃ (k : Nat), k ≤ NR ∧ i = .int .i64 (k : Nat) ∧ Hid (Below w8.heap.size w8 wr)) (fun i _ => NR - (intOf i).toNat)
      case atStart => exact ⟨0, Nat.zero_le _, rfl, hid (Below.refl _ _)⟩
      case round =>
        obtain ⟨j, hj, rfl, HB⟩ := hrel
        by_cases hlt : j < NR
        · have hkt : j < S.rows.length := by rw [← HNR.out]; exact hlt
          have hlt' : (j : Int) < (NR : Int) := by omega
          obtain ⟨bR, oR, rfl, hbR, hcR⟩ := R4.out (by omega)
          obtain ⟨cs2, kR, pv, s2, ecs2, hP, hC, -, -⟩ := hcR j hkt
          have hok := HG.out.ok _ (List.getElem_mem hkt)
          have hsz := HG.out.sz _ (List.getElem_mem hkt)
          have hln := HG.out.len _ (List.getElem_mem hkt)
          have Hdis : Hid (∀ (k : Nat) (hk : k < S.rows.length), k < j → S.rows[j]'hkt ≠ S.rows[k]) := hid (fun k hk hkj e => by
            have := (List.getElem_inj HG.out.rows).1 e
            omega)
          generalize S.rows[j]'hkt = r at *
          obtain ⟨nr, hnr⟩ : ∃ n, n = r.length := ⟨_, rfl⟩
          subst ecs2
          obtain ⟨pq, nq, cq, eq2, hC⟩ := (show IntAt w8 (.agg #[.bool false, s2]) 0 from hC).shape
          obtain rfl : s2 = .slice pq nq cq := by injection eq2 with eq2; simp at eq2; exact eq2
          have hC : IntAt w8 (.agg #[.bool false, .slice pq nq cq]) 0 := hC
          have HP := hid hP
          obtain ⟨pp, cpp, rfl, q1, -, -, q4⟩ := hP
          have Q4 := hid q4
          have q1 : r.length ≤ cpp := q1
          rw [← hnr] at q1
          have hrp : 0 < r.length := List.length_pos_iff.2 hok.ne
          have y0 : wr.cell? ⟨bR, oR + j * 3, none⟩ = some (.slice pp nr cpp) := (HB.out.cell (p := ⟨bR, oR + j * 3, none⟩) hbR).trans ((kR 0 _ rfl).trans (by rw [hnr]))
          have y1 : wr.cell? ⟨bR, oR + j * 3 + 1, none⟩ = some (.bool false) := (HB.out.cell (p := ⟨bR, oR + j * 3 + 1, none⟩) hbR).trans (kR 1 _ rfl)
          have y2 : wr.cell? ⟨bR, oR + j * 3 + 2, none⟩ = some (.slice pq nq cq) := (HB.out.cell (p := ⟨bR, oR + j * 3 + 2, none⟩) hbR).trans (kR 2 _ rfl)
          have Hok := hid hok; have Hsz := hid hsz; have Hln := hid hln; have Hnr := hid hnr
          have hnr1 : 0 < nr := by omega
          have hnr2 : nr ≤ 1000 := by omega
          have HLT : Hid (LnT w8 (.agg #[.slice pp nr cpp, .bool false, .slice pq nq cq]) (r, 0)) := hid ⟨_, _, rfl, by rw [hnr]; exact HP.out, hC⟩
          have HC0 := hid hC
          obtain ⟨wo, hwo⟩ : ∃ wo, wo = wr := ⟨_, rfl⟩
          subst hwo
          obtain ⟨W2, hW2⟩ : ∃ W2, W2 = (wo.alloc (.cells #[.slice pp nr cpp, .bool false, .slice pq nq cq] 37)).alloc (.cells #[.bool false, .slice none 0 0] 35) := ⟨_, rfl⟩
          have b2 : Below wo.heap.size wo W2 := by rw [hW2]; exact (below1 _ _).alloc (by simp) _
          have e2 : W2.heap[wo.heap.size]? = some (.cells #[.slice pp nr cpp, .bool false, .slice pq nq cq] 37 (0, 0)) := by rw [hW2, heap_alloc_old _ _ (by simp)]; exact heap_alloc_new _ _
          have e3 : W2.heap[wo.heap.size + 1]? = some (.cells #[.bool false, .slice none 0 0] 35 (0, 0)) := by
            have := heap_alloc_new (wo.alloc (.cells #[.slice pp nr cpp, .bool false, .slice pq nq cq] 37)) (.cells #[.bool false, .slice none 0 0] 35)
            rw [size_alloc] at this
            rw [hW2]; exact this
          have z2 : W2.heap.size = wo.heap.size + 2 := by rw [hW2, size_alloc, size_alloc]
          have zo := HB.out.size
          have hc0 : LnCell W2 (wo.heap.size + 1) ((lnGcd (r.take 0) : Nat) : Int) := ⟨none, 0, 0, e3, IntAt.zero _⟩
          have HC2 := hid hc0
          have B22 := hid (lnGo b2 HB.out)
          have E2 := hid e2
          obtain ⟨x0, x1, x2⟩ := lnCells3 e2
          clear b2 e2 e3 hc0 hC kR hcR q4 eq2 hok hsz hln hnr hrp
          go_upto_region 16 with fail
          rw [← hW2]
          clear hW2 y0 y1 y2
          go_wp2_with fail
          clear x0 x1 x2
          go_loopw [50] (fun i wq => ∃ (k : Nat), k ≤ nr ∧ i = .int .i64 (k : Nat) ∧ Hid (LnCell wq (wo.heap.size + 1) ((lnGcd (r.take k) : Nat) : Int)) ∧ Hid (Below (wo.heap.size + 1) W2 wq)) (fun i _ => nr - (intOf i).toNat)
          case atStart => exact ⟨0, Nat.zero_le _, rfl, HC2, hid (Below.refl _ _)⟩
          case round =>
            obtain ⟨k, hk, rfl, HCg, HBq⟩ := hrel
            by_cases hlk : k < nr
            · have hkr : k < r.length := by rw [← Hnr.out]; exact hlk
              have hlk' : (k : Int) < (nr : Int) := by omega
              obtain ⟨b, o, rfl, hb, hc⟩ := Q4.out (by omega)
              obtain ⟨cs, k0, s, ecs, hi, -⟩ := hc k hkr
              obtain ⟨q, n, cq', e2, hi⟩ := hi.shape
              obtain rfl : s = .slice q n cq' := by injection e2 with e2; simp at e2; exact e2
              have ecs : cs = [.bool (decide ((r[k]'hkr).1 < 0)), .slice q n cq', .int .i64 (r[k]'hkr).2] := ecs
              have hi : IntAt w8 (.agg #[.bool (decide ((r[k]'hkr).1 < 0)), .slice q n cq']) (r[k]'hkr).1 := hi
              subst ecs
              have hB8 : Below w8.heap.size w8 wr := B22.out.trans (HBq.out.mono (by omega))
              have y0 := (hB8.cell (p := ⟨b, o + k * 3, none⟩) hb).trans (k0 0 _ rfl)
              have y1 := (hB8.cell (p := ⟨b, o + k * 3 + 1, none⟩) hb).trans (k0 1 _ rfl)
              have y2 := (hB8.cell (p := ⟨b, o + k * 3 + 2, none⟩) hb).trans (k0 2 _ rfl)
              have Hnext : Hid (lnGcd (r.take (k + 1)) = Nat.gcd (lnGcd (r.take k)) (r[k]'hkr).1.natAbs) := hid (by rw [List.take_succ_eq_append_getElem hkr, lnGcd_snoc])
              have Hgs := hid (lnGcd_sz r Hsz.out k)
              have hcs : sz W (r[k]'hkr).1.natAbs ≤ 7 := Hsz.out _ (List.getElem_mem hkr)
              have hraw := (hi.below hB8).rawL (Nat.le_trans hcs (by decide))
              generalize lnGcd (r.take k) = gg at *
              generalize (r[k]'hkr).1 = c at *
              generalize (r[k]'hkr).2 = t at *
              generalize decide (c < 0) = dc at *
              clear k0 hc hi
              have HCo := HCg.out
              obtain ⟨pc, nc, cc, hcb, hci⟩ := HCo
              have hlw2 : wo.heap.size + 1 < wr.heap.size := (Array.getElem?_eq_some_iff.1 hcb).1
              obtain ⟨W5, hW5⟩ : ∃ W5, W5 = wr.alloc (.cells #[.bool dc, .slice q n cq', .int .i64 t] 63) := ⟨_, rfl⟩
              have b5 : Below wr.heap.size wr W5 := by rw [hW5]; exact below1 wr _
              have e5 : W5.heap[wr.heap.size]? = some (.cells #[.bool dc, .slice q n cq', .int .i64 t] 63 (0, 0)) := by rw [hW5]; exact heap_alloc_new wr _
              obtain ⟨t0, t1, t2⟩ := lnCells3 e5
              obtain ⟨u0, u1, -, -⟩ := two_cells ((b5.block (wo.heap.size + 1) hlw2).trans hcb)
              have hgz : sz W ((gg : Nat) : Int).natAbs ≤ 1099511627776 := by rw [Int.natAbs_natCast]; exact Nat.le_trans Hgs.out (by decide)
              have HGc := hid (RGcd_any _ _ _ _ W5 ((hci.below b5).rawL hgz) (hraw.below b5) (by rw [Int.natAbs_natCast]; exact Nat.le_trans Hgs.out (by decide)) (Nat.le_trans hcs (by decide)))
              have HB5 := hid b5
              have HC5 := hid (HCg.out.below b5)
              clear hcb hci hraw HCg b5 e5 hgz hcs hB8
              go_upto_region 19 with fail
              rw [← hW5]
              clear hW5
              go_wp2_with fail
              refine HGc.out.mono ?_
              rintro e w6 ⟨v6, rfl, i6, b6⟩
              rw [Int.natAbs_natCast] at i6
              obtain ⟨p6, n6, c6, rfl, i6⟩ := i6.shape
              have hp6 := (HC5.out.below b6).pair
              obtain ⟨_, _, g0, g1, g2, g3⟩ := hp6.cells
              have HC6 := hid (LnCell.put hp6 i6)
              have HB7 := hid (Below.stored (HBq.out.trans ((lnGo b6 HB5.out).mono (by omega))) (g := wo.heap.size + 1) (Nat.le_refl _) (.bool (decide (((gg.gcd c.natAbs : Nat) : Int) < 0))) (.slice p6 n6 c6))
              clear i6 hp6 b6 t0 t1 t2 u0 u1 y0 y1 y2
              go_wp2_with fail
              go_roundw
              case rel => exact ⟨k + 1, by omega, by go_num, hid (by rw [Hnext.out]; exact HC6.out), HB7⟩
              case measure => simp [intOf] <;> omega
            · obtain rfl : k = nr := by omega
              have hfin : r.take k = r := by rw [Hnr.out, List.take_length]
              have hone : lnGcd r = 1 := Hok.out.gcd
              have HCo := HCg.out
              rw [hfin, hone] at HCo
              obtain ⟨pc, nc, cc, hcb, hci⟩ := HCo
              have hcb : wr.heap[wo.heap.size + 1]? = some (.cells #[.bool false, .slice pc nc cc] 35 (0, 0)) := hcb
              have hci : IntAt wr (.agg #[.bool false, .slice pc nc cc]) 1 := hci
              have hg10 : wo.heap.size + 1 < wr.heap.size := (Array.getElem?_eq_some_iff.1 hcb).1
              have E9 : Hid (wr.heap[wo.heap.size]? = some (.cells #[.slice pp k cpp, .bool false, .slice pq nq cq] 37 (0, 0))) := hid ((HBq.out.block wo.heap.size (by omega)).trans E2.out)
              have hB8 : Below w8.heap.size w8 wr := B22.out.trans (HBq.out.mono (by omega))
              have hr0 : 0 < r.length := by have := Hnr.out; omega
              obtain ⟨b, o, rfl, hb, hc⟩ := Q4.out hr0
              obtain ⟨cs, k0, s, ecs, hi, -⟩ := hc 0 hr0
              obtain ⟨q, n, cq', e2, hi⟩ := hi.shape
              obtain rfl : s = .slice q n cq' := by injection e2 with e2; simp at e2; exact e2
              have hhd : 0 < (r[0]'hr0).1 := by
                have := Hok.out.head
                cases r with
                | nil => simp at hr0
                | cons x r => exact this
              have hcs : sz W (r[0]'hr0).1.natAbs ≤ 7 := Hsz.out _ (List.getElem_mem hr0)
              have ecs : cs = [.bool (decide ((r[0]'hr0).1 < 0)), .slice q n cq', .int .i64 (r[0]'hr0).2] := ecs
              have hi : IntAt w8 (.agg #[.bool (decide ((r[0]'hr0).1 < 0)), .slice q n cq']) (r[0]'hr0).1 := hi
              subst ecs
              have y0 : wr.cell? ⟨b, o, none⟩ = some (.bool (decide ((r[0]'hr0).1 < 0))) := (hB8.cell (p := ⟨b, o, none⟩) hb).trans (by simpa using k0 0 _ rfl)
              have y1 : wr.cell? ⟨b, o + 1, none⟩ = some (.slice q n cq') := (hB8.cell (p := ⟨b, o + 1, none⟩) hb).trans (by simpa using k0 1 _ rfl)
              have hraw := (hi.below hB8).rawL (Nat.le_trans hcs (by decide))
              generalize decide ((r[0]'hr0).1 < 0) = dc at *
              generalize (r[0]'hr0).1 = c at *
              have hbr : b < wr.heap.size := Nat.lt_of_lt_of_le hb hB8.size
              have HX : Hid (∀ w', Below wr.heap.size wr w' → (w'.cell? ⟨wo.heap.size, 0, none⟩ = some (.slice (some ⟨b, o, none⟩) k cpp) ∧ w'.cell? ⟨wo.heap.size, 1, none⟩ = some (.bool false) ∧ w'.cell? ⟨wo.heap.size, 2, none⟩ = some (.slice pq nq cq)) ∧
                  (w'.cell? ⟨wo.heap.size + 1, 0, none⟩ = some (.bool false) ∧ w'.cell? ⟨wo.heap.size + 1, 1, none⟩ = some (.slice pc nc cc)) ∧ w'.cell? ⟨b, o, none⟩ = some (.bool dc) ∧ w'.cell? ⟨b, o + 1, none⟩ = some (.slice q n cq')) := hid fun w' hbw => by
                have h1 := lnCells3 ((hbw.block wo.heap.size (by omega)).trans E9.out)
                have h2 := two_cells ((hbw.block (wo.heap.size + 1) hg10).trans hcb)
                exact ⟨h1, ⟨h2.1, h2.2.1⟩, (hbw.cell (p := ⟨b, o, none⟩) hbr).trans y0, (hbw.cell (p := ⟨b, o + 1, none⟩) hbr).trans y1⟩
              have hIsd : lnIs r := Hok.out.is
              have HIs := hid (fun w' (hbw : Below wr.heap.size wr w') => RIs_lin _ (r, 0) w' (((HLT.out.below hB8).below hbw).raw (N := 7) ⟨Hsz.out, by simp [sz_zero]⟩ (by decide)) (by have := Hln.out; show r.length ≤ _; omega))
              rw [show decide (lnIs ((r, (0 : Int)) : AtRow × Int).1) = true by simpa using hIsd] at HIs
              have HS1 := hid (fun w' (hbw : Below wr.heap.size wr w') => RSign_any _ c w' (hraw.below hbw))
              rw [sign_pos10 hhd] at HS1
              have HS0 := hid (fun w' (hbw : Below wr.heap.size wr w') => RSign_any _ 0 w' (((HC0.out.below hB8).below hbw).rawL (by simp [sz_zero])))
              rw [show (0 : Int).sign = 0 from rfl] at HS0
              have h1z := one_sz10
              have HC1 := hid (fun v' w' (hbw : Below wr.heap.size wr w') (hv : IntAt w' v' 1) => RCmp_any (.agg #[.bool false, .slice pc nc cc]) v' 1 1 w' ((hci.below hbw).rawL (Nat.le_trans h1z (by decide))) (hv.rawL (Nat.le_trans h1z (by decide))) (Nat.le_trans h1z (by decide)) (Nat.le_trans h1z (by decide)))
              rw [show ord 1 1 = 0 from rfl] at HC1
              have HB8 := hid hB8
              have hk0 : ((k : Int) == 0) = false := by rw [beq_eq_false_iff_ne]; omega
              have hk0' : (0 : Int) < (k : Int) := by omega
              clear hcb hci hi hraw hhd hcs y0 y1 k0 hc hone hfin hIsd h1z HCg hB8
              go_upto_region 21 with fail
              refine wp_region_facts (w0 := wr) 30 0 [59, 60, 61, 62, 63, 64, 65, 66, 67, 68, 69, 70, 71, 72, 73, 74, 75, 76, 77, 78, 79, 80, 81, 82, 83, 84, 85, 86, 87, 88] [u59, u60, u61, u62, u63, u64, u65, u66, u67, u68, u69, u70, u71, u72, u73, u74, u75, u76, u77, u78, u79, u80, u81, u82, u83, u84, u85, u86, u87, u88]
                (fun i => match i with | 0 => lnE (.agg #[.slice (some ⟨b, o, none⟩) k cpp, .bool false, .slice pq nq cq]) | 1 => lnE (.bool true) | 2 => lnE (.bool false) | 3 => lnE (.bool false) | 4 => lnE (.pointer (some ⟨wo.heap.size, 0, none⟩)) | 5 => lnE (.slice (some ⟨b, o, none⟩) k cpp) | 6 => lnE (.int .i64 (k : Nat)) | 7 => lnE (.bool false) | 8 => lnE (.bool false) | 9 => lnE (.bool false) | 10 => lnE (.pointer (some ⟨wo.heap.size, 0, none⟩)) | 11 => lnE (.slice (some ⟨b, o, none⟩) k cpp) | 12 => lnE (.pointer (some ⟨b, o, none⟩)) | 13 => lnE (.pointer (some ⟨b, o, none⟩)) | 14 => lnE (.agg #[.bool dc, .slice q n cq']) | 15 => lnE (.int .i64 1) | 16 => lnE (.bool false) | 17 => lnE (.bool false) | 18 => lnE (.bool false) | 19 => lnE (.agg #[.bool false, .slice pc nc cc]) | 20 => lnI 1 | 21 => lnE (.int .i64 0) | 22 => lnE (.bool false) | 23 => lnE (.bool false) | 24 => lnE (.bool false) | 25 => lnE (.pointer (some ⟨wo.heap.size, 1, none⟩)) | 26 => lnE (.agg #[.bool false, .slice pq nq cq]) | 27 => lnE (.int .i64 0) | 28 => lnE (.bool false) | _ => lnE (.bool false)) [] (by kernel_rfl) (by kernel_rfl) (by kernel_rfl) (by kernel_rfl) (by decide) rfl (by kernel_rfl) rfl (by simp) ?he1 ?_ ?_ ?_
              case he1 => simp only [putAll, Act.put, List.setIfInBounds_toArray, List.set_cons_zero, List.set_cons_succ]
              · intro i hi; simp at hi
              · intro i o hi ho vs wx hvl hb hdep K hK
                have hvs := vlenR30 hvl
                obtain ⟨s59, s60, s61, s62, s63, s64, s65, s66, s67, s68, s69, s70, s71, s72, s73, s74, s75, s76, s77, s78, s79, s80, s81, s82, s83, s84, s85, s86, s87, s88, rfl⟩ := hvs
                clear hvl
                have hk5 := HX.out wx hb
                obtain ⟨⟨y0, y1, y2⟩, ⟨y3, y4⟩, y5, y6⟩ := hk5
                rcases i with _ | _ | _ | _ | _ | _ | _ | _ | _ | _ | _ | _ | _ | _ | _ | _ | _ | _ | _ | _ | _ | _ | _ | _ | _ | _ | _ | _ | _ | _ | i
                all_goals (simp only [List.getElem?_toArray, List.getElem?_cons_zero, List.getElem?_cons_succ, Option.some.injEq] at ho)
                all_goals try (subst ho)
                all_goals try simp only [putAll, Act.put, List.setIfInBounds_toArray, List.set_cons_zero, List.set_cons_succ]
                · go_simp
                  have hK' := hK.out
                  simp only [putAll, Act.put, List.setIfInBounds_toArray, List.set_cons_zero, List.set_cons_succ] at hK'
                  exact hK' _ _ rfl (Below.refl _ _) (by simp)
                · have e0 : s59 = _ := hdep ⟨0, .data⟩ (by simp) rfl
                  have e0 := e0.symm
                  subst e0
                  go_simp
                  go_simp
                  refine (HIs.out wx hb).mono ?_
                  rintro e wy ⟨rfl, hby⟩
                  go_wp2_with fail
                  have hK' := hK.out
                  simp only [putAll, Act.put, List.setIfInBounds_toArray, List.set_cons_zero, List.set_cons_succ] at hK'
                  exact hK' _ _ rfl hby (by simp)
                · have e1 : s60 = _ := hdep ⟨1, .data⟩ (by simp) rfl
                  have e1 := e1.symm
                  subst e1
                  go_simp
                  have hK' := hK.out
                  simp only [putAll, Act.put, List.setIfInBounds_toArray, List.set_cons_zero, List.set_cons_succ] at hK'
                  exact hK' _ _ rfl (Below.refl _ _) (by simp)
                · have e2 : s61 = _ := hdep ⟨2, .data⟩ (by simp) rfl
                  have e2 := e2.symm
                  subst e2
                  go_simp
                  have hK' := hK.out
                  simp only [putAll, Act.put, List.setIfInBounds_toArray, List.set_cons_zero, List.set_cons_succ] at hK'
                  exact hK' _ _ rfl (Below.refl _ _) (by simp)
                · have eg : s62 = _ := hdep ⟨3, .guard⟩ (by simp) rfl
                  have eg := eg.symm
                  subst eg
                  go_simp
                  have hK' := hK.out
                  simp only [putAll, Act.put, List.setIfInBounds_toArray, List.set_cons_zero, List.set_cons_succ] at hK'
                  exact hK' _ _ rfl (Below.refl _ _) (by simp)
                · have e4 : s63 = _ := hdep ⟨4, .data⟩ (by simp) rfl
                  have e4 := e4.symm
                  subst e4
                  have eg : s62 = _ := hdep ⟨3, .guard⟩ (by simp) rfl
                  have eg := eg.symm
                  subst eg
                  go_simp
                  have hK' := hK.out
                  simp only [putAll, Act.put, List.setIfInBounds_toArray, List.set_cons_zero, List.set_cons_succ] at hK'
                  exact hK' _ _ rfl (Below.refl _ _) (by simp)
                · have e5 : s64 = _ := hdep ⟨5, .data⟩ (by simp) rfl
                  have e5 := e5.symm
                  subst e5
                  have eg : s62 = _ := hdep ⟨3, .guard⟩ (by simp) rfl
                  have eg := eg.symm
                  subst eg
                  go_simp
                  have hK' := hK.out
                  simp only [putAll, Act.put, List.setIfInBounds_toArray, List.set_cons_zero, List.set_cons_succ] at hK'
                  exact hK' _ _ rfl (Below.refl _ _) (by simp)
                · have e6 : s65 = _ := hdep ⟨6, .data⟩ (by simp) rfl
                  have e6 := e6.symm
                  subst e6
                  have eg : s62 = _ := hdep ⟨3, .guard⟩ (by simp) rfl
                  have eg := eg.symm
                  subst eg
                  go_simp
                  have hK' := hK.out
                  simp only [putAll, Act.put, List.setIfInBounds_toArray, List.set_cons_zero, List.set_cons_succ] at hK'
                  exact hK' _ _ (show _ = Value.bool false by first | rfl | (rw [hk0]) | simpa using hk0) (Below.refl _ _) (by simp)
                · have e3 : s62 = _ := hdep ⟨3, .data⟩ (by simp) rfl
                  have e3 := e3.symm
                  subst e3
                  have e7 : s66 = _ := hdep ⟨7, .data⟩ (by simp) rfl
                  have e7 := e7.symm
                  subst e7
                  go_simp
                  have hK' := hK.out
                  simp only [putAll, Act.put, List.setIfInBounds_toArray, List.set_cons_zero, List.set_cons_succ] at hK'
                  exact hK' _ _ rfl (Below.refl _ _) (by simp)
                · have e8 : s67 = _ := hdep ⟨8, .data⟩ (by simp) rfl
                  have e8 := e8.symm
                  subst e8
                  go_simp
                  have hK' := hK.out
                  simp only [putAll, Act.put, List.setIfInBounds_toArray, List.set_cons_zero, List.set_cons_succ] at hK'
                  exact hK' _ _ rfl (Below.refl _ _) (by simp)
                · have eg : s68 = _ := hdep ⟨9, .guard⟩ (by simp) rfl
                  have eg := eg.symm
                  subst eg
                  go_simp
                  have hK' := hK.out
                  simp only [putAll, Act.put, List.setIfInBounds_toArray, List.set_cons_zero, List.set_cons_succ] at hK'
                  exact hK' _ _ rfl (Below.refl _ _) (by simp)
                · have e10 : s69 = _ := hdep ⟨10, .data⟩ (by simp) rfl
                  have e10 := e10.symm
                  subst e10
                  have eg : s68 = _ := hdep ⟨9, .guard⟩ (by simp) rfl
                  have eg := eg.symm
                  subst eg
                  go_simp
                  have hK' := hK.out
                  simp only [putAll, Act.put, List.setIfInBounds_toArray, List.set_cons_zero, List.set_cons_succ] at hK'
                  exact hK' _ _ rfl (Below.refl _ _) (by simp)
                · have e11 : s70 = _ := hdep ⟨11, .data⟩ (by simp) rfl
                  have e11 := e11.symm
                  subst e11
                  have eg : s68 = _ := hdep ⟨9, .guard⟩ (by simp) rfl
                  have eg := eg.symm
                  subst eg
                  go_simp
                  have hK' := hK.out
                  simp only [putAll, Act.put, List.setIfInBounds_toArray, List.set_cons_zero, List.set_cons_succ] at hK'
                  exact hK' _ _ rfl (Below.refl _ _) (by simp)
                · have e12 : s71 = _ := hdep ⟨12, .data⟩ (by simp) rfl
                  have e12 := e12.symm
                  subst e12
                  have eg : s68 = _ := hdep ⟨9, .guard⟩ (by simp) rfl
                  have eg := eg.symm
                  subst eg
                  go_simp
                  have hK' := hK.out
                  simp only [putAll, Act.put, List.setIfInBounds_toArray, List.set_cons_zero, List.set_cons_succ] at hK'
                  exact hK' _ _ rfl (Below.refl _ _) (by simp)
                · have e13 : s72 = _ := hdep ⟨13, .data⟩ (by simp) rfl
                  have e13 := e13.symm
                  subst e13
                  have eg : s68 = _ := hdep ⟨9, .guard⟩ (by simp) rfl
                  have eg := eg.symm
                  subst eg
                  go_simp
                  have hK' := hK.out
                  simp only [putAll, Act.put, List.setIfInBounds_toArray, List.set_cons_zero, List.set_cons_succ] at hK'
                  exact hK' _ _ rfl (Below.refl _ _) (by simp)
                · have e14 : s73 = _ := hdep ⟨14, .data⟩ (by simp) rfl
                  have e14 := e14.symm
                  subst e14
                  have eg : s68 = _ := hdep ⟨9, .guard⟩ (by simp) rfl
                  have eg := eg.symm
                  subst eg
                  go_simp
                  go_simp
                  refine (HS1.out wx hb).mono ?_
                  rintro e wy ⟨rfl, hby⟩
                  go_wp2_with fail
                  have hK' := hK.out
                  simp only [putAll, Act.put, List.setIfInBounds_toArray, List.set_cons_zero, List.set_cons_succ] at hK'
                  exact hK' _ _ rfl hby (by simp)
                · have e15 : s74 = _ := hdep ⟨15, .data⟩ (by simp) rfl
                  have e15 := e15.symm
                  subst e15
                  have eg : s68 = _ := hdep ⟨9, .guard⟩ (by simp) rfl
                  have eg := eg.symm
                  subst eg
                  go_simp
                  have hK' := hK.out
                  simp only [putAll, Act.put, List.setIfInBounds_toArray, List.set_cons_zero, List.set_cons_succ] at hK'
                  exact hK' _ _ rfl (Below.refl _ _) (by simp)
                · have e9 : s68 = _ := hdep ⟨9, .data⟩ (by simp) rfl
                  have e9 := e9.symm
                  subst e9
                  have e16 : s75 = _ := hdep ⟨16, .data⟩ (by simp) rfl
                  have e16 := e16.symm
                  subst e16
                  go_simp
                  have hK' := hK.out
                  simp only [putAll, Act.put, List.setIfInBounds_toArray, List.set_cons_zero, List.set_cons_succ] at hK'
                  exact hK' _ _ rfl (Below.refl _ _) (by simp)
                · have e17 : s76 = _ := hdep ⟨17, .data⟩ (by simp) rfl
                  have e17 := e17.symm
                  subst e17
                  go_simp
                  have hK' := hK.out
                  simp only [putAll, Act.put, List.setIfInBounds_toArray, List.set_cons_zero, List.set_cons_succ] at hK'
                  exact hK' _ _ rfl (Below.refl _ _) (by simp)
                · have eg : s77 = _ := hdep ⟨18, .guard⟩ (by simp) rfl
                  have eg := eg.symm
                  subst eg
                  go_simp
                  have hK' := hK.out
                  simp only [putAll, Act.put, List.setIfInBounds_toArray, List.set_cons_zero, List.set_cons_succ] at hK'
                  exact hK' _ _ rfl (Below.refl _ _) (by simp)
                · have eg : s77 = _ := hdep ⟨18, .guard⟩ (by simp) rfl
                  have eg := eg.symm
                  subst eg
                  go_simp
                  refine (ROf_any 1 wx (by decide) (by decide)).mono ?_
                  rintro e wy ⟨vy, rfl, iy, hby⟩
                  have hsh := iy.shape
                  obtain ⟨p5, n5, c5, rfl, iy⟩ := hsh
                  go_wp2_with fail
                  have hK' := hK.out
                  simp only [putAll, Act.put, List.setIfInBounds_toArray, List.set_cons_zero, List.set_cons_succ] at hK'
                  exact hK' _ _ ⟨_, _, _, _, rfl, iy⟩ hby (by simp)
                · have e19 : s78 = _ := hdep ⟨19, .data⟩ (by simp) rfl
                  have e19 := e19.symm
                  subst e19
                  have e20 : (lnI 1).P s79 wx := hdep ⟨20, .data⟩ (by simp) rfl
                  obtain ⟨da20, pa20, na20, ca20, rfl, ia20⟩ := e20
                  have eg : s77 = _ := hdep ⟨18, .guard⟩ (by simp) rfl
                  have eg := eg.symm
                  subst eg
                  go_simp
                  go_simp
                  refine (HC1.out _ wx hb ia20).mono ?_
                  rintro e wy ⟨rfl, hby⟩
                  go_wp2_with fail
                  have hK' := hK.out
                  simp only [putAll, Act.put, List.setIfInBounds_toArray, List.set_cons_zero, List.set_cons_succ] at hK'
                  exact hK' _ _ rfl hby (by simp)
                · have e21 : s80 = _ := hdep ⟨21, .data⟩ (by simp) rfl
                  have e21 := e21.symm
                  subst e21
                  have eg : s77 = _ := hdep ⟨18, .guard⟩ (by simp) rfl
                  have eg := eg.symm
                  subst eg
                  go_simp
                  have hK' := hK.out
                  simp only [putAll, Act.put, List.setIfInBounds_toArray, List.set_cons_zero, List.set_cons_succ] at hK'
                  exact hK' _ _ rfl (Below.refl _ _) (by simp)
                · have e18 : s77 = _ := hdep ⟨18, .data⟩ (by simp) rfl
                  have e18 := e18.symm
                  subst e18
                  have e22 : s81 = _ := hdep ⟨22, .data⟩ (by simp) rfl
                  have e22 := e22.symm
                  subst e22
                  go_simp
                  have hK' := hK.out
                  simp only [putAll, Act.put, List.setIfInBounds_toArray, List.set_cons_zero, List.set_cons_succ] at hK'
                  exact hK' _ _ rfl (Below.refl _ _) (by simp)
                · have e23 : s82 = _ := hdep ⟨23, .data⟩ (by simp) rfl
                  have e23 := e23.symm
                  subst e23
                  go_simp
                  have hK' := hK.out
                  simp only [putAll, Act.put, List.setIfInBounds_toArray, List.set_cons_zero, List.set_cons_succ] at hK'
                  exact hK' _ _ rfl (Below.refl _ _) (by simp)
                · have eg : s83 = _ := hdep ⟨24, .guard⟩ (by simp) rfl
                  have eg := eg.symm
                  subst eg
                  go_simp
                  have hK' := hK.out
                  simp only [putAll, Act.put, List.setIfInBounds_toArray, List.set_cons_zero, List.set_cons_succ] at hK'
                  exact hK' _ _ rfl (Below.refl _ _) (by simp)
                · have e25 : s84 = _ := hdep ⟨25, .data⟩ (by simp) rfl
                  have e25 := e25.symm
                  subst e25
                  have eg : s83 = _ := hdep ⟨24, .guard⟩ (by simp) rfl
                  have eg := eg.symm
                  subst eg
                  go_simp
                  have hK' := hK.out
                  simp only [putAll, Act.put, List.setIfInBounds_toArray, List.set_cons_zero, List.set_cons_succ] at hK'
                  exact hK' _ _ rfl (Below.refl _ _) (by simp)
                · have e26 : s85 = _ := hdep ⟨26, .data⟩ (by simp) rfl
                  have e26 := e26.symm
                  subst e26
                  have eg : s83 = _ := hdep ⟨24, .guard⟩ (by simp) rfl
                  have eg := eg.symm
                  subst eg
                  go_simp
                  go_simp
                  refine (HS0.out wx hb).mono ?_
                  rintro e wy ⟨rfl, hby⟩
                  go_wp2_with fail
                  have hK' := hK.out
                  simp only [putAll, Act.put, List.setIfInBounds_toArray, List.set_cons_zero, List.set_cons_succ] at hK'
                  exact hK' _ _ rfl hby (by simp)
                · have e27 : s86 = _ := hdep ⟨27, .data⟩ (by simp) rfl
                  have e27 := e27.symm
                  subst e27
                  have eg : s83 = _ := hdep ⟨24, .guard⟩ (by simp) rfl
                  have eg := eg.symm
                  subst eg
                  go_simp
                  have hK' := hK.out
                  simp only [putAll, Act.put, List.setIfInBounds_toArray, List.set_cons_zero, List.set_cons_succ] at hK'
                  exact hK' _ _ rfl (Below.refl _ _) (by simp)
                · have e24 : s83 = _ := hdep ⟨24, .data⟩ (by simp) rfl
                  have e24 := e24.symm
                  subst e24
                  have e28 : s87 = _ := hdep ⟨28, .data⟩ (by simp) rfl
                  have e28 := e28.symm
                  subst e28
                  go_simp
                  have hK' := hK.out
                  simp only [putAll, Act.put, List.setIfInBounds_toArray, List.set_cons_zero, List.set_cons_succ] at hK'
                  exact hK' _ _ rfl (Below.refl _ _) (by simp)
                · omega
              · intro vs wx hvl hb hf hdist
                have hvs := vlenR30 hvl
                obtain ⟨s59, s60, s61, s62, s63, s64, s65, s66, s67, s68, s69, s70, s71, s72, s73, s74, s75, s76, s77, s78, s79, s80, s81, s82, s83, s84, s85, s86, s87, s88, rfl⟩ := hvs
                have f29 : s88 = .bool false := hf 29 (by decide)
                subst f29
                have B9 := hid (lnGo hb HB8.out)
                have E9x := hid ((hb.block wo.heap.size (by omega)).trans E9.out)
                have hz9 := hb.size
                clear hf hvl hdist
                refine wpAny_done (by kernel_rfl) ?_ _
                try simp only [putAll, Act.put, List.setIfInBounds_toArray, List.set_cons_zero, List.set_cons_succ]
                clear HIs HS1 HS0 HC1 HX
                go_wp2_with fail
                go_loopw [93] (fun i wr => ∃ (k : Nat), k ≤ j ∧ i = .int .i64 (k : Nat) ∧ Hid (Below wx.heap.size wx wr)) (fun i _ => j - (intOf i).toNat)
                case atStart => exact ⟨0, Nat.zero_le _, rfl, hid (Below.refl _ _)⟩
                case round =>
                  obtain ⟨k2, hk2, rfl, HBz⟩ := hrel
                  have HBz8 := hid (lnGo HBz.out B9.out)
                  by_cases hlz : k2 < j
                  · have hkz : k2 < S.rows.length := by omega
                    have hlz' : (k2 : Int) < (j : Int) := by omega
                    obtain ⟨bR2, oR2, eR, hbR2, hcR⟩ := R4.out (by omega)
                    obtain ⟨rfl, rfl⟩ : bR = bR2 ∧ oR = oR2 := by cases eR; exact ⟨rfl, rfl⟩
                    obtain ⟨cs3, kR, pv2, s3, ecs3, hP2, hC2, -, -⟩ := hcR k2 hkz
                    have hln2 := HG.out.len _ (List.getElem_mem hkz)
                    have hne := Hdis.out k2 hkz hlz
                    generalize S.rows[k2]'hkz = r2 at *
                    subst ecs3
                    obtain ⟨pq2, nq2, cq2, eq2, hC2⟩ := (show IntAt w8 (.agg #[.bool false, s3]) 0 from hC2).shape
                    obtain rfl : s3 = .slice pq2 nq2 cq2 := by injection eq2 with eq2; simp at eq2; exact eq2
                    have hC2 : IntAt w8 (.agg #[.bool false, .slice pq2 nq2 cq2]) 0 := hC2
                    have hLT2 : LnT w8 (.agg #[pv2, .bool false, .slice pq2 nq2 cq2]) (r2, 0) := ⟨_, _, rfl, hP2, hC2⟩
                    obtain ⟨pp2, cpp2, rfl, -, -, -, -⟩ := hP2
                    obtain ⟨nr2, hnr2⟩ : ∃ n, n = r2.length := ⟨_, rfl⟩
                    rw [← hnr2] at hLT2
                    have y0 : wr.cell? ⟨bR, oR + k2 * 3, none⟩ = some (.slice pp2 nr2 cpp2) := (HBz8.out.cell (p := ⟨bR, oR + k2 * 3, none⟩) hbR).trans ((kR 0 _ rfl).trans (by rw [hnr2]))
                    have y1 : wr.cell? ⟨bR, oR + k2 * 3 + 1, none⟩ = some (.bool false) := (HBz8.out.cell (p := ⟨bR, oR + k2 * 3 + 1, none⟩) hbR).trans (kR 1 _ rfl)
                    have y2 : wr.cell? ⟨bR, oR + k2 * 3 + 2, none⟩ = some (.slice pq2 nq2 cq2) := (HBz8.out.cell (p := ⟨bR, oR + k2 * 3 + 2, none⟩) hbR).trans (kR 2 _ rfl)
                    obtain ⟨W11, hW11⟩ : ∃ W11, W11 = wr.alloc (.cells #[.slice pp2 nr2 cpp2, .bool false, .slice pq2 nq2 cq2] 37) := ⟨_, rfl⟩
                    have b11 : Below wr.heap.size wr W11 := by rw [hW11]; exact below1 _ _
                    have e11 : W11.heap[wr.heap.size]? = some (.cells #[.slice pp2 nr2 cpp2, .bool false, .slice pq2 nq2 cq2] 37 (0, 0)) := by rw [hW11]; exact heap_alloc_new _ _
                    have b11x := lnGo b11 HBz.out
                    have B118 := hid (lnGo b11 HBz8.out)
                    have HSm := Same6_any _ _ (r, 0) (r2, 0) W11 (HLT.out.below B118.out) (hLT2.below B118.out) (by have := Hln.out; show r.length ≤ _; omega) (by show r2.length ≤ _; omega)
                    rw [show decide (((r, 0) : AtRow × Int) = (r2, 0)) = false by
                      rw [decide_eq_false_iff_not]
                      intro e
                      injection e with e _
                      exact hne e] at HSm
                    have HSm := hid HSm
                    obtain ⟨x0, x1, x2⟩ := lnCells3 e11
                    obtain ⟨t0, t1, t2⟩ := lnCells3 ((b11x.block wo.heap.size (by omega)).trans E9x.out)
                    have B11x := hid b11x
                    clear b11 e11 b11x kR hcR eq2 hC2 hLT2 eR hne hln2 hnr2
                    go_upto_region 26 with fail
                    rw [← hW11]
                    clear hW11
                    go_wp2_with fail
                    refine HSm.out.mono ?_
                    rintro e w12 ⟨rfl, b12⟩
                    have B12 := hid (lnGo b12 B11x.out)
                    clear b12 HSm
                    go_wp2_with fail
                    go_roundw
                    case rel => exact ⟨k2 + 1, by omega, by go_num, B12⟩
                    case measure => simp [intOf] <;> omega
                  · obtain rfl : k2 = j := by omega
                    go_wp2_with fail
                    go_roundw
                    case rel => exact ⟨k2 + 1, by omega, by go_num, HBz8⟩
                    case measure => simp [intOf] <;> omega
        · obtain rfl : j = NR := by omega
          obtain ⟨wo, hwo⟩ : ∃ wo, wo = wr := ⟨_, rfl⟩
          subst hwo
          go_wp2_with fail
          go_loopw [104] (fun i wr => ∃ (k : Nat), k ≤ NA ∧ i = .int .i64 (k : Nat) ∧ Hid (Below w8.heap.size w8 wr)) (fun i _ => NA - (intOf i).toNat)
          case atStart => exact ⟨0, Nat.zero_le _, rfl, HB⟩
          case round =>
            obtain ⟨i, hi, rfl, HBi⟩ := hrel
            by_cases hli : i < NA
            · have hki : i < S.atoms.length := by rw [← HNA.out]; exact hli
              have hli' : (i : Int) < (NA : Int) := by omega
              obtain ⟨bA, oA, rfl, hbA, hcA⟩ := A4.out (by omega)
              obtain ⟨cs, kA, sx, ecs, hIv⟩ := hcA i hki
              have Hdis : Hid (∀ (k : Nat) (hk : k < S.atoms.length), k < i → S.atoms[i]'hki ≠ S.atoms[k]) := hid (fun k hk hkj e => by
                have := (List.getElem_inj HG.out.atoms).1 e
                omega)
              generalize S.atoms[i]'hki = aa at *
              obtain ⟨a1, a2⟩ := aa
              subst ecs
              obtain ⟨pk, nk, ck, eq1, hIv⟩ := hIv.shape
              obtain rfl : sx = .slice pk nk ck := by injection eq1 with eq1; simp at eq1; exact eq1
              have hIv : IntAt w8 (.agg #[.bool (decide (a2 < 0)), .slice pk nk ck]) a2 := hIv
              have y0 : wr.cell? ⟨bA, oA + i * 3, none⟩ = some (.int .i64 (a1 : Nat)) := (HBi.out.cell (p := ⟨bA, oA + i * 3, none⟩) hbA).trans (kA 0 _ rfl)
              have y1 : wr.cell? ⟨bA, oA + i * 3 + 1, none⟩ = some (.bool (decide (a2 < 0))) := (HBi.out.cell (p := ⟨bA, oA + i * 3 + 1, none⟩) hbA).trans (kA 1 _ rfl)
              have y2 : wr.cell? ⟨bA, oA + i * 3 + 2, none⟩ = some (.slice pk nk ck) := (HBi.out.cell (p := ⟨bA, oA + i * 3 + 2, none⟩) hbA).trans (kA 2 _ rfl)
              generalize decide (a2 < 0) = da at *
              have HIv := hid hIv
              obtain ⟨W3, hW3⟩ : ∃ W3, W3 = wr.alloc (.cells #[.int .i64 (a1 : Nat), .bool da, .slice pk nk ck] 48) := ⟨_, rfl⟩
              have b3 : Below wr.heap.size wr W3 := by rw [hW3]; exact below1 _ _
              have e3 : W3.heap[wr.heap.size]? = some (.cells #[.int .i64 (a1 : Nat), .bool da, .slice pk nk ck] 48 (0, 0)) := by rw [hW3]; exact heap_alloc_new _ _
              have z3 : W3.heap.size = wr.heap.size + 1 := by rw [hW3, size_alloc]
              have E3 := hid e3
              have B3 := hid (lnGo b3 HBi.out)
              obtain ⟨g16, hg16⟩ : ∃ g, g = wr := ⟨_, rfl⟩
              subst hg16
              clear b3 e3 kA hcA eq1 hIv
              go_upto_region 33 with fail
              rw [← hW3]
              clear hW3 y0 y1 y2
              go_wp2_with fail
              go_loopw [113] (fun i' wr => ∃ (k : Nat), k ≤ i ∧ i' = .int .i64 (k : Nat) ∧ Hid (Below W3.heap.size W3 wr)) (fun i' _ => i - (intOf i').toNat)
              case atStart => exact ⟨0, Nat.zero_le _, rfl, hid (Below.refl _ _)⟩
              case round =>
                obtain ⟨k, hk, rfl, HBk⟩ := hrel
                have HBk8 := hid (lnGo HBk.out B3.out)
                by_cases hlk : k < i
                · have hkk : k < S.atoms.length := by omega
                  have hlk' : (k : Int) < (i : Int) := by omega
                  obtain ⟨bA2, oA2, eA, hbA2, hcA⟩ := A4.out (by omega)
                  obtain ⟨rfl, rfl⟩ : bA = bA2 ∧ oA = oA2 := by cases eA; exact ⟨rfl, rfl⟩
                  obtain ⟨cs, kA, sx, ecs, hIw⟩ := hcA k hkk
                  have hne := Hdis.out k hkk hlk
                  generalize S.atoms[k]'hkk = ab at *
                  obtain ⟨b1', b2'⟩ := ab
                  subst ecs
                  obtain ⟨pl, nl, cl, eq2, hIw⟩ := hIw.shape
                  obtain rfl : sx = .slice pl nl cl := by injection eq2 with eq2; simp at eq2; exact eq2
                  have hIw : IntAt w8 (.agg #[.bool (decide (b2' < 0)), .slice pl nl cl]) b2' := hIw
                  have y0 : wr.cell? ⟨bA, oA + k * 3, none⟩ = some (.int .i64 (b1' : Nat)) := (HBk8.out.cell (p := ⟨bA, oA + k * 3, none⟩) hbA).trans (kA 0 _ rfl)
                  have y1 : wr.cell? ⟨bA, oA + k * 3 + 1, none⟩ = some (.bool (decide (b2' < 0))) := (HBk8.out.cell (p := ⟨bA, oA + k * 3 + 1, none⟩) hbA).trans (kA 1 _ rfl)
                  have y2 : wr.cell? ⟨bA, oA + k * 3 + 2, none⟩ = some (.slice pl nl cl) := (HBk8.out.cell (p := ⟨bA, oA + k * 3 + 2, none⟩) hbA).trans (kA 2 _ rfl)
                  generalize decide (b2' < 0) = db at *
                  obtain ⟨W4, hW4⟩ : ∃ W4, W4 = wr.alloc (.cells #[.int .i64 (b1' : Nat), .bool db, .slice pl nl cl] 48) := ⟨_, rfl⟩
                  have b4 : Below wr.heap.size wr W4 := by rw [hW4]; exact below1 _ _
                  have e4 : W4.heap[wr.heap.size]? = some (.cells #[.int .i64 (b1' : Nat), .bool db, .slice pl nl cl] 48 (0, 0)) := by rw [hW4]; exact heap_alloc_new _ _
                  have b34 := lnGo b4 HBk.out
                  have B84 := hid (lnGo b4 HBk8.out)
                  have HSm := hid (SameInt_told10 _ _ a2 b2' W4 (HIv.out.below B84.out) (hIw.below B84.out))
                  obtain ⟨x0, x1, x2⟩ := lnCells3 e4
                  obtain ⟨t0, t1, t2⟩ := lnCells3 ((b34.block g16.heap.size (by omega)).trans E3.out)
                  have B34 := hid b34
                  clear b4 e4 b34 kA hcA eq2 hIw eA
                  go_upto_region 36 with fail
                  rw [← hW4]
                  clear hW4
                  by_cases hab : a1 = b1'
                  case neg =>
                    have hd : ((a1 : Int) == (b1' : Int)) = false := by rw [beq_eq_false_iff_ne]; omega
                    clear hne HSm
                    go_wp2_with fail
                    go_roundw
                    case rel => exact ⟨k + 1, by omega, by go_num, B34⟩
                    case measure => simp [intOf] <;> omega
                  case pos =>
                  subst hab
                  have hd : decide (a2 = b2') = false := by
                    rw [decide_eq_false_iff_not]
                    intro e
                    exact hne (by rw [e])
                  rw [hd] at HSm
                  clear hne
                  go_wp2_with fail
                  refine HSm.out.mono ?_
                  rintro e w9 ⟨rfl, b9⟩
                  have B39 := hid (lnGo b9 B34.out)
                  clear b9 HSm
                  go_wp2_with fail
                  go_roundw
                  case rel => exact ⟨k + 1, by omega, by go_num, B39⟩
                  case measure => simp [intOf] <;> omega
                · obtain rfl : k = i := by omega
                  go_wp2_with fail
                  go_roundw
                  case rel => exact ⟨k + 1, by omega, by go_num, HBk8⟩
                  case measure => simp [intOf] <;> omega
            · obtain rfl : i = NA := by omega
              have HBF := hid (B8.out.trans (HBi.out.mono B8.out.size))
              go_wp2
              go_ret
              exact ⟨rfl, HBF.out⟩
end Go.Proofs.YtnfohbpgnbfmeaaGreatDoor
