/- Texts put together: LnSame, LnLawLaws. -/
import Derived.Test.YtjfcocadohgneaaLinearValuesCardM4
namespace Go.Proofs.Ytjfcocadohgneaa

theorem lnTimes_cf (k t : Int) : ∀ ps, lnCf (lnTimes k ps) t = lnCf ps t * k
  | [] => by simp [lnTimes, lnCf]
  | p :: ps => by
    have ih := lnTimes_cf k t ps
    unfold lnTimes at ih ⊢
    rw [List.map_cons]
    simp only [lnCf, ih, Int.add_mul]
    by_cases e : p.2 = t
    · simp [e]
    · simp [e]
/-- so many times a sum of two is the sum of so many times each -/
theorem ln_spread (k : Int) (a b : List (Int × Int)) : lnSum (lnTimes k (lnSum (a ++ b))) = lnSum (lnSum (lnTimes k a) ++ lnSum (lnTimes k b)) :=
  ln_same (lnSum_is _) (lnSum_is _) (fun t => by
    rw [lnSum_cf, lnTimes_cf, lnSum_cf, lnCf_append, lnSum_cf, lnCf_append, lnSum_cf, lnSum_cf, lnTimes_cf, lnTimes_cf, Int.add_mul])
/-- a sum less itself is nothing -/
theorem ln_less (a : List (Int × Int)) : lnSum (a ++ lnSum (lnTimes (-1) a)) = [] :=
  ln_same (lnSum_is _) ⟨List.Pairwise.nil, fun _ h => by cases h⟩ (fun t => by
    rw [lnSum_cf, lnCf_append, lnSum_cf, lnTimes_cf]
    simp only [lnCf]
    omega)
end Go.Proofs.Ytjfcocadohgneaa

namespace Go.Proofs.Ytjfcocadohgneaa
open Go.RowKit Big

set_option maxHeartbeats 800000 in
theorem RSign_any (v : Value) (z : Int) (w : World) (h : RawAt w v z) : Calls Try.prog 14 #[v] w (RNum .i64 z.sign w) := by
  obtain ⟨neg, s, l, rfl, ha, hs, hl, hz⟩ := h
  have g : ∀ o, Calls Try.prog 21 #[.bool neg, s] (w.alloc o) (RInt z (w.alloc o)) := fun o => by
    rw [hz]; exact Whole_any neg s l _ (ha.alloc o) hs (by omega)
  have G := hid g
  clear g hs hl hz
  obtain ⟨p, c, rfl, -⟩ := ha
  go_enter Try.func14, Try.ntmps14
  go_wp2_with fail
  refine (G.out _).mono ?_
  rintro e w2 ⟨v2, rfl, ⟨s2, rfl, hi2⟩, hb2⟩
  have hlen := sz_eq_zero (n := z.natAbs) W2
  unfold sz at hlen
  obtain ⟨p2, c2, rfl, -⟩ := hi2
  have hpr : Pair w2 w.heap.size 26 := Pair.below (Pair.new ..) hb2
  obtain ⟨_, _, q0, q1, q2, q3⟩ := hpr.cells
  have bw : Below w.heap.size w w2 := (below1 _ _).trans (hb2.mono (B' := w.heap.size) (by simp))
  clear hb2 hpr
  rcases Int.lt_trichotomy z 0 with hz | hz | hz
  · have hs : Hid (z.sign = -1) := Int.sign_eq_neg_one_of_neg hz
    clear hlen
    go_wp2
    go_ret
    exact ⟨by rw [hs.out]; rfl, Below.stored bw (by omega) _ _⟩
  · subst hz
    have hs : Hid ((0 : Int).sign = 0) := rfl
    have h0 : (dig W (0 : Int).natAbs).length = 0 := rfl
    rw [h0]
    clear hlen h0
    go_wp2
    go_ret
    exact ⟨by rw [hs.out]; rfl, Below.stored bw (by omega) _ _⟩
  · have hs : Hid (z.sign = 1) := Int.sign_eq_one_of_pos hz
    have hneg : ¬ z < 0 := by omega
    obtain ⟨n, hn⟩ : ∃ n, n = (dig W z.natAbs).length := ⟨_, rfl⟩
    rw [← hn] at hlen ⊢
    have hn0 : ((n : Int) == 0) = false := beq_eq_false_iff_ne.2 (by omega)
    clear hlen hn
    go_wp2
    go_ret
    exact ⟨by rw [hs.out]; rfl, Below.stored bw (by omega) _ _⟩

end Go.Proofs.Ytjfcocadohgneaa

namespace Go.Proofs.Ytjfcocadohgneaa

theorem vlen6 {vs : List Value} (h : vs.length = 6) : ∃ v0 v1 v2 v3 v4 v5, vs = [v0, v1, v2, v3, v4, v5] := by
  match vs, h with
  | [v0, v1, v2, v3, v4, v5], _ => exact ⟨v0, v1, v2, v3, v4, v5, rfl⟩
theorem vlen8 {vs : List Value} (h : vs.length = 8) : ∃ v0 v1 v2 v3 v4 v5 v6 v7, vs = [v0, v1, v2, v3, v4, v5, v6, v7] := by
  match vs, h with
  | [v0, v1, v2, v3, v4, v5, v6, v7], _ => exact ⟨v0, v1, v2, v3, v4, v5, v6, v7, rfl⟩
end Go.Proofs.Ytjfcocadohgneaa

namespace Go.Proofs.Ytjfcocadohgneaa
open Go.RowKit Big

theorem lnCf_sum_sz {ps : List (Int × Int)} {N : Nat} (h : ∀ t, sz W (lnCf ps t).natAbs ≤ N) : ∀ p ∈ lnSum ps, sz W p.1.natAbs ≤ N := by
  intro p hp
  have hi := lnSum_is ps
  have hc : ∀ (l : List (Int × Int)), lnIs l → ∀ p ∈ l, lnCf l p.2 = p.1 := by
    intro l
    induction l with
    | nil => intro _ p hp; cases hp
    | cons x l ih =>
      intro hl p hp
      rcases List.mem_cons.1 hp with rfl | hp
      · exact lnCf_head hl.1
      · have h1 := (List.pairwise_cons.1 hl.1).1 p hp
        simp only [lnCf]
        rw [if_neg (by omega), ih hl.tail p hp]
        omega
  have := hc _ hi p hp
  rw [← this, lnSum_cf]
  exact h p.2

end Go.Proofs.Ytjfcocadohgneaa

namespace Go.Proofs.Ytjfcocadohgneaa
open Go.ChangeShapes Go.WideShapes Go.ChangeAt Go.RowKit Go.Deep Go.Joins Big

section
variable {H : Type} {enc : TypeId × Value → H} {w : World} {base : Nat} {spare : Nat → Bool} {held : Bool}
set_option maxRecDepth 100000 in
/-- a number by value -/
theorem open_num6 {r : Reach} {b0 : Nat} {v : Value} {d : DataW H} {p : List MemPlace} (hv : Value.okWide Try.prog w r b0 26 v) (h : DataW.Trod enc Try.prog w base spare held 26 v d p) : ∃ x : Nx, ∃ n s, v = .agg #[n, s] ∧ NxQ w [n, s] x := by
  obtain ⟨f0, f1, hs, -⟩ := fieldsIntP
  obtain ⟨cs, rfl, hsz⟩ := okWide_struct hs hv
  obtain ⟨fuel, hf⟩ := h
  obtain ⟨x, hx⟩ := open_nx hf
  obtain ⟨l⟩ := cs
  obtain ⟨q, cq, e, -⟩ := id hx
  have : l = [.bool x.neg, .slice q x.words.length cq] := by simpa [Value.cells] using e
  subst this
  exact ⟨x, _, _, rfl, hx⟩
end
end Go.Proofs.Ytjfcocadohgneaa

/- elenchusref06.Same of two told sums that are one. -/
namespace Go.Proofs.Ytjfcocadohgneaa
open Go.RowKit Big

theorem vlen29 {vs : List Value} (h : vs.length = 29) : ∃ v0 v1 v2 v3 v4 v5 v6 v7 v8 v9 v10 v11 v12 v13 v14 v15 v16 v17 v18 v19 v20 v21 v22 v23 v24 v25 v26 v27 v28, vs = [v0, v1, v2, v3, v4, v5, v6, v7, v8, v9, v10, v11, v12, v13, v14, v15, v16, v17, v18, v19, v20, v21, v22, v23, v24, v25, v26, v27, v28] := by
  match vs, h with
  | v0 :: v1 :: v2 :: v3 :: v4 :: v5 :: v6 :: v7 :: v8 :: v9 :: v10 :: v11 :: v12 :: v13 :: v14 :: v15 :: v16 :: v17 :: v18 :: v19 :: v20 :: v21 :: v22 :: v23 :: v24 :: v25 :: v26 :: v27 :: v28 :: [], _ => exact ⟨v0, v1, v2, v3, v4, v5, v6, v7, v8, v9, v10, v11, v12, v13, v14, v15, v16, v17, v18, v19, v20, v21, v22, v23, v24, v25, v26, v27, v28, rfl⟩
set_option maxRecDepth 100000 in
set_option maxHeartbeats 12800000 in
theorem Same6_true (va vb : Value) (a : List (Int × Int) × Int) (w : World) (ha : LnT w va a) (hb : LnT w vb a) (hl : a.1.length ≤ 1000000000000) : Calls Try.prog 13 #[va, vb] w (RBool true w) := by
  obtain ⟨l, x⟩ := a
  obtain ⟨pv, s, rfl, ⟨pa, ca, rfl, ia1, -, -, ia4⟩, hxa⟩ := ha
  obtain ⟨pv', s', rfl, ⟨pb, cb, rfl, ib1, -, -, ib4⟩, hxb⟩ := hb
  have hl : l.length ≤ 1000000000000 := hl
  have ia1 : l.length ≤ ca := ia1
  have ib1 : l.length ≤ cb := ib1
  have HA4 := hid ia4; have HB4 := hid ib4
  have hsh := hxa.shape
  obtain ⟨px, nx, cx, ex, hxa⟩ := hsh
  injection ex with ex
  obtain rfl : s = .slice px nx cx := by simpa using ex
  have hsh := hxb.shape
  obtain ⟨py, ny, cy, ey, hxb⟩ := hsh
  injection ey with ey
  obtain rfl : s' = .slice py ny cy := by simpa using ey
  clear ex ey
  show Calls Try.prog 13 #[.agg #[.slice pa l.length ca, .bool (decide (x < 0)), .slice px nx cx], .agg #[.slice pb l.length cb, .bool (decide (x < 0)), .slice py ny cy]] w (RBool true w)
  obtain ⟨W, hW⟩ : ∃ W, W = (w.alloc (.cells #[.slice pa l.length ca, .bool (decide (x < 0)), .slice px nx cx] 28)).alloc (.cells #[.slice pb l.length cb, .bool (decide (x < 0)), .slice py ny cy] 28) := ⟨_, rfl⟩
  have b0 : Below w.heap.size w W := by rw [hW]; exact (below1 w _).alloc (by simp) _
  have z0 : W.heap.size = w.heap.size + 2 := by rw [hW, size_alloc, size_alloc]
  have e0 : W.heap[w.heap.size]? = some (.cells #[.slice pa l.length ca, .bool (decide (x < 0)), .slice px nx cx] 28 (0, 0)) := by rw [hW, heap_alloc_old _ _ (by simp)]; exact heap_alloc_new w _
  have e1 : W.heap[w.heap.size + 1]? = some (.cells #[.slice pb l.length cb, .bool (decide (x < 0)), .slice py ny cy] 28 (0, 0)) := by
    have := heap_alloc_new (w.alloc (.cells #[.slice pa l.length ca, .bool (decide (x < 0)), .slice px nx cx] 28)) (.cells #[.slice pb l.length cb, .bool (decide (x < 0)), .slice py ny cy] 28)
    rw [size_alloc] at this
    rw [hW]; exact this
  have HXa := hid (hxa.below b0); have HXb := hid (hxb.below b0)
  have B0 := hid b0; have E0 := hid e0; have E1 := hid e1; have Z0 := hid z0
  obtain ⟨y0, y1, y2⟩ := lnCells3 e0
  obtain ⟨y3, y4, y5⟩ := lnCells3 e1
  obtain ⟨L, hLL⟩ : ∃ L, L = l.length := ⟨_, rfl⟩
  have HLL := hid hLL
  rw [← hLL] at y0 y3 hl E0 E1 hW ia1 ib1 ⊢
  generalize decide (x < 0) = nn at *
  clear hxa hxb ia4 ib4 b0 e0 e1 z0 hLL
  go_enter Try.func13, Try.ntmps13
  go_upto_region 1 with fail
  rw [← hW]
  clear hW
  go_wp2_with fail
  refine (SameInt_same _ _ x W HXa.out HXb.out).mono ?_
  rintro e w1 ⟨rfl, b1⟩
  have HB1 := hid b1
  have hz1 := b1.size
  obtain ⟨y0, y1, y2⟩ := lnCells3 ((b1.block w.heap.size (by have := Z0.out; omega)).trans E0.out)
  clear b1 y3 y4 y5
  go_wp2_with fail
  clear y0 y1 y2
  go_loopw [24] (fun i wr => ∃ (k : Nat), k ≤ L ∧ i = .int .i64 (k : Nat) ∧ Hid (Below W.heap.size W wr)) (fun i _ => L - (intOf i).toNat)
  case atStart => exact ⟨0, Nat.zero_le _, rfl, HB1⟩
  case round =>
    obtain ⟨k, hk, rfl, HB⟩ := hrel
    have HBw := hid (lnGo HB.out B0.out)
    by_cases hlt : k < L
    · have hkt : k < l.length := by rw [← HLL.out]; exact hlt
      have hlt' : (k : Int) < (L : Int) := by omega
      obtain ⟨ba, oa, rfl, hba, hca⟩ := HA4.out (by show 0 < l.length; omega)
      obtain ⟨bb, ob, rfl, hbb, hcb⟩ := HB4.out (by show 0 < l.length; omega)
      obtain ⟨cs, ka, s1, ecs, i1, -⟩ := hca k hkt
      obtain ⟨cs', kb, s2, ecs', i2, -⟩ := hcb k hkt
      have hsh := i1.shape
      obtain ⟨qa, na, da, e1, i1⟩ := hsh
      injection e1 with e1
      obtain rfl : s1 = .slice qa na da := by simpa using e1
      have hsh := i2.shape
      obtain ⟨qb, nb, db, e2, i2⟩ := hsh
      injection e2 with e2
      obtain rfl : s2 = .slice qb nb db := by simpa using e2
      clear e1 e2
      have ecs : cs = [.bool (decide ((l[k]'hkt).1 < 0)), .slice qa na da, .int .i64 (l[k]'hkt).2] := ecs
      have ecs' : cs' = [.bool (decide ((l[k]'hkt).1 < 0)), .slice qb nb db, .int .i64 (l[k]'hkt).2] := ecs'
      subst ecs ecs'
      have a0 := (HBw.out.cell (p := ⟨ba, oa + k * 3, none⟩) hba).trans (ka 0 _ rfl)
      have a1 := (HBw.out.cell (p := ⟨ba, oa + k * 3 + 1, none⟩) hba).trans (ka 1 _ rfl)
      have a2 := (HBw.out.cell (p := ⟨ba, oa + k * 3 + 2, none⟩) hba).trans (ka 2 _ rfl)
      have b0 := (HBw.out.cell (p := ⟨bb, ob + k * 3, none⟩) hbb).trans (kb 0 _ rfl)
      have b1 := (HBw.out.cell (p := ⟨bb, ob + k * 3 + 1, none⟩) hbb).trans (kb 1 _ rfl)
      have b2 := (HBw.out.cell (p := ⟨bb, ob + k * 3 + 2, none⟩) hbb).trans (kb 2 _ rfl)
      have HIa : Hid (IntAt wr (.agg #[.bool (decide ((l[k]'hkt).1 < 0)), .slice qa na da]) (l[k]'hkt).1) := hid (i1.below HBw.out)
      have HIb : Hid (IntAt wr (.agg #[.bool (decide ((l[k]'hkt).1 < 0)), .slice qb nb db]) (l[k]'hkt).1) := hid (i2.below HBw.out)
      have hzr := HB.out.size
      generalize (l[k]'hkt).1 = c at *
      generalize (l[k]'hkt).2 = t at *
      have hbar : ba < wr.heap.size := Nat.lt_of_lt_of_le hba HBw.out.size
      have hbbr : bb < wr.heap.size := Nat.lt_of_lt_of_le hbb HBw.out.size
      have HS : Hid (∀ w', Below wr.heap.size wr w' → w'.cell? ⟨w.heap.size, 0, none⟩ = some (.slice (some ⟨ba, oa, none⟩) L ca) ∧ w'.cell? ⟨w.heap.size + 1, 0, none⟩ = some (.slice (some ⟨bb, ob, none⟩) L cb) ∧
          (w'.cell? ⟨ba, oa + k * 3, none⟩ = some (.bool (decide (c < 0))) ∧ w'.cell? ⟨ba, oa + k * 3 + 1, none⟩ = some (.slice qa na da) ∧ w'.cell? ⟨ba, oa + k * 3 + 2, none⟩ = some (.int .i64 t)) ∧
          (w'.cell? ⟨bb, ob + k * 3, none⟩ = some (.bool (decide (c < 0))) ∧ w'.cell? ⟨bb, ob + k * 3 + 1, none⟩ = some (.slice qb nb db) ∧ w'.cell? ⟨bb, ob + k * 3 + 2, none⟩ = some (.int .i64 t))) := hid fun w' hb => by
        have hzz := Z0.out
        obtain ⟨t0, -, -⟩ := lnCells3 ((hb.block w.heap.size (by omega)).trans ((HB.out.block w.heap.size (by omega)).trans E0.out))
        obtain ⟨t1, -, -⟩ := lnCells3 ((hb.block (w.heap.size + 1) (by omega)).trans ((HB.out.block (w.heap.size + 1) (by omega)).trans E1.out))
        have ca' : ∀ o, w'.cell? ⟨ba, o, none⟩ = wr.cell? ⟨ba, o, none⟩ := fun o => hb.cell (p := ⟨ba, o, none⟩) hbar
        have cb' : ∀ o, w'.cell? ⟨bb, o, none⟩ = wr.cell? ⟨bb, o, none⟩ := fun o => hb.cell (p := ⟨bb, o, none⟩) hbbr
        exact ⟨t0, t1, ⟨(ca' _).trans a0, (ca' _).trans a1, (ca' _).trans a2⟩, (cb' _).trans b0, (cb' _).trans b1, (cb' _).trans b2⟩
      clear a0 a1 a2 b0 b1 b2 ka kb hca hcb i1 i2 HA4 HB4
      go_upto_region 6 with fail
      refine wp_region_facts (w0 := wr) 29 0 [27, 28, 29, 30, 31, 32, 33, 34, 35, 36, 37, 38, 39, 40, 41, 42, 43, 44, 45, 46, 47, 48, 49, 50, 51, 52, 53, 54, 55] [u27, u28, u29, u30, u31, u32, u33, u34, u35, u36, u37, u38, u39, u40, u41, u42, u43, u44, u45, u46, u47, u48, u49, u50, u51, u52, u53, u54, u55]
        (fun i => match i with | 0 => lnE (.pointer (some ⟨w.heap.size, 0, none⟩)) | 1 => lnE (.slice (some ⟨ba, oa, none⟩) L ca) | 2 => lnE (.int .i64 (k : Nat)) | 3 => lnE (.pointer (some ⟨ba, oa + k * 3, none⟩)) | 4 => lnE (.pointer (some ⟨ba, oa + k * 3 + 2, none⟩)) | 5 => lnE (.int .i64 t) | 6 => lnE (.pointer (some ⟨w.heap.size + 1, 0, none⟩)) | 7 => lnE (.slice (some ⟨bb, ob, none⟩) L cb) | 8 => lnE (.int .i64 (k : Nat)) | 9 => lnE (.pointer (some ⟨bb, ob + k * 3, none⟩)) | 10 => lnE (.pointer (some ⟨bb, ob + k * 3 + 2, none⟩)) | 11 => lnE (.int .i64 t) | 12 => lnE (.bool false) | 13 => lnE (.bool false) | 14 => lnE (.pointer (some ⟨w.heap.size, 0, none⟩)) | 15 => lnE (.slice (some ⟨ba, oa, none⟩) L ca) | 16 => lnE (.int .i64 (k : Nat)) | 17 => lnE (.pointer (some ⟨ba, oa + k * 3, none⟩)) | 18 => lnE (.pointer (some ⟨ba, oa + k * 3, none⟩)) | 19 => lnE (.agg #[.bool (decide (c < 0)), .slice qa na da]) | 20 => lnE (.pointer (some ⟨w.heap.size + 1, 0, none⟩)) | 21 => lnE (.slice (some ⟨bb, ob, none⟩) L cb) | 22 => lnE (.int .i64 (k : Nat)) | 23 => lnE (.pointer (some ⟨bb, ob + k * 3, none⟩)) | 24 => lnE (.pointer (some ⟨bb, ob + k * 3, none⟩)) | 25 => lnE (.agg #[.bool (decide (c < 0)), .slice qb nb db]) | 26 => lnE (.bool true) | 27 => lnE (.bool false) | _ => lnE (.bool false)) [] (by kernel_rfl) (by kernel_rfl) (by kernel_rfl) (by kernel_rfl) (by decide) rfl (by kernel_rfl) rfl (by simp) ?he1 ?_ ?_ ?_
      case he1 => simp only [putAll, Act.put, List.setIfInBounds_toArray, List.set_cons_zero, List.set_cons_succ]
      · intro i hi; simp at hi
      · intro i o hi ho vs wx hvl hb hdep K hK
        have hvs := vlen29 hvl
        obtain ⟨s27, s28, s29, s30, s31, s32, s33, s34, s35, s36, s37, s38, s39, s40, s41, s42, s43, s44, s45, s46, s47, s48, s49, s50, s51, s52, s53, s54, s55, rfl⟩ := hvs
        clear hvl
        have hk5 := HS.out wx hb
        obtain ⟨y0, y1, ⟨y2, y3, y4⟩, y5, y6, y7⟩ := hk5
        rcases i with _ | _ | _ | _ | _ | _ | _ | _ | _ | _ | _ | _ | _ | _ | _ | _ | _ | _ | _ | _ | _ | _ | _ | _ | _ | _ | _ | _ | _ | i
        all_goals (simp only [List.getElem?_toArray, List.getElem?_cons_zero, List.getElem?_cons_succ, Option.some.injEq] at ho)
        all_goals try (subst ho)
        all_goals try simp only [putAll, Act.put, List.setIfInBounds_toArray, List.set_cons_zero, List.set_cons_succ]
        · go_simp
          have hK' := hK.out
          simp only [putAll, Act.put, List.setIfInBounds_toArray, List.set_cons_zero, List.set_cons_succ] at hK'
          exact hK' _ _ rfl (Below.refl _ _) (by simp)
        · have e0 : s27 = _ := hdep ⟨0, .data⟩ (by simp) rfl
          have e0 := e0.symm
          subst e0
          go_simp
          have hK' := hK.out
          simp only [putAll, Act.put, List.setIfInBounds_toArray, List.set_cons_zero, List.set_cons_succ] at hK'
          exact hK' _ _ rfl (Below.refl _ _) (by simp)
        · go_simp
          have hK' := hK.out
          simp only [putAll, Act.put, List.setIfInBounds_toArray, List.set_cons_zero, List.set_cons_succ] at hK'
          exact hK' _ _ rfl (Below.refl _ _) (by simp)
        · have e1 : s28 = _ := hdep ⟨1, .data⟩ (by simp) rfl
          have e1 := e1.symm
          subst e1
          have e2 : s29 = _ := hdep ⟨2, .data⟩ (by simp) rfl
          have e2 := e2.symm
          subst e2
          go_simp
          have hK' := hK.out
          simp only [putAll, Act.put, List.setIfInBounds_toArray, List.set_cons_zero, List.set_cons_succ] at hK'
          exact hK' _ _ rfl (Below.refl _ _) (by simp)
        · have e3 : s30 = _ := hdep ⟨3, .data⟩ (by simp) rfl
          have e3 := e3.symm
          subst e3
          go_simp
          have hK' := hK.out
          simp only [putAll, Act.put, List.setIfInBounds_toArray, List.set_cons_zero, List.set_cons_succ] at hK'
          exact hK' _ _ rfl (Below.refl _ _) (by simp)
        · have e4 : s31 = _ := hdep ⟨4, .data⟩ (by simp) rfl
          have e4 := e4.symm
          subst e4
          go_simp
          have hK' := hK.out
          simp only [putAll, Act.put, List.setIfInBounds_toArray, List.set_cons_zero, List.set_cons_succ] at hK'
          exact hK' _ _ rfl (Below.refl _ _) (by simp)
        · go_simp
          have hK' := hK.out
          simp only [putAll, Act.put, List.setIfInBounds_toArray, List.set_cons_zero, List.set_cons_succ] at hK'
          exact hK' _ _ rfl (Below.refl _ _) (by simp)
        · have e6 : s33 = _ := hdep ⟨6, .data⟩ (by simp) rfl
          have e6 := e6.symm
          subst e6
          go_simp
          have hK' := hK.out
          simp only [putAll, Act.put, List.setIfInBounds_toArray, List.set_cons_zero, List.set_cons_succ] at hK'
          exact hK' _ _ rfl (Below.refl _ _) (by simp)
        · go_simp
          have hK' := hK.out
          simp only [putAll, Act.put, List.setIfInBounds_toArray, List.set_cons_zero, List.set_cons_succ] at hK'
          exact hK' _ _ rfl (Below.refl _ _) (by simp)
        · have e7 : s34 = _ := hdep ⟨7, .data⟩ (by simp) rfl
          have e7 := e7.symm
          subst e7
          have e8 : s35 = _ := hdep ⟨8, .data⟩ (by simp) rfl
          have e8 := e8.symm
          subst e8
          go_simp
          have hK' := hK.out
          simp only [putAll, Act.put, List.setIfInBounds_toArray, List.set_cons_zero, List.set_cons_succ] at hK'
          exact hK' _ _ rfl (Below.refl _ _) (by simp)
        · have e9 : s36 = _ := hdep ⟨9, .data⟩ (by simp) rfl
          have e9 := e9.symm
          subst e9
          go_simp
          have hK' := hK.out
          simp only [putAll, Act.put, List.setIfInBounds_toArray, List.set_cons_zero, List.set_cons_succ] at hK'
          exact hK' _ _ rfl (Below.refl _ _) (by simp)
        · have e10 : s37 = _ := hdep ⟨10, .data⟩ (by simp) rfl
          have e10 := e10.symm
          subst e10
          go_simp
          have hK' := hK.out
          simp only [putAll, Act.put, List.setIfInBounds_toArray, List.set_cons_zero, List.set_cons_succ] at hK'
          exact hK' _ _ rfl (Below.refl _ _) (by simp)
        · have e5 : s32 = _ := hdep ⟨5, .data⟩ (by simp) rfl
          have e5 := e5.symm
          subst e5
          have e11 : s38 = _ := hdep ⟨11, .data⟩ (by simp) rfl
          have e11 := e11.symm
          subst e11
          go_simp
          have hK' := hK.out
          simp only [putAll, Act.put, List.setIfInBounds_toArray, List.set_cons_zero, List.set_cons_succ] at hK'
          exact hK' _ _ (show _ = Value.bool false by first | rfl | simp) (Below.refl _ _) (by simp)
        · have e12 : s39 = _ := hdep ⟨12, .data⟩ (by simp) rfl
          have e12 := e12.symm
          subst e12
          go_simp
          have hK' := hK.out
          simp only [putAll, Act.put, List.setIfInBounds_toArray, List.set_cons_zero, List.set_cons_succ] at hK'
          exact hK' _ _ rfl (Below.refl _ _) (by simp)
        · have eg : s40 = _ := hdep ⟨13, .guard⟩ (by simp) rfl
          have eg := eg.symm
          subst eg
          go_simp
          have hK' := hK.out
          simp only [putAll, Act.put, List.setIfInBounds_toArray, List.set_cons_zero, List.set_cons_succ] at hK'
          exact hK' _ _ rfl (Below.refl _ _) (by simp)
        · have e14 : s41 = _ := hdep ⟨14, .data⟩ (by simp) rfl
          have e14 := e14.symm
          subst e14
          have eg : s40 = _ := hdep ⟨13, .guard⟩ (by simp) rfl
          have eg := eg.symm
          subst eg
          go_simp
          have hK' := hK.out
          simp only [putAll, Act.put, List.setIfInBounds_toArray, List.set_cons_zero, List.set_cons_succ] at hK'
          exact hK' _ _ rfl (Below.refl _ _) (by simp)
        · have eg : s40 = _ := hdep ⟨13, .guard⟩ (by simp) rfl
          have eg := eg.symm
          subst eg
          go_simp
          have hK' := hK.out
          simp only [putAll, Act.put, List.setIfInBounds_toArray, List.set_cons_zero, List.set_cons_succ] at hK'
          exact hK' _ _ rfl (Below.refl _ _) (by simp)
        · have e15 : s42 = _ := hdep ⟨15, .data⟩ (by simp) rfl
          have e15 := e15.symm
          subst e15
          have e16 : s43 = _ := hdep ⟨16, .data⟩ (by simp) rfl
          have e16 := e16.symm
          subst e16
          have eg : s40 = _ := hdep ⟨13, .guard⟩ (by simp) rfl
          have eg := eg.symm
          subst eg
          go_simp
          have hK' := hK.out
          simp only [putAll, Act.put, List.setIfInBounds_toArray, List.set_cons_zero, List.set_cons_succ] at hK'
          exact hK' _ _ rfl (Below.refl _ _) (by simp)
        · have e17 : s44 = _ := hdep ⟨17, .data⟩ (by simp) rfl
          have e17 := e17.symm
          subst e17
          have eg : s40 = _ := hdep ⟨13, .guard⟩ (by simp) rfl
          have eg := eg.symm
          subst eg
          go_simp
          have hK' := hK.out
          simp only [putAll, Act.put, List.setIfInBounds_toArray, List.set_cons_zero, List.set_cons_succ] at hK'
          exact hK' _ _ rfl (Below.refl _ _) (by simp)
        · have e18 : s45 = _ := hdep ⟨18, .data⟩ (by simp) rfl
          have e18 := e18.symm
          subst e18
          have eg : s40 = _ := hdep ⟨13, .guard⟩ (by simp) rfl
          have eg := eg.symm
          subst eg
          go_simp
          have hK' := hK.out
          simp only [putAll, Act.put, List.setIfInBounds_toArray, List.set_cons_zero, List.set_cons_succ] at hK'
          exact hK' _ _ rfl (Below.refl _ _) (by simp)
        · have eg : s40 = _ := hdep ⟨13, .guard⟩ (by simp) rfl
          have eg := eg.symm
          subst eg
          go_simp
          have hK' := hK.out
          simp only [putAll, Act.put, List.setIfInBounds_toArray, List.set_cons_zero, List.set_cons_succ] at hK'
          exact hK' _ _ rfl (Below.refl _ _) (by simp)
        · have e20 : s47 = _ := hdep ⟨20, .data⟩ (by simp) rfl
          have e20 := e20.symm
          subst e20
          have eg : s40 = _ := hdep ⟨13, .guard⟩ (by simp) rfl
          have eg := eg.symm
          subst eg
          go_simp
          have hK' := hK.out
          simp only [putAll, Act.put, List.setIfInBounds_toArray, List.set_cons_zero, List.set_cons_succ] at hK'
          exact hK' _ _ rfl (Below.refl _ _) (by simp)
        · have eg : s40 = _ := hdep ⟨13, .guard⟩ (by simp) rfl
          have eg := eg.symm
          subst eg
          go_simp
          have hK' := hK.out
          simp only [putAll, Act.put, List.setIfInBounds_toArray, List.set_cons_zero, List.set_cons_succ] at hK'
          exact hK' _ _ rfl (Below.refl _ _) (by simp)
        · have e21 : s48 = _ := hdep ⟨21, .data⟩ (by simp) rfl
          have e21 := e21.symm
          subst e21
          have e22 : s49 = _ := hdep ⟨22, .data⟩ (by simp) rfl
          have e22 := e22.symm
          subst e22
          have eg : s40 = _ := hdep ⟨13, .guard⟩ (by simp) rfl
          have eg := eg.symm
          subst eg
          go_simp
          have hK' := hK.out
          simp only [putAll, Act.put, List.setIfInBounds_toArray, List.set_cons_zero, List.set_cons_succ] at hK'
          exact hK' _ _ rfl (Below.refl _ _) (by simp)
        · have e23 : s50 = _ := hdep ⟨23, .data⟩ (by simp) rfl
          have e23 := e23.symm
          subst e23
          have eg : s40 = _ := hdep ⟨13, .guard⟩ (by simp) rfl
          have eg := eg.symm
          subst eg
          go_simp
          have hK' := hK.out
          simp only [putAll, Act.put, List.setIfInBounds_toArray, List.set_cons_zero, List.set_cons_succ] at hK'
          exact hK' _ _ rfl (Below.refl _ _) (by simp)
        · have e24 : s51 = _ := hdep ⟨24, .data⟩ (by simp) rfl
          have e24 := e24.symm
          subst e24
          have eg : s40 = _ := hdep ⟨13, .guard⟩ (by simp) rfl
          have eg := eg.symm
          subst eg
          go_simp
          have hK' := hK.out
          simp only [putAll, Act.put, List.setIfInBounds_toArray, List.set_cons_zero, List.set_cons_succ] at hK'
          exact hK' _ _ rfl (Below.refl _ _) (by simp)
        · have e19 : s46 = _ := hdep ⟨19, .data⟩ (by simp) rfl
          have e19 := e19.symm
          subst e19
          have e25 : s52 = _ := hdep ⟨25, .data⟩ (by simp) rfl
          have e25 := e25.symm
          subst e25
          have eg : s40 = _ := hdep ⟨13, .guard⟩ (by simp) rfl
          have eg := eg.symm
          subst eg
          go_simp
          go_simp
          refine (SameInt_same _ _ c wx (HIa.out.below hb) (HIb.out.below hb)).mono ?_
          rintro e wy ⟨rfl, hby⟩
          go_wp2_with fail
          have hK' := hK.out
          simp only [putAll, Act.put, List.setIfInBounds_toArray, List.set_cons_zero, List.set_cons_succ] at hK'
          exact hK' _ _ rfl hby (by simp)
        · have e26 : s53 = _ := hdep ⟨26, .data⟩ (by simp) rfl
          have e26 := e26.symm
          subst e26
          have eg : s40 = _ := hdep ⟨13, .guard⟩ (by simp) rfl
          have eg := eg.symm
          subst eg
          go_simp
          have hK' := hK.out
          simp only [putAll, Act.put, List.setIfInBounds_toArray, List.set_cons_zero, List.set_cons_succ] at hK'
          exact hK' _ _ rfl (Below.refl _ _) (by simp)
        · have e13 : s40 = _ := hdep ⟨13, .data⟩ (by simp) rfl
          have e13 := e13.symm
          subst e13
          have e27 : s54 = _ := hdep ⟨27, .data⟩ (by simp) rfl
          have e27 := e27.symm
          subst e27
          go_simp
          have hK' := hK.out
          simp only [putAll, Act.put, List.setIfInBounds_toArray, List.set_cons_zero, List.set_cons_succ] at hK'
          exact hK' _ _ rfl (Below.refl _ _) (by simp)
        · omega
      · intro vs wx hvl hb hf hdist
        have hvs := vlen29 hvl
        obtain ⟨s27, s28, s29, s30, s31, s32, s33, s34, s35, s36, s37, s38, s39, s40, s41, s42, s43, s44, s45, s46, s47, s48, s49, s50, s51, s52, s53, s54, s55, rfl⟩ := hvs
        have f28 : s55 = .bool false := hf 28 (by decide)
        subst f28
        have HB9 := hid (lnGo hb HB.out)
        clear hf hvl hdist
        refine wpAny_done (by kernel_rfl) ?_ _
        try simp only [putAll, Act.put, List.setIfInBounds_toArray, List.set_cons_zero, List.set_cons_succ]
        go_wp2_with fail
        go_roundw
        case rel => exact ⟨k + 1, by omega, by go_num, HB9⟩
        case measure => simp [intOf] <;> omega
    · obtain rfl : k = L := by omega
      go_wp2
      go_ret
      exact ⟨rfl, HBw.out⟩
end Go.Proofs.Ytjfcocadohgneaa
/- elenchuslaw06.LinearLaws. -/
namespace Go.Proofs.Ytjfcocadohgneaa
open Go.RowKit Big

theorem lnPut_len (p : Int × Int) : ∀ l, (lnPut l p).length ≤ l.length + 1
  | [] => by simp [lnPut]
  | x :: l => by
    have ih := lnPut_len p l
    unfold lnPut
    split
    · simp
    · split
      · simp
      · simp only [List.length_cons]; omega
theorem lnAll_len : ∀ (ps l : List (Int × Int)), (ps.foldl lnPut l).length ≤ l.length + ps.length
  | [], l => by simp
  | p :: ps, l => by
    rw [List.foldl_cons]
    have := lnAll_len ps (lnPut l p)
    have := lnPut_len p l
    simp only [List.length_cons]
    omega
theorem lnSum_len (ps : List (Int × Int)) : (lnSum ps).length ≤ ps.length := by
  have := lnAll_len ps []
  unfold lnSum lnClean
  exact Nat.le_trans (List.length_filter_le _ _) (by simpa using this)
theorem lnSum_sz {N : Nat} (hN : 1 ≤ N) {ps : List (Int × Int)} (h : ∀ p ∈ ps, sz W p.1.natAbs ≤ N) : ∀ p ∈ lnSum ps, sz W p.1.natAbs ≤ N + ps.length := lnCf_sum_sz (fun t => lnCf_sz hN t ps h)
theorem lnTimes_sz {N : Nat} {k : Int} (hk : sz W k.natAbs ≤ N) {ps : List (Int × Int)} (h : ∀ p ∈ ps, sz W p.1.natAbs ≤ N) : ∀ p ∈ lnTimes k ps, sz W p.1.natAbs ≤ N + N := by
  intro p hp
  obtain ⟨q, hq, rfl⟩ := List.mem_map.1 hp
  show sz W (q.1 * k).natAbs ≤ _
  rw [Int.natAbs_mul]
  exact Nat.le_trans (sz_mul W2 _ _) (by have := h q hq; omega)
theorem lnTimes_len (k : Int) (ps : List (Int × Int)) : (lnTimes k ps).length = ps.length := by unfold lnTimes; rw [List.length_map]
theorem sz_addI {a b : Int} {k : Nat} (ha : sz W a.natAbs ≤ k) (hb : sz W b.natAbs ≤ k) : sz W (a + b).natAbs ≤ k + 1 := Nat.le_trans (sz_mono W2 (Int.natAbs_add_le _ _)) (sz_add W2 ha hb)
theorem sz_mulI {a b : Int} {k : Nat} (ha : sz W a.natAbs ≤ k) (hb : sz W b.natAbs ≤ k) : sz W (a * b).natAbs ≤ k + k := by rw [Int.natAbs_mul]; exact Nat.le_trans (sz_mul W2 _ _) (by omega)
/-- a fresh variable of type api.Linear -/
def lnV (B : Nat) : SFact := ⟨fun v w => ∃ g, v = .pointer (some ⟨g, 0, none⟩) ∧ B ≤ g ∧ w.heap[g]? = some (.cells #[.slice none 0 0, .bool false, .slice none 0 0] 28 (0, 0)),
  fun _ _ _ ⟨g, h1, h2, h3⟩ hb => ⟨g, h1, h2, (hb.block g (Array.getElem?_eq_some_iff.1 h3).1).trans h3⟩⟩
theorem st3_at {w : World} {g : Nat} {x y z : Value} {T : TypeId} (h : w.heap[g]? = some (.cells #[x, y, z] T (0, 0))) (a b c : Value) : (st3 w g a b c).heap[g]? = some (.cells #[a, b, c] T (0, 0)) := by
  have h1 := heap_setCell_same w g 0 _ _ a h
  have h2 := heap_setCell_same _ g 1 _ _ b h1
  exact heap_setCell_same _ g 2 _ _ c h2
set_option maxRecDepth 100000 in
set_option maxHeartbeats 12800000 in
theorem lawLaws6_any (va vb : Value) (x y : Lx) (z : Nx) (n s : Value) (w : World) (ha : LxQ w va x) (hb : LxQ w vb y) (hk : NxQ w [n, s] z) : Calls Try.prog 4 #[va, vb, .agg #[n, s]] w (RBool true w) := by
  obtain ⟨p0, c0, q0, k0, d0, rfl⟩ := ha.agg3
  obtain ⟨p1, c1, q1, k1, d1, rfl⟩ := hb.agg3
  have HA := hid ha; have HB := hid hb; have HK0 := hid hk
  obtain ⟨pk, ck, ek, -, -⟩ := hk
  injection ek with e1 ek
  injection ek with e2 _
  subst e1 e2
  have Hzf : Hid (z.fit ↔ z.words.length ≤ 6) := hid Iff.rfl
  obtain ⟨n0, hn⟩ : ∃ n, n = x.parts.length := ⟨_, rfl⟩
  obtain ⟨b0, hb0⟩ : ∃ n, n = x.rest.neg := ⟨_, rfl⟩
  obtain ⟨n1, hn1⟩ : ∃ n, n = y.parts.length := ⟨_, rfl⟩
  obtain ⟨b1, hb1⟩ : ∃ n, n = y.rest.neg := ⟨_, rfl⟩
  obtain ⟨nk, hnk⟩ : ∃ n, n = z.words.length := ⟨_, rfl⟩
  obtain ⟨bk, hbk⟩ : ∃ n, n = z.neg := ⟨_, rfl⟩
  rw [← hn, ← hb0] at HA ⊢
  rw [← hn1, ← hb1] at HB ⊢
  rw [← hnk, ← hbk] at HK0 ⊢
  rw [← hnk] at Hzf
  clear hn hb0 hn1 hb1 hnk hbk ha hb
  obtain ⟨W3, hW⟩ : ∃ W3, W3 = ((w.alloc (.cells #[.slice p0 n0 c0, .bool b0, .slice q0 k0 d0] 28)).alloc (.cells #[.slice p1 n1 c1, .bool b1, .slice q1 k1 d1] 28)).alloc (.cells #[.bool bk, .slice pk nk ck] 26) := ⟨_, rfl⟩
  have hb3 : Below w.heap.size w W3 := by rw [hW]; exact ((below1 _ _).alloc (by simp) _).alloc (by simp; omega) _
  have z3 : W3.heap.size = w.heap.size + 3 := by rw [hW]; simp
  have e0 : W3.heap[w.heap.size]? = some (.cells #[.slice p0 n0 c0, .bool b0, .slice q0 k0 d0] 28 (0, 0)) := by rw [hW, heap_alloc_old _ _ (by simp; omega), heap_alloc_old _ _ (by simp)]; exact heap_alloc_new _ _
  have e1 : W3.heap[w.heap.size + 1]? = some (.cells #[.slice p1 n1 c1, .bool b1, .slice q1 k1 d1] 28 (0, 0)) := by
    rw [hW, heap_alloc_old _ _ (by simp)]
    have := heap_alloc_new (w.alloc (.cells #[.slice p0 n0 c0, .bool b0, .slice q0 k0 d0] 28)) (.cells #[.slice p1 n1 c1, .bool b1, .slice q1 k1 d1] 28)
    rwa [size_alloc] at this
  have e2 : W3.heap[w.heap.size + 1 + 1]? = some (.cells #[.bool bk, .slice pk nk ck] 26 (0, 0)) := by
    have := heap_alloc_new ((w.alloc (.cells #[.slice p0 n0 c0, .bool b0, .slice q0 k0 d0] 28)).alloc (.cells #[.slice p1 n1 c1, .bool b1, .slice q1 k1 d1] 28)) (.cells #[.bool bk, .slice pk nk ck] 26)
    rw [size_alloc, size_alloc] at this
    rw [hW]; exact this
  -- the three variables stay
  obtain ⟨Bx, hBx⟩ : ∃ Bx : World → Prop, Bx = fun w' => w'.heap[w.heap.size]? = some (.cells #[.slice p0 n0 c0, .bool b0, .slice q0 k0 d0] 28 (0, 0)) ∧ w'.heap[w.heap.size + 1]? = some (.cells #[.slice p1 n1 c1, .bool b1, .slice q1 k1 d1] 28 (0, 0)) ∧ w'.heap[w.heap.size + 1 + 1]? = some (.cells #[.bool bk, .slice pk nk ck] 26 (0, 0)) ∧ w.heap.size + 3 ≤ w'.heap.size := ⟨_, rfl⟩
  have HBX : Hid (∀ u u', Bx u → Below u.heap.size u u' → Bx u') := hid (by
    intro u u' h hb
    rw [hBx] at h ⊢
    obtain ⟨h1, h2, h3, h4⟩ := h
    exact ⟨(hb.block _ (by omega)).trans h1, (hb.block _ (by omega)).trans h2, (hb.block _ (by omega)).trans h3, Nat.le_trans h4 hb.size⟩)
  have HBS : Hid (∀ u g a b c, Bx u → w.heap.size + 3 ≤ g → Bx (st3 u g a b c)) := hid (by
    intro u g a b c h hg
    rw [hBx] at h ⊢
    obtain ⟨h1, h2, h3, h4⟩ := h
    have hA := st3_apart u g a b c
    exact ⟨(hA.block _ (by omega) (by omega)).trans h1, (hA.block _ (by omega) (by omega)).trans h2, (hA.block _ (by omega) (by omega)).trans h3, Nat.le_trans h4 hA.size⟩)
  have HBC : Hid (∀ u, Bx u → (u.cell? ⟨w.heap.size, 0, none⟩ = some (.slice p0 n0 c0) ∧ u.cell? ⟨w.heap.size, 1, none⟩ = some (.bool b0) ∧ u.cell? ⟨w.heap.size, 2, none⟩ = some (.slice q0 k0 d0)) ∧ (u.cell? ⟨w.heap.size + 1, 0, none⟩ = some (.slice p1 n1 c1) ∧ u.cell? ⟨w.heap.size + 1, 1, none⟩ = some (.bool b1) ∧ u.cell? ⟨w.heap.size + 1, 2, none⟩ = some (.slice q1 k1 d1)) ∧
      (u.cell? ⟨w.heap.size + 1 + 1, 0, none⟩ = some (.bool bk) ∧ u.cell? ⟨w.heap.size + 1 + 1, 1, none⟩ = some (.slice pk nk ck)) ∧ w.heap.size + 3 ≤ u.heap.size) := hid (by
    intro u h
    rw [hBx] at h
    obtain ⟨h1, h2, h3, h4⟩ := h
    exact ⟨lnCells3 h1, lnCells3 h2, ⟨(two_cells h3).1, (two_cells h3).2.1⟩, h4⟩)
  have X3 : Hid (Bx W3) := hid (by rw [hBx]; exact ⟨e0, e1, e2, by omega⟩)
  have H3 := hid hb3
  clear e0 e1 e2 hBx hb3
  go_enter Try.func4, Try.ntmps4
  go_upto_region 1 with fail
  rw [← hW]
  clear hW
  go_wp2_with fail
  refine (fixed6_any W3).mono ?_
  rintro e w4 ⟨rfl, b4⟩
  have H4 := hid (lnGo b4 H3.out)
  have X4 := hid (HBX.out _ _ X3.out b4)
  clear b4 X3
  obtain ⟨⟨y0, y1, y2⟩, ⟨y3, y4, y5⟩, ⟨y6, y7⟩, hz4⟩ := HBC.out _ X4.out
  have HF1 := hid (Few6_any _ x w4 (HA.out.below H4.out))
  go_upto_region 3 with fail
  go_wp2_with fail
  refine HF1.out.mono ?_
  rintro e w5 ⟨bf, rfl, hfit, b5⟩
  have H5 := hid (lnGo b5 H4.out)
  have X5 := hid (HBX.out _ _ X4.out b5)
  clear b5 X4 y0 y1 y2 y3 y4 y5 y6 y7 HF1
  cases bf with
  | false =>
    clear hfit
    go_wp2
    go_ret
    exact ⟨rfl, H5.out⟩
  | true =>
  have Hfa := hid (hfit rfl)
  clear hfit
  obtain ⟨⟨y0, y1, y2⟩, ⟨y3, y4, y5⟩, ⟨y6, y7⟩, hz5⟩ := HBC.out _ X5.out
  have HF2 := hid (Few6_any _ y w5 (HB.out.below H5.out))
  go_wp2_with fail
  refine HF2.out.mono ?_
  rintro e w6 ⟨bf, rfl, hfit, b6⟩
  have H6 := hid (lnGo b6 H5.out)
  have X6 := hid (HBX.out _ _ X5.out b6)
  clear b6 X5 y0 y1 y2 y3 y4 y5 y6 y7 HF2
  cases bf with
  | false =>
    clear hfit
    go_wp2
    go_ret
    exact ⟨rfl, H6.out⟩
  | true =>
  have Hfb := hid (hfit rfl)
  clear hfit
  obtain ⟨⟨y0, y1, y2⟩, ⟨y3, y4, y5⟩, ⟨y6, y7⟩, hz6⟩ := HBC.out _ X6.out
  by_cases hnk : nk ≤ 6
  case neg =>
    have hd : decide ((6 : Int) < (nk : Int)) = true := by simp; omega
    go_wp2
    go_ret
    exact ⟨rfl, H6.out⟩
  have hd : decide ((6 : Int) < (nk : Int)) = false := by simp; omega
  have Hfk := hid (Hzf.out.2 hnk)
  have LA := hid (HA.out.raw Hfa.out); have LB := hid (HB.out.raw Hfb.out)
  have SA := hid (HA.out.small Hfa.out); have SB := hid (HB.out.small Hfb.out)
  have RK := hid (HK0.out.raw Hfk.out); have SK := hid (HK0.out.small Hfk.out)
  have la : (x.a).1.length ≤ 40 := by show (x.parts.map Px6.p).length ≤ 40; rw [List.length_map]; exact Hfa.out.1
  have lb : (y.a).1.length ≤ 40 := by show (y.parts.map Px6.p).length ≤ 40; rw [List.length_map]; exact Hfb.out.1
  obtain ⟨⟨a1, a2⟩, hxa⟩ : ∃ a, a = x.a := ⟨_, rfl⟩
  obtain ⟨⟨c1', c2'⟩, hyb⟩ : ∃ a, a = y.a := ⟨_, rfl⟩
  obtain ⟨k, hkz⟩ : ∃ k, k = z.z := ⟨_, rfl⟩
  rw [← hxa] at LA SA la
  rw [← hyb] at LB SB lb
  rw [← hkz] at RK SK
  have la : a1.length ≤ 40 := la
  have lb : c1'.length ≤ 40 := lb
  clear hxa hyb hkz HA HB HK0 Hfk Hzf Hfa Hfb hnk
  -- what is made, and how great
  have S0 : Hid (∀ p ∈ a1 ++ c1', sz W p.1.natAbs ≤ 6) := hid (fun p hp => by
    rcases List.mem_append.1 hp with hp | hp
    · exact SA.out.1 p hp
    · exact SB.out.1 p hp)
  have S1 : Hid (LnSz 90 (lnSum (a1 ++ c1'), a2 + c2')) := hid ⟨fun p hp => Nat.le_trans (lnSum_sz (by decide) S0.out p hp) (by rw [List.length_append]; omega), Nat.le_trans (sz_addI SA.out.2 SB.out.2) (by decide)⟩
  have L1 : Hid ((lnSum (a1 ++ c1')).length ≤ 80) := hid (Nat.le_trans (lnSum_len _) (by rw [List.length_append]; omega))
  have S2 : Hid (LnSz 90 (lnSum (lnTimes k a1), a2 * k)) := hid ⟨fun p hp => Nat.le_trans (lnSum_sz (N := 12) (by decide) (lnTimes_sz SK.out SA.out.1) p hp) (by rw [lnTimes_len]; omega), Nat.le_trans (sz_mulI SA.out.2 SK.out) (by decide)⟩
  have L2 : Hid ((lnSum (lnTimes k a1)).length ≤ 40) := hid (Nat.le_trans (lnSum_len _) (by rw [lnTimes_len]; exact la))
  have S3 : Hid (LnSz 90 (lnSum (lnTimes k c1'), c2' * k)) := hid ⟨fun p hp => Nat.le_trans (lnSum_sz (N := 12) (by decide) (lnTimes_sz SK.out SB.out.1) p hp) (by rw [lnTimes_len]; omega), Nat.le_trans (sz_mulI SB.out.2 SK.out) (by decide)⟩
  have L3 : Hid ((lnSum (lnTimes k c1')).length ≤ 40) := hid (Nat.le_trans (lnSum_len _) (by rw [lnTimes_len]; exact lb))
  have hm1 : sz W (-1 : Int).natAbs ≤ 6 := by decide +kernel
  obtain ⟨am, ham⟩ : ∃ am, am = a2 * (-1) := ⟨_, rfl⟩
  have S4 : Hid (LnSz 90 (lnSum (lnTimes (-1) a1), am)) := hid ⟨fun p hp => Nat.le_trans (lnSum_sz (N := 12) (by decide) (lnTimes_sz hm1 SA.out.1) p hp) (by rw [lnTimes_len]; omega), by rw [ham]; exact Nat.le_trans (sz_mulI SA.out.2 hm1) (by decide)⟩
  have L4 : Hid ((lnSum (lnTimes (-1) a1)).length ≤ 40) := hid (Nat.le_trans (lnSum_len _) (by rw [lnTimes_len]; exact la))
  have SA9 : Hid (LnSz 90 (a1, a2)) := hid ⟨fun p hp => Nat.le_trans (SA.out.1 p hp) (by decide), Nat.le_trans SA.out.2 (by decide)⟩
  have SB9 : Hid (LnSz 90 (c1', c2')) := hid ⟨fun p hp => Nat.le_trans (SB.out.1 p hp) (by decide), Nat.le_trans SB.out.2 (by decide)⟩
  have SK9 : Hid (sz W k.natAbs ≤ 90) := hid (Nat.le_trans SK.out (by decide))
  have Lx : Hid ((lnSum (lnTimes k (lnSum (a1 ++ c1')))).length ≤ 80) := hid (Nat.le_trans (lnSum_len _) (by rw [lnTimes_len]; exact L1.out))
  have EXY : Hid ((lnSum (lnSum (lnTimes k a1) ++ lnSum (lnTimes k c1')), a2 * k + c2' * k) = (lnSum (lnTimes k (lnSum (a1 ++ c1'))), (a2 + c2') * k)) := hid (by rw [← ln_spread, Int.add_mul])
  have la0 := la; have lb0 := lb
  have HSc : Hid (∀ v w', Below w.heap.size w w' → RawAt w' v (-1) → Calls Try.prog 10 #[.agg #[.slice p0 n0 c0, .bool b0, .slice q0 k0 d0], v] w' (RLin (lnSum (lnTimes (-1) a1), am) w')) := hid (fun v w' hb hv => by
    rw [ham]
    exact Scale_lin _ _ (a1, a2) (-1) w' (N := 90) (by decide) (LA.out.below hb) hv SA9.out (Nat.le_trans hm1 (by decide)) (by show 90 + 90 + a1.length ≤ _; omega))
  have HAd : Hid (∀ v w', Below w.heap.size w w' → LnR w' v (lnSum (lnTimes (-1) a1), am) → Calls Try.prog 11 #[.agg #[.slice p0 n0 c0, .bool b0, .slice q0 k0 d0], v] w' (RLin ([], 0) w')) := hid (fun v w' hb hv => by
    have h := Add_lin _ v (a1, a2) (lnSum (lnTimes (-1) a1), am) w' (N := 90) (by decide) (LA.out.below hb) hv SA9.out S4.out (by have := L4.out; show 90 + 90 + (a1.length + (lnSum (lnTimes (-1) a1)).length) ≤ _; omega)
    have e1 : lnSum ((a1, a2).1 ++ (lnSum (lnTimes (-1) a1), am).1) = [] := ln_less a1
    have e2 : (a1, a2).2 + (lnSum (lnTimes (-1) a1), am).2 = 0 := by show a2 + am = 0; omega
    rw [e1, e2] at h
    exact h)
  clear ham
  have SXX : Hid (LnSz 1000 (lnSum (lnTimes k (lnSum (a1 ++ c1'))), (a2 + c2') * k)) := hid ⟨fun p hp => Nat.le_trans (lnSum_sz (N := 180) (by decide) (lnTimes_sz (N := 90) SK9.out S1.out.1) p hp) (by show 180 + (lnTimes k (lnSum (a1 ++ c1'))).length ≤ 1000; have e := lnTimes_len k (lnSum (a1 ++ c1')); have := L1.out; omega), Nat.le_trans (sz_mulI S1.out.2 SK9.out) (by decide)⟩
  have HIX : Hid (lnIs (lnSum (lnTimes k (lnSum (a1 ++ c1'))))) := hid (lnSum_is _)
  clear S0 SA SB SK hm1 la0 lb0
  have la := hid la; have lb := hid lb
  go_upto_region 5 with fail
  clear y0 y1 y2 y3 y4 y5 y6 y7
  refine wp_region_facts (w0 := w6) 6 1 [26, 27, 28, 29, 30, 7] [undef, undef, undef, undef, undef, undef]
    (fun i => match i with | 0 => lnE (.agg #[.slice p0 n0 c0, .bool b0, .slice q0 k0 d0]) | 1 => lnE (.agg #[.slice p1 n1 c1, .bool b1, .slice q1 k1 d1]) | 2 => lnS (lnSum (a1 ++ c1'), a2 + c2') | 3 => lnE (.agg #[.bool bk, .slice pk nk ck]) | 4 => lnS (lnSum (lnTimes k (lnSum (a1 ++ c1'))), (a2 + c2') * k) | _ => lnV w6.heap.size) [] (by kernel_rfl) (by kernel_rfl) (by kernel_rfl) (by kernel_rfl) (by decide) rfl (by kernel_rfl) rfl (by simp) ?he1 ?_ ?_ ?_
  case he1 => simp only [putAll, Act.put, List.setIfInBounds_toArray, List.set_cons_zero, List.set_cons_succ]
  · intro i hi; simp at hi
  · intro i o hi ho vs wx hvl hb hdep K hK
    have hvs := vlen6 hvl
    obtain ⟨s26, s27, s28, s29, s30, s7, rfl⟩ := hvs
    clear hvl
    have hX := HBX.out _ _ X6.out hb
    obtain ⟨⟨y0, y1, y2⟩, ⟨y3, y4, y5⟩, ⟨y6, y7⟩, hzx⟩ := HBC.out _ hX
    have hBw := lnGo hb H6.out
    rcases i with _ | _ | _ | _ | _ | _ | i
    all_goals (simp only [List.getElem?_toArray, List.getElem?_cons_zero, List.getElem?_cons_succ, Option.some.injEq] at ho)
    all_goals try (subst ho)
    all_goals try simp only [putAll, Act.put, List.setIfInBounds_toArray, List.set_cons_zero, List.set_cons_succ]
    · go_simp
      have hK' := hK.out
      simp only [putAll, Act.put, List.setIfInBounds_toArray, List.set_cons_zero, List.set_cons_succ] at hK'
      exact hK' _ _ rfl (Below.refl _ _) (by simp)
    · go_simp
      have hK' := hK.out
      simp only [putAll, Act.put, List.setIfInBounds_toArray, List.set_cons_zero, List.set_cons_succ] at hK'
      exact hK' _ _ rfl (Below.refl _ _) (by simp)
    · have e0 : s26 = _ := hdep ⟨0, .data⟩ (by simp) rfl
      have e0 := e0.symm
      subst e0
      have e1 : s27 = _ := hdep ⟨1, .data⟩ (by simp) rfl
      have e1 := e1.symm
      subst e1
      go_simp
      refine (Add_lin _ _ (a1, a2) (c1', c2') wx (N := 90) (by decide) (LA.out.below hBw) (LB.out.below hBw) SA9.out SB9.out (by have := la.out; have := lb.out; show 90 + 90 + (a1.length + c1'.length) ≤ _; omega)).mono ?_
      rintro e wy ⟨vy, rfl, iy, hby⟩
      obtain ⟨p5, n5, c5, q5, k5, d5, rfl⟩ := iy.agg3
      go_wp2_with fail
      have hK' := hK.out
      simp only [putAll, Act.put, List.setIfInBounds_toArray, List.set_cons_zero, List.set_cons_succ] at hK'
      exact hK' _ _ ⟨_, _, _, _, _, _, rfl, iy⟩ hby (by simp)
    · go_simp
      have hK' := hK.out
      simp only [putAll, Act.put, List.setIfInBounds_toArray, List.set_cons_zero, List.set_cons_succ] at hK'
      exact hK' _ _ rfl (Below.refl _ _) (by simp)
    · have e2 : (lnS (lnSum (a1 ++ c1'), a2 + c2')).P s28 wx := hdep ⟨2, .data⟩ (by simp) rfl
      have e3 : s29 = _ := hdep ⟨3, .data⟩ (by simp) rfl
      have e3 := e3.symm
      subst e3
      obtain ⟨pz2, nz2, cz2, qz2, kz2, dz2, rfl, tz2⟩ := e2
      go_simp
      refine (Scale_lin _ _ (lnSum (a1 ++ c1'), a2 + c2') k wx (N := 90) (by decide) (tz2.raw S1.out (by decide)) (RK.out.below hBw) S1.out SK9.out (by have := L1.out; show 90 + 90 + (lnSum (a1 ++ c1')).length ≤ _; omega)).mono ?_
      rintro e wy ⟨vy, rfl, iy, hby⟩
      obtain ⟨p5, n5, c5, q5, k5, d5, rfl⟩ := iy.agg3
      go_wp2_with fail
      have hK' := hK.out
      simp only [putAll, Act.put, List.setIfInBounds_toArray, List.set_cons_zero, List.set_cons_succ] at hK'
      exact hK' _ _ ⟨_, _, _, _, _, _, rfl, iy⟩ hby (by simp)
    · go_simp
      go_simp
      have hK' := hK.out
      simp only [putAll, Act.put, List.setIfInBounds_toArray, List.set_cons_zero, List.set_cons_succ] at hK'
      exact hK' _ _ ⟨_, rfl, hb.size, heap_alloc_new _ _⟩ (below1 _ _) (by simp)
    · omega
  · intro vs wx hvl hb hf hdist
    have hvs := vlen6 hvl
    obtain ⟨s26, s27, s28, s29, s30, s7, rfl⟩ := hvs
    have f1 : (lnS (lnSum (lnTimes k (lnSum (a1 ++ c1'))), (a2 + c2') * k)).P s30 wx := hf 4 (by decide)
    have f2 : (lnV w6.heap.size).P s7 wx := hf 5 (by decide)
    obtain ⟨pA, nA, cA, qA, kA, dA, e1, T1⟩ := f1
    obtain ⟨gA, e2, hge, hgb⟩ := f2
    subst e1 e2
    clear hf hvl hdist
    have hsx := hb.size
    obtain ⟨x0, x1, x2⟩ := lnCells3 hgb
    have fz0 := frozen_of_row wx gA 0 _ _ hgb
    have fz1 := frozen_of_row wx gA 1 _ _ hgb
    have fz2 := frozen_of_row wx gA 2 _ _ hgb
    obtain ⟨sA, hsA⟩ : ∃ s, s = decide (((lnSum (lnTimes k (lnSum (a1 ++ c1'))), (a2 + c2') * k)).2 < 0) := ⟨_, rfl⟩
    rw [← hsA] at T1
    try rw [← hsA]
    have hzW := (HBC.out _ X6.out).2.2.2
    obtain ⟨wA, hwA⟩ : ∃ w', w' = st3 wx gA (.slice pA nA cA) (.bool sA) (.slice qA kA dA) := ⟨_, rfl⟩
    have hA := st3_apart wx gA (.slice pA nA cA) (.bool sA) (.slice qA kA dA)
    rw [← hwA] at hA
    have HA : Hid (Below w.heap.size w wA) := hid (by rw [hwA]; exact st3_below (lnGo hb H6.out) (by omega) _ _ _)
    have XA : Hid (Bx wA) := hid (by rw [hwA]; exact HBS.out _ _ _ _ _ (HBX.out _ _ X6.out hb) (by omega))
    have TA : Hid (LnT wA (.agg #[.slice pA nA cA, .bool sA, .slice qA kA dA]) (lnSum (lnTimes k (lnSum (a1 ++ c1'))), (a2 + c2') * k)) := hid (T1.quiet hA (fun b hb' => by rw [hb']; exact NoInt.cells hgb (by simp)))
    have GA : Hid (wA.heap[gA]? = some (.cells #[.slice pA nA cA, .bool sA, .slice qA kA dA] 28 (0, 0))) := hid (by rw [hwA]; exact st3_at hgb _ _ _)
    have QA : Hid (w6.heap.size ≤ gA ∧ gA < wA.heap.size) := hid ⟨hge, Nat.lt_of_lt_of_le (Array.getElem?_eq_some_iff.1 hgb).1 hA.size⟩
    have HsgA := hid hsA
    clear T1 hgb hA hge hsA
    refine wpAny_one (i := 6) (by kernel_rfl) rfl ?_
    intro K hK
    simp only [putAll, Act.put, List.setIfInBounds_toArray, List.set_cons_zero, List.set_cons_succ]
    have hK' := hK.out
    go_simp
    apply hK'
    clear hK hK' x0 x1 x2 fz0 fz1 fz2
    refine wpAny_done (by kernel_rfl) ?_ _
    go_upto_region 6 with fail
    change Code.wp _ _ _ _ (st3 _ _ _ _ _)
    rw [← hwA]
    clear hwA
    refine wp_region_facts (w0 := wA) 8 1 [31, 32, 33, 34, 35, 36, 37, 8] [undef, undef, undef, undef, undef, undef, undef, undef]
      (fun i => match i with | 0 => lnE (.agg #[.slice p0 n0 c0, .bool b0, .slice q0 k0 d0]) | 1 => lnE (.agg #[.bool bk, .slice pk nk ck]) | 2 => lnS (lnSum (lnTimes k a1), a2 * k) | 3 => lnE (.agg #[.slice p1 n1 c1, .bool b1, .slice q1 k1 d1]) | 4 => lnE (.agg #[.bool bk, .slice pk nk ck]) | 5 => lnS (lnSum (lnTimes k c1'), c2' * k) | 6 => lnS (lnSum (lnSum (lnTimes k a1) ++ lnSum (lnTimes k c1')), a2 * k + c2' * k) | _ => lnV wA.heap.size) [] (by kernel_rfl) (by kernel_rfl) (by kernel_rfl) (by kernel_rfl) (by decide) rfl (by kernel_rfl) rfl (by simp) ?he2 ?_ ?_ ?_
    case he2 => simp only [putAll, Act.put, List.setIfInBounds_toArray, List.set_cons_zero, List.set_cons_succ]
    · intro i hi; simp at hi
    · intro i o hi ho vs wx hvl hb hdep K hK
      have hvs := vlen8 hvl
      obtain ⟨s31, s32, s33, s34, s35, s36, s37, s8, rfl⟩ := hvs
      clear hvl
      have hX := HBX.out _ _ XA.out hb
      obtain ⟨⟨y0, y1, y2⟩, ⟨y3, y4, y5⟩, ⟨y6, y7⟩, hzx⟩ := HBC.out _ hX
      have hBw := lnGo hb HA.out
      rcases i with _ | _ | _ | _ | _ | _ | _ | _ | i
      all_goals (simp only [List.getElem?_toArray, List.getElem?_cons_zero, List.getElem?_cons_succ, Option.some.injEq] at ho)
      all_goals try (subst ho)
      all_goals try simp only [putAll, Act.put, List.setIfInBounds_toArray, List.set_cons_zero, List.set_cons_succ]
      · go_simp
        have hK' := hK.out
        simp only [putAll, Act.put, List.setIfInBounds_toArray, List.set_cons_zero, List.set_cons_succ] at hK'
        exact hK' _ _ rfl (Below.refl _ _) (by simp)
      · go_simp
        have hK' := hK.out
        simp only [putAll, Act.put, List.setIfInBounds_toArray, List.set_cons_zero, List.set_cons_succ] at hK'
        exact hK' _ _ rfl (Below.refl _ _) (by simp)
      · have e0 : s31 = _ := hdep ⟨0, .data⟩ (by simp) rfl
        have e0 := e0.symm
        subst e0
        have e1 : s32 = _ := hdep ⟨1, .data⟩ (by simp) rfl
        have e1 := e1.symm
        subst e1
        go_simp
        refine (Scale_lin _ _ (a1, a2) k wx (N := 90) (by decide) (LA.out.below hBw) (RK.out.below hBw) SA9.out SK9.out (by have := la.out; show 90 + 90 + a1.length ≤ _; omega)).mono ?_
        rintro e wy ⟨vy, rfl, iy, hby⟩
        obtain ⟨p5, n5, c5, q5, k5, d5, rfl⟩ := iy.agg3
        go_wp2_with fail
        have hK' := hK.out
        simp only [putAll, Act.put, List.setIfInBounds_toArray, List.set_cons_zero, List.set_cons_succ] at hK'
        exact hK' _ _ ⟨_, _, _, _, _, _, rfl, iy⟩ hby (by simp)
      · go_simp
        have hK' := hK.out
        simp only [putAll, Act.put, List.setIfInBounds_toArray, List.set_cons_zero, List.set_cons_succ] at hK'
        exact hK' _ _ rfl (Below.refl _ _) (by simp)
      · go_simp
        have hK' := hK.out
        simp only [putAll, Act.put, List.setIfInBounds_toArray, List.set_cons_zero, List.set_cons_succ] at hK'
        exact hK' _ _ rfl (Below.refl _ _) (by simp)
      · have e3 : s34 = _ := hdep ⟨3, .data⟩ (by simp) rfl
        have e3 := e3.symm
        subst e3
        have e4 : s35 = _ := hdep ⟨4, .data⟩ (by simp) rfl
        have e4 := e4.symm
        subst e4
        go_simp
        refine (Scale_lin _ _ (c1', c2') k wx (N := 90) (by decide) (LB.out.below hBw) (RK.out.below hBw) SB9.out SK9.out (by have := lb.out; show 90 + 90 + c1'.length ≤ _; omega)).mono ?_
        rintro e wy ⟨vy, rfl, iy, hby⟩
        obtain ⟨p5, n5, c5, q5, k5, d5, rfl⟩ := iy.agg3
        go_wp2_with fail
        have hK' := hK.out
        simp only [putAll, Act.put, List.setIfInBounds_toArray, List.set_cons_zero, List.set_cons_succ] at hK'
        exact hK' _ _ ⟨_, _, _, _, _, _, rfl, iy⟩ hby (by simp)
      · have e2 : (lnS (lnSum (lnTimes k a1), a2 * k)).P s33 wx := hdep ⟨2, .data⟩ (by simp) rfl
        have e5 : (lnS (lnSum (lnTimes k c1'), c2' * k)).P s36 wx := hdep ⟨5, .data⟩ (by simp) rfl
        obtain ⟨pz2, nz2, cz2, qz2, kz2, dz2, rfl, tz2⟩ := e2
        obtain ⟨pz5, nz5, cz5, qz5, kz5, dz5, rfl, tz5⟩ := e5
        go_simp
        refine (Add_lin _ _ (lnSum (lnTimes k a1), a2 * k) (lnSum (lnTimes k c1'), c2' * k) wx (N := 90) (by decide) (tz2.raw S2.out (by decide)) (tz5.raw S3.out (by decide)) S2.out S3.out (by have := L2.out; have := L3.out; show 90 + 90 + ((lnSum (lnTimes k a1)).length + (lnSum (lnTimes k c1')).length) ≤ _; omega)).mono ?_
        rintro e wy ⟨vy, rfl, iy, hby⟩
        obtain ⟨p5, n5, c5, q5, k5, d5, rfl⟩ := iy.agg3
        go_wp2_with fail
        have hK' := hK.out
        simp only [putAll, Act.put, List.setIfInBounds_toArray, List.set_cons_zero, List.set_cons_succ] at hK'
        exact hK' _ _ ⟨_, _, _, _, _, _, rfl, iy⟩ hby (by simp)
      · go_simp
        go_simp
        have hK' := hK.out
        simp only [putAll, Act.put, List.setIfInBounds_toArray, List.set_cons_zero, List.set_cons_succ] at hK'
        exact hK' _ _ ⟨_, rfl, hb.size, heap_alloc_new _ _⟩ (below1 _ _) (by simp)
      · omega
    · intro vs wx hvl hb hf hdist
      have hvs := vlen8 hvl
      obtain ⟨s31, s32, s33, s34, s35, s36, s37, s8, rfl⟩ := hvs
      have f1 : (lnS (lnSum (lnSum (lnTimes k a1) ++ lnSum (lnTimes k c1')), a2 * k + c2' * k)).P s37 wx := hf 6 (by decide)
      have f2 : (lnV wA.heap.size).P s8 wx := hf 7 (by decide)
      obtain ⟨pB, nB, cB, qB, kB, dB, e1, T1⟩ := f1
      obtain ⟨gB, e2, hge, hgb⟩ := f2
      subst e1 e2
      clear hf hvl hdist
      have hsx := hb.size
      obtain ⟨x0, x1, x2⟩ := lnCells3 hgb
      have fz0 := frozen_of_row wx gB 0 _ _ hgb
      have fz1 := frozen_of_row wx gB 1 _ _ hgb
      have fz2 := frozen_of_row wx gB 2 _ _ hgb
      obtain ⟨sB, hsB⟩ : ∃ s, s = decide (((lnSum (lnSum (lnTimes k a1) ++ lnSum (lnTimes k c1')), a2 * k + c2' * k)).2 < 0) := ⟨_, rfl⟩
      rw [← hsB] at T1
      try rw [← hsB]
      have hzW := (HBC.out _ XA.out).2.2.2
      obtain ⟨wB, hwB⟩ : ∃ w', w' = st3 wx gB (.slice pB nB cB) (.bool sB) (.slice qB kB dB) := ⟨_, rfl⟩
      have hA := st3_apart wx gB (.slice pB nB cB) (.bool sB) (.slice qB kB dB)
      rw [← hwB] at hA
      have HB : Hid (Below w.heap.size w wB) := hid (by rw [hwB]; exact st3_below (lnGo hb HA.out) (by omega) _ _ _)
      have XB : Hid (Bx wB) := hid (by rw [hwB]; exact HBS.out _ _ _ _ _ (HBX.out _ _ XA.out hb) (by omega))
      have TB : Hid (LnT wB (.agg #[.slice pB nB cB, .bool sB, .slice qB kB dB]) (lnSum (lnSum (lnTimes k a1) ++ lnSum (lnTimes k c1')), a2 * k + c2' * k)) := hid (T1.quiet hA (fun b hb' => by rw [hb']; exact NoInt.cells hgb (by simp)))
      have GB : Hid (wB.heap[gB]? = some (.cells #[.slice pB nB cB, .bool sB, .slice qB kB dB] 28 (0, 0))) := hid (by rw [hwB]; exact st3_at hgb _ _ _)
      have QB : Hid (wA.heap.size ≤ gB ∧ gB < wB.heap.size) := hid ⟨hge, Nat.lt_of_lt_of_le (Array.getElem?_eq_some_iff.1 hgb).1 hA.size⟩
      have HsgB := hid hsB
      have TAB := hid ((TA.out.below hb).quiet hA (fun b hb' => by rw [hb']; exact NoInt.cells hgb (by simp)))
      have GAB := hid ((hA.block gA (by have := QA.out; omega) (by have := QA.out; omega)).trans ((hb.block gA (by have := QA.out; omega)).trans GA.out))
      have QAB : Hid (gA < wB.heap.size) := hid (by have := QA.out; have := hA.size; omega)
      clear T1 hgb hA hge hsB
      refine wpAny_one (i := 8) (by kernel_rfl) rfl ?_
      intro K hK
      simp only [putAll, Act.put, List.setIfInBounds_toArray, List.set_cons_zero, List.set_cons_succ]
      have hK' := hK.out
      go_simp
      apply hK'
      clear hK hK' x0 x1 x2 fz0 fz1 fz2
      refine wpAny_done (by kernel_rfl) ?_ _
      go_upto_region 7 with fail
      change Code.wp _ _ _ _ (st3 _ _ _ _ _)
      rw [← hwB]
      clear hwB
      refine wp_region_facts (w0 := wB) 6 1 [38, 39, 40, 41, 42, 9] [undef, undef, undef, undef, undef, undef]
        (fun i => match i with | 0 => lnE (.agg #[.slice p0 n0 c0, .bool b0, .slice q0 k0 d0]) | 1 => lnE (.agg #[.slice p0 n0 c0, .bool b0, .slice q0 k0 d0]) | 2 => lnI (-1) | 3 => lnS (lnSum (lnTimes (-1) a1), am) | 4 => lnS (([], 0) : List (Int × Int) × Int) | _ => lnV wB.heap.size) [] (by kernel_rfl) (by kernel_rfl) (by kernel_rfl) (by kernel_rfl) (by decide) rfl (by kernel_rfl) rfl (by simp) ?he3 ?_ ?_ ?_
      case he3 => simp only [putAll, Act.put, List.setIfInBounds_toArray, List.set_cons_zero, List.set_cons_succ]
      · intro i hi; simp at hi
      · intro i o hi ho vs wx hvl hb hdep K hK
        have hvs := vlen6 hvl
        obtain ⟨s38, s39, s40, s41, s42, s9, rfl⟩ := hvs
        clear hvl
        have hX := HBX.out _ _ XB.out hb
        obtain ⟨⟨y0, y1, y2⟩, ⟨y3, y4, y5⟩, ⟨y6, y7⟩, hzx⟩ := HBC.out _ hX
        have hBw := lnGo hb HB.out
        rcases i with _ | _ | _ | _ | _ | _ | i
        all_goals (simp only [List.getElem?_toArray, List.getElem?_cons_zero, List.getElem?_cons_succ, Option.some.injEq] at ho)
        all_goals try (subst ho)
        all_goals try simp only [putAll, Act.put, List.setIfInBounds_toArray, List.set_cons_zero, List.set_cons_succ]
        · go_simp
          have hK' := hK.out
          simp only [putAll, Act.put, List.setIfInBounds_toArray, List.set_cons_zero, List.set_cons_succ] at hK'
          exact hK' _ _ rfl (Below.refl _ _) (by simp)
        · go_simp
          have hK' := hK.out
          simp only [putAll, Act.put, List.setIfInBounds_toArray, List.set_cons_zero, List.set_cons_succ] at hK'
          exact hK' _ _ rfl (Below.refl _ _) (by simp)
        · go_simp
          refine (ROf_any (-1) wx (by decide) (by decide)).mono ?_
          rintro e wy ⟨vy, rfl, iy, hby⟩
          have hsh := iy.shape
          obtain ⟨p5', n5', c5', rfl, iy⟩ := hsh
          go_wp2_with fail
          have hK' := hK.out
          simp only [putAll, Act.put, List.setIfInBounds_toArray, List.set_cons_zero, List.set_cons_succ] at hK'
          exact hK' _ _ ⟨_, _, _, _, rfl, iy⟩ hby (by simp)
        · have e1 : s39 = _ := hdep ⟨1, .data⟩ (by simp) rfl
          have e1 := e1.symm
          subst e1
          have e2 : (lnI (-1)).P s40 wx := hdep ⟨2, .data⟩ (by simp) rfl
          obtain ⟨da2, pa2, na2, ca2, rfl, ia2⟩ := e2
          go_simp
          refine (HSc.out _ wx hBw (ia2.rawL (by decide +kernel))).mono ?_
          rintro e wy ⟨vy, rfl, iy, hby⟩
          obtain ⟨p5, n5, c5, q5, k5, d5, rfl⟩ := iy.agg3
          go_wp2_with fail
          have hK' := hK.out
          simp only [putAll, Act.put, List.setIfInBounds_toArray, List.set_cons_zero, List.set_cons_succ] at hK'
          exact hK' _ _ ⟨_, _, _, _, _, _, rfl, iy⟩ hby (by simp)
        · have e0 : s38 = _ := hdep ⟨0, .data⟩ (by simp) rfl
          have e0 := e0.symm
          subst e0
          have e3 : (lnS (lnSum (lnTimes (-1) a1), am)).P s41 wx := hdep ⟨3, .data⟩ (by simp) rfl
          obtain ⟨pz3, nz3, cz3, qz3, kz3, dz3, rfl, tz3⟩ := e3
          go_simp
          refine (HAd.out _ wx hBw (tz3.raw S4.out (by decide))).mono ?_
          rintro e wy ⟨vy, rfl, iy, hby⟩
          obtain ⟨p5, n5, c5, q5, k5, d5, rfl⟩ := iy.agg3
          go_wp2_with fail
          have hK' := hK.out
          simp only [putAll, Act.put, List.setIfInBounds_toArray, List.set_cons_zero, List.set_cons_succ] at hK'
          exact hK' _ _ ⟨_, _, _, _, _, _, rfl, iy⟩ hby (by simp)
        · go_simp
          go_simp
          have hK' := hK.out
          simp only [putAll, Act.put, List.setIfInBounds_toArray, List.set_cons_zero, List.set_cons_succ] at hK'
          exact hK' _ _ ⟨_, rfl, hb.size, heap_alloc_new _ _⟩ (below1 _ _) (by simp)
        · omega
      · intro vs wx hvl hb hf hdist
        have hvs := vlen6 hvl
        obtain ⟨s38, s39, s40, s41, s42, s9, rfl⟩ := hvs
        have f1 : (lnS (([], 0) : List (Int × Int) × Int)).P s42 wx := hf 4 (by decide)
        have f2 : (lnV wB.heap.size).P s9 wx := hf 5 (by decide)
        obtain ⟨pC, nC, cC, qC, kC, dC, e1, T1⟩ := f1
        obtain ⟨gC, e2, hge, hgb⟩ := f2
        subst e1 e2
        clear hf hvl hdist
        have hsx := hb.size
        obtain ⟨x0, x1, x2⟩ := lnCells3 hgb
        have fz0 := frozen_of_row wx gC 0 _ _ hgb
        have fz1 := frozen_of_row wx gC 1 _ _ hgb
        have fz2 := frozen_of_row wx gC 2 _ _ hgb
        obtain ⟨sC, hsC⟩ : ∃ s, s = decide (((([], 0) : List (Int × Int) × Int)).2 < 0) := ⟨_, rfl⟩
        rw [← hsC] at T1
        try rw [← hsC]
        have hzW := (HBC.out _ XB.out).2.2.2
        obtain ⟨wC, hwC⟩ : ∃ w', w' = st3 wx gC (.slice pC nC cC) (.bool sC) (.slice qC kC dC) := ⟨_, rfl⟩
        have hA := st3_apart wx gC (.slice pC nC cC) (.bool sC) (.slice qC kC dC)
        rw [← hwC] at hA
        have HC : Hid (Below w.heap.size w wC) := hid (by rw [hwC]; exact st3_below (lnGo hb HB.out) (by omega) _ _ _)
        have XC : Hid (Bx wC) := hid (by rw [hwC]; exact HBS.out _ _ _ _ _ (HBX.out _ _ XB.out hb) (by omega))
        have TC : Hid (LnT wC (.agg #[.slice pC nC cC, .bool sC, .slice qC kC dC]) (([], 0) : List (Int × Int) × Int)) := hid (T1.quiet hA (fun b hb' => by rw [hb']; exact NoInt.cells hgb (by simp)))
        have GC : Hid (wC.heap[gC]? = some (.cells #[.slice pC nC cC, .bool sC, .slice qC kC dC] 28 (0, 0))) := hid (by rw [hwC]; exact st3_at hgb _ _ _)
        have QC : Hid (wB.heap.size ≤ gC ∧ gC < wC.heap.size) := hid ⟨hge, Nat.lt_of_lt_of_le (Array.getElem?_eq_some_iff.1 hgb).1 hA.size⟩
        have HsgC := hid hsC
        have TABC := hid ((TAB.out.below hb).quiet hA (fun b hb' => by rw [hb']; exact NoInt.cells hgb (by simp)))
        have GABC := hid ((hA.block gA (by have := QAB.out; omega) (by have := QAB.out; omega)).trans ((hb.block gA (by have := QAB.out; omega)).trans GAB.out))
        have QABC : Hid (gA < wC.heap.size) := hid (by have := QAB.out; have := hA.size; omega)
        have TBC := hid ((TB.out.below hb).quiet hA (fun b hb' => by rw [hb']; exact NoInt.cells hgb (by simp)))
        have GBC := hid ((hA.block gB (by have := QB.out; omega) (by have := QB.out; omega)).trans ((hb.block gB (by have := QB.out; omega)).trans GB.out))
        have QBC : Hid (gB < wC.heap.size) := hid (by have := QB.out; have := hA.size; omega)
        clear T1 hgb hA hge hsC
        refine wpAny_one (i := 6) (by kernel_rfl) rfl ?_
        intro K hK
        simp only [putAll, Act.put, List.setIfInBounds_toArray, List.set_cons_zero, List.set_cons_succ]
        have hK' := hK.out
        go_simp
        apply hK'
        clear hK hK' x0 x1 x2 fz0 fz1 fz2
        refine wpAny_done (by kernel_rfl) ?_ _
        go_upto_region 8 with fail
        change Code.wp _ _ _ _ (st3 _ _ _ _ _)
        rw [← hwC]
        clear hwC
        have c0 := GABC.out; have c1 := GBC.out; have c2 := GC.out
        obtain ⟨e0, e1, e2⟩ := lnCells3 c0
        obtain ⟨e3, e4, e5⟩ := lnCells3 c1
        obtain ⟨e6, e7, e8⟩ := lnCells3 c2
        have TX := TABC.out; have TY := TBC.out; have TZ := TC.out
        rw [EXY.out] at TY
        obtain ⟨pv3, sv3, ev3, ⟨pq3, cq3, eq3, -⟩, hz3i⟩ := TZ
        injection ev3 with ev3
        simp only [Array.mk.injEq, List.cons.injEq, and_true] at ev3
        obtain ⟨ez1, ez2, ez3⟩ := ev3
        rw [← ez1] at eq3
        injection eq3 with _ en3 _
        have en3 : nC = 0 := en3
        rw [← ez2, ← ez3] at hz3i
        have hn0 : (nC == 0) = true := by rw [en3]; rfl
        clear en3
        have HSame := hid (Same6_true _ _ _ wC TX TY (Nat.le_trans Lx.out (by decide)))
        have HTX := hid (fun w' (hb : Below wC.heap.size wC w') => (TX.below hb))
        have HZ0 := hid hz3i
        have gAl := QABC.out; have gCl := QC.out.2
        have G0 := GABC; have G1 := GBC; have G2 := GC
        clear c0 c1 c2 TX TY hz3i ez1 ez2 ez3
        go_wp2_with fail
        refine HSame.out.mono ?_
        rintro e w20 ⟨rfl, b20⟩
        obtain ⟨e6, e7, e8⟩ := lnCells3 ((b20.block gC gCl).trans G2.out)
        have HSg := hid (RSign_any _ 0 w20 ((HZ0.out.below b20).rawL (by decide)))
        have B20 := hid b20
        clear b20 e0 e1 e2 e3 e4 e5
        go_wp2_with fail
        refine HSg.out.mono ?_
        rintro e w21 ⟨rfl, b21⟩
        have B21 := hid (lnGo b21 B20.out)
        obtain ⟨e0, e1, e2⟩ := lnCells3 ((B21.out.block gA gAl).trans G0.out)
        have HI := hid (Is_lin _ _ w21 ((HTX.out w21 B21.out).raw (N := 1000) SXX.out (by decide)) (Nat.le_trans Lx.out (by decide)))
        clear b21 e6 e7 e8
        go_wp2_with fail
        refine HI.out.mono ?_
        rintro e w22 ⟨rfl, b22⟩
        have HBF := hid (lnGo b22 (lnGo B21.out HC.out))
        have hd9 : decide (lnIs (lnSum (lnTimes k (lnSum (a1 ++ c1'))))) = true := by simpa using HIX.out
        clear b22
        go_wp2
        go_ret
        exact ⟨by first | rfl | (rw [hd9]; rfl) | simp [hd9], HBF.out⟩
end Go.Proofs.Ytjfcocadohgneaa
