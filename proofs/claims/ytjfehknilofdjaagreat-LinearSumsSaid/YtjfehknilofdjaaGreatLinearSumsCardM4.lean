/- Texts put together: LnRScale, LnOpen, LnFew, LnIs, LnTight, LnFixed, LnSame, LnRIs, LnLawSums. -/
import Derived.Test.YtjfehknilofdjaaGreatLinearSumsCardM3
import Derived.Deep.DeepCutAuto
/- elenchusref06.Scale. -/
namespace Go.Proofs.YtjfehknilofdjaaGreat
open Go.RowKit Big

def lnN (z t : Int) : SFact := ⟨fun v w => ∃ p n c, v = .agg #[.bool (decide (z < 0)), .slice p n c, .int .i64 t] ∧ IntAt w (.agg #[.bool (decide (z < 0)), .slice p n c]) z, fun _ _ _ ⟨p, n, c, h1, h2⟩ hb => ⟨p, n, c, h1, h2.below hb⟩⟩
def lnL (l : List (Int × Int)) : SFact := ⟨fun v w => ∃ p n c, v = .slice p n c ∧ PtsR w (.slice p n c) l, fun _ _ _ ⟨p, n, c, h1, h2⟩ hb => ⟨p, n, c, h1, h2.below hb⟩⟩
theorem sz_mulB {a b : Int} {k : Nat} (ha : sz W a.natAbs ≤ k) (hb : sz W b.natAbs ≤ k) : sz W (a * b).natAbs ≤ k + k := by rw [Int.natAbs_mul]; exact Nat.le_trans (sz_mul W2 _ _) (by omega)
/-- what put has put together so far of a list, so many times -/
def lnScTo (k : Int) (l : List (Int × Int)) (j : Nat) : List (Int × Int) := ((lnTimes k l).take j).foldl lnPut []
theorem lnScTo_next (k : Int) (l : List (Int × Int)) (j : Nat) (h : j < l.length) : lnScTo k l (j + 1) = lnPut (lnScTo k l j) (l[j].1 * k, l[j].2) := by
  unfold lnScTo
  rw [List.take_succ_eq_append_getElem (by unfold lnTimes; simpa using h), List.foldl_append]
  simp [lnTimes]
theorem lnScTo_all (k : Int) (l : List (Int × Int)) : lnClean (lnScTo k l l.length) = lnSum (lnTimes k l) := by
  unfold lnScTo lnSum
  rw [List.take_of_length_le (by simp [lnTimes])]
theorem lnScTo_len (k : Int) (l : List (Int × Int)) (j : Nat) : (lnScTo k l j).length ≤ l.length := by
  unfold lnScTo
  refine Nat.le_trans (lnAllLen _ _) ?_
  simp [lnTimes]
  omega
theorem lnScTo_sz {N : Nat} (hN : 1 ≤ N) {k : Int} {l : List (Int × Int)} (hl : ∀ p ∈ l, sz W p.1.natAbs ≤ N) (hk : sz W k.natAbs ≤ N) (j : Nat) : ∀ p ∈ lnScTo k l j, sz W p.1.natAbs ≤ N + N + l.length := by
  intro p hp
  have h1 := lnAllSz (N := N + N) (by omega) (ps := (lnTimes k l).take j) (fun q hq => by
    have hq := List.mem_of_mem_take hq
    unfold lnTimes at hq
    obtain ⟨x, hx, rfl⟩ := List.mem_map.1 hq
    exact sz_mulB (hl x hx) hk) p hp
  have h2 : ((lnTimes k l).take j).length ≤ l.length := by simp [lnTimes]; omega
  omega

set_option maxRecDepth 100000 in
set_option maxHeartbeats 6400000 in
theorem RScale_lin (va vk : Value) (a : List (Int × Int) × Int) (k : Int) (w : World) {N : Nat} (hN : 1 ≤ N) (ha : LnR w va a) (hk : RawAt w vk k) (sa : LnSz N a) (sk : sz W k.natAbs ≤ N) (hl : N + N + a.1.length ≤ 1000000) :
    Calls Tryz.prog 10 #[va, vk] w (RLin (lnSum (lnTimes k a.1), a.2 * k) w) := by
  obtain ⟨p0, n0, c0, b0, q0, k0, d0, rfl⟩ := ha.agg3
  obtain ⟨bk, qk, nk, ck, rfl⟩ := hk.agg2
  have HA := hid ha; have SA := hid sa; have SK := hid sk; have HL := hid hl
  have HRk := hid hk
  obtain ⟨W3, hW⟩ : ∃ W3, W3 = ((w.alloc (.cells #[.slice p0 n0 c0, .bool b0, .slice q0 k0 d0] 28)).alloc (.cells #[.bool bk, .slice qk nk ck] 26)).alloc (.cells #[.slice none 0 0, .bool false, .slice none 0 0] 28) := ⟨_, rfl⟩
  have hb3 : Below w.heap.size w W3 := by rw [hW]; exact ((below1 _ _).alloc (by simp) _).alloc (by simp; omega) _
  have z3 : W3.heap.size = w.heap.size + 3 := by rw [hW]; simp
  have e0 : W3.heap[w.heap.size]? = some (.cells #[.slice p0 n0 c0, .bool b0, .slice q0 k0 d0] 28 (0, 0)) := by rw [hW, heap_alloc_old _ _ (by simp; omega), heap_alloc_old _ _ (by simp)]; exact heap_alloc_new _ _
  have e1 : W3.heap[w.heap.size + 1]? = some (.cells #[.bool bk, .slice qk nk ck] 26 (0, 0)) := by
    rw [hW, heap_alloc_old _ _ (by simp)]
    have := heap_alloc_new (w.alloc (.cells #[.slice p0 n0 c0, .bool b0, .slice q0 k0 d0] 28)) (.cells #[.bool bk, .slice qk nk ck] 26)
    rwa [size_alloc] at this
  have e2 : W3.heap[w.heap.size + 1 + 1]? = some (.cells #[.slice none 0 0, .bool false, .slice none 0 0] 28 (0, 0)) := by
    have := heap_alloc_new ((w.alloc (.cells #[.slice p0 n0 c0, .bool b0, .slice q0 k0 d0] 28)).alloc (.cells #[.bool bk, .slice qk nk ck] 26)) (.cells #[.slice none 0 0, .bool false, .slice none 0 0] 28)
    rw [size_alloc, size_alloc] at this
    rw [hW]; exact this
  have H3 := hid hb3; have E0 := hid e0; have E1 := hid e1; have E2 := hid e2; have Z3 := hid z3
  clear e0 e1 e2
  obtain ⟨LA, hLA⟩ : ∃ LA, LA = a.1.length := ⟨_, rfl⟩
  have HLA := hid hLA
  have hLN : LA ≤ 1000000 := by rw [hLA]; omega
  have hNN : N + N + LA ≤ 1000000 := by rw [hLA]; exact hl
  have HPa : Hid (PtsR W3 (.slice p0 n0 c0) a.1) := hid (by obtain ⟨pv, n, s, e, h1, h2⟩ := HA.out; injection e with e; simp at e; obtain ⟨rfl, -⟩ := e; exact h1.below H3.out)
  have HRa : Hid (RawAt w (.agg #[.bool b0, .slice q0 k0 d0]) a.2) := hid (by obtain ⟨pv, n, s, e, h1, h2⟩ := HA.out; injection e with e; simp at e; obtain ⟨-, rfl, rfl⟩ := e; exact h2)
  obtain ⟨p0', c0', e0, j1, j2, -, j4⟩ := HPa.out
  injection e0 with g1 g2 g3
  subst g1 g2 g3
  have J4 := hid j4
  have E0' := E0.out
  rw [← hLA] at j1 hW E0' ⊢
  obtain ⟨x0, x1, x2⟩ := lnCells3 E0'
  clear hLA j4 ha hk sa sk hl
  have HE0 := hid E0'
  clear E0'
  have HUp : Hid (∀ j, lnUp (lnScTo k a.1 j)) := hid (fun j => lnAll_up _ [] List.Pairwise.nil)
  go_enter Tryz.func10, Tryz.ntmps10
  go_upto_region 2 with fail
  rw [← hW]
  clear hW
  go_wp2_with fail
  clear x0 x1 x2
  go_loopw [5, 11] (fun vo i wr => ∃ j : Nat, j ≤ LA ∧ i = .int .i64 (j : Nat) ∧ Hid (PtsR wr vo (lnScTo k a.1 j)) ∧ Hid (Below W3.heap.size W3 wr)) (fun _ i _ => LA - (intOf i).toNat)
  case atStart => exact ⟨0, Nat.zero_le _, rfl, hid (LsV.nil W3.heap.size W3).pts, hid (Below.refl _ _)⟩
  case round =>
    obtain ⟨j, hj, rfl, HC, HBw⟩ := hrel
    by_cases hlt : j < LA
    · have hjt : j < a.1.length := by rw [← HLA.out]; exact hlt
      obtain ⟨pv, cv, hsv, -⟩ := id HC.out
      obtain ⟨nv, hnv⟩ : ∃ nv, nv = (lnScTo k a.1 j).length := ⟨_, rfl⟩
      rw [← hnv] at hsv
      subst hsv
      clear hnv
      have hlt' : (j : Int) < (LA : Int) := by omega
      obtain ⟨b', o', rfl, hb', hc⟩ := J4.out (by omega)
      obtain ⟨cs, kk0, dx, s, ecs, hraw, hwf⟩ := hc j hjt
      have hsh := hraw.agg2
      obtain ⟨d', qx, nx, cx', e2⟩ := hsh
      obtain ⟨rfl, rfl⟩ : s = .slice qx nx cx' ∧ dx = d' := by
        injection e2 with e2
        simpa [and_comm] using e2
      clear e2
      subst ecs
      have y0 := (HBw.out.cell (p := ⟨b', o' + j * 3, none⟩) hb').trans (kk0 0 _ rfl)
      have y1 := (HBw.out.cell (p := ⟨b', o' + j * 3 + 1, none⟩) hb').trans (kk0 1 _ rfl)
      have y2 := (HBw.out.cell (p := ⟨b', o' + j * 3 + 2, none⟩) hb').trans (kk0 2 _ rfl)
      have Hnext := hid (lnScTo_next k a.1 j hjt)
      have hsx := SA.out.1 a.1[j] (List.getElem_mem hjt)
      have hraw := hraw.below HBw.out
      have Hwx := hid hwf
      have HSzj := hid (show ∀ p ∈ lnScTo k a.1 j, sz W p.1.natAbs ≤ N + N + LA by rw [HLA.out]; exact lnScTo_sz hN SA.out.1 SK.out j)
      have HLnj := hid (show (lnScTo k a.1 j).length ≤ 1000000 by have := lnScTo_len k a.1 j; have := HLA.out; omega)
      generalize a.1[j].1 = c at *
      generalize a.1[j].2 = t at *
      have Hpz := hid (show sz W (c * k).natAbs ≤ N + N from sz_mulB hsx SK.out)
      have Hsc := hid hsx
      clear kk0 hc hwf hsx
      obtain ⟨W5, hW5⟩ : ∃ W5, W5 = wr.alloc (.cells #[.bool dx, .slice qx nx cx', .int .i64 t] 38) := ⟨_, rfl⟩
      have b5 : Below wr.heap.size wr W5 := by rw [hW5]; exact below1 wr _
      have e5 : W5.heap[wr.heap.size]? = some (.cells #[.bool dx, .slice qx nx cx', .int .i64 t] 38 (0, 0)) := by rw [hW5]; exact heap_alloc_new wr _
      have HB5 := hid (lnGo b5 HBw.out)
      have HB5w := hid (lnGo HB5.out H3.out)
      have HB5o := hid b5
      have HR5 := hid (hraw.below b5)
      have hEk := (HB5.out.block (w.heap.size + 1) (by have := Z3.out; omega)).trans E1.out
      have HS5 : Hid (∀ w', Below W5.heap.size W5 w' → (w'.cell? ⟨wr.heap.size, 0, none⟩ = some (.bool dx) ∧ w'.cell? ⟨wr.heap.size, 1, none⟩ = some (.slice qx nx cx') ∧ w'.cell? ⟨wr.heap.size, 2, none⟩ = some (.int .i64 t)) ∧ w'.cell? ⟨w.heap.size + 1, 0, none⟩ = some (.bool bk) ∧ w'.cell? ⟨w.heap.size + 1, 1, none⟩ = some (.slice qk nk ck)) := hid (fun w' hw => by
        have f0 := (hw.block wr.heap.size (Array.getElem?_eq_some_iff.1 e5).1).trans e5
        have f1 := (hw.block (w.heap.size + 1) (Array.getElem?_eq_some_iff.1 hEk).1).trans hEk
        have f2 := two_cells f1
        exact ⟨lnCells3 f0, f2.1, f2.2.1⟩)
      clear b5 e5 hraw hEk
      go_upto_region 5 with fail
      rw [← hW5]
      clear hW5 y0 y1 y2
      refine wp_region_facts (w0 := W5) 9 1 [15, 16, 17, 18, 19, 20, 21, 22, 23] [u15, u16, u17, u18, u19, u20, u21, u22, u23]
        (fun i => match i with | 0 => lnE (.slice pv nv cv) | 1 => lnE (.pointer (some ⟨wr.heap.size, 0, none⟩)) | 2 => lnE (.agg #[.bool dx, .slice qx nx cx']) | 3 => lnE (.agg #[.bool bk, .slice qk nk ck]) | 4 => lnI (c * k) | 5 => lnE (.pointer (some ⟨wr.heap.size, 2, none⟩)) | 6 => lnE (.int .i64 t) | 7 => lnN (c * k) t | _ => lnL (lnPut (lnScTo k a.1 j) (c * k, t))) [] (by kernel_rfl) (by kernel_rfl) (by kernel_rfl) (by kernel_rfl) (by decide) rfl (by kernel_rfl) rfl (by simp) ?he1 ?_ ?_ ?_
      case he1 => simp only [putAll, Act.put, List.setIfInBounds_toArray, List.set_cons_zero, List.set_cons_succ]
      · intro i hi; simp at hi
      · intro i o hi ho vs wx hvl hb hdep K hK
        have hvs := vlen9 hvl
        obtain ⟨s15, s16, s17, s18, s19, s20, s21, s22, s23, rfl⟩ := hvs
        clear hvl
        have hk5 := HS5.out wx hb
        obtain ⟨⟨y0, y1, y2⟩, y3, y4⟩ := hk5
        have hBw := lnGo hb HB5w.out
        rcases i with _ | _ | _ | _ | _ | _ | _ | _ | _ | i
        all_goals (simp only [List.getElem?_toArray, List.getElem?_cons_zero, List.getElem?_cons_succ, Option.some.injEq] at ho)
        all_goals try (subst ho)
        all_goals try simp only [putAll, Act.put, List.setIfInBounds_toArray, List.set_cons_zero, List.set_cons_succ]
        · go_simp
          have hK' := hK.out
          simp only [putAll, Act.put, List.setIfInBounds_toArray, List.set_cons_zero, List.set_cons_succ] at hK'
          exact hK' _ _ rfl (Below.refl _ _) (by simp)
        · go_simp
          have hK' := hK.out
          simp only [putAll, Act.put, List.setIfInBounds_toArray, List.set_cons_zero, List.set_cons_succ] at hK'
          exact hK' _ _ rfl (Below.refl _ _) (by simp)
        · have e1 : s16 = _ := hdep ⟨1, .data⟩ (by simp) rfl
          have e1 := e1.symm
          subst e1
          go_simp
          have hK' := hK.out
          simp only [putAll, Act.put, List.setIfInBounds_toArray, List.set_cons_zero, List.set_cons_succ] at hK'
          exact hK' _ _ rfl (Below.refl _ _) (by simp)
        · go_simp
          have hK' := hK.out
          simp only [putAll, Act.put, List.setIfInBounds_toArray, List.set_cons_zero, List.set_cons_succ] at hK'
          exact hK' _ _ rfl (Below.refl _ _) (by simp)
        · have e2 : s17 = _ := hdep ⟨2, .data⟩ (by simp) rfl
          have e2 := e2.symm
          subst e2
          have e3 : s18 = _ := hdep ⟨3, .data⟩ (by simp) rfl
          have e3 := e3.symm
          subst e3
          go_simp
          go_simp
          refine (RMul_any _ _ c k wx (HR5.out.below hb) (HRk.out.below hBw) (Nat.le_trans Hsc.out (by omega)) (Nat.le_trans SK.out (by omega))).mono ?_
          rintro e wy ⟨vy, rfl, iy, hby⟩
          have hsh := iy.shape
          obtain ⟨p5, n5, c5, rfl, iy⟩ := hsh
          go_wp2_with fail
          have hK' := hK.out
          simp only [putAll, Act.put, List.setIfInBounds_toArray, List.set_cons_zero, List.set_cons_succ] at hK'
          exact hK' _ _ ⟨_, _, _, _, rfl, iy⟩ hby (by simp)
        · go_simp
          have hK' := hK.out
          simp only [putAll, Act.put, List.setIfInBounds_toArray, List.set_cons_zero, List.set_cons_succ] at hK'
          exact hK' _ _ rfl (Below.refl _ _) (by simp)
        · have e5 : s20 = _ := hdep ⟨5, .data⟩ (by simp) rfl
          have e5 := e5.symm
          subst e5
          go_simp
          have hK' := hK.out
          simp only [putAll, Act.put, List.setIfInBounds_toArray, List.set_cons_zero, List.set_cons_succ] at hK'
          exact hK' _ _ rfl (Below.refl _ _) (by simp)
        · have e4 : (lnI (c * k)).P s19 wx := hdep ⟨4, .data⟩ (by simp) rfl
          have e6 : s21 = _ := hdep ⟨6, .data⟩ (by simp) rfl
          have e6 := e6.symm
          subst e6
          obtain ⟨d4, p4, n4, c4, rfl, i4⟩ := e4
          obtain ⟨s4q, e4', i4'⟩ := id i4
          obtain ⟨rfl, rfl⟩ : d4 = decide (c * k < 0) ∧ s4q = .slice p4 n4 c4 := by injection e4' with e4'; simp at e4'; exact ⟨e4'.1, e4'.2.symm⟩
          clear e4'
          go_simp
          go_simp
          have hK' := hK.out
          simp only [putAll, Act.put, List.setIfInBounds_toArray, List.set_cons_zero, List.set_cons_succ] at hK'
          exact hK' _ _ ⟨_, _, _, rfl, i4⟩ (Below.refl _ _) (by simp)
        · have e0 : s15 = _ := hdep ⟨0, .data⟩ (by simp) rfl
          have e0 := e0.symm
          subst e0
          have e7 : (lnN (c * k) t).P s22 wx := hdep ⟨7, .data⟩ (by simp) rfl
          obtain ⟨p7, n7, c7, rfl, i7⟩ := e7
          go_simp
          go_simp
          refine (put_any (.slice pv nv cv) (lnScTo k a.1 j) (decide (c * k < 0)) p7 n7 c7 (c * k) t wx (HC.out.below (lnGo hb HB5o.out)) (HUp.out _) (i7.rawL (by have := Hpz.out; omega)) Hwx.out (fun p hp => Nat.le_trans (HSzj.out p hp) (by omega)) (by have := Hpz.out; omega) HLnj.out).mono ?_
          rintro e wy ⟨vy, rfl, iy, hby⟩
          have hsh := iy
          obtain ⟨p5, c5, rfl, -⟩ := hsh
          go_wp2_with fail
          have hK' := hK.out
          simp only [putAll, Act.put, List.setIfInBounds_toArray, List.set_cons_zero, List.set_cons_succ] at hK'
          exact hK' _ _ ⟨_, _, _, rfl, iy⟩ hby (by simp)
        · omega
      · intro vs wx hvl hb hf hdist
        have hvs := vlen9 hvl
        obtain ⟨s15, s16, s17, s18, s19, s20, s21, s22, s23, rfl⟩ := hvs
        have f8 : (lnL (lnPut (lnScTo k a.1 j) (c * k, t))).P s23 wx := hf 8 (by decide)
        obtain ⟨pA, nA, cA, e1, T1⟩ := f8
        subst e1
        have HT1 := hid T1
        have HBn := hid (lnGo hb HB5.out)
        clear hf hvl hdist T1
        refine wpAny_one (i := 9) (by kernel_rfl) rfl ?_
        intro K hK
        simp only [putAll, Act.put, List.setIfInBounds_toArray, List.set_cons_zero, List.set_cons_succ]
        have hK' := hK.out
        go_simp
        apply hK'
        clear hK hK'
        refine wpAny_done (by kernel_rfl) ?_ _
        try simp only [Act.put, List.setIfInBounds_toArray, List.set_cons_zero, List.set_cons_succ]
        go_wp2_with fail
        go_roundw
        case rel => exact ⟨j + 1, by omega, by go_num, hid (by rw [Hnext.out]; exact HT1.out), HBn⟩
        case measure => simp [intOf] <;> omega
    · obtain rfl : j = LA := by omega
      obtain ⟨pv, cv, hsv, -⟩ := id HC.out
      obtain ⟨nv, hnv⟩ : ∃ nv, nv = (lnScTo k a.1 j).length := ⟨_, rfl⟩
      rw [← hnv] at hsv
      subst hsv
      have HC0 := HC.out
      have hlen := lnScTo_len k a.1 j
      have HCl := hid (fun W' (hw : Below wr.heap.size wr W') => clean_any _ _ W' (HC0.below hw) (Nat.le_trans hlen (by have := HLA.out; omega)))
      have hall := lnScTo_all k a.1
      rw [← HLA.out] at hall
      rw [hall] at HCl
      have hE0 := (HBw.out.block w.heap.size (by have := Z3.out; omega)).trans HE0.out
      have hE1 := (HBw.out.block (w.heap.size + 1) (by have := Z3.out; omega)).trans E1.out
      have hE2 := (HBw.out.block (w.heap.size + 1 + 1) (by have := Z3.out; omega)).trans E2.out
      have HBC : Hid (∀ w', Below wr.heap.size wr w' → (w'.cell? ⟨w.heap.size, 1, none⟩ = some (.bool b0) ∧ w'.cell? ⟨w.heap.size, 2, none⟩ = some (.slice q0 k0 d0)) ∧ (w'.cell? ⟨w.heap.size + 1, 0, none⟩ = some (.bool bk) ∧ w'.cell? ⟨w.heap.size + 1, 1, none⟩ = some (.slice qk nk ck)) ∧ w'.heap[w.heap.size + 1 + 1]? = some (.cells #[.slice none 0 0, .bool false, .slice none 0 0] 28 (0, 0))) := hid (fun w' hw => by
        have f0 := (hw.block w.heap.size (Array.getElem?_eq_some_iff.1 hE0).1).trans hE0
        have f1 := (hw.block (w.heap.size + 1) (Array.getElem?_eq_some_iff.1 hE1).1).trans hE1
        have f2 := (hw.block (w.heap.size + 1 + 1) (Array.getElem?_eq_some_iff.1 hE2).1).trans hE2
        have f3 := two_cells f1
        exact ⟨(lnCells3 f0).2, ⟨f3.1, f3.2.1⟩, f2⟩)
      have HBw0 := hid (lnGo HBw.out H3.out)
      have Hz3 := hid (show wr.heap.size ≥ w.heap.size + 3 by have := Z3.out; have := HBw.out.size; omega)
      clear hnv HC HC0 hE0 hE1 hE2 hlt hj J4 HPa hall hlen
      go_upto_region 7 with fail
      refine wp_region_facts (w0 := wr) 7 1 [25, 26, 27, 28, 29, 30, 31] [undef, undef, undef, undef, undef, undef, undef]
        (fun i => match i with | 0 => lnE (.slice pv nv cv) | 1 => lnP (lnSum (lnTimes k a.1)) | 2 => lnE (.pointer (some ⟨w.heap.size, 1, none⟩)) | 3 => lnE (.agg #[.bool b0, .slice q0 k0 d0]) | 4 => lnE (.agg #[.bool bk, .slice qk nk ck]) | 5 => lnI (a.2 * k) | _ => lnS8 (lnSum (lnTimes k a.1), a.2 * k)) [] (by kernel_rfl) (by kernel_rfl) (by kernel_rfl) (by kernel_rfl) (by decide) rfl (by kernel_rfl) rfl (by simp) ?he2 ?_ ?_ ?_
      case he2 => simp only [putAll, Act.put, List.setIfInBounds_toArray, List.set_cons_zero, List.set_cons_succ]
      · intro i hi; simp at hi
      · intro i o hi ho vs wx hvl hb hdep K hK
        have hvs := vlen7 hvl
        obtain ⟨s25, s26, s27, s28, s29, s30, s31, rfl⟩ := hvs
        clear hvl
        have hk5 := HBC.out wx hb
        obtain ⟨⟨y0, y1⟩, ⟨y2, y3⟩, y4⟩ := hk5
        have hBw := lnGo hb HBw0.out
        rcases i with _ | _ | _ | _ | _ | _ | _ | i
        all_goals (simp only [List.getElem?_toArray, List.getElem?_cons_zero, List.getElem?_cons_succ, Option.some.injEq] at ho)
        all_goals try (subst ho)
        all_goals try simp only [putAll, Act.put, List.setIfInBounds_toArray, List.set_cons_zero, List.set_cons_succ]
        · go_simp
          have hK' := hK.out
          simp only [putAll, Act.put, List.setIfInBounds_toArray, List.set_cons_zero, List.set_cons_succ] at hK'
          exact hK' _ _ rfl (Below.refl _ _) (by simp)
        · have e0 : s25 = _ := hdep ⟨0, .data⟩ (by simp) rfl
          have e0 := e0.symm
          subst e0
          go_simp
          go_simp
          refine (HCl.out wx hb).mono ?_
          rintro e wy ⟨vy, rfl, iy, hby⟩
          have hsh := iy
          obtain ⟨p5, c5, rfl, -⟩ := hsh
          go_wp2_with fail
          have hK' := hK.out
          simp only [putAll, Act.put, List.setIfInBounds_toArray, List.set_cons_zero, List.set_cons_succ] at hK'
          exact hK' _ _ ⟨_, _, _, rfl, iy⟩ hby (by simp)
        · go_simp
          have hK' := hK.out
          simp only [putAll, Act.put, List.setIfInBounds_toArray, List.set_cons_zero, List.set_cons_succ] at hK'
          exact hK' _ _ rfl (Below.refl _ _) (by simp)
        · have e2 : s27 = _ := hdep ⟨2, .data⟩ (by simp) rfl
          have e2 := e2.symm
          subst e2
          go_simp
          have hK' := hK.out
          simp only [putAll, Act.put, List.setIfInBounds_toArray, List.set_cons_zero, List.set_cons_succ] at hK'
          exact hK' _ _ rfl (Below.refl _ _) (by simp)
        · go_simp
          have hK' := hK.out
          simp only [putAll, Act.put, List.setIfInBounds_toArray, List.set_cons_zero, List.set_cons_succ] at hK'
          exact hK' _ _ rfl (Below.refl _ _) (by simp)
        · have e3 : s28 = _ := hdep ⟨3, .data⟩ (by simp) rfl
          have e3 := e3.symm
          subst e3
          have e4 : s29 = _ := hdep ⟨4, .data⟩ (by simp) rfl
          have e4 := e4.symm
          subst e4
          go_simp
          go_simp
          refine (RMul_any _ _ a.2 k wx (HRa.out.below hBw) (HRk.out.below hBw) (Nat.le_trans SA.out.2 (by omega)) (Nat.le_trans SK.out (by omega))).mono ?_
          rintro e wy ⟨vy, rfl, iy, hby⟩
          have hsh := iy.shape
          obtain ⟨p5, n5, c5, rfl, iy⟩ := hsh
          go_wp2_with fail
          have hK' := hK.out
          simp only [putAll, Act.put, List.setIfInBounds_toArray, List.set_cons_zero, List.set_cons_succ] at hK'
          exact hK' _ _ ⟨_, _, _, _, rfl, iy⟩ hby (by simp)
        · have e1 : (lnP (lnSum (lnTimes k a.1))).P s26 wx := hdep ⟨1, .data⟩ (by simp) rfl
          have e5 : (lnI (a.2 * k)).P s30 wx := hdep ⟨5, .data⟩ (by simp) rfl
          obtain ⟨p1x, n1x, c1x, rfl, i1x⟩ := e1
          obtain ⟨d5, p5, n5, c5, rfl, i5⟩ := e5
          obtain ⟨s5q, e5', i5'⟩ := id i5
          obtain ⟨rfl, rfl⟩ : d5 = decide (a.2 * k < 0) ∧ s5q = .slice p5 n5 c5 := by injection e5' with e5'; simp at e5'; exact ⟨e5'.1, e5'.2.symm⟩
          clear e5'
          go_simp
          go_simp
          have hK' := hK.out
          simp only [putAll, Act.put, List.setIfInBounds_toArray, List.set_cons_zero, List.set_cons_succ] at hK'
          exact hK' _ _ ⟨_, _, _, _, _, _, rfl, ⟨_, _, rfl, i1x, i5⟩⟩ (Below.refl _ _) (by simp)
        · omega
      · intro vs wx hvl hb hf hdist
        have hvs := vlen7 hvl
        obtain ⟨s25, s26, s27, s28, s29, s30, s31, rfl⟩ := hvs
        have f7 : (lnS8 (lnSum (lnTimes k a.1), a.2 * k)).P s31 wx := hf 6 (by decide)
        obtain ⟨pA, nA, cA, qA, kA, dA, e1, T1⟩ := f7
        subst e1
        have hgb := (HBC.out _ hb).2.2
        have hBw := lnGo hb HBw0.out
        clear hf hvl hdist
        obtain ⟨x0, x1, x2⟩ := lnCells3 hgb
        have fz0 := frozen_of_row wx (w.heap.size + 1 + 1) 0 _ _ hgb
        have fz1 := frozen_of_row wx (w.heap.size + 1 + 1) 1 _ _ hgb
        have fz2 := frozen_of_row wx (w.heap.size + 1 + 1) 2 _ _ hgb
        have HT7 := hid (T1.quiet (st3_apart wx (w.heap.size + 1 + 1) (.slice pA nA cA) (.bool (decide (a.2 * k < 0))) (.slice qA kA dA)) (fun b hb => by rw [hb]; exact NoInt.cells hgb (by simp)))
        have HB7 := hid (st3_below (v0 := .slice pA nA cA) (v1 := .bool (decide (a.2 * k < 0))) (v2 := .slice qA kA dA) (g := w.heap.size + 1 + 1) hBw (by omega))
        clear T1
        refine wpAny_one (i := 7) (by kernel_rfl) rfl ?_
        intro K hK
        simp only [putAll, Act.put, List.setIfInBounds_toArray, List.set_cons_zero, List.set_cons_succ]
        have hK' := hK.out
        go_simp
        apply hK'
        clear hK hK'
        refine wpAny_done (by kernel_rfl) ?_ _
        try simp only [Act.put, List.setIfInBounds_toArray, List.set_cons_zero, List.set_cons_succ]
        go_wp2
        exact bodyPost_ret (v := .agg #[.slice pA nA cA, .bool (decide (a.2 * k < 0)), .slice qA kA dA]) (by simp [results, Tryz.results10, go_sem, x0, x1, x2]) rfl ⟨_, rfl, HT7.out, HB7.out⟩
end Go.Proofs.YtjfehknilofdjaaGreat
/- Sums that come in as data: how they read. -/
namespace Go.Proofs.YtjfehknilofdjaaGreat
open Go.ChangeShapes Go.WideShapes Go.ChangeAt Go.RowKit Go.Deep Go.Joins Big

/-- a part as it comes in -/
structure Px6 where
  n : Nx
  term : Int
def Px6.p (x : Px6) : Int × Int := (x.n.z, x.term)
def Px6Q (w : World) (c : List Value) (x : Px6) : Prop := ∃ n s, c = [n, s, .int .i64 x.term] ∧ NxQ w [n, s] x.n ∧ wfI x.term
theorem Px6Q.below {w w' : World} {c : List Value} {x : Px6} (h : Px6Q w c x) (hb : Below w.heap.size w w') : Px6Q w' c x := by
  obtain ⟨n, s, e, h1, h2⟩ := h
  exact ⟨n, s, e, h1.below hb, h2⟩
abbrev Px6sIn := LsIn 3 Px6Q
theorem Px6sIn.below {w w' : World} {v : Value} {l : List Px6} (h : Px6sIn w v l) (hb : Below w.heap.size w w') : Px6sIn w' v l := LsIn.below (Q := Px6Q) (fun h hb => Px6Q.below h hb) h hb
/-- a sum as it comes in -/
structure Lx where
  parts : List Px6
  rest : Nx
def Lx.a (x : Lx) : List (Int × Int) × Int := (x.parts.map Px6.p, x.rest.z)
def Lx.fit (x : Lx) : Prop := x.parts.length ≤ 40 ∧ x.rest.fit ∧ ∀ p ∈ x.parts, p.n.fit
def LxQ (w : World) (v : Value) (x : Lx) : Prop := ∃ p n cp s, v = .agg #[.slice p x.parts.length cp, n, s] ∧ Px6sIn w (.slice p x.parts.length cp) x.parts ∧ NxQ w [n, s] x.rest ∧ (∃ b, n = .bool b) ∧ ∃ q m cq, s = .slice q m cq
theorem Px6sIn.raw {w : World} {v : Value} {l : List Px6} (h : Px6sIn w v l) (hf : ∀ x ∈ l, x.n.fit) : PtsR w v (l.map Px6.p) := by
  obtain ⟨p, cap, rfl, h1, h2, h3, h4⟩ := h
  refine ⟨p, cap, by rw [List.length_map], by rw [List.length_map]; exact h1, h2, h3, fun hp => ?_⟩
  rw [List.length_map] at hp
  obtain ⟨b, off, h5, h6, h7⟩ := h4 hp
  refine ⟨b, off, h5, h6, fun i hi => ?_⟩
  rw [List.length_map] at hi
  obtain ⟨c, k1, n, s, e, k2, k3⟩ := h7 i hi
  obtain ⟨q, cq, e2, -⟩ := id k2
  injection e2 with e2 _
  subst e2
  refine ⟨c, k1, _, s, by rw [List.getElem_map]; exact e, ?_, by rw [List.getElem_map]; exact k3⟩
  rw [List.getElem_map]
  exact k2.raw (hf _ (List.getElem_mem hi))
theorem LxQ.raw {w : World} {v : Value} {x : Lx} (h : LxQ w v x) (hf : x.fit) : LnR w v x.a := by
  obtain ⟨p, n, cp, s, rfl, h1, h2, ⟨b, rfl⟩, -⟩ := h
  exact ⟨_, b, s, rfl, h1.raw hf.2.2, h2.raw hf.2.1⟩
theorem LxQ.small {w : World} {v : Value} {x : Lx} (h : LxQ w v x) (hf : x.fit) : LnSz 6 x.a := by
  obtain ⟨p, n, cp, s, rfl, h1, h2, -⟩ := h
  refine ⟨fun y hy => ?_, h2.small hf.2.1⟩
  obtain ⟨u, hu, rfl⟩ := List.mem_map.1 hy
  obtain ⟨i, hi, rfl⟩ := List.mem_iff_getElem.1 hu
  obtain ⟨q, cap, -, -, -, -, h4⟩ := h1
  obtain ⟨b, off, -, -, h7⟩ := h4 (by omega)
  obtain ⟨c, -, n', s', -, k2, -⟩ := h7 i hi
  exact k2.small (hf.2.2 _ hu)
theorem fieldsPart : ∃ f0 f1 : Field, Tryz.prog.underlying 38 = some (.struct #[f0, f1]) ∧ f0.type = 26 ∧ f1.type = 3 ∧ f0.offset = 0 ∧ f1.offset = 2 := ⟨_, _, Tryz.underlying38, rfl, rfl, rfl, rfl⟩
theorem fieldsLinear : ∃ f0 f1 : Field, Tryz.prog.underlying 28 = some (.struct #[f0, f1]) ∧ f0.type = 22 ∧ f1.type = 26 ∧ f0.offset = 0 ∧ f1.offset = 1 := ⟨_, _, Tryz.underlying28, rfl, rfl, rfl, rfl⟩
theorem cellsPartP : Tryz.prog.cellsOf 38 = 3 := by kernel_rfl
theorem cellsLinearP : Tryz.prog.cellsOf 28 = 3 := by kernel_rfl
theorem cellsPartsP : Tryz.prog.cellsOf 22 = 1 := by kernel_rfl
section
variable {H : Type} {enc : TypeId × Value → H} {w : World} {base : Nat} {spare : Nat → Bool} {held : Bool}
set_option maxRecDepth 100000 in
theorem open_px6 {fuel : Nat} {cs : List Value} {y : DataW H × List MemPlace} (h : DataW.trod enc Tryz.prog w base spare held fuel 38 cs = some y) : ∃ x : Px6, Px6Q w cs x := by
  obtain ⟨f0, f1, hs, e0, e1, o0, o1⟩ := fieldsPart
  obtain ⟨xs, n, rfl, -, hl, hlen, hf⟩ := DataW.trod_struct hs h
  rw [cellsPartP] at hl
  match cs, hl, xs, hlen with
  | [c0, c1, c2], _, [y0, y1], _ =>
    have h0 := hf 0 f0 rfl
    have h1 := hf 1 f1 rfl
    rw [e0, o0, cellsIntP] at h0
    rw [e1, o1, cellsIP] at h1
    obtain ⟨x, k⟩ := open_nx (show DataW.trod enc Tryz.prog w base spare held n 26 [c0, c1] = some y0 from h0)
    obtain ⟨t, g, -, hw⟩ := DataW.trod_int Tryz.underlying3 (show DataW.trod enc Tryz.prog w base spare held n 3 [c2] = some y1 from h1)
    injection g with g _
    subst g
    exact ⟨⟨x, t⟩, _, _, rfl, k, hw⟩
theorem open_px6s {fuel : Nat} {cs : List Value} {y : DataW H × List MemPlace} (h : DataW.trod enc Tryz.prog w base spare held fuel 22 cs = some y) : ∃ v l, cs = [v] ∧ Px6sIn w v l :=
  open_ls 3 Tryz.underlying22 cellsPartP (by decide) (fun _ _ _ h => open_px6 h) h
set_option maxRecDepth 100000 in
/-- a sum by value -/
theorem open_lin {r : Reach} {b0 : Nat} {v : Value} {d : DataW H} {p : List MemPlace} (hv : Value.okWide Tryz.prog w r b0 28 v) (h : DataW.Trod enc Tryz.prog w base spare held 28 v d p) : ∃ x, LxQ w v x := by
  obtain ⟨f0, f1, hs, e0, e1, o0, o1⟩ := fieldsLinear
  obtain ⟨cs, rfl, hsz⟩ := okWide_struct hs hv
  obtain ⟨fuel, hf⟩ := h
  obtain ⟨xs, n, -, -, hl, hlen, hfi⟩ := DataW.trod_struct hs hf
  rw [cellsLinearP] at hl
  obtain ⟨l⟩ := cs
  have hl' : l.length = 3 := by simpa [Value.cells] using hl
  match l, hl', xs, hlen with
  | [c0, c1, c2], _, [y0, y1], _ =>
    have h0 := hfi 0 f0 rfl
    have h1 := hfi 1 f1 rfl
    rw [e0, o0, cellsPartsP] at h0
    rw [e1, o1, cellsIntP] at h1
    obtain ⟨v0, l0, g, k⟩ := open_px6s (show DataW.trod enc Tryz.prog w base spare held n 22 [c0] = some y0 from h0)
    obtain ⟨x, k'⟩ := open_nx (show DataW.trod enc Tryz.prog w base spare held n 26 [c1, c2] = some y1 from h1)
    injection g with g _
    subst g
    obtain ⟨q, cq, e, -⟩ := id k'
    injection e with e3 e
    injection e with e4 _
    obtain ⟨pp, cc, rfl, -⟩ := id k
    exact ⟨⟨l0, x⟩, pp, _, cc, _, rfl, k, k', ⟨_, e3⟩, _, _, _, e4⟩
set_option maxRecDepth 100000 in
/-- a number by value -/
theorem open_num6 {r : Reach} {b0 : Nat} {v : Value} {d : DataW H} {p : List MemPlace} (hv : Value.okWide Tryz.prog w r b0 26 v) (h : DataW.Trod enc Tryz.prog w base spare held 26 v d p) : ∃ x : Nx, ∃ n s, v = .agg #[n, s] ∧ NxQ w [n, s] x := by
  obtain ⟨f0, f1, hs, -⟩ := fieldsIntP
  obtain ⟨cs, rfl, hsz⟩ := okWide_struct hs hv
  obtain ⟨fuel, hf⟩ := h
  obtain ⟨x, hx⟩ := open_nx hf
  obtain ⟨l⟩ := cs
  obtain ⟨q, cq, e, -⟩ := id hx
  have : l = [.bool x.neg, .slice q x.words.length cq] := by simpa [Value.cells] using e
  subst this
  exact ⟨x, _, _, rfl, hx⟩
end
end Go.Proofs.YtjfehknilofdjaaGreat
/- elenchusref06.Few. -/
namespace Go.Proofs.YtjfehknilofdjaaGreat
open Go.RowKit Big

/-- what a call answers: a bool that is true only if P -/
def RIf (P : Prop) (w : World) (e : Ending) (w' : World) : Prop := ∃ b : Bool, e = .returned (.bool b) ∧ (b = true → P) ∧ Below w.heap.size w w'
set_option maxRecDepth 100000 in
set_option maxHeartbeats 6400000 in
theorem Few6_any (v : Value) (x : Lx) (w : World) (h : LxQ w v x) : Calls Tryz.prog 5 #[v] w (RIf x.fit w) := by
  obtain ⟨p, n, cp, s, rfl, h1, h2, ⟨bn, rfl⟩, -⟩ := h
  obtain ⟨q, cq, e2, -⟩ := h2
  injection e2 with _ e2
  injection e2 with e2 _
  subst e2
  obtain ⟨p', cap', ep, j1, j2, -, j4⟩ := h1
  injection ep with e3 _ e4
  subst e3 e4
  have J4 := hid j4
  unfold maxLen at j2
  obtain ⟨l, r⟩ := x
  obtain ⟨W, hW⟩ : ∃ W, W = w.alloc (.cells #[.slice p l.length cp, .bool bn, .slice q r.words.length cq] 28) := ⟨_, rfl⟩
  have b0 : Below w.heap.size w W := by rw [hW]; exact below1 w _
  have e0 : W.heap[w.heap.size]? = some (.cells #[.slice p l.length cp, .bool bn, .slice q r.words.length cq] 28 (0, 0)) := by rw [hW]; exact heap_alloc_new w _
  have B0 := hid b0; have E0 := hid e0
  have hfit : Hid (Lx.fit ⟨l, r⟩ ↔ l.length ≤ 40 ∧ r.words.length ≤ 6 ∧ ∀ p ∈ l, p.n.fit) := hid Iff.rfl
  obtain ⟨y0, y1, y2⟩ := lnCells3 e0
  show Calls Tryz.prog 5 #[.agg #[.slice p l.length cp, .bool bn, .slice q r.words.length cq]] w (RIf (Lx.fit ⟨l, r⟩) w)
  obtain ⟨L, hLL⟩ : ∃ L, L = l.length := ⟨_, rfl⟩
  have HLL := hid hLL
  have j1 : l.length ≤ cp := j1
  rw [← hLL] at j1 y0 hW hfit ⊢
  generalize r.words.length = m at *
  clear j4 b0 e0 hLL
  by_cases hL : L ≤ 40
  · have hd : decide ((40 : Int) < (L : Int)) = false := by simp; omega
    by_cases hm : m ≤ 6
    · have hd2 : decide ((6 : Int) < (m : Int)) = false := by simp; omega
      go_enter Tryz.func5, Tryz.ntmps5
      go_upto_region 1 with fail
      rw [← hW]
      clear hW
      go_wp2_with fail
      clear y0 y1 y2
      go_loopw [19] (fun i wr => ∃ (k : Nat), k ≤ L ∧ i = .int .i64 (k : Nat) ∧ Hid (∀ p ∈ l.take k, p.n.fit) ∧ Hid (Below W.heap.size W wr)) (fun i _ => L - (intOf i).toNat)
      case atStart => exact ⟨0, Nat.zero_le _, rfl, hid (by simp), hid (Below.refl _ _)⟩
      case round =>
        obtain ⟨k, hk, rfl, HA, HB⟩ := hrel
        have HBw := hid (lnGo HB.out B0.out)
        by_cases hlt : k < L
        · have hkt : k < l.length := by rw [← HLL.out]; exact hlt
          have hlt' : (k : Int) < (L : Int) := by omega
          obtain ⟨b, o, rfl, hb, hc⟩ := J4.out (by show 0 < l.length; omega)
          obtain ⟨cs, k0, n1, s1, ecs, hq, hwf⟩ := hc k hkt
          obtain ⟨q1, cq1, e5, -⟩ := hq
          injection e5 with e6 e5
          injection e5 with e5 _
          have ecs : cs = [n1, s1, .int .i64 (l[k]'hkt).term] := ecs
          subst e5 e6 ecs
          have y0 := (HBw.out.cell (p := ⟨b, o + k * 3, none⟩) hb).trans (k0 0 _ rfl)
          have y1 := (HBw.out.cell (p := ⟨b, o + k * 3 + 1, none⟩) hb).trans (k0 1 _ rfl)
          have y2 := (HBw.out.cell (p := ⟨b, o + k * 3 + 2, none⟩) hb).trans (k0 2 _ rfl)
          have y0 : wr.cell? ⟨b, o + k * 3, none⟩ = some (.bool l[k].n.neg) := y0
          have y1 : wr.cell? ⟨b, o + k * 3 + 1, none⟩ = some (.slice q1 l[k].n.words.length cq1) := y1
          have Hsn : Hid (l.take (k + 1) = l.take k ++ [l[k]]) := hid (List.take_succ_eq_append_getElem hkt)
          have Hf : Hid (l[k].n.fit ↔ l[k].n.words.length ≤ 6) := hid Iff.rfl
          clear k0 hc hwf
          generalize l[k].n.words.length = m1 at *
          generalize l[k].n.neg = g1 at *
          generalize l[k].term = t1 at *
          by_cases hm1 : m1 ≤ 6
          · have hd3 : decide ((6 : Int) < (m1 : Int)) = false := by simp; omega
            have HA2 : Hid (∀ p ∈ l.take (k + 1), p.n.fit) := hid (fun p hp => by
              rcases List.mem_append.1 (Hsn.out ▸ hp) with hp | hp
              · exact HA.out p hp
              · rw [List.mem_singleton.1 hp]; exact Hf.out.2 hm1)
            have HB2 := hid (lnGo (below1 wr (.cells #[.bool g1, .slice q1 m1 cq1, .int .i64 t1] 38)) HB.out)
            clear HA HB HBw Hsn Hf
            go_wp2_with fail
            go_roundw
            case rel => exact ⟨k + 1, by omega, by go_num, HA2, HB2⟩
            case measure => simp [intOf] <;> omega
          · have hd3 : decide ((6 : Int) < (m1 : Int)) = true := by simp; omega
            have HB2 := hid (lnGo (below1 wr (.cells #[.bool g1, .slice q1 m1 cq1, .int .i64 t1] 38)) HBw.out)
            clear HA HB HBw Hsn Hf
            go_wp2
            go_ret
            exact ⟨false, rfl, (fun h => by cases h), HB2.out⟩
        · obtain rfl : k = L := by omega
          have hfin : l.take k = l := by rw [HLL.out, List.take_length]
          have hA := HA.out
          rw [hfin] at hA
          have Hfin := hid (hfit.out.2 ⟨hL, hm, hA⟩)
          clear HA hA hfin
          go_wp2
          go_ret
          exact ⟨true, rfl, fun _ => Hfin.out, HBw.out⟩
    · have hd2 : decide ((6 : Int) < (m : Int)) = true := by simp; omega
      go_enter Tryz.func5, Tryz.ntmps5
      go_upto_region 1 with fail
      rw [← hW]
      clear hW
      go_wp2
      go_ret
      exact ⟨false, rfl, (fun h => by cases h), B0.out⟩
  · have hd : decide ((40 : Int) < (L : Int)) = true := by simp; omega
    go_enter Tryz.func5, Tryz.ntmps5
    go_upto_region 1 with fail
    rw [← hW]
    clear hW
    go_wp2
    go_ret
    exact ⟨false, rfl, (fun h => by cases h), B0.out⟩
end Go.Proofs.YtjfehknilofdjaaGreat
/- linear.Is. -/
namespace Go.Proofs.YtjfehknilofdjaaGreat
open Go.RowKit Big

instance (l : List (Int × Int)) : Decidable (lnIs l) := by unfold lnIs lnUp; infer_instance
theorem lnIs_take {l : List (Int × Int)} (h : lnIs l) (k : Nat) : lnIs (l.take k) := ⟨h.1.take, fun p hp => h.2 p (List.mem_of_mem_take hp)⟩
theorem lnIs_snoc : ∀ (l : List (Int × Int)) (p : Int × Int), lnIs (l ++ [p]) ↔ lnIs l ∧ p.1 ≠ 0 ∧ ∀ q ∈ l.getLast?, q.2 < p.2 := by
  intro l p
  unfold lnIs lnUp
  rw [List.pairwise_append]
  constructor
  · rintro ⟨⟨h1, -, h2⟩, h3⟩
    refine ⟨⟨h1, fun q hq => h3 q (by simp [hq])⟩, h3 p (by simp), fun q hq => h2 q (List.mem_of_getLast? hq) p (by simp)⟩
  · rintro ⟨⟨h1, h2⟩, h3, h4⟩
    refine ⟨⟨h1, List.pairwise_singleton _ _, fun q hq r hr => ?_⟩, fun q hq => ?_⟩
    · rw [List.mem_singleton.1 hr]
      cases hl : l.getLast? with
      | none =>
        rw [List.getLast?_eq_none_iff.1 hl] at hq
        cases hq
      | some x =>
        have hx := h4 x (by rw [hl]; rfl)
        obtain ⟨ys, rfl⟩ := List.getLast?_eq_some_iff.1 hl
        rcases List.mem_append.1 hq with hq | hq
        · have := (List.pairwise_append.1 h1).2.2 q hq x (by simp)
          omega
        · rw [List.mem_singleton.1 hq]; exact hx
    · rcases List.mem_append.1 hq with hq | hq
      · exact h2 q hq
      · rw [List.mem_singleton.1 hq]; exact h3
theorem lnIs_step (l : List (Int × Int)) (k : Nat) (hk : k < l.length) : lnIs (l.take (k + 1)) ↔ lnIs (l.take k) ∧ l[k].1 ≠ 0 ∧ (0 < k → ∀ (h : k - 1 < l.length), l[k - 1].2 < l[k].2) := by
  rw [List.take_succ_eq_append_getElem hk, lnIs_snoc]
  refine and_congr_right fun _ => and_congr_right fun _ => ?_
  rw [List.getLast?_take]
  by_cases h0 : k = 0
  · subst h0; simp
  · have h1 : k - 1 < l.length := by omega
    simp only [h0, if_false]
    rw [List.getElem?_eq_getElem h1]
    simp
    constructor
    · intro h _ _; exact h
    · intro h; exact h (by omega) h1
set_option maxRecDepth 100000 in
set_option maxHeartbeats 6400000 in
theorem Is_lin (v : Value) (a : List (Int × Int) × Int) (w : World) (h : LnR w v a) (hl : a.1.length ≤ 1000000000000) :
    Calls Tryz.prog 11 #[v] w (RBool (decide (lnIs a.1)) w) := by
  obtain ⟨pv, n0, s0, rfl, hp, h2⟩ := h
  have hsh := h2.agg2
  obtain ⟨d2, p2, n2, c2, e2⟩ := hsh
  obtain ⟨rfl, rfl⟩ : s0 = .slice p2 n2 c2 ∧ n0 = d2 := by
    injection e2 with e2
    simpa [and_comm] using e2
  clear e2 h2
  obtain ⟨l, x⟩ := a
  have hl : l.length ≤ 1000000000000 := hl
  show Calls Tryz.prog 11 _ w (RBool (decide (lnIs l)) w)
  obtain ⟨p, cp, rfl, j1, j2, -, j4⟩ := (show PtsR w pv l from hp)
  have J4 := hid j4
  obtain ⟨W, hW⟩ : ∃ W, W = w.alloc (.cells #[.slice p l.length cp, .bool n0, .slice p2 n2 c2] 28) := ⟨_, rfl⟩
  have b0 : Below w.heap.size w W := by rw [hW]; exact below1 w _
  have e0 : W.heap[w.heap.size]? = some (.cells #[.slice p l.length cp, .bool n0, .slice p2 n2 c2] 28 (0, 0)) := by rw [hW]; exact heap_alloc_new w _
  have z0 : W.heap.size = w.heap.size + 1 := by rw [hW, size_alloc]
  have B0 := hid b0; have E0 := hid e0; have Z0 := hid z0
  obtain ⟨L, hLL⟩ : ∃ L, L = l.length := ⟨_, rfl⟩
  have HLL := hid hLL
  rw [← hLL] at E0 hW j1 hl ⊢
  clear hp j4 b0 e0 z0 hLL
  go_enter Tryz.func11, Tryz.ntmps11
  go_upto_region 1 with fail
  rw [← hW]
  clear hW
  have y1 := (lnCells3 E0.out).1
  go_wp2_with fail
  clear y1
  go_loopw [8] (fun i wr => ∃ (k : Nat), k ≤ L ∧ i = .int .i64 (k : Nat) ∧ Hid (lnIs (l.take k)) ∧ Hid (Below W.heap.size W wr)) (fun i _ => L - (intOf i).toNat)
  case atStart => exact ⟨0, Nat.zero_le _, rfl, hid ⟨List.Pairwise.nil, by simp⟩, hid (Below.refl _ _)⟩
  case round =>
    obtain ⟨k, hk, rfl, HI, HB⟩ := hrel
    by_cases hlt : k < L
    · have hkt : k < l.length := by rw [← HLL.out]; exact hlt
      have hlt' : (k : Int) < (L : Int) := by omega
      have HBw := hid (lnGo HB.out B0.out)
      obtain ⟨b, o, rfl, hb, hc⟩ := J4.out (by omega)
      have hc' := hc
      obtain ⟨cs, k0, d, s, ecs, hraw, hwf⟩ := hc k hkt
      have hsh := hraw.agg2
      obtain ⟨d', q, n, cq, e2⟩ := hsh
      obtain ⟨rfl, rfl⟩ : s = .slice q n cq ∧ d = d' := by
        injection e2 with e2
        simpa [and_comm] using e2
      clear e2
      subst ecs
      have y0 := (HBw.out.cell (p := ⟨b, o + k * 3, none⟩) hb).trans (k0 0 _ rfl)
      have y1 := (HBw.out.cell (p := ⟨b, o + k * 3 + 1, none⟩) hb).trans (k0 1 _ rfl)
      have y2 := (HBw.out.cell (p := ⟨b, o + k * 3 + 2, none⟩) hb).trans (k0 2 _ rfl)
      have Hstep := hid (lnIs_step l k hkt)
      have hraw := hraw.below HBw.out
      have hpre : ∀ (hk1 : k - 1 < l.length), 0 < k → w.cell? ⟨b, o + (k - 1) * 3 + 2, none⟩ = some (.int .i64 l[k - 1].2) := by
        intro hk1 _
        obtain ⟨cs, k0, d, s, rfl, -, -⟩ := hc' (k - 1) hk1
        exact k0 2 _ rfl
      have Hpre := hid hpre
      generalize l[k].1 = c at *
      generalize l[k].2 = t at *
      clear k0 hc hc' hpre
      obtain ⟨W5, hW5⟩ : ∃ W5, W5 = wr.alloc (.cells #[.bool d, .slice q n cq, .int .i64 t] 38) := ⟨_, rfl⟩
      have b5 : Below wr.heap.size wr W5 := by rw [hW5]; exact below1 wr _
      have e5 : W5.heap[wr.heap.size]? = some (.cells #[.bool d, .slice q n cq, .int .i64 t] 38 (0, 0)) := by rw [hW5]; exact heap_alloc_new wr _
      have z5 : wr.heap.size < W5.heap.size := by rw [hW5, size_alloc]; omega
      have zr := HB.out.size
      have HBw5 : Hid (Below w.heap.size w W5) := hid (lnGo b5 HBw.out)
      have HBW5 : Hid (Below W.heap.size W W5) := hid (lnGo b5 HB.out)
      have HS : Hid (∀ w', Below W5.heap.size W5 w' → w'.cell? ⟨wr.heap.size, 0, none⟩ = some (.bool d) ∧ w'.cell? ⟨wr.heap.size, 1, none⟩ = some (.slice q n cq) ∧ w'.cell? ⟨wr.heap.size, 2, none⟩ = some (.int .i64 t) ∧ w'.cell? ⟨w.heap.size, 0, none⟩ = some (.slice (some ⟨b, o, none⟩) L cp) ∧ True) := hid fun w' hb' => by
        obtain ⟨t0, t1, t2⟩ := lnCells3 ((hb'.block wr.heap.size z5).trans e5)
        obtain ⟨t3, -, -⟩ := lnCells3 (((lnGo hb' HBW5.out).block w.heap.size (by have := Z0.out; omega)).trans E0.out)
        exact ⟨t0, t1, t2, t3, trivial⟩
      have HSg0 := hid (fun w' (hb' : Below W5.heap.size W5 w') => Sign_any _ c w' ((hraw.below b5).below hb'))
      clear b5 e5 hraw HB
      by_cases hc0 : c = 0
      · have HSg : Hid (∀ w', Below W5.heap.size W5 w' → Calls Tryz.prog 26 #[.agg #[.bool d, .slice q n cq]] w' (fun e w'' => e = .returned (.int .i64 0) ∧ Below w'.heap.size w' w'')) := hid fun w' hb' => by
          have := HSg0.out w' hb'
          rw [hc0] at this
          exact this
        have Hno : Hid (¬ lnIs l) := hid fun hI => ((Hstep.out).1 (lnIs_take hI _)).2.1 hc0
        clear HSg0 hc0 Hstep
        go_upto_region 4 with fail
        rw [← hW5]
        clear hW5 y0 y1 y2
        refine wp_region_facts (w0 := W5) 20 0 [13, 14, 15, 16, 17, 18, 19, 20, 21, 22, 23, 24, 25, 26, 27, 28, 29, 30, 31, 32] [u13, u14, u15, u16, u17, u18, u19, u20, u21, u22, u23, u24, u25, u26, u27, u28, u29, u30, u31, u32]
          (fun i => match i with | 0 => lnE (.pointer (some ⟨wr.heap.size, 0, none⟩)) | 1 => lnE (.agg #[.bool d, .slice q n cq]) | 2 => lnE (.int .i64 0) | 3 => lnE (.bool true) | 4 => lnE (.bool true) | 5 => lnE (undef) | 6 => lnE (undef) | 7 => lnE (undef) | 8 => lnE (undef) | 9 => lnE (undef) | 10 => lnE (undef) | 11 => lnE (undef) | 12 => lnE (undef) | 13 => lnE (undef) | 14 => lnE (undef) | 15 => lnE (undef) | 16 => lnE (undef) | 17 => lnE (undef) | 18 => lnE (undef) | _ => lnE (.bool true)) [] (by kernel_rfl) (by kernel_rfl) (by kernel_rfl) (by kernel_rfl) (by decide) rfl (by kernel_rfl) rfl (by simp) ?he1 ?_ ?_ ?_
        case he1 => simp only [putAll, Act.put, List.setIfInBounds_toArray, List.set_cons_zero, List.set_cons_succ]
        · intro i hi; simp at hi
        · intro i o hi ho vs wx hvl hb hdep K hK
          have hvs := vlen20 hvl
          obtain ⟨s13, s14, s15, s16, s17, s18, s19, s20, s21, s22, s23, s24, s25, s26, s27, s28, s29, s30, s31, s32, rfl⟩ := hvs
          clear hvl
          have hk5 := HS.out wx hb
          obtain ⟨y3, y4, y5, y6, y7⟩ := hk5
          rcases i with _ | _ | _ | _ | _ | _ | _ | _ | _ | _ | _ | _ | _ | _ | _ | _ | _ | _ | _ | _ | i
          all_goals (simp only [List.getElem?_toArray, List.getElem?_cons_zero, List.getElem?_cons_succ, Option.some.injEq] at ho)
          all_goals try (subst ho)
          all_goals try simp only [putAll, Act.put, List.setIfInBounds_toArray, List.set_cons_zero, List.set_cons_succ]
          · go_simp
            have hK' := hK.out
            simp only [putAll, Act.put, List.setIfInBounds_toArray, List.set_cons_zero, List.set_cons_succ] at hK'
            exact hK' _ _ rfl (Below.refl _ _) (by simp)
          · have e0 : s13 = _ := hdep ⟨0, .data⟩ (by simp) rfl
            have e0 := e0.symm
            subst e0
            go_simp
            have hK' := hK.out
            simp only [putAll, Act.put, List.setIfInBounds_toArray, List.set_cons_zero, List.set_cons_succ] at hK'
            exact hK' _ _ rfl (Below.refl _ _) (by simp)
          · have e1 : s14 = _ := hdep ⟨1, .data⟩ (by simp) rfl
            have e1 := e1.symm
            subst e1
            go_simp
            go_simp
            refine (HSg.out wx hb).mono ?_
            rintro e wy ⟨rfl, hby⟩
            go_wp2_with fail
            have hK' := hK.out
            simp only [putAll, Act.put, List.setIfInBounds_toArray, List.set_cons_zero, List.set_cons_succ] at hK'
            exact hK' _ _ rfl hby (by simp)
          · have e2 : s15 = _ := hdep ⟨2, .data⟩ (by simp) rfl
            have e2 := e2.symm
            subst e2
            go_simp
            have hK' := hK.out
            simp only [putAll, Act.put, List.setIfInBounds_toArray, List.set_cons_zero, List.set_cons_succ] at hK'
            exact hK' _ _ rfl (Below.refl _ _) (by simp)
          · have e3 : s16 = _ := hdep ⟨3, .data⟩ (by simp) rfl
            have e3 := e3.symm
            subst e3
            go_simp
            have hK' := hK.out
            simp only [putAll, Act.put, List.setIfInBounds_toArray, List.set_cons_zero, List.set_cons_succ] at hK'
            exact hK' _ _ rfl (Below.refl _ _) (by simp)
          · go_simp
            have eg : s17 = _ := hdep ⟨4, .guard⟩ (by simp) rfl
            have eg := eg.symm
            subst eg
            first | go_simp | skip
            try rw [if_neg (by simp [undef])]
            have hK' := hK.out
            simp only [putAll, Act.put, List.setIfInBounds_toArray, List.set_cons_zero, List.set_cons_succ] at hK'
            exact hK' _ _ rfl (Below.refl _ _) (by simp)
          · go_simp
            have eg : s17 = _ := hdep ⟨4, .guard⟩ (by simp) rfl
            have eg := eg.symm
            subst eg
            first | go_simp | skip
            try rw [if_neg (by simp [undef])]
            have hK' := hK.out
            simp only [putAll, Act.put, List.setIfInBounds_toArray, List.set_cons_zero, List.set_cons_succ] at hK'
            exact hK' _ _ rfl (Below.refl _ _) (by simp)
          · go_simp
            have eg : s17 = _ := hdep ⟨4, .guard⟩ (by simp) rfl
            have eg := eg.symm
            subst eg
            first | go_simp | skip
            try rw [if_neg (by simp [undef])]
            have hK' := hK.out
            simp only [putAll, Act.put, List.setIfInBounds_toArray, List.set_cons_zero, List.set_cons_succ] at hK'
            exact hK' _ _ rfl (Below.refl _ _) (by simp)
          · go_simp
            have eg : s20 = _ := hdep ⟨7, .guard⟩ (by simp) rfl
            have eg := eg.symm
            subst eg
            first | go_simp | skip
            try rw [if_neg (by simp [undef])]
            have hK' := hK.out
            simp only [putAll, Act.put, List.setIfInBounds_toArray, List.set_cons_zero, List.set_cons_succ] at hK'
            exact hK' _ _ rfl (Below.refl _ _) (by simp)
          · go_simp
            have eg : s20 = _ := hdep ⟨7, .guard⟩ (by simp) rfl
            have eg := eg.symm
            subst eg
            first | go_simp | skip
            try rw [if_neg (by simp [undef])]
            have hK' := hK.out
            simp only [putAll, Act.put, List.setIfInBounds_toArray, List.set_cons_zero, List.set_cons_succ] at hK'
            exact hK' _ _ rfl (Below.refl _ _) (by simp)
          · go_simp
            have eg : s20 = _ := hdep ⟨7, .guard⟩ (by simp) rfl
            have eg := eg.symm
            subst eg
            first | go_simp | skip
            try rw [if_neg (by simp [undef])]
            have hK' := hK.out
            simp only [putAll, Act.put, List.setIfInBounds_toArray, List.set_cons_zero, List.set_cons_succ] at hK'
            exact hK' _ _ rfl (Below.refl _ _) (by simp)
          · go_simp
            have eg : s20 = _ := hdep ⟨7, .guard⟩ (by simp) rfl
            have eg := eg.symm
            subst eg
            first | go_simp | skip
            try rw [if_neg (by simp [undef])]
            have hK' := hK.out
            simp only [putAll, Act.put, List.setIfInBounds_toArray, List.set_cons_zero, List.set_cons_succ] at hK'
            exact hK' _ _ rfl (Below.refl _ _) (by simp)
          · go_simp
            have eg : s20 = _ := hdep ⟨7, .guard⟩ (by simp) rfl
            have eg := eg.symm
            subst eg
            first | go_simp | skip
            try rw [if_neg (by simp [undef])]
            have hK' := hK.out
            simp only [putAll, Act.put, List.setIfInBounds_toArray, List.set_cons_zero, List.set_cons_succ] at hK'
            exact hK' _ _ rfl (Below.refl _ _) (by simp)
          · go_simp
            have eg : s20 = _ := hdep ⟨7, .guard⟩ (by simp) rfl
            have eg := eg.symm
            subst eg
            first | go_simp | skip
            try rw [if_neg (by simp [undef])]
            have hK' := hK.out
            simp only [putAll, Act.put, List.setIfInBounds_toArray, List.set_cons_zero, List.set_cons_succ] at hK'
            exact hK' _ _ rfl (Below.refl _ _) (by simp)
          · go_simp
            have eg : s20 = _ := hdep ⟨7, .guard⟩ (by simp) rfl
            have eg := eg.symm
            subst eg
            first | go_simp | skip
            try rw [if_neg (by simp [undef])]
            have hK' := hK.out
            simp only [putAll, Act.put, List.setIfInBounds_toArray, List.set_cons_zero, List.set_cons_succ] at hK'
            exact hK' _ _ rfl (Below.refl _ _) (by simp)
          · go_simp
            have eg : s20 = _ := hdep ⟨7, .guard⟩ (by simp) rfl
            have eg := eg.symm
            subst eg
            first | go_simp | skip
            try rw [if_neg (by simp [undef])]
            have hK' := hK.out
            simp only [putAll, Act.put, List.setIfInBounds_toArray, List.set_cons_zero, List.set_cons_succ] at hK'
            exact hK' _ _ rfl (Below.refl _ _) (by simp)
          · go_simp
            have eg : s20 = _ := hdep ⟨7, .guard⟩ (by simp) rfl
            have eg := eg.symm
            subst eg
            first | go_simp | skip
            try rw [if_neg (by simp [undef])]
            have hK' := hK.out
            simp only [putAll, Act.put, List.setIfInBounds_toArray, List.set_cons_zero, List.set_cons_succ] at hK'
            exact hK' _ _ rfl (Below.refl _ _) (by simp)
          · go_simp
            have eg : s20 = _ := hdep ⟨7, .guard⟩ (by simp) rfl
            have eg := eg.symm
            subst eg
            first | go_simp | skip
            try rw [if_neg (by simp [undef])]
            have hK' := hK.out
            simp only [putAll, Act.put, List.setIfInBounds_toArray, List.set_cons_zero, List.set_cons_succ] at hK'
            exact hK' _ _ rfl (Below.refl _ _) (by simp)
          · go_simp
            have eg : s17 = _ := hdep ⟨4, .guard⟩ (by simp) rfl
            have eg := eg.symm
            subst eg
            first | go_simp | skip
            try rw [if_neg (by simp [undef])]
            have hK' := hK.out
            simp only [putAll, Act.put, List.setIfInBounds_toArray, List.set_cons_zero, List.set_cons_succ] at hK'
            exact hK' _ _ rfl (Below.refl _ _) (by simp)
          · have e4 : s17 = _ := hdep ⟨4, .data⟩ (by simp) rfl
            have e4 := e4.symm
            subst e4
            go_simp
            have hK' := hK.out
            simp only [putAll, Act.put, List.setIfInBounds_toArray, List.set_cons_zero, List.set_cons_succ] at hK'
            exact hK' _ _ rfl (Below.refl _ _) (by simp)
          · omega
        · intro vs wx hvl hb hf hdist
          have hvs := vlen20 hvl
          obtain ⟨s13, s14, s15, s16, s17, s18, s19, s20, s21, s22, s23, s24, s25, s26, s27, s28, s29, s30, s31, s32, rfl⟩ := hvs
          have f19 : s32 = _ := hf 19 (by decide)
          have f19 := f19.symm
          subst f19
          have Hb9 := hid (lnGo hb HBw5.out)
          clear hf hvl hdist
          refine wpAny_done (by kernel_rfl) ?_ _
          try simp only [putAll, Act.put, List.setIfInBounds_toArray, List.set_cons_zero, List.set_cons_succ]
          have hd : decide (lnIs l) = false := by simpa using Hno.out
          go_wp2
          go_ret
          exact ⟨by rw [hd]; rfl, Hb9.out⟩
      · have hs0 : (c.sign == 0) = false := by
          rw [beq_eq_false_iff_ne]
          exact fun h => hc0 (Int.sign_eq_zero_iff_zero.1 h)
        have HSg := HSg0
        have HsE := hid hs0
        by_cases hk0 : k = 0
        · have HK0 := hid hk0
          have Hnx : Hid (lnIs (l.take (k + 1))) := hid ((Hstep.out).2 ⟨HI.out, hc0, fun h => absurd h (by omega)⟩)
          clear HSg0 hc0 Hstep hs0 hk0 HI
          go_upto_region 4 with fail
          rw [← hW5]
          clear hW5 y0 y1 y2
          refine wp_region_facts (w0 := W5) 20 0 [13, 14, 15, 16, 17, 18, 19, 20, 21, 22, 23, 24, 25, 26, 27, 28, 29, 30, 31, 32] [u13, u14, u15, u16, u17, u18, u19, u20, u21, u22, u23, u24, u25, u26, u27, u28, u29, u30, u31, u32]
            (fun i => match i with | 0 => lnE (.pointer (some ⟨wr.heap.size, 0, none⟩)) | 1 => lnE (.agg #[.bool d, .slice q n cq]) | 2 => lnE (.int .i64 c.sign) | 3 => lnE (.bool false) | 4 => lnE (.bool false) | 5 => lnE (.int .i64 (k : Nat)) | 6 => lnE (.bool false) | 7 => lnE (.bool false) | 8 => lnE (undef) | 9 => lnE (undef) | 10 => lnE (undef) | 11 => lnE (undef) | 12 => lnE (undef) | 13 => lnE (undef) | 14 => lnE (undef) | 15 => lnE (undef) | 16 => lnE (undef) | 17 => lnE (undef) | 18 => lnE (.bool false) | _ => lnE (.bool false)) [] (by kernel_rfl) (by kernel_rfl) (by kernel_rfl) (by kernel_rfl) (by decide) rfl (by kernel_rfl) rfl (by simp) ?he2 ?_ ?_ ?_
          case he2 => simp only [putAll, Act.put, List.setIfInBounds_toArray, List.set_cons_zero, List.set_cons_succ]
          · intro i hi; simp at hi
          · intro i o hi ho vs wx hvl hb hdep K hK
            have hvs := vlen20 hvl
            obtain ⟨s13, s14, s15, s16, s17, s18, s19, s20, s21, s22, s23, s24, s25, s26, s27, s28, s29, s30, s31, s32, rfl⟩ := hvs
            clear hvl
            have hk5 := HS.out wx hb
            obtain ⟨y3, y4, y5, y6, y7⟩ := hk5
            rcases i with _ | _ | _ | _ | _ | _ | _ | _ | _ | _ | _ | _ | _ | _ | _ | _ | _ | _ | _ | _ | i
            all_goals (simp only [List.getElem?_toArray, List.getElem?_cons_zero, List.getElem?_cons_succ, Option.some.injEq] at ho)
            all_goals try (subst ho)
            all_goals try simp only [putAll, Act.put, List.setIfInBounds_toArray, List.set_cons_zero, List.set_cons_succ]
            · go_simp
              have hK' := hK.out
              simp only [putAll, Act.put, List.setIfInBounds_toArray, List.set_cons_zero, List.set_cons_succ] at hK'
              exact hK' _ _ rfl (Below.refl _ _) (by simp)
            · have e0 : s13 = _ := hdep ⟨0, .data⟩ (by simp) rfl
              have e0 := e0.symm
              subst e0
              go_simp
              have hK' := hK.out
              simp only [putAll, Act.put, List.setIfInBounds_toArray, List.set_cons_zero, List.set_cons_succ] at hK'
              exact hK' _ _ rfl (Below.refl _ _) (by simp)
            · have e1 : s14 = _ := hdep ⟨1, .data⟩ (by simp) rfl
              have e1 := e1.symm
              subst e1
              go_simp
              go_simp
              refine (HSg.out wx hb).mono ?_
              rintro e wy ⟨rfl, hby⟩
              go_wp2_with fail
              have hK' := hK.out
              simp only [putAll, Act.put, List.setIfInBounds_toArray, List.set_cons_zero, List.set_cons_succ] at hK'
              exact hK' _ _ rfl hby (by simp)
            · have e2 : s15 = _ := hdep ⟨2, .data⟩ (by simp) rfl
              have e2 := e2.symm
              subst e2
              go_simp
              have hK' := hK.out
              simp only [putAll, Act.put, List.setIfInBounds_toArray, List.set_cons_zero, List.set_cons_succ] at hK'
              exact hK' _ _ (show Value.bool (c.sign == 0) = .bool false by rw [HsE.out]) (Below.refl _ _) (by simp)
            · have e3 : s16 = _ := hdep ⟨3, .data⟩ (by simp) rfl
              have e3 := e3.symm
              subst e3
              go_simp
              have hK' := hK.out
              simp only [putAll, Act.put, List.setIfInBounds_toArray, List.set_cons_zero, List.set_cons_succ] at hK'
              exact hK' _ _ rfl (Below.refl _ _) (by simp)
            · have eg : s17 = _ := hdep ⟨4, .guard⟩ (by simp) rfl
              have eg := eg.symm
              subst eg
              go_simp
              have hK' := hK.out
              simp only [putAll, Act.put, List.setIfInBounds_toArray, List.set_cons_zero, List.set_cons_succ] at hK'
              exact hK' _ _ rfl (Below.refl _ _) (by simp)
            · have e5 : s18 = _ := hdep ⟨5, .data⟩ (by simp) rfl
              have e5 := e5.symm
              subst e5
              have eg : s17 = _ := hdep ⟨4, .guard⟩ (by simp) rfl
              have eg := eg.symm
              subst eg
              go_simp
              have hK' := hK.out
              simp only [putAll, Act.put, List.setIfInBounds_toArray, List.set_cons_zero, List.set_cons_succ] at hK'
              exact hK' _ _ (show _ = Value.bool false by first | rfl | (have := HK0.out; simp [this])) (Below.refl _ _) (by simp)
            · have e6 : s19 = _ := hdep ⟨6, .data⟩ (by simp) rfl
              have e6 := e6.symm
              subst e6
              have eg : s17 = _ := hdep ⟨4, .guard⟩ (by simp) rfl
              have eg := eg.symm
              subst eg
              go_simp
              have hK' := hK.out
              simp only [putAll, Act.put, List.setIfInBounds_toArray, List.set_cons_zero, List.set_cons_succ] at hK'
              exact hK' _ _ rfl (Below.refl _ _) (by simp)
            · go_simp
              have eg : s20 = _ := hdep ⟨7, .guard⟩ (by simp) rfl
              have eg := eg.symm
              subst eg
              first | go_simp | skip
              try rw [if_neg (by simp [undef])]
              have hK' := hK.out
              simp only [putAll, Act.put, List.setIfInBounds_toArray, List.set_cons_zero, List.set_cons_succ] at hK'
              exact hK' _ _ rfl (Below.refl _ _) (by simp)
            · go_simp
              have eg : s20 = _ := hdep ⟨7, .guard⟩ (by simp) rfl
              have eg := eg.symm
              subst eg
              first | go_simp | skip
              try rw [if_neg (by simp [undef])]
              have hK' := hK.out
              simp only [putAll, Act.put, List.setIfInBounds_toArray, List.set_cons_zero, List.set_cons_succ] at hK'
              exact hK' _ _ rfl (Below.refl _ _) (by simp)
            · go_simp
              have eg : s20 = _ := hdep ⟨7, .guard⟩ (by simp) rfl
              have eg := eg.symm
              subst eg
              first | go_simp | skip
              try rw [if_neg (by simp [undef])]
              have hK' := hK.out
              simp only [putAll, Act.put, List.setIfInBounds_toArray, List.set_cons_zero, List.set_cons_succ] at hK'
              exact hK' _ _ rfl (Below.refl _ _) (by simp)
            · go_simp
              have eg : s20 = _ := hdep ⟨7, .guard⟩ (by simp) rfl
              have eg := eg.symm
              subst eg
              first | go_simp | skip
              try rw [if_neg (by simp [undef])]
              have hK' := hK.out
              simp only [putAll, Act.put, List.setIfInBounds_toArray, List.set_cons_zero, List.set_cons_succ] at hK'
              exact hK' _ _ rfl (Below.refl _ _) (by simp)
            · go_simp
              have eg : s20 = _ := hdep ⟨7, .guard⟩ (by simp) rfl
              have eg := eg.symm
              subst eg
              first | go_simp | skip
              try rw [if_neg (by simp [undef])]
              have hK' := hK.out
              simp only [putAll, Act.put, List.setIfInBounds_toArray, List.set_cons_zero, List.set_cons_succ] at hK'
              exact hK' _ _ rfl (Below.refl _ _) (by simp)
            · go_simp
              have eg : s20 = _ := hdep ⟨7, .guard⟩ (by simp) rfl
              have eg := eg.symm
              subst eg
              first | go_simp | skip
              try rw [if_neg (by simp [undef])]
              have hK' := hK.out
              simp only [putAll, Act.put, List.setIfInBounds_toArray, List.set_cons_zero, List.set_cons_succ] at hK'
              exact hK' _ _ rfl (Below.refl _ _) (by simp)
            · go_simp
              have eg : s20 = _ := hdep ⟨7, .guard⟩ (by simp) rfl
              have eg := eg.symm
              subst eg
              first | go_simp | skip
              try rw [if_neg (by simp [undef])]
              have hK' := hK.out
              simp only [putAll, Act.put, List.setIfInBounds_toArray, List.set_cons_zero, List.set_cons_succ] at hK'
              exact hK' _ _ rfl (Below.refl _ _) (by simp)
            · go_simp
              have eg : s20 = _ := hdep ⟨7, .guard⟩ (by simp) rfl
              have eg := eg.symm
              subst eg
              first | go_simp | skip
              try rw [if_neg (by simp [undef])]
              have hK' := hK.out
              simp only [putAll, Act.put, List.setIfInBounds_toArray, List.set_cons_zero, List.set_cons_succ] at hK'
              exact hK' _ _ rfl (Below.refl _ _) (by simp)
            · go_simp
              have eg : s20 = _ := hdep ⟨7, .guard⟩ (by simp) rfl
              have eg := eg.symm
              subst eg
              first | go_simp | skip
              try rw [if_neg (by simp [undef])]
              have hK' := hK.out
              simp only [putAll, Act.put, List.setIfInBounds_toArray, List.set_cons_zero, List.set_cons_succ] at hK'
              exact hK' _ _ rfl (Below.refl _ _) (by simp)
            · go_simp
              have eg : s20 = _ := hdep ⟨7, .guard⟩ (by simp) rfl
              have eg := eg.symm
              subst eg
              first | go_simp | skip
              try rw [if_neg (by simp [undef])]
              have hK' := hK.out
              simp only [putAll, Act.put, List.setIfInBounds_toArray, List.set_cons_zero, List.set_cons_succ] at hK'
              exact hK' _ _ rfl (Below.refl _ _) (by simp)
            · have e7 : s20 = _ := hdep ⟨7, .data⟩ (by simp) rfl
              have e7 := e7.symm
              subst e7
              have eg : s17 = _ := hdep ⟨4, .guard⟩ (by simp) rfl
              have eg := eg.symm
              subst eg
              go_simp
              have hK' := hK.out
              simp only [putAll, Act.put, List.setIfInBounds_toArray, List.set_cons_zero, List.set_cons_succ] at hK'
              exact hK' _ _ rfl (Below.refl _ _) (by simp)
            · have e4 : s17 = _ := hdep ⟨4, .data⟩ (by simp) rfl
              have e4 := e4.symm
              subst e4
              have e18 : s31 = _ := hdep ⟨18, .data⟩ (by simp) rfl
              have e18 := e18.symm
              subst e18
              go_simp
              have hK' := hK.out
              simp only [putAll, Act.put, List.setIfInBounds_toArray, List.set_cons_zero, List.set_cons_succ] at hK'
              exact hK' _ _ rfl (Below.refl _ _) (by simp)
            · omega
          · intro vs wx hvl hb hf hdist
            have hvs := vlen20 hvl
            obtain ⟨s13, s14, s15, s16, s17, s18, s19, s20, s21, s22, s23, s24, s25, s26, s27, s28, s29, s30, s31, s32, rfl⟩ := hvs
            have f19 : s32 = _ := hf 19 (by decide)
            have f19 := f19.symm
            subst f19
            have Hb9 := hid (lnGo hb HBw5.out)
            clear hf hvl hdist
            refine wpAny_done (by kernel_rfl) ?_ _
            try simp only [putAll, Act.put, List.setIfInBounds_toArray, List.set_cons_zero, List.set_cons_succ]
            have Hb9W := hid (lnGo hb HBW5.out)
            go_wp2_with fail
            go_roundw
            case rel => exact ⟨k + 1, by omega, by go_num, Hnx, Hb9W⟩
            case measure => simp [intOf] <;> omega
        · obtain ⟨k1, hk1⟩ : ∃ k1 : Nat, k = k1 + 1 := ⟨k - 1, by omega⟩
          have HK0 : Hid (0 < k) := hid (by omega)
          have hka : k ≤ k1 + 1 := by omega
          have hkb : k1 + 1 ≤ k := by omega
          have hk1t : k - 1 < l.length := by omega
          have hp1 := Hpre.out hk1t (by omega)
          rw [show o + (k - 1) * 3 + 2 = o + k1 * 3 + 2 by rw [hk1, Nat.add_sub_cancel]] at hp1
          obtain ⟨t', ht'⟩ : ∃ t', t' = l[k - 1].2 := ⟨_, rfl⟩
          have et' : l[k - 1].2 = t' := ht'.symm
          have hp1' : w.cell? ⟨b, o + k1 * 3 + 2, none⟩ = some (.int .i64 t') := by rw [hp1, ht']
          have HS0 := HS
          have HS : Hid (∀ w', Below W5.heap.size W5 w' → w'.cell? ⟨wr.heap.size, 0, none⟩ = some (.bool d) ∧ w'.cell? ⟨wr.heap.size, 1, none⟩ = some (.slice q n cq) ∧ w'.cell? ⟨wr.heap.size, 2, none⟩ = some (.int .i64 t) ∧ w'.cell? ⟨w.heap.size, 0, none⟩ = some (.slice (some ⟨b, o, none⟩) L cp) ∧ w'.cell? ⟨b, o + k1 * 3 + 2, none⟩ = some (.int .i64 t')) := hid fun w' hb' => by
            obtain ⟨t0, t1, t2, t3, -⟩ := HS0.out w' hb'
            exact ⟨t0, t1, t2, t3, ((lnGo hb' HBw5.out).cell (p := ⟨b, o + k1 * 3 + 2, none⟩) hb).trans hp1'⟩
          have hk1L : (k1 : Int) < (L : Int) := by omega
          clear HS0 hp1 hp1' Hpre HSg0 hs0 ht' hk1 hk0
          by_cases htt : t ≤ t'
          · have htt' : decide (t ≤ t') = true := by simpa using htt
            have Hno : Hid (¬ lnIs l) := hid fun hI => by
              have := ((Hstep.out).1 (lnIs_take hI _)).2.2 (by omega) hk1t
              rw [et'] at this
              omega
            clear hc0 Hstep htt HI et'
            go_upto_region 4 with fail
            rw [← hW5]
            clear hW5 y0 y1 y2
            refine wp_region_facts (w0 := W5) 20 0 [13, 14, 15, 16, 17, 18, 19, 20, 21, 22, 23, 24, 25, 26, 27, 28, 29, 30, 31, 32] [u13, u14, u15, u16, u17, u18, u19, u20, u21, u22, u23, u24, u25, u26, u27, u28, u29, u30, u31, u32]
              (fun i => match i with | 0 => lnE (.pointer (some ⟨wr.heap.size, 0, none⟩)) | 1 => lnE (.agg #[.bool d, .slice q n cq]) | 2 => lnE (.int .i64 c.sign) | 3 => lnE (.bool false) | 4 => lnE (.bool false) | 5 => lnE (.int .i64 (k : Nat)) | 6 => lnE (.bool true) | 7 => lnE (.bool true) | 8 => lnE (.pointer (some ⟨wr.heap.size, 2, none⟩)) | 9 => lnE (.int .i64 t) | 10 => lnE (.pointer (some ⟨w.heap.size, 0, none⟩)) | 11 => lnE (.slice (some ⟨b, o, none⟩) L cp) | 12 => lnE (.int .i64 (k : Nat)) | 13 => lnE (.int .i64 (k1 : Nat)) | 14 => lnE (.pointer (some ⟨b, o + k1 * 3, none⟩)) | 15 => lnE (.pointer (some ⟨b, o + k1 * 3 + 2, none⟩)) | 16 => lnE (.int .i64 t') | 17 => lnE (.bool true) | 18 => lnE (.bool true) | _ => lnE (.bool true)) [] (by kernel_rfl) (by kernel_rfl) (by kernel_rfl) (by kernel_rfl) (by decide) rfl (by kernel_rfl) rfl (by simp) ?he3 ?_ ?_ ?_
            case he3 => simp only [putAll, Act.put, List.setIfInBounds_toArray, List.set_cons_zero, List.set_cons_succ]
            · intro i hi; simp at hi
            · intro i o hi ho vs wx hvl hb hdep K hK
              have hvs := vlen20 hvl
              obtain ⟨s13, s14, s15, s16, s17, s18, s19, s20, s21, s22, s23, s24, s25, s26, s27, s28, s29, s30, s31, s32, rfl⟩ := hvs
              clear hvl
              have hk5 := HS.out wx hb
              obtain ⟨y3, y4, y5, y6, y7⟩ := hk5
              rcases i with _ | _ | _ | _ | _ | _ | _ | _ | _ | _ | _ | _ | _ | _ | _ | _ | _ | _ | _ | _ | i
              all_goals (simp only [List.getElem?_toArray, List.getElem?_cons_zero, List.getElem?_cons_succ, Option.some.injEq] at ho)
              all_goals try (subst ho)
              all_goals try simp only [putAll, Act.put, List.setIfInBounds_toArray, List.set_cons_zero, List.set_cons_succ]
              · go_simp
                have hK' := hK.out
                simp only [putAll, Act.put, List.setIfInBounds_toArray, List.set_cons_zero, List.set_cons_succ] at hK'
                exact hK' _ _ rfl (Below.refl _ _) (by simp)
              · have e0 : s13 = _ := hdep ⟨0, .data⟩ (by simp) rfl
                have e0 := e0.symm
                subst e0
                go_simp
                have hK' := hK.out
                simp only [putAll, Act.put, List.setIfInBounds_toArray, List.set_cons_zero, List.set_cons_succ] at hK'
                exact hK' _ _ rfl (Below.refl _ _) (by simp)
              · have e1 : s14 = _ := hdep ⟨1, .data⟩ (by simp) rfl
                have e1 := e1.symm
                subst e1
                go_simp
                go_simp
                refine (HSg.out wx hb).mono ?_
                rintro e wy ⟨rfl, hby⟩
                go_wp2_with fail
                have hK' := hK.out
                simp only [putAll, Act.put, List.setIfInBounds_toArray, List.set_cons_zero, List.set_cons_succ] at hK'
                exact hK' _ _ rfl hby (by simp)
              · have e2 : s15 = _ := hdep ⟨2, .data⟩ (by simp) rfl
                have e2 := e2.symm
                subst e2
                go_simp
                have hK' := hK.out
                simp only [putAll, Act.put, List.setIfInBounds_toArray, List.set_cons_zero, List.set_cons_succ] at hK'
                exact hK' _ _ (show Value.bool (c.sign == 0) = .bool false by rw [HsE.out]) (Below.refl _ _) (by simp)
              · have e3 : s16 = _ := hdep ⟨3, .data⟩ (by simp) rfl
                have e3 := e3.symm
                subst e3
                go_simp
                have hK' := hK.out
                simp only [putAll, Act.put, List.setIfInBounds_toArray, List.set_cons_zero, List.set_cons_succ] at hK'
                exact hK' _ _ rfl (Below.refl _ _) (by simp)
              · have eg : s17 = _ := hdep ⟨4, .guard⟩ (by simp) rfl
                have eg := eg.symm
                subst eg
                go_simp
                have hK' := hK.out
                simp only [putAll, Act.put, List.setIfInBounds_toArray, List.set_cons_zero, List.set_cons_succ] at hK'
                exact hK' _ _ rfl (Below.refl _ _) (by simp)
              · have e5 : s18 = _ := hdep ⟨5, .data⟩ (by simp) rfl
                have e5 := e5.symm
                subst e5
                have eg : s17 = _ := hdep ⟨4, .guard⟩ (by simp) rfl
                have eg := eg.symm
                subst eg
                go_simp
                have hK' := hK.out
                simp only [putAll, Act.put, List.setIfInBounds_toArray, List.set_cons_zero, List.set_cons_succ] at hK'
                exact hK' _ _ (show _ = Value.bool true by first | rfl | (have := HK0.out; simp [this])) (Below.refl _ _) (by simp)
              · have e6 : s19 = _ := hdep ⟨6, .data⟩ (by simp) rfl
                have e6 := e6.symm
                subst e6
                have eg : s17 = _ := hdep ⟨4, .guard⟩ (by simp) rfl
                have eg := eg.symm
                subst eg
                go_simp
                have hK' := hK.out
                simp only [putAll, Act.put, List.setIfInBounds_toArray, List.set_cons_zero, List.set_cons_succ] at hK'
                exact hK' _ _ rfl (Below.refl _ _) (by simp)
              · have eg : s20 = _ := hdep ⟨7, .guard⟩ (by simp) rfl
                have eg := eg.symm
                subst eg
                go_simp
                have hK' := hK.out
                simp only [putAll, Act.put, List.setIfInBounds_toArray, List.set_cons_zero, List.set_cons_succ] at hK'
                exact hK' _ _ rfl (Below.refl _ _) (by simp)
              · have e8 : s21 = _ := hdep ⟨8, .data⟩ (by simp) rfl
                have e8 := e8.symm
                subst e8
                have eg : s20 = _ := hdep ⟨7, .guard⟩ (by simp) rfl
                have eg := eg.symm
                subst eg
                go_simp
                have hK' := hK.out
                simp only [putAll, Act.put, List.setIfInBounds_toArray, List.set_cons_zero, List.set_cons_succ] at hK'
                exact hK' _ _ rfl (Below.refl _ _) (by simp)
              · have eg : s20 = _ := hdep ⟨7, .guard⟩ (by simp) rfl
                have eg := eg.symm
                subst eg
                go_simp
                have hK' := hK.out
                simp only [putAll, Act.put, List.setIfInBounds_toArray, List.set_cons_zero, List.set_cons_succ] at hK'
                exact hK' _ _ rfl (Below.refl _ _) (by simp)
              · have e10 : s23 = _ := hdep ⟨10, .data⟩ (by simp) rfl
                have e10 := e10.symm
                subst e10
                have eg : s20 = _ := hdep ⟨7, .guard⟩ (by simp) rfl
                have eg := eg.symm
                subst eg
                go_simp
                have hK' := hK.out
                simp only [putAll, Act.put, List.setIfInBounds_toArray, List.set_cons_zero, List.set_cons_succ] at hK'
                exact hK' _ _ rfl (Below.refl _ _) (by simp)
              · have eg : s20 = _ := hdep ⟨7, .guard⟩ (by simp) rfl
                have eg := eg.symm
                subst eg
                go_simp
                have hK' := hK.out
                simp only [putAll, Act.put, List.setIfInBounds_toArray, List.set_cons_zero, List.set_cons_succ] at hK'
                exact hK' _ _ rfl (Below.refl _ _) (by simp)
              · have e12 : s25 = _ := hdep ⟨12, .data⟩ (by simp) rfl
                have e12 := e12.symm
                subst e12
                have eg : s20 = _ := hdep ⟨7, .guard⟩ (by simp) rfl
                have eg := eg.symm
                subst eg
                go_simp
                have hK' := hK.out
                simp only [putAll, Act.put, List.setIfInBounds_toArray, List.set_cons_zero, List.set_cons_succ] at hK'
                exact hK' _ _ (show _ = Value.int .i64 (k1 : Nat) by first | rfl | (congr 1; omega) | (rw [IntWalk.i64_in _ (by omega)]; congr 1; omega)) (Below.refl _ _) (by simp)
              · have e11 : s24 = _ := hdep ⟨11, .data⟩ (by simp) rfl
                have e11 := e11.symm
                subst e11
                have e13 : s26 = _ := hdep ⟨13, .data⟩ (by simp) rfl
                have e13 := e13.symm
                subst e13
                have eg : s20 = _ := hdep ⟨7, .guard⟩ (by simp) rfl
                have eg := eg.symm
                subst eg
                go_simp
                have hK' := hK.out
                simp only [putAll, Act.put, List.setIfInBounds_toArray, List.set_cons_zero, List.set_cons_succ] at hK'
                exact hK' _ _ rfl (Below.refl _ _) (by simp)
              · have e14 : s27 = _ := hdep ⟨14, .data⟩ (by simp) rfl
                have e14 := e14.symm
                subst e14
                have eg : s20 = _ := hdep ⟨7, .guard⟩ (by simp) rfl
                have eg := eg.symm
                subst eg
                go_simp
                have hK' := hK.out
                simp only [putAll, Act.put, List.setIfInBounds_toArray, List.set_cons_zero, List.set_cons_succ] at hK'
                exact hK' _ _ rfl (Below.refl _ _) (by simp)
              · have e15 : s28 = _ := hdep ⟨15, .data⟩ (by simp) rfl
                have e15 := e15.symm
                subst e15
                have eg : s20 = _ := hdep ⟨7, .guard⟩ (by simp) rfl
                have eg := eg.symm
                subst eg
                go_simp
                have hK' := hK.out
                simp only [putAll, Act.put, List.setIfInBounds_toArray, List.set_cons_zero, List.set_cons_succ] at hK'
                exact hK' _ _ rfl (Below.refl _ _) (by simp)
              · have e9 : s22 = _ := hdep ⟨9, .data⟩ (by simp) rfl
                have e9 := e9.symm
                subst e9
                have e16 : s29 = _ := hdep ⟨16, .data⟩ (by simp) rfl
                have e16 := e16.symm
                subst e16
                have eg : s20 = _ := hdep ⟨7, .guard⟩ (by simp) rfl
                have eg := eg.symm
                subst eg
                go_simp
                have hK' := hK.out
                simp only [putAll, Act.put, List.setIfInBounds_toArray, List.set_cons_zero, List.set_cons_succ] at hK'
                exact hK' _ _ rfl (Below.refl _ _) (by simp)
              · have e7 : s20 = _ := hdep ⟨7, .data⟩ (by simp) rfl
                have e7 := e7.symm
                subst e7
                have e17 : s30 = _ := hdep ⟨17, .data⟩ (by simp) rfl
                have e17 := e17.symm
                subst e17
                have eg : s17 = _ := hdep ⟨4, .guard⟩ (by simp) rfl
                have eg := eg.symm
                subst eg
                go_simp
                have hK' := hK.out
                simp only [putAll, Act.put, List.setIfInBounds_toArray, List.set_cons_zero, List.set_cons_succ] at hK'
                exact hK' _ _ rfl (Below.refl _ _) (by simp)
              · have e4 : s17 = _ := hdep ⟨4, .data⟩ (by simp) rfl
                have e4 := e4.symm
                subst e4
                have e18 : s31 = _ := hdep ⟨18, .data⟩ (by simp) rfl
                have e18 := e18.symm
                subst e18
                go_simp
                have hK' := hK.out
                simp only [putAll, Act.put, List.setIfInBounds_toArray, List.set_cons_zero, List.set_cons_succ] at hK'
                exact hK' _ _ rfl (Below.refl _ _) (by simp)
              · omega
            · intro vs wx hvl hb hf hdist
              have hvs := vlen20 hvl
              obtain ⟨s13, s14, s15, s16, s17, s18, s19, s20, s21, s22, s23, s24, s25, s26, s27, s28, s29, s30, s31, s32, rfl⟩ := hvs
              have f19 : s32 = _ := hf 19 (by decide)
              have f19 := f19.symm
              subst f19
              have Hb9 := hid (lnGo hb HBw5.out)
              clear hf hvl hdist
              refine wpAny_done (by kernel_rfl) ?_ _
              try simp only [putAll, Act.put, List.setIfInBounds_toArray, List.set_cons_zero, List.set_cons_succ]
              have hd : decide (lnIs l) = false := by simpa using Hno.out
              go_wp2
              go_ret
              exact ⟨by rw [hd]; rfl, Hb9.out⟩
          · have htt' : decide (t ≤ t') = false := by simpa using htt
            have Hnx : Hid (lnIs (l.take (k + 1))) := hid ((Hstep.out).2 ⟨HI.out, hc0, fun _ _ => by rw [et']; omega⟩)
            clear hc0 Hstep htt HI et'
            go_upto_region 4 with fail
            rw [← hW5]
            clear hW5 y0 y1 y2
            refine wp_region_facts (w0 := W5) 20 0 [13, 14, 15, 16, 17, 18, 19, 20, 21, 22, 23, 24, 25, 26, 27, 28, 29, 30, 31, 32] [u13, u14, u15, u16, u17, u18, u19, u20, u21, u22, u23, u24, u25, u26, u27, u28, u29, u30, u31, u32]
              (fun i => match i with | 0 => lnE (.pointer (some ⟨wr.heap.size, 0, none⟩)) | 1 => lnE (.agg #[.bool d, .slice q n cq]) | 2 => lnE (.int .i64 c.sign) | 3 => lnE (.bool false) | 4 => lnE (.bool false) | 5 => lnE (.int .i64 (k : Nat)) | 6 => lnE (.bool true) | 7 => lnE (.bool true) | 8 => lnE (.pointer (some ⟨wr.heap.size, 2, none⟩)) | 9 => lnE (.int .i64 t) | 10 => lnE (.pointer (some ⟨w.heap.size, 0, none⟩)) | 11 => lnE (.slice (some ⟨b, o, none⟩) L cp) | 12 => lnE (.int .i64 (k : Nat)) | 13 => lnE (.int .i64 (k1 : Nat)) | 14 => lnE (.pointer (some ⟨b, o + k1 * 3, none⟩)) | 15 => lnE (.pointer (some ⟨b, o + k1 * 3 + 2, none⟩)) | 16 => lnE (.int .i64 t') | 17 => lnE (.bool false) | 18 => lnE (.bool false) | _ => lnE (.bool false)) [] (by kernel_rfl) (by kernel_rfl) (by kernel_rfl) (by kernel_rfl) (by decide) rfl (by kernel_rfl) rfl (by simp) ?he4 ?_ ?_ ?_
            case he4 => simp only [putAll, Act.put, List.setIfInBounds_toArray, List.set_cons_zero, List.set_cons_succ]
            · intro i hi; simp at hi
            · intro i o hi ho vs wx hvl hb hdep K hK
              have hvs := vlen20 hvl
              obtain ⟨s13, s14, s15, s16, s17, s18, s19, s20, s21, s22, s23, s24, s25, s26, s27, s28, s29, s30, s31, s32, rfl⟩ := hvs
              clear hvl
              have hk5 := HS.out wx hb
              obtain ⟨y3, y4, y5, y6, y7⟩ := hk5
              rcases i with _ | _ | _ | _ | _ | _ | _ | _ | _ | _ | _ | _ | _ | _ | _ | _ | _ | _ | _ | _ | i
              all_goals (simp only [List.getElem?_toArray, List.getElem?_cons_zero, List.getElem?_cons_succ, Option.some.injEq] at ho)
              all_goals try (subst ho)
              all_goals try simp only [putAll, Act.put, List.setIfInBounds_toArray, List.set_cons_zero, List.set_cons_succ]
              · go_simp
                have hK' := hK.out
                simp only [putAll, Act.put, List.setIfInBounds_toArray, List.set_cons_zero, List.set_cons_succ] at hK'
                exact hK' _ _ rfl (Below.refl _ _) (by simp)
              · have e0 : s13 = _ := hdep ⟨0, .data⟩ (by simp) rfl
                have e0 := e0.symm
                subst e0
                go_simp
                have hK' := hK.out
                simp only [putAll, Act.put, List.setIfInBounds_toArray, List.set_cons_zero, List.set_cons_succ] at hK'
                exact hK' _ _ rfl (Below.refl _ _) (by simp)
              · have e1 : s14 = _ := hdep ⟨1, .data⟩ (by simp) rfl
                have e1 := e1.symm
                subst e1
                go_simp
                go_simp
                refine (HSg.out wx hb).mono ?_
                rintro e wy ⟨rfl, hby⟩
                go_wp2_with fail
                have hK' := hK.out
                simp only [putAll, Act.put, List.setIfInBounds_toArray, List.set_cons_zero, List.set_cons_succ] at hK'
                exact hK' _ _ rfl hby (by simp)
              · have e2 : s15 = _ := hdep ⟨2, .data⟩ (by simp) rfl
                have e2 := e2.symm
                subst e2
                go_simp
                have hK' := hK.out
                simp only [putAll, Act.put, List.setIfInBounds_toArray, List.set_cons_zero, List.set_cons_succ] at hK'
                exact hK' _ _ (show Value.bool (c.sign == 0) = .bool false by rw [HsE.out]) (Below.refl _ _) (by simp)
              · have e3 : s16 = _ := hdep ⟨3, .data⟩ (by simp) rfl
                have e3 := e3.symm
                subst e3
                go_simp
                have hK' := hK.out
                simp only [putAll, Act.put, List.setIfInBounds_toArray, List.set_cons_zero, List.set_cons_succ] at hK'
                exact hK' _ _ rfl (Below.refl _ _) (by simp)
              · have eg : s17 = _ := hdep ⟨4, .guard⟩ (by simp) rfl
                have eg := eg.symm
                subst eg
                go_simp
                have hK' := hK.out
                simp only [putAll, Act.put, List.setIfInBounds_toArray, List.set_cons_zero, List.set_cons_succ] at hK'
                exact hK' _ _ rfl (Below.refl _ _) (by simp)
              · have e5 : s18 = _ := hdep ⟨5, .data⟩ (by simp) rfl
                have e5 := e5.symm
                subst e5
                have eg : s17 = _ := hdep ⟨4, .guard⟩ (by simp) rfl
                have eg := eg.symm
                subst eg
                go_simp
                have hK' := hK.out
                simp only [putAll, Act.put, List.setIfInBounds_toArray, List.set_cons_zero, List.set_cons_succ] at hK'
                exact hK' _ _ (show _ = Value.bool true by first | rfl | (have := HK0.out; simp [this])) (Below.refl _ _) (by simp)
              · have e6 : s19 = _ := hdep ⟨6, .data⟩ (by simp) rfl
                have e6 := e6.symm
                subst e6
                have eg : s17 = _ := hdep ⟨4, .guard⟩ (by simp) rfl
                have eg := eg.symm
                subst eg
                go_simp
                have hK' := hK.out
                simp only [putAll, Act.put, List.setIfInBounds_toArray, List.set_cons_zero, List.set_cons_succ] at hK'
                exact hK' _ _ rfl (Below.refl _ _) (by simp)
              · have eg : s20 = _ := hdep ⟨7, .guard⟩ (by simp) rfl
                have eg := eg.symm
                subst eg
                go_simp
                have hK' := hK.out
                simp only [putAll, Act.put, List.setIfInBounds_toArray, List.set_cons_zero, List.set_cons_succ] at hK'
                exact hK' _ _ rfl (Below.refl _ _) (by simp)
              · have e8 : s21 = _ := hdep ⟨8, .data⟩ (by simp) rfl
                have e8 := e8.symm
                subst e8
                have eg : s20 = _ := hdep ⟨7, .guard⟩ (by simp) rfl
                have eg := eg.symm
                subst eg
                go_simp
                have hK' := hK.out
                simp only [putAll, Act.put, List.setIfInBounds_toArray, List.set_cons_zero, List.set_cons_succ] at hK'
                exact hK' _ _ rfl (Below.refl _ _) (by simp)
              · have eg : s20 = _ := hdep ⟨7, .guard⟩ (by simp) rfl
                have eg := eg.symm
                subst eg
                go_simp
                have hK' := hK.out
                simp only [putAll, Act.put, List.setIfInBounds_toArray, List.set_cons_zero, List.set_cons_succ] at hK'
                exact hK' _ _ rfl (Below.refl _ _) (by simp)
              · have e10 : s23 = _ := hdep ⟨10, .data⟩ (by simp) rfl
                have e10 := e10.symm
                subst e10
                have eg : s20 = _ := hdep ⟨7, .guard⟩ (by simp) rfl
                have eg := eg.symm
                subst eg
                go_simp
                have hK' := hK.out
                simp only [putAll, Act.put, List.setIfInBounds_toArray, List.set_cons_zero, List.set_cons_succ] at hK'
                exact hK' _ _ rfl (Below.refl _ _) (by simp)
              · have eg : s20 = _ := hdep ⟨7, .guard⟩ (by simp) rfl
                have eg := eg.symm
                subst eg
                go_simp
                have hK' := hK.out
                simp only [putAll, Act.put, List.setIfInBounds_toArray, List.set_cons_zero, List.set_cons_succ] at hK'
                exact hK' _ _ rfl (Below.refl _ _) (by simp)
              · have e12 : s25 = _ := hdep ⟨12, .data⟩ (by simp) rfl
                have e12 := e12.symm
                subst e12
                have eg : s20 = _ := hdep ⟨7, .guard⟩ (by simp) rfl
                have eg := eg.symm
                subst eg
                go_simp
                have hK' := hK.out
                simp only [putAll, Act.put, List.setIfInBounds_toArray, List.set_cons_zero, List.set_cons_succ] at hK'
                exact hK' _ _ (show _ = Value.int .i64 (k1 : Nat) by first | rfl | (congr 1; omega) | (rw [IntWalk.i64_in _ (by omega)]; congr 1; omega)) (Below.refl _ _) (by simp)
              · have e11 : s24 = _ := hdep ⟨11, .data⟩ (by simp) rfl
                have e11 := e11.symm
                subst e11
                have e13 : s26 = _ := hdep ⟨13, .data⟩ (by simp) rfl
                have e13 := e13.symm
                subst e13
                have eg : s20 = _ := hdep ⟨7, .guard⟩ (by simp) rfl
                have eg := eg.symm
                subst eg
                go_simp
                have hK' := hK.out
                simp only [putAll, Act.put, List.setIfInBounds_toArray, List.set_cons_zero, List.set_cons_succ] at hK'
                exact hK' _ _ rfl (Below.refl _ _) (by simp)
              · have e14 : s27 = _ := hdep ⟨14, .data⟩ (by simp) rfl
                have e14 := e14.symm
                subst e14
                have eg : s20 = _ := hdep ⟨7, .guard⟩ (by simp) rfl
                have eg := eg.symm
                subst eg
                go_simp
                have hK' := hK.out
                simp only [putAll, Act.put, List.setIfInBounds_toArray, List.set_cons_zero, List.set_cons_succ] at hK'
                exact hK' _ _ rfl (Below.refl _ _) (by simp)
              · have e15 : s28 = _ := hdep ⟨15, .data⟩ (by simp) rfl
                have e15 := e15.symm
                subst e15
                have eg : s20 = _ := hdep ⟨7, .guard⟩ (by simp) rfl
                have eg := eg.symm
                subst eg
                go_simp
                have hK' := hK.out
                simp only [putAll, Act.put, List.setIfInBounds_toArray, List.set_cons_zero, List.set_cons_succ] at hK'
                exact hK' _ _ rfl (Below.refl _ _) (by simp)
              · have e9 : s22 = _ := hdep ⟨9, .data⟩ (by simp) rfl
                have e9 := e9.symm
                subst e9
                have e16 : s29 = _ := hdep ⟨16, .data⟩ (by simp) rfl
                have e16 := e16.symm
                subst e16
                have eg : s20 = _ := hdep ⟨7, .guard⟩ (by simp) rfl
                have eg := eg.symm
                subst eg
                go_simp
                have hK' := hK.out
                simp only [putAll, Act.put, List.setIfInBounds_toArray, List.set_cons_zero, List.set_cons_succ] at hK'
                exact hK' _ _ rfl (Below.refl _ _) (by simp)
              · have e7 : s20 = _ := hdep ⟨7, .data⟩ (by simp) rfl
                have e7 := e7.symm
                subst e7
                have e17 : s30 = _ := hdep ⟨17, .data⟩ (by simp) rfl
                have e17 := e17.symm
                subst e17
                have eg : s17 = _ := hdep ⟨4, .guard⟩ (by simp) rfl
                have eg := eg.symm
                subst eg
                go_simp
                have hK' := hK.out
                simp only [putAll, Act.put, List.setIfInBounds_toArray, List.set_cons_zero, List.set_cons_succ] at hK'
                exact hK' _ _ rfl (Below.refl _ _) (by simp)
              · have e4 : s17 = _ := hdep ⟨4, .data⟩ (by simp) rfl
                have e4 := e4.symm
                subst e4
                have e18 : s31 = _ := hdep ⟨18, .data⟩ (by simp) rfl
                have e18 := e18.symm
                subst e18
                go_simp
                have hK' := hK.out
                simp only [putAll, Act.put, List.setIfInBounds_toArray, List.set_cons_zero, List.set_cons_succ] at hK'
                exact hK' _ _ rfl (Below.refl _ _) (by simp)
              · omega
            · intro vs wx hvl hb hf hdist
              have hvs := vlen20 hvl
              obtain ⟨s13, s14, s15, s16, s17, s18, s19, s20, s21, s22, s23, s24, s25, s26, s27, s28, s29, s30, s31, s32, rfl⟩ := hvs
              have f19 : s32 = _ := hf 19 (by decide)
              have f19 := f19.symm
              subst f19
              have Hb9 := hid (lnGo hb HBw5.out)
              clear hf hvl hdist
              refine wpAny_done (by kernel_rfl) ?_ _
              try simp only [putAll, Act.put, List.setIfInBounds_toArray, List.set_cons_zero, List.set_cons_succ]
              have Hb9W := hid (lnGo hb HBW5.out)
              go_wp2_with fail
              go_roundw
              case rel => exact ⟨k + 1, by omega, by go_num, Hnx, Hb9W⟩
              case measure => simp [intOf] <;> omega
    · obtain rfl : k = L := by omega
      have hfin : l.take k = l := by rw [HLL.out, List.take_length]
      have HI' := HI.out
      rw [hfin] at HI'
      have hd : decide (lnIs l) = true := by simpa using HI'
      have HBf := hid (lnGo HB.out B0.out)
      clear HI HI' hfin HB
      go_wp2
      go_ret
      exact ⟨by rw [hd]; rfl, HBf.out⟩
end Go.Proofs.YtjfehknilofdjaaGreat
/- linear.Tight. -/
namespace Go.Proofs.YtjfehknilofdjaaGreat
open Go.RowKit Big

/-- a sum that lasts -/
def lnS (a : List (Int × Int) × Int) : SFact := ⟨fun v w => ∃ p n c q k d, v = .agg #[.slice p n c, .bool (decide (a.2 < 0)), .slice q k d] ∧ LnT w v a, fun _ _ _ ⟨p, n, c, q, k, d, h1, h2⟩ hb => ⟨p, n, c, q, k, d, h1, h2.below hb⟩⟩
theorem LnT.zero (w : World) : LnT w (.agg #[.slice none 0 0, .bool false, .slice none 0 0]) ([], 0) :=
  ⟨_, _, rfl, ⟨none, 0, rfl, by simp, by simp [maxLen], fun _ => rfl, fun h => absurd h (by simp)⟩, IntAt.zero w⟩
theorem PtsR.lin {w : World} {v : Value} {l : List (Int × Int)} (h : PtsR w v l) : LnR w (.agg #[v, .bool false, .slice none 0 0]) (l, 0) :=
  ⟨_, _, _, rfl, h, _, _, [], rfl, At.nil w .u64, (fun x hx => by cases hx), by simp, by simp [sg, val]⟩
def RTight (a : List (Int × Int) × Int) (z c : Int) (w : World) (e : Ending) (w' : World) : Prop := ∃ v1 v2, e = .returned (.tuple #[v1, v2, .int .i64 c]) ∧ LnT w' v1 a ∧ IntAt w' v2 z ∧ Below w.heap.size w w'
/-- what Tight answers: the sum, the number, the error -/
def lnTight (a : List (Int × Int) × Int) : (List (Int × Int) × Int) × Int × Int :=
  if lnIs a.1 then (if a.1 = [] then (([], 0), 0, 1) else ((lnOver (lnGcd a.1 : Nat) a.1, 0), (-a.2) / (lnGcd a.1 : Nat), 0)) else (([], 0), 0, 6)
set_option maxRecDepth 100000 in
set_option maxHeartbeats 6400000 in
theorem Tight_lin (v : Value) (l : List (Int × Int)) (x : Int) (w : World) {N : Nat} (hN : 1 ≤ N) (h : LnR w v (l, x)) (hs : LnSz N (l, x)) (hl : N + N + l.length ≤ 549755813000) :
    Calls Tryz.prog 15 #[v] w (fun e w' => RTight (lnTight (l, x)).1 (lnTight (l, x)).2.1 (lnTight (l, x)).2.2 w e w') := by
  obtain ⟨p0, n0, c0, b0, q0, k0, d0, rfl⟩ := h.agg3
  have HH := hid h; have HS := hid hs; have HL := hid hl
  obtain ⟨pv, n1, s1, ev, hp, hx⟩ := h
  injection ev with ev
  simp only [Array.mk.injEq, List.cons.injEq, and_true] at ev
  obtain ⟨rfl, e2, rfl⟩ := ev
  injection e2 with e2
  subst e2
  have HP := hid hp; have HX0 := hid hx
  have hn0 : n0 = l.length := by
    obtain ⟨p, c, e, -⟩ := hp
    injection e
  have Hn0 := hid hn0
  clear hn0
  obtain ⟨W3, hW⟩ : ∃ W3, W3 = ((w.alloc (.cells #[.slice p0 n0 c0, .bool b0, .slice q0 k0 d0] 28)).alloc (.cells #[.slice none 0 0, .bool false, .slice none 0 0] 28)).alloc (.cells #[.bool false, .slice none 0 0] 26) := ⟨_, rfl⟩
  have hb3 : Below w.heap.size w W3 := by rw [hW]; exact ((below1 _ _).alloc (by simp) _).alloc (by simp; omega) _
  have z3 : W3.heap.size = w.heap.size + 3 := by rw [hW]; simp
  have e0 : W3.heap[w.heap.size]? = some (.cells #[.slice p0 n0 c0, .bool b0, .slice q0 k0 d0] 28 (0, 0)) := by rw [hW, heap_alloc_old _ _ (by simp; omega), heap_alloc_old _ _ (by simp)]; exact heap_alloc_new _ _
  have e1 : W3.heap[w.heap.size + 1]? = some (.cells #[.slice none 0 0, .bool false, .slice none 0 0] 28 (0, 0)) := by
    rw [hW, heap_alloc_old _ _ (by simp)]
    have := heap_alloc_new (w.alloc (.cells #[.slice p0 n0 c0, .bool b0, .slice q0 k0 d0] 28)) (.cells #[.slice none 0 0, .bool false, .slice none 0 0] 28)
    rwa [size_alloc] at this
  have e2 : W3.heap[w.heap.size + 1 + 1]? = some (.cells #[.bool false, .slice none 0 0] 26 (0, 0)) := by
    have := heap_alloc_new ((w.alloc (.cells #[.slice p0 n0 c0, .bool b0, .slice q0 k0 d0] 28)).alloc (.cells #[.slice none 0 0, .bool false, .slice none 0 0] 28)) (.cells #[.bool false, .slice none 0 0] 26)
    rw [size_alloc, size_alloc] at this
    rw [hW]; exact this
  have H3 := hid hb3; have E0 := hid e0; have E1 := hid e1; have E2 := hid e2; have Z3 := hid z3
  obtain ⟨y0, y1, y2⟩ := lnCells3 e0
  have HIs := hid (Is_lin _ (l, x) W3 (HH.out.below hb3) (by show l.length ≤ _; omega))
  clear e0 e1 e2 hp hx hs hl
  go_enter Tryz.func15, Tryz.ntmps15
  go_upto_region 1 with fail
  rw [← hW]
  clear hW
  go_wp2_with fail
  refine HIs.out.mono ?_
  rintro e w4 ⟨rfl, b4⟩
  have z4 := b4.size
  have H4 := hid (lnGo b4 H3.out)
  have E04 := hid ((b4.block w.heap.size (by omega)).trans E0.out)
  have E14 := hid ((b4.block (w.heap.size + 1) (by omega)).trans E1.out)
  have E24 := hid ((b4.block (w.heap.size + 1 + 1) (by omega)).trans E2.out)
  clear y0 y1 y2 b4 HIs E0 E1 E2
  have E14' := E14.out; have E24' := E24.out
  obtain ⟨x0, x1, x2⟩ := lnCells3 E14'
  have fz0 := frozen_of_row w4 (w.heap.size + 1) 0 _ _ E14'
  have fz1 := frozen_of_row w4 (w.heap.size + 1) 1 _ _ E14'
  have fz2 := frozen_of_row w4 (w.heap.size + 1) 2 _ _ E14'
  obtain ⟨x3, x4, fz3, fz4⟩ := two_cells E24'
  clear E14' E24'
  by_cases hI : lnIs l
  · have hd : decide (lnIs (l, x).1) = true := by simpa using hI
    rw [hd]
    by_cases hl0 : l = []
    · have hr : lnTight (l, x) = (([], 0), 0, 1) := by unfold lnTight; rw [if_pos hI, if_pos hl0]
      have Hr := hid hr
      have hn : n0 = 0 := by rw [Hn0.out, hl0]; rfl
      subst hn
      have HBF := hid (Below.stored (st3_below H4.out (g := w.heap.size + 1) (by omega) (.slice none 0 0) (.bool false) (.slice none 0 0)) (g := w.heap.size + 1 + 1) (by omega) (.bool false) (.slice none 0 0))
      have y0 := (lnCells3 E04.out).1
      clear hd hr hI HS HL HP HX0 HH E04 E14 E24 Hn0 hl0
      go_wp2
      exact bodyPost_ret (v := .tuple #[.agg #[.slice none 0 0, .bool false, .slice none 0 0], .agg #[.bool false, .slice none 0 0], .int .i64 1]) (by simp [results, Tryz.results15, go_sem, x0, x1, x2, x3, x4]) rfl
        (by rw [Hr.out]; exact ⟨_, _, rfl, LnT.zero _, IntAt.zero _, HBF.out⟩)
    · have hr : lnTight (l, x) = ((lnOver (lnGcd l : Nat) l, 0), (-x) / (lnGcd l : Nat), 0) := by unfold lnTight; rw [if_pos hI, if_neg hl0]
      have Hr := hid hr
      have hnp : 0 < l.length := List.length_pos_iff.2 hl0
      have hne : (n0 == 0) = false := by rw [beq_eq_false_iff_ne, Hn0.out]; omega
      have hgp := lnGcd_pos hl0 hI.2
      have HOv := hid (lnOver_is (g := (lnGcd l : Nat)) (fun p hp => lnGcd_dvd hp) hI)
      have HCm := hid (fun w' (hb : Below w.heap.size w w') => common_lin _ l w' (HP.out.below hb) HS.out.1 (by have := HL.out; omega) (by have := HL.out; omega))
      have hgs := lnGcd_sz l HS.out.1 l.length
      rw [List.take_length] at hgs
      obtain ⟨G, hG⟩ : ∃ G : Int, G = (lnGcd l : Nat) := ⟨_, rfl⟩
      rw [← hG] at HOv HCm Hr
      have HG0 : Hid (G ≠ 0) := hid (by rw [hG]; omega)
      have HGs : Hid (sz W G.natAbs ≤ N) := hid (by rw [hG, Int.natAbs_natCast]; exact hgs)
      have hov : lnOver G l = l.map (fun p => (p.1 / G, p.2)) := rfl
      have HOs : Hid (lnSum (lnOver G l) = lnOver G l) := hid (lnSum_self HOv.out)
      obtain ⟨qs, hqs⟩ : ∃ qs, qs = lnOver G l := ⟨_, rfl⟩
      have Hqs := hid (hqs.trans hov)
      rw [← hqs] at HOs Hr
      have y0 := (lnCells3 E04.out).1
      clear hd hr hgp hgs hG hov hqs HOv
      go_wp2_with fail
      refine (HCm.out w4 H4.out).mono ?_
      rintro e w5 ⟨v5, rfl, i5, b5⟩
      obtain ⟨pk, nk, ck, rfl, i5⟩ := i5.shape
      obtain ⟨dk, hdk⟩ : ∃ dk, dk = decide (G < 0) := ⟨_, rfl⟩
      rw [← hdk] at i5 ⊢
      clear hdk
      have z5 := b5.size
      obtain ⟨w6, hw6⟩ : ∃ w6, w6 = w5.alloc (.cells #[.bool dk, .slice pk nk ck] 51) := ⟨_, rfl⟩
      have b6 : Below w5.heap.size w5 w6 := by rw [hw6]; exact below1 _ _
      have z6 : w6.heap.size = w5.heap.size + 1 := by rw [hw6, size_alloc]
      have ed6 : w6.heap[w5.heap.size]? = some (.cells #[.bool dk, .slice pk nk ck] 51 (0, 0)) := by rw [hw6]; exact heap_alloc_new _ _
      have HB6 := hid (lnGo b6 (lnGo b5 H4.out))
      have E06 := hid ((b6.block w.heap.size (by omega)).trans ((b5.block w.heap.size (by omega)).trans E04.out))
      have E16 := hid ((b6.block (w.heap.size + 1) (by omega)).trans ((b5.block (w.heap.size + 1) (by omega)).trans E14.out))
      have E26 := hid ((b6.block (w.heap.size + 1 + 1) (by omega)).trans ((b5.block (w.heap.size + 1 + 1) (by omega)).trans E24.out))
      have HK6 := hid ((i5.rawL (Nat.le_trans HGs.out (by have := HL.out; omega))).below b6)
      have ED6 := hid ed6
      clear i5 b5 b6 ed6 y0 x0 x1 x2 fz0 fz1 fz2 x3 x4 fz3 fz4 E04 E14 E24
      go_upto_region 6 with fail
      rw [← hw6]
      clear hw6
      go_wp2_with fail
      refine (gather_any w6).mono ?_
      rintro e w7 ⟨g, m, rfl, hG7, b7, hg, hm⟩
      have z7 := b7.size
      have hlw := HL.out
      have HT := hid (take_quotient w6 _ (l, 0) g m [] 0 w7 (x := G) HK6.out HG0.out hN (HP.out.below HB6.out).lin HS.out.1 (by simp [sz_zero]) nofun (by simp [sz_zero]) (by simp; omega) b7 (by omega) (by omega) hG7)
      have hgl := hG7.lt
      have hml := hG7.map.lt
      have B7 := hid b7
      have E07 := hid ((b7.block w.heap.size (by omega)).trans E06.out)
      have ED7 := hid ((b7.block w5.heap.size (by omega)).trans ED6.out)
      obtain ⟨y0, y1, y2⟩ := lnCells3 E07.out
      obtain ⟨y3, y4, -, -⟩ := two_cells ED7.out
      clear hG7 b7
      go_wp2_with fail
      refine HT.out.mono ?_
      rintro e w9 ⟨rfl, hG9, hA9⟩
      have z9 := hA9.size
      rw [List.nil_append] at hG9
      have hG9' : Gn w9 g m qs 0 := by
        have h0 : (0 : Int) + (0 / G) = 0 := by simp
        have := hG9
        rw [h0] at this
        rw [Hqs.out]; exact this
      have HqsS : Hid (∀ p ∈ qs, sz W p.1.natAbs ≤ N) := hid (fun p hp => by
        rw [Hqs.out] at hp
        obtain ⟨y, hy, rfl⟩ := List.mem_map.1 hp
        exact Nat.le_trans (sz_mono W2 (Int.natAbs_ediv_le_natAbs _ _)) (HS.out.1 y hy))
      have HqsL : Hid (qs.length = l.length) := hid (by rw [Hqs.out, List.length_map])
      have HSum : Hid (∀ w', Below w9.heap.size w9 w' → Calls Tryz.prog 20 #[.pointer (some ⟨g, 0, none⟩)] w' (RLin (qs, 0) w')) := hid (fun w' hb => by
        have := Gn.sum (show Gn w' g m qs 0 from hG9'.below hb) hN HqsS.out (by rw [HqsL.out]; omega)
        rw [HOs.out] at this
        exact this)
      have ER0 := hid ((hA9.block w.heap.size (by omega) (by omega)).trans E07.out)
      have ER1 := hid ((hA9.block (w.heap.size + 1) (by omega) (by omega)).trans ((B7.out.block (w.heap.size + 1) (by omega)).trans E16.out))
      have ER2 := hid ((hA9.block (w.heap.size + 1 + 1) (by omega) (by omega)).trans ((B7.out.block (w.heap.size + 1 + 1) (by omega)).trans E26.out))
      obtain ⟨gd, hgd⟩ : ∃ gd, gd = w5.heap.size := ⟨_, rfl⟩
      have ERd := hid ((hA9.block w5.heap.size (by omega) (by omega)).trans ED7.out)
      have HB9 : Hid (Below w.heap.size w w9) := hid (apart_below (g := g) (m := m) (lnGo B7.out HB6.out) hA9 (by omega) (by omega))
      have HK9 := hid (HK6.out.below (apart_below (g := g) (m := m) B7.out hA9 (by omega) (by omega)))
      have HX := hid (HX0.out.below HB9.out)
      obtain ⟨nx, hnx⟩ : ∃ nx, nx = -x := ⟨_, rfl⟩
      have HNeg : Hid (∀ w', Below w9.heap.size w9 w' → Calls Tryz.prog 32 #[.agg #[.bool b0, .slice q0 k0 d0]] w' (RInt nx w')) := hid (fun w' hb => by rw [hnx]; exact Neg_any _ x w' (HX.out.below hb))
      have HXs : Hid (sz W nx.natAbs ≤ 1099511627776) := hid (by rw [hnx, Int.natAbs_neg]; have := HS.out.2; exact Nat.le_trans this (by omega))
      rw [← hnx] at Hr
      clear hnx
      have Hgd : Hid (w5.heap.size < w9.heap.size) := hid (by omega)
      have z9w : w.heap.size + 3 ≤ w9.heap.size := by omega
      clear hG9 hG9' hA9 HT y0 y1 y2 y3 y4 hgd hgl hml
      go_upto_region 8 with fail
      refine wp_region_facts (w0 := w9) 7 3 [31, 32, 33, 34, 35, 36, 37] [undef, undef, undef, undef, undef, undef, undef]
        (fun i => match i with | 0 => lnE (.pointer (some ⟨g, 0, none⟩)) | 1 => lnS (qs, 0) | 2 => lnE (.agg #[.bool dk, .slice pk nk ck]) | 3 => lnE (.pointer (some ⟨w.heap.size, 1, none⟩)) | 4 => lnE (.agg #[.bool b0, .slice q0 k0 d0]) | 5 => lnI nx | _ => lnI (nx / G)) [] (by kernel_rfl) (by kernel_rfl) (by kernel_rfl) (by kernel_rfl) (by decide) rfl (by kernel_rfl) rfl (by simp) ?he1 ?_ ?_ ?_
      case he1 => simp only [putAll, Act.put, List.setIfInBounds_toArray, List.set_cons_zero, List.set_cons_succ]
      · intro i hi; simp at hi
      · intro i o hi ho vs wx hvl hb hdep K hK
        have hvs := vlen7 hvl
        obtain ⟨s31, s32, s33, s34, s35, s36, s37, rfl⟩ := hvs
        clear hvl
        obtain ⟨y0, y1, y2⟩ := lnCells3 ((hb.block w.heap.size (by omega)).trans ER0.out)
        obtain ⟨y3, y4, -, -⟩ := two_cells ((hb.block w5.heap.size Hgd.out).trans ERd.out)
        rcases i with _ | _ | _ | _ | _ | _ | _ | i
        all_goals (simp only [List.getElem?_toArray, List.getElem?_cons_zero, List.getElem?_cons_succ, Option.some.injEq] at ho)
        all_goals try (subst ho)
        all_goals try simp only [putAll, Act.put, List.setIfInBounds_toArray, List.set_cons_zero, List.set_cons_succ]
        · go_simp
          have hK' := hK.out
          simp only [putAll, Act.put, List.setIfInBounds_toArray, List.set_cons_zero, List.set_cons_succ] at hK'
          exact hK' _ _ rfl (Below.refl _ _) (by simp)
        · have e0 : s31 = _ := hdep ⟨0, .data⟩ (by simp) rfl
          have e0 := e0.symm
          subst e0
          go_simp
          refine (HSum.out wx hb).mono ?_
          rintro e wy ⟨vy, rfl, iy, hby⟩
          obtain ⟨p5, n5, c5, q5, k5, d5, rfl⟩ := iy.agg3
          go_wp2_with fail
          have hK' := hK.out
          simp only [putAll, Act.put, List.setIfInBounds_toArray, List.set_cons_zero, List.set_cons_succ] at hK'
          exact hK' _ _ ⟨_, _, _, _, _, _, rfl, iy⟩ hby (by simp)
        · go_simp
          have hK' := hK.out
          simp only [putAll, Act.put, List.setIfInBounds_toArray, List.set_cons_zero, List.set_cons_succ] at hK'
          exact hK' _ _ rfl (Below.refl _ _) (by simp)
        · go_simp
          have hK' := hK.out
          simp only [putAll, Act.put, List.setIfInBounds_toArray, List.set_cons_zero, List.set_cons_succ] at hK'
          exact hK' _ _ rfl (Below.refl _ _) (by simp)
        · have e3 : s34 = _ := hdep ⟨3, .data⟩ (by simp) rfl
          have e3 := e3.symm
          subst e3
          go_simp
          have hK' := hK.out
          simp only [putAll, Act.put, List.setIfInBounds_toArray, List.set_cons_zero, List.set_cons_succ] at hK'
          exact hK' _ _ rfl (Below.refl _ _) (by simp)
        · have e4 : s35 = _ := hdep ⟨4, .data⟩ (by simp) rfl
          have e4 := e4.symm
          subst e4
          go_simp
          refine (HNeg.out wx hb).mono ?_
          rintro e wy ⟨vy, rfl, iy, hby⟩
          have hsh := iy.shape
          obtain ⟨p5, n5, c5, rfl, iy⟩ := hsh
          go_wp2_with fail
          have hK' := hK.out
          simp only [putAll, Act.put, List.setIfInBounds_toArray, List.set_cons_zero, List.set_cons_succ] at hK'
          exact hK' _ _ ⟨_, _, _, _, rfl, iy⟩ hby (by simp)
        · have e2 : s33 = _ := hdep ⟨2, .data⟩ (by simp) rfl
          have e2 := e2.symm
          subst e2
          have e5 : (lnI nx).P s36 wx := hdep ⟨5, .data⟩ (by simp) rfl
          obtain ⟨da5, pa5, na5, ca5, rfl, ia5⟩ := e5
          go_simp
          refine (quotient_any _ _ nx G wx (ia5.rawL HXs.out) (HK9.out.below hb) HG0.out).mono ?_
          rintro e wy ⟨vy, rfl, iy, hby⟩
          have hsh := iy.shape
          obtain ⟨p5, n5, c5, rfl, iy⟩ := hsh
          go_wp2_with fail
          have hK' := hK.out
          simp only [putAll, Act.put, List.setIfInBounds_toArray, List.set_cons_zero, List.set_cons_succ] at hK'
          exact hK' _ _ ⟨_, _, _, _, rfl, iy⟩ hby (by simp)
        · omega
      · intro vs wx hvl hb hf hdist
        have hvs := vlen7 hvl
        obtain ⟨s31, s32, s33, s34, s35, s36, s37, rfl⟩ := hvs
        have f1 : (lnS (qs, 0)).P s32 wx := hf 1 (by decide)
        have f6 : (lnI (nx / G)).P s37 wx := hf 6 (by decide)
        obtain ⟨p7, n7, c7, q7, k7, d7, e7, T7⟩ := f1
        obtain ⟨b8, p8, n8, c8, e8, i8⟩ := f6
        subst e7 e8
        have hsh := i8.shape
        obtain ⟨p9, n9, c9, e9, i9⟩ := hsh
        injection e9 with e9
        obtain ⟨rfl, rfl, rfl, rfl⟩ : b8 = decide (nx / G < 0) ∧ p8 = p9 ∧ n8 = n9 ∧ c8 = c9 := by simpa using e9
        clear hf hvl hdist i8
        have e1 := (hb.block (w.heap.size + 1) (by omega)).trans ER1.out
        have e2 := (hb.block (w.heap.size + 1 + 1) (by omega)).trans ER2.out
        obtain ⟨x0, x1, x2⟩ := lnCells3 e1
        have fz0 := frozen_of_row wx (w.heap.size + 1) 0 _ _ e1
        have fz1 := frozen_of_row wx (w.heap.size + 1) 1 _ _ e1
        have fz2 := frozen_of_row wx (w.heap.size + 1) 2 _ _ e1
        obtain ⟨x3, x4, fz3, fz4⟩ := two_cells e2
        have HBx := hid (lnGo hb HB9.out)
        have hsx := hb.size
        obtain ⟨wF, hwF⟩ : ∃ wF, wF = ((st3 wx (w.heap.size + 1) (.slice p7 n7 c7) (.bool (decide ((0 : Int) < 0))) (.slice q7 k7 d7)).setCell ⟨w.heap.size + 1 + 1, 0, none⟩ (.bool (decide (nx / G < 0)))).setCell ⟨w.heap.size + 1 + 1, 1, none⟩ (.slice p8 n8 c8) := ⟨_, rfl⟩
        have hA : Apart (fun k => k = w.heap.size + 1 ∨ k = w.heap.size + 1 + 1) wx wF := by
          rw [hwF]
          exact ((st3_apart _ _ _ _ _).mono (fun k h => Or.inl h)).go (((apart_set _ _ _ _).go (apart_set _ _ _ _)).mono (fun k h => Or.inr h))
        have hni : ∀ b, (b = w.heap.size + 1 ∨ b = w.heap.size + 1 + 1) → NoInt wx b := by
          intro b hb'
          rcases hb' with rfl | rfl
          · exact NoInt.cells e1 (by simp)
          · exact NoInt.cells e2 (by simp)
        have HTF := hid (T7.quiet hA hni)
        have HIF := hid (i9.quiet hA (fun b hb' => (hni b hb').wd))
        have HBF : Hid (Below w.heap.size w wF) := hid (by rw [hwF]; exact Below.stored (st3_below HBx.out (by omega) _ _ _) (by omega) _ _)
        clear T7 i9 hA hni e1 e2
        refine wpAny_one (i := 7) (by kernel_rfl) rfl ?_
        intro K hK
        simp only [putAll, Act.put, List.setIfInBounds_toArray, List.set_cons_zero, List.set_cons_succ]
        have hK' := hK.out
        go_simp
        apply hK'
        clear hK hK'
        refine wpAny_one (i := 8) (by kernel_rfl) rfl ?_
        intro K hK
        have hK' := hK.out
        go_simp
        apply hK'
        clear hK hK'
        refine wpAny_one (i := 9) (by kernel_rfl) rfl ?_
        intro K hK
        have hK' := hK.out
        go_simp
        apply hK'
        clear hK hK'
        refine wpAny_done (by kernel_rfl) ?_ _
        go_wp2
        exact bodyPost_ret (v := .tuple #[.agg #[.slice p7 n7 c7, .bool false, .slice q7 k7 d7], .agg #[.bool (decide (nx / G < 0)), .slice p8 n8 c8], .int .i64 0]) (by simp [results, Tryz.results15, go_sem, x0, x1, x2, x3, x4]) rfl
          (by rw [Hr.out]; have h1 := HTF.out; have h2 := HIF.out; have h3 := HBF.out; rw [hwF] at h1 h2 h3; exact ⟨_, _, rfl, h1, h2, h3⟩)

  · have hd : decide (lnIs (l, x).1) = false := by simpa using hI
    rw [hd]
    have hr : lnTight (l, x) = (([], 0), 0, 6) := by unfold lnTight; rw [if_neg hI]
    have Hr := hid hr
    have HBF := hid (Below.stored (st3_below H4.out (g := w.heap.size + 1) (by omega) (.slice none 0 0) (.bool false) (.slice none 0 0)) (g := w.heap.size + 1 + 1) (by omega) (.bool false) (.slice none 0 0))
    clear hd hr hI HS HL HP HX0 HH E04 E14 E24
    go_wp2
    exact bodyPost_ret (v := .tuple #[.agg #[.slice none 0 0, .bool false, .slice none 0 0], .agg #[.bool false, .slice none 0 0], .int .i64 6]) (by simp [results, Tryz.results15, go_sem, x0, x1, x2, x3, x4]) rfl
      (by rw [Hr.out]; exact ⟨_, _, rfl, LnT.zero _, IntAt.zero _, HBF.out⟩)
end Go.Proofs.YtjfehknilofdjaaGreat
/- elenchuslaw06's small functions: one and fixed. -/
namespace Go.Proofs.YtjfehknilofdjaaGreat
open Go.RowKit Big

theorem vlen34 {vs : List Value} (h : vs.length = 34) : ∃ v0 v1 v2 v3 v4 v5 v6 v7 v8 v9 v10 v11 v12 v13 v14 v15 v16 v17 v18 v19 v20 v21 v22 v23 v24 v25 v26 v27 v28 v29 v30 v31 v32 v33, vs = [v0, v1, v2, v3, v4, v5, v6, v7, v8, v9, v10, v11, v12, v13, v14, v15, v16, v17, v18, v19, v20, v21, v22, v23, v24, v25, v26, v27, v28, v29, v30, v31, v32, v33] := by
  match vs, h with
  | v0 :: v1 :: v2 :: v3 :: v4 :: v5 :: v6 :: v7 :: v8 :: v9 :: v10 :: v11 :: v12 :: v13 :: v14 :: v15 :: v16 :: v17 :: v18 :: v19 :: v20 :: v21 :: v22 :: v23 :: v24 :: v25 :: v26 :: v27 :: v28 :: v29 :: v30 :: v31 :: v32 :: v33 :: [], _ => exact ⟨v0, v1, v2, v3, v4, v5, v6, v7, v8, v9, v10, v11, v12, v13, v14, v15, v16, v17, v18, v19, v20, v21, v22, v23, v24, v25, v26, v27, v28, v29, v30, v31, v32, v33, rfl⟩

set_option maxRecDepth 100000 in
theorem one_any (z : Int) (w : World) (h0 : -9223372036854775808 ≤ z) (h1 : z ≤ 9223372036854775807) : Calls Tryz.prog 13 #[.int .i64 z] w (RLin ([(1, 0)], z) w) := by
  have hO := hid (fun w' => ROf_any z w' h0 h1)
  clear h0 h1
  obtain ⟨W1, hW⟩ : ∃ W1, W1 = w.alloc (.cells #[.slice none 0 0, .bool false, .slice none 0 0] 28) := ⟨_, rfl⟩
  have b1 : Below w.heap.size w W1 := by rw [hW]; exact below1 w _
  have z1 : W1.heap.size = w.heap.size + 1 := by rw [hW, size_alloc]
  have e1 : W1.heap[w.heap.size]? = some (.cells #[.slice none 0 0, .bool false, .slice none 0 0] 28 (0, 0)) := by rw [hW]; exact heap_alloc_new w _
  have B1 := hid b1; have E1 := hid e1
  clear b1 e1
  go_enter Tryz.func13, Tryz.ntmps13
  go_wp2_with fail
  rw [← hW]
  clear hW
  refine (ROf_any 1 W1 (by decide) (by decide)).mono ?_
  rintro e w2 ⟨v2, rfl, i2, b2⟩
  obtain ⟨p2, n2, c2, rfl, i2⟩ := i2.shape
  have z2 := b2.size
  obtain ⟨W3, hW3⟩ : ∃ W3, W3 = w2.alloc (.cells #[.bool false, .slice p2 n2 c2, .int .i64 0] 38) := ⟨_, rfl⟩
  have b3 : Below w2.heap.size w2 W3 := by rw [hW3]; exact below1 _ _
  have e3 : W3.heap[w2.heap.size]? = some (.cells #[.bool false, .slice p2 n2 c2, .int .i64 0] 38 (0, 0)) := by rw [hW3]; exact heap_alloc_new _ _
  have z3 : W3.heap.size = w2.heap.size + 1 := by rw [hW3, size_alloc]
  have I3 := hid (i2.below b3)
  have B3 := hid (lnGo b3 (lnGo b2 B1.out))
  have E13 := hid ((b3.block w.heap.size (by omega)).trans ((b2.block w.heap.size (by omega)).trans E1.out))
  have E3 := hid e3
  clear i2 b3 e3 b2
  go_wp2_with fail
  rw [← hW3]
  clear hW3
  refine (hO.out W3).mono ?_
  rintro e w4 ⟨v4, rfl, i4, b4⟩
  obtain ⟨p4, n4, c4, rfl, i4⟩ := i4.shape
  have e14 := (b4.block w.heap.size (by omega)).trans E13.out
  have e34 := (b4.block w2.heap.size (by omega)).trans E3.out
  obtain ⟨x0, x1, x2⟩ := lnCells3 e14
  have fz0 := frozen_of_row w4 w.heap.size 0 _ _ e14
  have fz1 := frozen_of_row w4 w.heap.size 1 _ _ e14
  have fz2 := frozen_of_row w4 w.heap.size 2 _ _ e14
  have hT : LnT w4 (.agg #[.slice (some ⟨w2.heap.size, 0, none⟩) 1 1, .bool (decide (z < 0)), .slice p4 n4 c4]) ([(1, 0)], z) :=
    ⟨_, _, rfl, ⟨_, 1, rfl, by simp, by simp [maxLen], (fun h => by cases h), fun _ => ⟨w2.heap.size, 0, rfl, (Array.getElem?_eq_some_iff.1 e34).1, fun i hi => by
      obtain rfl : i = 0 := by simp at hi; omega
      refine ⟨[.bool false, .slice p2 n2 c2, .int .i64 0], fun j u hj => ?_, _, rfl, I3.out.below b4, (wfI_iff 0).2 (by decide)⟩
      rw [cell_of_row w4 w2.heap.size _ _ _ (0, 0) e34]
      simpa using hj⟩⟩, i4⟩
  have HT := hid (hT.quiet (st3_apart w4 w.heap.size (.slice (some ⟨w2.heap.size, 0, none⟩) 1 1) (.bool (decide (z < 0))) (.slice p4 n4 c4)) (fun b hb => by rw [hb]; exact NoInt.cells e14 (by simp)))
  have HB := hid (st3_below (lnGo b4 B3.out) (g := w.heap.size) (Nat.le_refl _) (.slice (some ⟨w2.heap.size, 0, none⟩) 1 1) (.bool (decide (z < 0))) (.slice p4 n4 c4))
  clear hT i4 b4 e14 e34
  go_wp2
  exact bodyPost_ret (v := .agg #[.slice (some ⟨w2.heap.size, 0, none⟩) 1 1, .bool (decide (z < 0)), .slice p4 n4 c4]) (by simp [results, Tryz.results13, go_sem, x0, x1, x2]) rfl ⟨_, rfl, HT.out, HB.out⟩
/-- the first part of a told sum -/
theorem LnT.first {w : World} {v : Value} {c t x : Int} {l : List (Int × Int)} (h : LnT w v ((c, t) :: l, x)) : ∃ b o cap q k d pc nc cc, v = .agg #[.slice (some ⟨b, o, none⟩) (l.length + 1) cap, .bool (decide (x < 0)), .slice q k d] ∧ b < w.heap.size ∧
    w.cell? ⟨b, o, none⟩ = some (.bool (decide (c < 0))) ∧ w.cell? ⟨b, o + 1, none⟩ = some (.slice pc nc cc) ∧ IntAt w (.agg #[.bool (decide (c < 0)), .slice pc nc cc]) c ∧ IntAt w (.agg #[.bool (decide (x < 0)), .slice q k d]) x ∧ l.length + 1 ≤ cap := by
  obtain ⟨pv, s, rfl, ⟨p, cap, rfl, h1, h2, h3, h4⟩, h5⟩ := h
  obtain ⟨b, o, rfl, hb, hc⟩ := h4 (by simp)
  obtain ⟨cs, k1, s', rfl, k2, -⟩ := hc 0 (by simp)
  obtain ⟨p2, n2, c2, e2, k2⟩ := k2.shape
  injection e2 with e2
  obtain rfl : s' = .slice p2 n2 c2 := by simpa using e2
  obtain ⟨p3, n3, c3, e3, h5⟩ := h5.shape
  injection e3 with e3
  obtain rfl : s = .slice p3 n3 c3 := by simpa using e3
  have q0 := k1 0 _ rfl
  have q1 := k1 1 _ rfl
  simp only [Nat.zero_mul, Nat.add_zero] at q0 q1
  exact ⟨b, o, cap, p3, n3, c3, p2, n2, c2, rfl, hb, q0, q1, k2, h5, by simpa using h1⟩
theorem LnT.pair2 {w : World} {g : Nat} {p2 q2 : Option Addr} {n2 c2 m2 d2 : Nat} {s : Value} {a b x : Int} {T : TypeId} (h : w.heap[g]? = some (.cells #[.bool (decide (a < 0)), .slice p2 n2 c2, .int .i64 0, .bool (decide (b < 0)), .slice q2 m2 d2, .int .i64 1] T (0, 0)))
    (ha : IntAt w (.agg #[.bool (decide (a < 0)), .slice p2 n2 c2]) a) (hb : IntAt w (.agg #[.bool (decide (b < 0)), .slice q2 m2 d2]) b) (hx : IntAt w (.agg #[.bool (decide (x < 0)), s]) x) :
    LnT w (.agg #[.slice (some ⟨g, 0, none⟩) 2 2, .bool (decide (x < 0)), s]) ([(a, 0), (b, 1)], x) :=
  ⟨_, _, rfl, ⟨_, 2, rfl, by simp, by simp [maxLen], (fun h => by cases h), fun _ => ⟨g, 0, rfl, (Array.getElem?_eq_some_iff.1 h).1, fun i hi => by
    rcases (by simp at hi; omega : i = 0 ∨ i = 1) with rfl | rfl
    · refine ⟨[.bool (decide (a < 0)), .slice p2 n2 c2, .int .i64 0], fun j u hj => ?_, _, rfl, ha, (wfI_iff 0).2 (by decide)⟩
      rw [cell_of_row w g _ _ _ (0, 0) h]
      rcases j with _ | _ | _ | j <;> simp at hj ⊢ <;> exact hj
    · refine ⟨[.bool (decide (b < 0)), .slice q2 m2 d2, .int .i64 1], fun j u hj => ?_, _, rfl, hb, (wfI_iff 1).2 (by decide)⟩
      rw [cell_of_row w g _ _ _ (0, 0) h]
      rcases j with _ | _ | _ | j <;> simp at hj ⊢ <;> exact hj⟩⟩, hx⟩
theorem lnFix1 : (lnSum ((lnSum (lnTimes 2 [(1, 0)])) ++ [(1, 0)]), (3 : Int) * 2 + 0) = ([(3, 0)], 6) := by decide
theorem lnFix2 : lnTight ([(2, 0), (4, 1)], 3) = (([(1, 0), (2, 1)], 0), -2, 0) := by decide +kernel
set_option maxRecDepth 100000 in
set_option maxHeartbeats 12800000 in
theorem fixed6_any (w : World) : Calls Tryz.prog 4 #[] w (RBool true w) := by
  go_enter Tryz.func4, Tryz.ntmps4
  go_wp2_with fail
  refine (one_any 3 w (by decide) (by decide)).mono ?_
  rintro e w1 ⟨v1, rfl, t1, b1⟩
  go_wp2_with fail
  refine (ROf_any 2 w1 (by decide) (by decide)).mono ?_
  rintro e w2 ⟨v2, rfl, i2, b2⟩
  have s1 : LnSz 1 ([((1 : Int), (0 : Int))], (3 : Int)) := ⟨fun p hp => by rw [List.mem_singleton.1 hp]; decide +kernel, by decide +kernel⟩
  go_wp2_with fail
  refine (Scale_lin v1 v2 _ 2 w2 (N := 1) (by decide) ((t1.below b2).raw s1 (by decide)) (i2.rawL (by decide +kernel)) s1 (by decide +kernel) (by decide)).mono ?_
  rintro e w3 ⟨v3, rfl, t3, b3⟩
  have B3 := hid (lnGo b3 (lnGo b2 b1))
  clear t1 i2 b1 b2 b3
  go_wp2_with fail
  refine (one_any 0 w3 (by decide) (by decide)).mono ?_
  rintro e w4 ⟨v4, rfl, t4, b4⟩
  have s3 : LnSz 1 (lnSum (lnTimes 2 [((1 : Int), (0 : Int))]), (3 : Int) * 2) := ⟨by decide +kernel, by decide +kernel⟩
  have s4 : LnSz 1 ([((1 : Int), (0 : Int))], (0 : Int)) := ⟨fun p hp => by rw [List.mem_singleton.1 hp]; decide +kernel, by decide +kernel⟩
  go_wp2_with fail
  refine (Add_lin v3 v4 _ _ w4 (N := 1) (by decide) ((t3.below b4).raw s3 (by decide)) (t4.raw s4 (by decide)) s3 s4 (by decide)).mono ?_
  rintro e w5 ⟨v5, rfl, t5, b5⟩
  rw [lnFix1] at t5
  have B5 := hid (lnGo b5 (lnGo b4 B3.out))
  clear t3 t4 b4 b5
  obtain ⟨b0, o0, cp0, q5, k5, d5, pc, nc, cc, rfl, hb0, hc0, hc1, i3, i6, hcp⟩ := t5.first
  obtain ⟨wA, hwA⟩ : ∃ wA, wA = w5.alloc (.cells #[.slice (some ⟨b0, o0, none⟩) 1 cp0, .bool false, .slice q5 k5 d5] 28) := ⟨_, rfl⟩
  have bA : Below w5.heap.size w5 wA := by rw [hwA]; exact below1 _ _
  have eA : wA.heap[w5.heap.size]? = some (.cells #[.slice (some ⟨b0, o0, none⟩) 1 cp0, .bool false, .slice q5 k5 d5] 28 (0, 0)) := by rw [hwA]; exact heap_alloc_new _ _
  have zA : wA.heap.size = w5.heap.size + 1 := by rw [hwA, size_alloc]
  have EA := hid eA
  have HB0 := hid hb0
  have C0 := hid ((bA.cell (p := ⟨b0, o0, none⟩) hb0).trans hc0); have C1 := hid ((bA.cell (p := ⟨b0, o0 + 1, none⟩) hb0).trans hc1)
  have I3 := hid (i3.below bA); have I6 := hid (i6.below bA)
  have BA := hid (lnGo bA B5.out)
  clear t5 hb0 hc0 hc1 i3 i6 bA eA
  go_upto_region 2 with fail
  rw [← hwA]
  clear hwA
  go_wp2_with fail
  refine (ROf_any 2 wA (by decide) (by decide)).mono ?_
  rintro e w6 ⟨v6, rfl, i6, b6⟩
  obtain ⟨p6, n6, c6, rfl, i6⟩ := i6.shape
  go_wp2_with fail
  refine (ROf_any 4 w6 (by decide) (by decide)).mono ?_
  rintro e w7 ⟨v7, rfl, i7, b7⟩
  obtain ⟨p7, n7, c7, rfl, i7⟩ := i7.shape
  obtain ⟨wB, hwB⟩ : ∃ wB, wB = w7.alloc (.cells #[.bool false, .slice p6 n6 c6, .int .i64 0, .bool false, .slice p7 n7 c7, .int .i64 1] 38) := ⟨_, rfl⟩
  have bB : Below w7.heap.size w7 wB := by rw [hwB]; exact below1 _ _
  have eB : wB.heap[w7.heap.size]? = some (.cells #[.bool false, .slice p6 n6 c6, .int .i64 0, .bool false, .slice p7 n7 c7, .int .i64 1] 38 (0, 0)) := by rw [hwB]; exact heap_alloc_new _ _
  have I6' := hid ((i6.below b7).below bB); have I7 := hid (i7.below bB)
  have HAB := hid (lnGo bB (lnGo b7 b6))
  have EB := hid eB
  clear i6 i7 b6 b7 bB eB
  go_wp2_with fail
  rw [← hwB]
  clear hwB
  refine (ROf_any 3 wB (by decide) (by decide)).mono ?_
  rintro e w8 ⟨v8, rfl, i8, b8⟩
  obtain ⟨p8, n8, c8, rfl, i8⟩ := i8.shape
  obtain ⟨wC, hwC⟩ : ∃ wC, wC = w8.alloc (.cells #[.slice (some ⟨w7.heap.size, 0, none⟩) 2 2, .bool false, .slice p8 n8 c8] 28) := ⟨_, rfl⟩
  have bC : Below w8.heap.size w8 wC := by rw [hwC]; exact below1 _ _
  have eC : wC.heap[w8.heap.size]? = some (.cells #[.slice (some ⟨w7.heap.size, 0, none⟩) 2 2, .bool false, .slice p8 n8 c8] 28 (0, 0)) := by rw [hwC]; exact heap_alloc_new _ _
  have bBC := lnGo bC b8
  have zB : w7.heap.size < wB.heap.size := (Array.getElem?_eq_some_iff.1 EB.out).1
  have hT := LnT.pair2 (a := 2) (b := 4) (x := 3) ((bBC.block w7.heap.size zB).trans EB.out) (I6'.out.below bBC) (I7.out.below bBC) (i8.below bC)
  have s2 : LnSz 1 ([((2 : Int), (0 : Int)), (4, 1)], (3 : Int)) := ⟨by decide +kernel, by decide +kernel⟩
  have HTi := hid (Tight_lin _ _ _ wC (N := 1) (by decide) (hT.raw s2 (by decide)) s2 (by decide))
  have HAC := hid (lnGo bBC HAB.out)
  obtain ⟨x0, x1, x2⟩ := lnCells3 eC
  clear hT i8 b8 bC eC bBC I6' I7 EB HAB s2 zB
  go_upto_region 3 with fail
  rw [← hwC]
  clear hwC
  go_wp2_with fail
  refine HTi.out.mono ?_
  rw [lnFix2]
  rintro e w9 ⟨v9, u9, rfl, t9, i9, b9⟩
  obtain ⟨b1, o1, cp1, q9, k9, d9, _, _, _, rfl, -, -, -, -, -, -⟩ := t9.first
  obtain ⟨pk, nk, ck, rfl, i9⟩ := i9.shape
  obtain ⟨wD, hwD⟩ : ∃ wD, wD = (w9.alloc (.cells #[.slice (some ⟨b1, o1, none⟩) 2 cp1, .bool false, .slice q9 k9 d9] 28)).alloc (.cells #[.bool true, .slice pk nk ck] 26) := ⟨_, rfl⟩
  have bD : Below w9.heap.size w9 wD := by rw [hwD]; exact (below1 _ _).alloc (by simp) _
  have eD : wD.heap[w9.heap.size]? = some (.cells #[.slice (some ⟨b1, o1, none⟩) 2 cp1, .bool false, .slice q9 k9 d9] 28 (0, 0)) := by rw [hwD, heap_alloc_old _ _ (by simp)]; exact heap_alloc_new _ _
  have eK : wD.heap[w9.heap.size + 1]? = some (.cells #[.bool true, .slice pk nk ck] 26 (0, 0)) := by
    have := heap_alloc_new (w9.alloc (.cells #[.slice (some ⟨b1, o1, none⟩) 2 cp1, .bool false, .slice q9 k9 d9] 28)) (.cells #[.bool true, .slice pk nk ck] 26)
    rw [size_alloc] at this
    rw [hwD]; exact this
  have zD : wD.heap.size = w9.heap.size + 2 := by rw [hwD, size_alloc, size_alloc]
  have HAD := hid (lnGo bD (lnGo b9 HAC.out))
  have zAD := HAD.out.size
  have z9 := b9.size
  have zc := HAC.out.size
  have HED := hid eD; have HEK := hid eK
  have IK := hid (i9.below bD)
  have I3D := hid (I3.out.below HAD.out); have I6D := hid (I6.out.below HAD.out)
  have HDw := hid (lnGo HAD.out BA.out)
  have HEA := hid ((HAD.out.block w5.heap.size (by omega)).trans EA.out)
  have HS : Hid (∀ w', Below wD.heap.size wD w' → (w'.cell? ⟨w5.heap.size, 0, none⟩ = some (.slice (some ⟨b0, o0, none⟩) 1 cp0) ∧ w'.cell? ⟨w5.heap.size, 1, none⟩ = some (.bool false) ∧ w'.cell? ⟨w5.heap.size, 2, none⟩ = some (.slice q5 k5 d5)) ∧
      (w'.cell? ⟨b0, o0, none⟩ = some (.bool false) ∧ w'.cell? ⟨b0, o0 + 1, none⟩ = some (.slice pc nc cc)) ∧ w'.cell? ⟨w9.heap.size, 0, none⟩ = some (.slice (some ⟨b1, o1, none⟩) 2 cp1) ∧
      (w'.cell? ⟨w9.heap.size + 1, 0, none⟩ = some (.bool true) ∧ w'.cell? ⟨w9.heap.size + 1, 1, none⟩ = some (.slice pk nk ck))) := hid fun w' hb => by
    have hb0 := HB0.out
    have hAb := lnGo hb HAD.out
    obtain ⟨t0, t1, t2⟩ := lnCells3 ((hb.block w5.heap.size (by omega)).trans HEA.out)
    obtain ⟨t3, -, -⟩ := lnCells3 ((hb.block w9.heap.size (by omega)).trans HED.out)
    obtain ⟨t4, t5, -, -⟩ := two_cells ((hb.block (w9.heap.size + 1) (by omega)).trans HEK.out)
    exact ⟨⟨t0, t1, t2⟩, ⟨(hAb.cell (p := ⟨b0, o0, none⟩) (by show b0 < _; omega)).trans C0.out, (hAb.cell (p := ⟨b0, o0 + 1, none⟩) (by show b0 < _; omega)).trans C1.out⟩, t3, t4, t5⟩
  clear t9 i9 b9 bD eD eK x0 x1 x2 I3 I6 C0 C1 EA BA HAC HTi HB0 HEA HED HEK
  go_upto_region 4 with fail
  rw [← hwD]
  clear hwD
  refine wp_region_facts (w0 := wD) 34 1 [24, 25, 26, 27, 28, 29, 30, 31, 32, 33, 34, 35, 36, 37, 38, 39, 40, 41, 42, 43, 44, 45, 46, 47, 48, 49, 50, 51, 52, 53, 54, 55, 56, 57] [undef, undef, undef, undef, undef, undef, undef, undef, undef, undef, undef, undef, undef, undef, undef, undef, undef, undef, undef, undef, undef, undef, undef, undef, undef, undef, undef, undef, undef, undef, undef, undef, undef, undef]
    (fun i => match i with | 0 => lnE (.pointer (some ⟨w5.heap.size, 0, none⟩)) | 1 => lnE (.slice (some ⟨b0, o0, none⟩) 1 cp0) | 2 => lnE (.int .i64 1) | 3 => lnE (.bool true) | 4 => lnE (.bool true) | 5 => lnE (.pointer (some ⟨w5.heap.size, 0, none⟩)) | 6 => lnE (.slice (some ⟨b0, o0, none⟩) 1 cp0) | 7 => lnE (.pointer (some ⟨b0, o0, none⟩)) | 8 => lnE (.pointer (some ⟨b0, o0, none⟩)) | 9 => lnE (.agg #[.bool false, .slice pc nc cc]) | 10 => lnI 3 | 11 => lnE (.bool true) | 12 => lnE (.bool true) | 13 => lnE (.bool true) | 14 => lnE (.pointer (some ⟨w5.heap.size, 1, none⟩)) | 15 => lnE (.agg #[.bool false, .slice q5 k5 d5]) | 16 => lnI 6 | 17 => lnE (.bool true) | 18 => lnE (.bool true) | 19 => lnE (.bool true) | 20 => lnE (.int .i64 0) | 21 => lnE (.bool true) | 22 => lnE (.bool true) | 23 => lnE (.bool true) | 24 => lnE (.pointer (some ⟨w9.heap.size, 0, none⟩)) | 25 => lnE (.slice (some ⟨b1, o1, none⟩) 2 cp1) | 26 => lnE (.int .i64 2) | 27 => lnE (.bool true) | 28 => lnE (.bool true) | 29 => lnE (.bool true) | 30 => lnE (.agg #[.bool true, .slice pk nk ck]) | 31 => lnI (-2) | 32 => lnE (.bool true) | _ => lnE (.bool true)) [] (by kernel_rfl) (by kernel_rfl) (by kernel_rfl) (by kernel_rfl) (by decide) rfl (by kernel_rfl) rfl (by simp) ?he1 ?_ ?_ ?_
  case he1 => simp only [putAll, Act.put, List.setIfInBounds_toArray, List.set_cons_zero, List.set_cons_succ]
  · intro i hi; simp at hi
  · intro i o hi ho vs wx hvl hb hdep K hK
    have hvs := vlen34 hvl
    obtain ⟨s24, s25, s26, s27, s28, s29, s30, s31, s32, s33, s34, s35, s36, s37, s38, s39, s40, s41, s42, s43, s44, s45, s46, s47, s48, s49, s50, s51, s52, s53, s54, s55, s56, s57, rfl⟩ := hvs
    clear hvl
    have hk5 := HS.out wx hb
    obtain ⟨⟨y0, y1, y2⟩, ⟨y3, y4⟩, y5, y6, y7⟩ := hk5
    rcases i with _ | _ | _ | _ | _ | _ | _ | _ | _ | _ | _ | _ | _ | _ | _ | _ | _ | _ | _ | _ | _ | _ | _ | _ | _ | _ | _ | _ | _ | _ | _ | _ | _ | _ | i
    all_goals (simp only [List.getElem?_toArray, List.getElem?_cons_zero, List.getElem?_cons_succ, Option.some.injEq] at ho)
    all_goals try (subst ho)
    all_goals try simp only [putAll, Act.put, List.setIfInBounds_toArray, List.set_cons_zero, List.set_cons_succ]
    · go_simp
      have hK' := hK.out
      simp only [putAll, Act.put, List.setIfInBounds_toArray, List.set_cons_zero, List.set_cons_succ] at hK'
      exact hK' _ _ rfl (Below.refl _ _) (by simp)
    · have e0 : s24 = _ := hdep ⟨0, .data⟩ (by simp) rfl
      have e0 := e0.symm
      subst e0
      go_simp
      have hK' := hK.out
      simp only [putAll, Act.put, List.setIfInBounds_toArray, List.set_cons_zero, List.set_cons_succ] at hK'
      exact hK' _ _ rfl (Below.refl _ _) (by simp)
    · have e1 : s25 = _ := hdep ⟨1, .data⟩ (by simp) rfl
      have e1 := e1.symm
      subst e1
      go_simp
      have hK' := hK.out
      simp only [putAll, Act.put, List.setIfInBounds_toArray, List.set_cons_zero, List.set_cons_succ] at hK'
      exact hK' _ _ rfl (Below.refl _ _) (by simp)
    · have e2 : s26 = _ := hdep ⟨2, .data⟩ (by simp) rfl
      have e2 := e2.symm
      subst e2
      go_simp
      have hK' := hK.out
      simp only [putAll, Act.put, List.setIfInBounds_toArray, List.set_cons_zero, List.set_cons_succ] at hK'
      exact hK' _ _ rfl (Below.refl _ _) (by simp)
    · have e3 : s27 = _ := hdep ⟨3, .data⟩ (by simp) rfl
      have e3 := e3.symm
      subst e3
      go_simp
      have hK' := hK.out
      simp only [putAll, Act.put, List.setIfInBounds_toArray, List.set_cons_zero, List.set_cons_succ] at hK'
      exact hK' _ _ rfl (Below.refl _ _) (by simp)
    · have eg : s28 = _ := hdep ⟨4, .guard⟩ (by simp) rfl
      have eg := eg.symm
      subst eg
      go_simp
      have hK' := hK.out
      simp only [putAll, Act.put, List.setIfInBounds_toArray, List.set_cons_zero, List.set_cons_succ] at hK'
      exact hK' _ _ rfl (Below.refl _ _) (by simp)
    · have e5 : s29 = _ := hdep ⟨5, .data⟩ (by simp) rfl
      have e5 := e5.symm
      subst e5
      have eg : s28 = _ := hdep ⟨4, .guard⟩ (by simp) rfl
      have eg := eg.symm
      subst eg
      go_simp
      have hK' := hK.out
      simp only [putAll, Act.put, List.setIfInBounds_toArray, List.set_cons_zero, List.set_cons_succ] at hK'
      exact hK' _ _ rfl (Below.refl _ _) (by simp)
    · have e6 : s30 = _ := hdep ⟨6, .data⟩ (by simp) rfl
      have e6 := e6.symm
      subst e6
      have eg : s28 = _ := hdep ⟨4, .guard⟩ (by simp) rfl
      have eg := eg.symm
      subst eg
      go_simp
      have hK' := hK.out
      simp only [putAll, Act.put, List.setIfInBounds_toArray, List.set_cons_zero, List.set_cons_succ] at hK'
      exact hK' _ _ rfl (Below.refl _ _) (by simp)
    · have e7 : s31 = _ := hdep ⟨7, .data⟩ (by simp) rfl
      have e7 := e7.symm
      subst e7
      have eg : s28 = _ := hdep ⟨4, .guard⟩ (by simp) rfl
      have eg := eg.symm
      subst eg
      go_simp
      have hK' := hK.out
      simp only [putAll, Act.put, List.setIfInBounds_toArray, List.set_cons_zero, List.set_cons_succ] at hK'
      exact hK' _ _ rfl (Below.refl _ _) (by simp)
    · have e8 : s32 = _ := hdep ⟨8, .data⟩ (by simp) rfl
      have e8 := e8.symm
      subst e8
      have eg : s28 = _ := hdep ⟨4, .guard⟩ (by simp) rfl
      have eg := eg.symm
      subst eg
      go_simp
      have hK' := hK.out
      simp only [putAll, Act.put, List.setIfInBounds_toArray, List.set_cons_zero, List.set_cons_succ] at hK'
      exact hK' _ _ rfl (Below.refl _ _) (by simp)
    · have eg : s28 = _ := hdep ⟨4, .guard⟩ (by simp) rfl
      have eg := eg.symm
      subst eg
      go_simp
      refine (ROf_any (3) wx (by decide) (by decide)).mono ?_
      rintro e wy ⟨vy, rfl, iy, hby⟩
      have hsh := iy.shape
      obtain ⟨p5', n5', c5', rfl, iy⟩ := hsh
      go_wp2_with fail
      have hK' := hK.out
      simp only [putAll, Act.put, List.setIfInBounds_toArray, List.set_cons_zero, List.set_cons_succ] at hK'
      exact hK' _ _ ⟨_, _, _, _, rfl, iy⟩ hby (by simp)
    · have e9 : s33 = _ := hdep ⟨9, .data⟩ (by simp) rfl
      have e9 := e9.symm
      subst e9
      have e10 : (lnI 3).P s34 wx := hdep ⟨10, .data⟩ (by simp) rfl
      obtain ⟨da10, pa10, na10, ca10, rfl, ia10⟩ := e10
      have eg : s28 = _ := hdep ⟨4, .guard⟩ (by simp) rfl
      have eg := eg.symm
      subst eg
      go_simp
      go_simp
      refine (SameInt_same _ _ (3) wx (I3D.out.below hb) ia10).mono ?_
      rintro e wy ⟨rfl, hby⟩
      go_wp2_with fail
      have hK' := hK.out
      simp only [putAll, Act.put, List.setIfInBounds_toArray, List.set_cons_zero, List.set_cons_succ] at hK'
      exact hK' _ _ rfl hby (by simp)
    · have e4 : s28 = _ := hdep ⟨4, .data⟩ (by simp) rfl
      have e4 := e4.symm
      subst e4
      have e11 : s35 = _ := hdep ⟨11, .data⟩ (by simp) rfl
      have e11 := e11.symm
      subst e11
      go_simp
      have hK' := hK.out
      simp only [putAll, Act.put, List.setIfInBounds_toArray, List.set_cons_zero, List.set_cons_succ] at hK'
      exact hK' _ _ rfl (Below.refl _ _) (by simp)
    · have e12 : s36 = _ := hdep ⟨12, .data⟩ (by simp) rfl
      have e12 := e12.symm
      subst e12
      go_simp
      have hK' := hK.out
      simp only [putAll, Act.put, List.setIfInBounds_toArray, List.set_cons_zero, List.set_cons_succ] at hK'
      exact hK' _ _ rfl (Below.refl _ _) (by simp)
    · have eg : s37 = _ := hdep ⟨13, .guard⟩ (by simp) rfl
      have eg := eg.symm
      subst eg
      go_simp
      have hK' := hK.out
      simp only [putAll, Act.put, List.setIfInBounds_toArray, List.set_cons_zero, List.set_cons_succ] at hK'
      exact hK' _ _ rfl (Below.refl _ _) (by simp)
    · have e14 : s38 = _ := hdep ⟨14, .data⟩ (by simp) rfl
      have e14 := e14.symm
      subst e14
      have eg : s37 = _ := hdep ⟨13, .guard⟩ (by simp) rfl
      have eg := eg.symm
      subst eg
      go_simp
      have hK' := hK.out
      simp only [putAll, Act.put, List.setIfInBounds_toArray, List.set_cons_zero, List.set_cons_succ] at hK'
      exact hK' _ _ rfl (Below.refl _ _) (by simp)
    · have eg : s37 = _ := hdep ⟨13, .guard⟩ (by simp) rfl
      have eg := eg.symm
      subst eg
      go_simp
      refine (ROf_any (6) wx (by decide) (by decide)).mono ?_
      rintro e wy ⟨vy, rfl, iy, hby⟩
      have hsh := iy.shape
      obtain ⟨p5', n5', c5', rfl, iy⟩ := hsh
      go_wp2_with fail
      have hK' := hK.out
      simp only [putAll, Act.put, List.setIfInBounds_toArray, List.set_cons_zero, List.set_cons_succ] at hK'
      exact hK' _ _ ⟨_, _, _, _, rfl, iy⟩ hby (by simp)
    · have e15 : s39 = _ := hdep ⟨15, .data⟩ (by simp) rfl
      have e15 := e15.symm
      subst e15
      have e16 : (lnI 6).P s40 wx := hdep ⟨16, .data⟩ (by simp) rfl
      obtain ⟨da16, pa16, na16, ca16, rfl, ia16⟩ := e16
      have eg : s37 = _ := hdep ⟨13, .guard⟩ (by simp) rfl
      have eg := eg.symm
      subst eg
      go_simp
      go_simp
      refine (SameInt_same _ _ (6) wx (I6D.out.below hb) ia16).mono ?_
      rintro e wy ⟨rfl, hby⟩
      go_wp2_with fail
      have hK' := hK.out
      simp only [putAll, Act.put, List.setIfInBounds_toArray, List.set_cons_zero, List.set_cons_succ] at hK'
      exact hK' _ _ rfl hby (by simp)
    · have e13 : s37 = _ := hdep ⟨13, .data⟩ (by simp) rfl
      have e13 := e13.symm
      subst e13
      have e17 : s41 = _ := hdep ⟨17, .data⟩ (by simp) rfl
      have e17 := e17.symm
      subst e17
      go_simp
      have hK' := hK.out
      simp only [putAll, Act.put, List.setIfInBounds_toArray, List.set_cons_zero, List.set_cons_succ] at hK'
      exact hK' _ _ rfl (Below.refl _ _) (by simp)
    · have e18 : s42 = _ := hdep ⟨18, .data⟩ (by simp) rfl
      have e18 := e18.symm
      subst e18
      go_simp
      have hK' := hK.out
      simp only [putAll, Act.put, List.setIfInBounds_toArray, List.set_cons_zero, List.set_cons_succ] at hK'
      exact hK' _ _ rfl (Below.refl _ _) (by simp)
    · have eg : s43 = _ := hdep ⟨19, .guard⟩ (by simp) rfl
      have eg := eg.symm
      subst eg
      go_simp
      have hK' := hK.out
      simp only [putAll, Act.put, List.setIfInBounds_toArray, List.set_cons_zero, List.set_cons_succ] at hK'
      exact hK' _ _ rfl (Below.refl _ _) (by simp)
    · have e20 : s44 = _ := hdep ⟨20, .data⟩ (by simp) rfl
      have e20 := e20.symm
      subst e20
      have eg : s43 = _ := hdep ⟨19, .guard⟩ (by simp) rfl
      have eg := eg.symm
      subst eg
      go_simp
      have hK' := hK.out
      simp only [putAll, Act.put, List.setIfInBounds_toArray, List.set_cons_zero, List.set_cons_succ] at hK'
      exact hK' _ _ rfl (Below.refl _ _) (by simp)
    · have e19 : s43 = _ := hdep ⟨19, .data⟩ (by simp) rfl
      have e19 := e19.symm
      subst e19
      have e21 : s45 = _ := hdep ⟨21, .data⟩ (by simp) rfl
      have e21 := e21.symm
      subst e21
      go_simp
      have hK' := hK.out
      simp only [putAll, Act.put, List.setIfInBounds_toArray, List.set_cons_zero, List.set_cons_succ] at hK'
      exact hK' _ _ rfl (Below.refl _ _) (by simp)
    · have e22 : s46 = _ := hdep ⟨22, .data⟩ (by simp) rfl
      have e22 := e22.symm
      subst e22
      go_simp
      have hK' := hK.out
      simp only [putAll, Act.put, List.setIfInBounds_toArray, List.set_cons_zero, List.set_cons_succ] at hK'
      exact hK' _ _ rfl (Below.refl _ _) (by simp)
    · have eg : s47 = _ := hdep ⟨23, .guard⟩ (by simp) rfl
      have eg := eg.symm
      subst eg
      go_simp
      have hK' := hK.out
      simp only [putAll, Act.put, List.setIfInBounds_toArray, List.set_cons_zero, List.set_cons_succ] at hK'
      exact hK' _ _ rfl (Below.refl _ _) (by simp)
    · have e24 : s48 = _ := hdep ⟨24, .data⟩ (by simp) rfl
      have e24 := e24.symm
      subst e24
      have eg : s47 = _ := hdep ⟨23, .guard⟩ (by simp) rfl
      have eg := eg.symm
      subst eg
      go_simp
      have hK' := hK.out
      simp only [putAll, Act.put, List.setIfInBounds_toArray, List.set_cons_zero, List.set_cons_succ] at hK'
      exact hK' _ _ rfl (Below.refl _ _) (by simp)
    · have e25 : s49 = _ := hdep ⟨25, .data⟩ (by simp) rfl
      have e25 := e25.symm
      subst e25
      have eg : s47 = _ := hdep ⟨23, .guard⟩ (by simp) rfl
      have eg := eg.symm
      subst eg
      go_simp
      have hK' := hK.out
      simp only [putAll, Act.put, List.setIfInBounds_toArray, List.set_cons_zero, List.set_cons_succ] at hK'
      exact hK' _ _ rfl (Below.refl _ _) (by simp)
    · have e26 : s50 = _ := hdep ⟨26, .data⟩ (by simp) rfl
      have e26 := e26.symm
      subst e26
      have eg : s47 = _ := hdep ⟨23, .guard⟩ (by simp) rfl
      have eg := eg.symm
      subst eg
      go_simp
      have hK' := hK.out
      simp only [putAll, Act.put, List.setIfInBounds_toArray, List.set_cons_zero, List.set_cons_succ] at hK'
      exact hK' _ _ rfl (Below.refl _ _) (by simp)
    · have e23 : s47 = _ := hdep ⟨23, .data⟩ (by simp) rfl
      have e23 := e23.symm
      subst e23
      have e27 : s51 = _ := hdep ⟨27, .data⟩ (by simp) rfl
      have e27 := e27.symm
      subst e27
      go_simp
      have hK' := hK.out
      simp only [putAll, Act.put, List.setIfInBounds_toArray, List.set_cons_zero, List.set_cons_succ] at hK'
      exact hK' _ _ rfl (Below.refl _ _) (by simp)
    · have e28 : s52 = _ := hdep ⟨28, .data⟩ (by simp) rfl
      have e28 := e28.symm
      subst e28
      go_simp
      have hK' := hK.out
      simp only [putAll, Act.put, List.setIfInBounds_toArray, List.set_cons_zero, List.set_cons_succ] at hK'
      exact hK' _ _ rfl (Below.refl _ _) (by simp)
    · have eg : s53 = _ := hdep ⟨29, .guard⟩ (by simp) rfl
      have eg := eg.symm
      subst eg
      go_simp
      have hK' := hK.out
      simp only [putAll, Act.put, List.setIfInBounds_toArray, List.set_cons_zero, List.set_cons_succ] at hK'
      exact hK' _ _ rfl (Below.refl _ _) (by simp)
    · have eg : s53 = _ := hdep ⟨29, .guard⟩ (by simp) rfl
      have eg := eg.symm
      subst eg
      go_simp
      refine (ROf_any (-2) wx (by decide) (by decide)).mono ?_
      rintro e wy ⟨vy, rfl, iy, hby⟩
      have hsh := iy.shape
      obtain ⟨p5', n5', c5', rfl, iy⟩ := hsh
      go_wp2_with fail
      have hK' := hK.out
      simp only [putAll, Act.put, List.setIfInBounds_toArray, List.set_cons_zero, List.set_cons_succ] at hK'
      exact hK' _ _ ⟨_, _, _, _, rfl, iy⟩ hby (by simp)
    · have e30 : s54 = _ := hdep ⟨30, .data⟩ (by simp) rfl
      have e30 := e30.symm
      subst e30
      have e31 : (lnI (-2)).P s55 wx := hdep ⟨31, .data⟩ (by simp) rfl
      obtain ⟨da31, pa31, na31, ca31, rfl, ia31⟩ := e31
      have eg : s53 = _ := hdep ⟨29, .guard⟩ (by simp) rfl
      have eg := eg.symm
      subst eg
      go_simp
      go_simp
      refine (SameInt_same _ _ (-2) wx (IK.out.below hb) ia31).mono ?_
      rintro e wy ⟨rfl, hby⟩
      go_wp2_with fail
      have hK' := hK.out
      simp only [putAll, Act.put, List.setIfInBounds_toArray, List.set_cons_zero, List.set_cons_succ] at hK'
      exact hK' _ _ rfl hby (by simp)
    · have e29 : s53 = _ := hdep ⟨29, .data⟩ (by simp) rfl
      have e29 := e29.symm
      subst e29
      have e32 : s56 = _ := hdep ⟨32, .data⟩ (by simp) rfl
      have e32 := e32.symm
      subst e32
      go_simp
      have hK' := hK.out
      simp only [putAll, Act.put, List.setIfInBounds_toArray, List.set_cons_zero, List.set_cons_succ] at hK'
      exact hK' _ _ rfl (Below.refl _ _) (by simp)
    · omega
  · intro vs wx hvl hb hf hdist
    have hvs := vlen34 hvl
    obtain ⟨s24, s25, s26, s27, s28, s29, s30, s31, s32, s33, s34, s35, s36, s37, s38, s39, s40, s41, s42, s43, s44, s45, s46, s47, s48, s49, s50, s51, s52, s53, s54, s55, s56, s57, rfl⟩ := hvs
    have f33 : s57 = .bool true := hf 33 (by decide)
    subst f33
    have HBF := hid (lnGo hb HDw.out)
    clear hf hvl hdist
    refine wpAny_one (i := 34) (by kernel_rfl) rfl ?_
    intro K hK
    simp only [putAll, Act.put, List.setIfInBounds_toArray, List.set_cons_zero, List.set_cons_succ]
    have hK' := hK.out
    go_simp
    apply hK'
    clear hK hK'
    refine wpAny_done (by kernel_rfl) ?_ _
    go_wp2
    go_ret
    exact ⟨rfl, HBF.out⟩
end Go.Proofs.YtjfehknilofdjaaGreat
/- elenchusref06.Same of two told sums that are one. -/
namespace Go.Proofs.YtjfehknilofdjaaGreat
open Go.RowKit Big

theorem vlen29 {vs : List Value} (h : vs.length = 29) : ∃ v0 v1 v2 v3 v4 v5 v6 v7 v8 v9 v10 v11 v12 v13 v14 v15 v16 v17 v18 v19 v20 v21 v22 v23 v24 v25 v26 v27 v28, vs = [v0, v1, v2, v3, v4, v5, v6, v7, v8, v9, v10, v11, v12, v13, v14, v15, v16, v17, v18, v19, v20, v21, v22, v23, v24, v25, v26, v27, v28] := by
  match vs, h with
  | v0 :: v1 :: v2 :: v3 :: v4 :: v5 :: v6 :: v7 :: v8 :: v9 :: v10 :: v11 :: v12 :: v13 :: v14 :: v15 :: v16 :: v17 :: v18 :: v19 :: v20 :: v21 :: v22 :: v23 :: v24 :: v25 :: v26 :: v27 :: v28 :: [], _ => exact ⟨v0, v1, v2, v3, v4, v5, v6, v7, v8, v9, v10, v11, v12, v13, v14, v15, v16, v17, v18, v19, v20, v21, v22, v23, v24, v25, v26, v27, v28, rfl⟩
set_option maxRecDepth 100000 in
set_option maxHeartbeats 12800000 in
theorem Same6_true (va vb : Value) (a : List (Int × Int) × Int) (w : World) (ha : LnT w va a) (hb : LnT w vb a) (hl : a.1.length ≤ 1000000000000) : Calls Tryz.prog 6 #[va, vb] w (RBool true w) := by
  obtain ⟨l, x⟩ := a
  obtain ⟨pv, s, rfl, ⟨pa, ca, rfl, ia1, -, -, ia4⟩, hxa⟩ := ha
  obtain ⟨pv', s', rfl, ⟨pb, cb, rfl, ib1, -, -, ib4⟩, hxb⟩ := hb
  have hl : l.length ≤ 1000000000000 := hl
  have ia1 : l.length ≤ ca := ia1
  have ib1 : l.length ≤ cb := ib1
  have HA4 := hid ia4; have HB4 := hid ib4
  have hsh := hxa.shape
  obtain ⟨px, nx, cx, ex, hxa⟩ := hsh
  injection ex with ex
  obtain rfl : s = .slice px nx cx := by simpa using ex
  have hsh := hxb.shape
  obtain ⟨py, ny, cy, ey, hxb⟩ := hsh
  injection ey with ey
  obtain rfl : s' = .slice py ny cy := by simpa using ey
  clear ex ey
  show Calls Tryz.prog 6 #[.agg #[.slice pa l.length ca, .bool (decide (x < 0)), .slice px nx cx], .agg #[.slice pb l.length cb, .bool (decide (x < 0)), .slice py ny cy]] w (RBool true w)
  obtain ⟨W, hW⟩ : ∃ W, W = (w.alloc (.cells #[.slice pa l.length ca, .bool (decide (x < 0)), .slice px nx cx] 28)).alloc (.cells #[.slice pb l.length cb, .bool (decide (x < 0)), .slice py ny cy] 28) := ⟨_, rfl⟩
  have b0 : Below w.heap.size w W := by rw [hW]; exact (below1 w _).alloc (by simp) _
  have z0 : W.heap.size = w.heap.size + 2 := by rw [hW, size_alloc, size_alloc]
  have e0 : W.heap[w.heap.size]? = some (.cells #[.slice pa l.length ca, .bool (decide (x < 0)), .slice px nx cx] 28 (0, 0)) := by rw [hW, heap_alloc_old _ _ (by simp)]; exact heap_alloc_new w _
  have e1 : W.heap[w.heap.size + 1]? = some (.cells #[.slice pb l.length cb, .bool (decide (x < 0)), .slice py ny cy] 28 (0, 0)) := by
    have := heap_alloc_new (w.alloc (.cells #[.slice pa l.length ca, .bool (decide (x < 0)), .slice px nx cx] 28)) (.cells #[.slice pb l.length cb, .bool (decide (x < 0)), .slice py ny cy] 28)
    rw [size_alloc] at this
    rw [hW]; exact this
  have HXa := hid (hxa.below b0); have HXb := hid (hxb.below b0)
  have B0 := hid b0; have E0 := hid e0; have E1 := hid e1; have Z0 := hid z0
  obtain ⟨y0, y1, y2⟩ := lnCells3 e0
  obtain ⟨y3, y4, y5⟩ := lnCells3 e1
  obtain ⟨L, hLL⟩ : ∃ L, L = l.length := ⟨_, rfl⟩
  have HLL := hid hLL
  rw [← hLL] at y0 y3 hl E0 E1 hW ia1 ib1 ⊢
  generalize decide (x < 0) = nn at *
  clear hxa hxb ia4 ib4 b0 e0 e1 z0 hLL
  go_enter Tryz.func6, Tryz.ntmps6
  go_upto_region 1 with fail
  rw [← hW]
  clear hW
  go_wp2_with fail
  refine (SameInt_same _ _ x W HXa.out HXb.out).mono ?_
  rintro e w1 ⟨rfl, b1⟩
  have HB1 := hid b1
  have hz1 := b1.size
  obtain ⟨y0, y1, y2⟩ := lnCells3 ((b1.block w.heap.size (by have := Z0.out; omega)).trans E0.out)
  clear b1 y3 y4 y5
  go_wp2_with fail
  clear y0 y1 y2
  go_loopw [24] (fun i wr => ∃ (k : Nat), k ≤ L ∧ i = .int .i64 (k : Nat) ∧ Hid (Below W.heap.size W wr)) (fun i _ => L - (intOf i).toNat)
  case atStart => exact ⟨0, Nat.zero_le _, rfl, HB1⟩
  case round =>
    obtain ⟨k, hk, rfl, HB⟩ := hrel
    have HBw := hid (lnGo HB.out B0.out)
    by_cases hlt : k < L
    · have hkt : k < l.length := by rw [← HLL.out]; exact hlt
      have hlt' : (k : Int) < (L : Int) := by omega
      obtain ⟨ba, oa, rfl, hba, hca⟩ := HA4.out (by show 0 < l.length; omega)
      obtain ⟨bb, ob, rfl, hbb, hcb⟩ := HB4.out (by show 0 < l.length; omega)
      obtain ⟨cs, ka, s1, ecs, i1, -⟩ := hca k hkt
      obtain ⟨cs', kb, s2, ecs', i2, -⟩ := hcb k hkt
      have hsh := i1.shape
      obtain ⟨qa, na, da, e1, i1⟩ := hsh
      injection e1 with e1
      obtain rfl : s1 = .slice qa na da := by simpa using e1
      have hsh := i2.shape
      obtain ⟨qb, nb, db, e2, i2⟩ := hsh
      injection e2 with e2
      obtain rfl : s2 = .slice qb nb db := by simpa using e2
      clear e1 e2
      have ecs : cs = [.bool (decide ((l[k]'hkt).1 < 0)), .slice qa na da, .int .i64 (l[k]'hkt).2] := ecs
      have ecs' : cs' = [.bool (decide ((l[k]'hkt).1 < 0)), .slice qb nb db, .int .i64 (l[k]'hkt).2] := ecs'
      subst ecs ecs'
      have a0 := (HBw.out.cell (p := ⟨ba, oa + k * 3, none⟩) hba).trans (ka 0 _ rfl)
      have a1 := (HBw.out.cell (p := ⟨ba, oa + k * 3 + 1, none⟩) hba).trans (ka 1 _ rfl)
      have a2 := (HBw.out.cell (p := ⟨ba, oa + k * 3 + 2, none⟩) hba).trans (ka 2 _ rfl)
      have b0 := (HBw.out.cell (p := ⟨bb, ob + k * 3, none⟩) hbb).trans (kb 0 _ rfl)
      have b1 := (HBw.out.cell (p := ⟨bb, ob + k * 3 + 1, none⟩) hbb).trans (kb 1 _ rfl)
      have b2 := (HBw.out.cell (p := ⟨bb, ob + k * 3 + 2, none⟩) hbb).trans (kb 2 _ rfl)
      have HIa : Hid (IntAt wr (.agg #[.bool (decide ((l[k]'hkt).1 < 0)), .slice qa na da]) (l[k]'hkt).1) := hid (i1.below HBw.out)
      have HIb : Hid (IntAt wr (.agg #[.bool (decide ((l[k]'hkt).1 < 0)), .slice qb nb db]) (l[k]'hkt).1) := hid (i2.below HBw.out)
      have hzr := HB.out.size
      generalize (l[k]'hkt).1 = c at *
      generalize (l[k]'hkt).2 = t at *
      have hbar : ba < wr.heap.size := Nat.lt_of_lt_of_le hba HBw.out.size
      have hbbr : bb < wr.heap.size := Nat.lt_of_lt_of_le hbb HBw.out.size
      have HS : Hid (∀ w', Below wr.heap.size wr w' → w'.cell? ⟨w.heap.size, 0, none⟩ = some (.slice (some ⟨ba, oa, none⟩) L ca) ∧ w'.cell? ⟨w.heap.size + 1, 0, none⟩ = some (.slice (some ⟨bb, ob, none⟩) L cb) ∧
          (w'.cell? ⟨ba, oa + k * 3, none⟩ = some (.bool (decide (c < 0))) ∧ w'.cell? ⟨ba, oa + k * 3 + 1, none⟩ = some (.slice qa na da) ∧ w'.cell? ⟨ba, oa + k * 3 + 2, none⟩ = some (.int .i64 t)) ∧
          (w'.cell? ⟨bb, ob + k * 3, none⟩ = some (.bool (decide (c < 0))) ∧ w'.cell? ⟨bb, ob + k * 3 + 1, none⟩ = some (.slice qb nb db) ∧ w'.cell? ⟨bb, ob + k * 3 + 2, none⟩ = some (.int .i64 t))) := hid fun w' hb => by
        have hzz := Z0.out
        obtain ⟨t0, -, -⟩ := lnCells3 ((hb.block w.heap.size (by omega)).trans ((HB.out.block w.heap.size (by omega)).trans E0.out))
        obtain ⟨t1, -, -⟩ := lnCells3 ((hb.block (w.heap.size + 1) (by omega)).trans ((HB.out.block (w.heap.size + 1) (by omega)).trans E1.out))
        have ca' : ∀ o, w'.cell? ⟨ba, o, none⟩ = wr.cell? ⟨ba, o, none⟩ := fun o => hb.cell (p := ⟨ba, o, none⟩) hbar
        have cb' : ∀ o, w'.cell? ⟨bb, o, none⟩ = wr.cell? ⟨bb, o, none⟩ := fun o => hb.cell (p := ⟨bb, o, none⟩) hbbr
        exact ⟨t0, t1, ⟨(ca' _).trans a0, (ca' _).trans a1, (ca' _).trans a2⟩, (cb' _).trans b0, (cb' _).trans b1, (cb' _).trans b2⟩
      clear a0 a1 a2 b0 b1 b2 ka kb hca hcb i1 i2 HA4 HB4
      go_upto_region 6 with fail
      refine wp_region_facts (w0 := wr) 29 0 [27, 28, 29, 30, 31, 32, 33, 34, 35, 36, 37, 38, 39, 40, 41, 42, 43, 44, 45, 46, 47, 48, 49, 50, 51, 52, 53, 54, 55] [u27, u28, u29, u30, u31, u32, u33, u34, u35, u36, u37, u38, u39, u40, u41, u42, u43, u44, u45, u46, u47, u48, u49, u50, u51, u52, u53, u54, u55]
        (fun i => match i with | 0 => lnE (.pointer (some ⟨w.heap.size, 0, none⟩)) | 1 => lnE (.slice (some ⟨ba, oa, none⟩) L ca) | 2 => lnE (.int .i64 (k : Nat)) | 3 => lnE (.pointer (some ⟨ba, oa + k * 3, none⟩)) | 4 => lnE (.pointer (some ⟨ba, oa + k * 3 + 2, none⟩)) | 5 => lnE (.int .i64 t) | 6 => lnE (.pointer (some ⟨w.heap.size + 1, 0, none⟩)) | 7 => lnE (.slice (some ⟨bb, ob, none⟩) L cb) | 8 => lnE (.int .i64 (k : Nat)) | 9 => lnE (.pointer (some ⟨bb, ob + k * 3, none⟩)) | 10 => lnE (.pointer (some ⟨bb, ob + k * 3 + 2, none⟩)) | 11 => lnE (.int .i64 t) | 12 => lnE (.bool false) | 13 => lnE (.bool false) | 14 => lnE (.pointer (some ⟨w.heap.size, 0, none⟩)) | 15 => lnE (.slice (some ⟨ba, oa, none⟩) L ca) | 16 => lnE (.int .i64 (k : Nat)) | 17 => lnE (.pointer (some ⟨ba, oa + k * 3, none⟩)) | 18 => lnE (.pointer (some ⟨ba, oa + k * 3, none⟩)) | 19 => lnE (.agg #[.bool (decide (c < 0)), .slice qa na da]) | 20 => lnE (.pointer (some ⟨w.heap.size + 1, 0, none⟩)) | 21 => lnE (.slice (some ⟨bb, ob, none⟩) L cb) | 22 => lnE (.int .i64 (k : Nat)) | 23 => lnE (.pointer (some ⟨bb, ob + k * 3, none⟩)) | 24 => lnE (.pointer (some ⟨bb, ob + k * 3, none⟩)) | 25 => lnE (.agg #[.bool (decide (c < 0)), .slice qb nb db]) | 26 => lnE (.bool true) | 27 => lnE (.bool false) | _ => lnE (.bool false)) [] (by kernel_rfl) (by kernel_rfl) (by kernel_rfl) (by kernel_rfl) (by decide) rfl (by kernel_rfl) rfl (by simp) ?he1 ?_ ?_ ?_
      case he1 => simp only [putAll, Act.put, List.setIfInBounds_toArray, List.set_cons_zero, List.set_cons_succ]
      · intro i hi; simp at hi
      · intro i o hi ho vs wx hvl hb hdep K hK
        have hvs := vlen29 hvl
        obtain ⟨s27, s28, s29, s30, s31, s32, s33, s34, s35, s36, s37, s38, s39, s40, s41, s42, s43, s44, s45, s46, s47, s48, s49, s50, s51, s52, s53, s54, s55, rfl⟩ := hvs
        clear hvl
        have hk5 := HS.out wx hb
        obtain ⟨y0, y1, ⟨y2, y3, y4⟩, y5, y6, y7⟩ := hk5
        rcases i with _ | _ | _ | _ | _ | _ | _ | _ | _ | _ | _ | _ | _ | _ | _ | _ | _ | _ | _ | _ | _ | _ | _ | _ | _ | _ | _ | _ | _ | i
        all_goals (simp only [List.getElem?_toArray, List.getElem?_cons_zero, List.getElem?_cons_succ, Option.some.injEq] at ho)
        all_goals try (subst ho)
        all_goals try simp only [putAll, Act.put, List.setIfInBounds_toArray, List.set_cons_zero, List.set_cons_succ]
        · go_simp
          have hK' := hK.out
          simp only [putAll, Act.put, List.setIfInBounds_toArray, List.set_cons_zero, List.set_cons_succ] at hK'
          exact hK' _ _ rfl (Below.refl _ _) (by simp)
        · have e0 : s27 = _ := hdep ⟨0, .data⟩ (by simp) rfl
          have e0 := e0.symm
          subst e0
          go_simp
          have hK' := hK.out
          simp only [putAll, Act.put, List.setIfInBounds_toArray, List.set_cons_zero, List.set_cons_succ] at hK'
          exact hK' _ _ rfl (Below.refl _ _) (by simp)
        · go_simp
          have hK' := hK.out
          simp only [putAll, Act.put, List.setIfInBounds_toArray, List.set_cons_zero, List.set_cons_succ] at hK'
          exact hK' _ _ rfl (Below.refl _ _) (by simp)
        · have e1 : s28 = _ := hdep ⟨1, .data⟩ (by simp) rfl
          have e1 := e1.symm
          subst e1
          have e2 : s29 = _ := hdep ⟨2, .data⟩ (by simp) rfl
          have e2 := e2.symm
          subst e2
          go_simp
          have hK' := hK.out
          simp only [putAll, Act.put, List.setIfInBounds_toArray, List.set_cons_zero, List.set_cons_succ] at hK'
          exact hK' _ _ rfl (Below.refl _ _) (by simp)
        · have e3 : s30 = _ := hdep ⟨3, .data⟩ (by simp) rfl
          have e3 := e3.symm
          subst e3
          go_simp
          have hK' := hK.out
          simp only [putAll, Act.put, List.setIfInBounds_toArray, List.set_cons_zero, List.set_cons_succ] at hK'
          exact hK' _ _ rfl (Below.refl _ _) (by simp)
        · have e4 : s31 = _ := hdep ⟨4, .data⟩ (by simp) rfl
          have e4 := e4.symm
          subst e4
          go_simp
          have hK' := hK.out
          simp only [putAll, Act.put, List.setIfInBounds_toArray, List.set_cons_zero, List.set_cons_succ] at hK'
          exact hK' _ _ rfl (Below.refl _ _) (by simp)
        · go_simp
          have hK' := hK.out
          simp only [putAll, Act.put, List.setIfInBounds_toArray, List.set_cons_zero, List.set_cons_succ] at hK'
          exact hK' _ _ rfl (Below.refl _ _) (by simp)
        · have e6 : s33 = _ := hdep ⟨6, .data⟩ (by simp) rfl
          have e6 := e6.symm
          subst e6
          go_simp
          have hK' := hK.out
          simp only [putAll, Act.put, List.setIfInBounds_toArray, List.set_cons_zero, List.set_cons_succ] at hK'
          exact hK' _ _ rfl (Below.refl _ _) (by simp)
        · go_simp
          have hK' := hK.out
          simp only [putAll, Act.put, List.setIfInBounds_toArray, List.set_cons_zero, List.set_cons_succ] at hK'
          exact hK' _ _ rfl (Below.refl _ _) (by simp)
        · have e7 : s34 = _ := hdep ⟨7, .data⟩ (by simp) rfl
          have e7 := e7.symm
          subst e7
          have e8 : s35 = _ := hdep ⟨8, .data⟩ (by simp) rfl
          have e8 := e8.symm
          subst e8
          go_simp
          have hK' := hK.out
          simp only [putAll, Act.put, List.setIfInBounds_toArray, List.set_cons_zero, List.set_cons_succ] at hK'
          exact hK' _ _ rfl (Below.refl _ _) (by simp)
        · have e9 : s36 = _ := hdep ⟨9, .data⟩ (by simp) rfl
          have e9 := e9.symm
          subst e9
          go_simp
          have hK' := hK.out
          simp only [putAll, Act.put, List.setIfInBounds_toArray, List.set_cons_zero, List.set_cons_succ] at hK'
          exact hK' _ _ rfl (Below.refl _ _) (by simp)
        · have e10 : s37 = _ := hdep ⟨10, .data⟩ (by simp) rfl
          have e10 := e10.symm
          subst e10
          go_simp
          have hK' := hK.out
          simp only [putAll, Act.put, List.setIfInBounds_toArray, List.set_cons_zero, List.set_cons_succ] at hK'
          exact hK' _ _ rfl (Below.refl _ _) (by simp)
        · have e5 : s32 = _ := hdep ⟨5, .data⟩ (by simp) rfl
          have e5 := e5.symm
          subst e5
          have e11 : s38 = _ := hdep ⟨11, .data⟩ (by simp) rfl
          have e11 := e11.symm
          subst e11
          go_simp
          have hK' := hK.out
          simp only [putAll, Act.put, List.setIfInBounds_toArray, List.set_cons_zero, List.set_cons_succ] at hK'
          exact hK' _ _ (show _ = Value.bool false by first | rfl | simp) (Below.refl _ _) (by simp)
        · have e12 : s39 = _ := hdep ⟨12, .data⟩ (by simp) rfl
          have e12 := e12.symm
          subst e12
          go_simp
          have hK' := hK.out
          simp only [putAll, Act.put, List.setIfInBounds_toArray, List.set_cons_zero, List.set_cons_succ] at hK'
          exact hK' _ _ rfl (Below.refl _ _) (by simp)
        · have eg : s40 = _ := hdep ⟨13, .guard⟩ (by simp) rfl
          have eg := eg.symm
          subst eg
          go_simp
          have hK' := hK.out
          simp only [putAll, Act.put, List.setIfInBounds_toArray, List.set_cons_zero, List.set_cons_succ] at hK'
          exact hK' _ _ rfl (Below.refl _ _) (by simp)
        · have e14 : s41 = _ := hdep ⟨14, .data⟩ (by simp) rfl
          have e14 := e14.symm
          subst e14
          have eg : s40 = _ := hdep ⟨13, .guard⟩ (by simp) rfl
          have eg := eg.symm
          subst eg
          go_simp
          have hK' := hK.out
          simp only [putAll, Act.put, List.setIfInBounds_toArray, List.set_cons_zero, List.set_cons_succ] at hK'
          exact hK' _ _ rfl (Below.refl _ _) (by simp)
        · have eg : s40 = _ := hdep ⟨13, .guard⟩ (by simp) rfl
          have eg := eg.symm
          subst eg
          go_simp
          have hK' := hK.out
          simp only [putAll, Act.put, List.setIfInBounds_toArray, List.set_cons_zero, List.set_cons_succ] at hK'
          exact hK' _ _ rfl (Below.refl _ _) (by simp)
        · have e15 : s42 = _ := hdep ⟨15, .data⟩ (by simp) rfl
          have e15 := e15.symm
          subst e15
          have e16 : s43 = _ := hdep ⟨16, .data⟩ (by simp) rfl
          have e16 := e16.symm
          subst e16
          have eg : s40 = _ := hdep ⟨13, .guard⟩ (by simp) rfl
          have eg := eg.symm
          subst eg
          go_simp
          have hK' := hK.out
          simp only [putAll, Act.put, List.setIfInBounds_toArray, List.set_cons_zero, List.set_cons_succ] at hK'
          exact hK' _ _ rfl (Below.refl _ _) (by simp)
        · have e17 : s44 = _ := hdep ⟨17, .data⟩ (by simp) rfl
          have e17 := e17.symm
          subst e17
          have eg : s40 = _ := hdep ⟨13, .guard⟩ (by simp) rfl
          have eg := eg.symm
          subst eg
          go_simp
          have hK' := hK.out
          simp only [putAll, Act.put, List.setIfInBounds_toArray, List.set_cons_zero, List.set_cons_succ] at hK'
          exact hK' _ _ rfl (Below.refl _ _) (by simp)
        · have e18 : s45 = _ := hdep ⟨18, .data⟩ (by simp) rfl
          have e18 := e18.symm
          subst e18
          have eg : s40 = _ := hdep ⟨13, .guard⟩ (by simp) rfl
          have eg := eg.symm
          subst eg
          go_simp
          have hK' := hK.out
          simp only [putAll, Act.put, List.setIfInBounds_toArray, List.set_cons_zero, List.set_cons_succ] at hK'
          exact hK' _ _ rfl (Below.refl _ _) (by simp)
        · have eg : s40 = _ := hdep ⟨13, .guard⟩ (by simp) rfl
          have eg := eg.symm
          subst eg
          go_simp
          have hK' := hK.out
          simp only [putAll, Act.put, List.setIfInBounds_toArray, List.set_cons_zero, List.set_cons_succ] at hK'
          exact hK' _ _ rfl (Below.refl _ _) (by simp)
        · have e20 : s47 = _ := hdep ⟨20, .data⟩ (by simp) rfl
          have e20 := e20.symm
          subst e20
          have eg : s40 = _ := hdep ⟨13, .guard⟩ (by simp) rfl
          have eg := eg.symm
          subst eg
          go_simp
          have hK' := hK.out
          simp only [putAll, Act.put, List.setIfInBounds_toArray, List.set_cons_zero, List.set_cons_succ] at hK'
          exact hK' _ _ rfl (Below.refl _ _) (by simp)
        · have eg : s40 = _ := hdep ⟨13, .guard⟩ (by simp) rfl
          have eg := eg.symm
          subst eg
          go_simp
          have hK' := hK.out
          simp only [putAll, Act.put, List.setIfInBounds_toArray, List.set_cons_zero, List.set_cons_succ] at hK'
          exact hK' _ _ rfl (Below.refl _ _) (by simp)
        · have e21 : s48 = _ := hdep ⟨21, .data⟩ (by simp) rfl
          have e21 := e21.symm
          subst e21
          have e22 : s49 = _ := hdep ⟨22, .data⟩ (by simp) rfl
          have e22 := e22.symm
          subst e22
          have eg : s40 = _ := hdep ⟨13, .guard⟩ (by simp) rfl
          have eg := eg.symm
          subst eg
          go_simp
          have hK' := hK.out
          simp only [putAll, Act.put, List.setIfInBounds_toArray, List.set_cons_zero, List.set_cons_succ] at hK'
          exact hK' _ _ rfl (Below.refl _ _) (by simp)
        · have e23 : s50 = _ := hdep ⟨23, .data⟩ (by simp) rfl
          have e23 := e23.symm
          subst e23
          have eg : s40 = _ := hdep ⟨13, .guard⟩ (by simp) rfl
          have eg := eg.symm
          subst eg
          go_simp
          have hK' := hK.out
          simp only [putAll, Act.put, List.setIfInBounds_toArray, List.set_cons_zero, List.set_cons_succ] at hK'
          exact hK' _ _ rfl (Below.refl _ _) (by simp)
        · have e24 : s51 = _ := hdep ⟨24, .data⟩ (by simp) rfl
          have e24 := e24.symm
          subst e24
          have eg : s40 = _ := hdep ⟨13, .guard⟩ (by simp) rfl
          have eg := eg.symm
          subst eg
          go_simp
          have hK' := hK.out
          simp only [putAll, Act.put, List.setIfInBounds_toArray, List.set_cons_zero, List.set_cons_succ] at hK'
          exact hK' _ _ rfl (Below.refl _ _) (by simp)
        · have e19 : s46 = _ := hdep ⟨19, .data⟩ (by simp) rfl
          have e19 := e19.symm
          subst e19
          have e25 : s52 = _ := hdep ⟨25, .data⟩ (by simp) rfl
          have e25 := e25.symm
          subst e25
          have eg : s40 = _ := hdep ⟨13, .guard⟩ (by simp) rfl
          have eg := eg.symm
          subst eg
          go_simp
          go_simp
          refine (SameInt_same _ _ c wx (HIa.out.below hb) (HIb.out.below hb)).mono ?_
          rintro e wy ⟨rfl, hby⟩
          go_wp2_with fail
          have hK' := hK.out
          simp only [putAll, Act.put, List.setIfInBounds_toArray, List.set_cons_zero, List.set_cons_succ] at hK'
          exact hK' _ _ rfl hby (by simp)
        · have e26 : s53 = _ := hdep ⟨26, .data⟩ (by simp) rfl
          have e26 := e26.symm
          subst e26
          have eg : s40 = _ := hdep ⟨13, .guard⟩ (by simp) rfl
          have eg := eg.symm
          subst eg
          go_simp
          have hK' := hK.out
          simp only [putAll, Act.put, List.setIfInBounds_toArray, List.set_cons_zero, List.set_cons_succ] at hK'
          exact hK' _ _ rfl (Below.refl _ _) (by simp)
        · have e13 : s40 = _ := hdep ⟨13, .data⟩ (by simp) rfl
          have e13 := e13.symm
          subst e13
          have e27 : s54 = _ := hdep ⟨27, .data⟩ (by simp) rfl
          have e27 := e27.symm
          subst e27
          go_simp
          have hK' := hK.out
          simp only [putAll, Act.put, List.setIfInBounds_toArray, List.set_cons_zero, List.set_cons_succ] at hK'
          exact hK' _ _ rfl (Below.refl _ _) (by simp)
        · omega
      · intro vs wx hvl hb hf hdist
        have hvs := vlen29 hvl
        obtain ⟨s27, s28, s29, s30, s31, s32, s33, s34, s35, s36, s37, s38, s39, s40, s41, s42, s43, s44, s45, s46, s47, s48, s49, s50, s51, s52, s53, s54, s55, rfl⟩ := hvs
        have f28 : s55 = .bool false := hf 28 (by decide)
        subst f28
        have HB9 := hid (lnGo hb HB.out)
        clear hf hvl hdist
        refine wpAny_done (by kernel_rfl) ?_ _
        try simp only [putAll, Act.put, List.setIfInBounds_toArray, List.set_cons_zero, List.set_cons_succ]
        go_wp2_with fail
        go_roundw
        case rel => exact ⟨k + 1, by omega, by go_num, HB9⟩
        case measure => simp [intOf] <;> omega
    · obtain rfl : k = L := by omega
      go_wp2
      go_ret
      exact ⟨rfl, HBw.out⟩
end Go.Proofs.YtjfehknilofdjaaGreat
/- elenchusref06.Is. -/
namespace Go.Proofs.YtjfehknilofdjaaGreat
open Go.RowKit Big

set_option maxRecDepth 100000 in
set_option maxHeartbeats 6400000 in
theorem RIs_lin (v : Value) (a : List (Int × Int) × Int) (w : World) (h : LnR w v a) (hl : a.1.length ≤ 1000000000000) :
    Calls Tryz.prog 12 #[v] w (RBool (decide (lnIs a.1)) w) := by
  obtain ⟨pv, n0, s0, rfl, hp, h2⟩ := h
  have hsh := h2.agg2
  obtain ⟨d2, p2, n2, c2, e2⟩ := hsh
  obtain ⟨rfl, rfl⟩ : s0 = .slice p2 n2 c2 ∧ n0 = d2 := by
    injection e2 with e2
    simpa [and_comm] using e2
  clear e2 h2
  obtain ⟨l, x⟩ := a
  have hl : l.length ≤ 1000000000000 := hl
  show Calls Tryz.prog 12 _ w (RBool (decide (lnIs l)) w)
  obtain ⟨p, cp, rfl, j1, j2, -, j4⟩ := (show PtsR w pv l from hp)
  have J4 := hid j4
  obtain ⟨W, hW⟩ : ∃ W, W = w.alloc (.cells #[.slice p l.length cp, .bool n0, .slice p2 n2 c2] 28) := ⟨_, rfl⟩
  have b0 : Below w.heap.size w W := by rw [hW]; exact below1 w _
  have e0 : W.heap[w.heap.size]? = some (.cells #[.slice p l.length cp, .bool n0, .slice p2 n2 c2] 28 (0, 0)) := by rw [hW]; exact heap_alloc_new w _
  have z0 : W.heap.size = w.heap.size + 1 := by rw [hW, size_alloc]
  have B0 := hid b0; have E0 := hid e0; have Z0 := hid z0
  obtain ⟨L, hLL⟩ : ∃ L, L = l.length := ⟨_, rfl⟩
  have HLL := hid hLL
  rw [← hLL] at E0 hW j1 hl ⊢
  clear hp j4 b0 e0 z0 hLL
  go_enter Tryz.func12, Tryz.ntmps12
  go_upto_region 1 with fail
  rw [← hW]
  clear hW
  have y1 := (lnCells3 E0.out).1
  go_wp2_with fail
  clear y1
  go_loopw [8] (fun i wr => ∃ (k : Nat), k ≤ L ∧ i = .int .i64 (k : Nat) ∧ Hid (lnIs (l.take k)) ∧ Hid (Below W.heap.size W wr)) (fun i _ => L - (intOf i).toNat)
  case atStart => exact ⟨0, Nat.zero_le _, rfl, hid ⟨List.Pairwise.nil, by simp⟩, hid (Below.refl _ _)⟩
  case round =>
    obtain ⟨k, hk, rfl, HI, HB⟩ := hrel
    by_cases hlt : k < L
    · have hkt : k < l.length := by rw [← HLL.out]; exact hlt
      have hlt' : (k : Int) < (L : Int) := by omega
      have HBw := hid (lnGo HB.out B0.out)
      obtain ⟨b, o, rfl, hb, hc⟩ := J4.out (by omega)
      have hc' := hc
      obtain ⟨cs, k0, d, s, ecs, hraw, hwf⟩ := hc k hkt
      have hsh := hraw.agg2
      obtain ⟨d', q, n, cq, e2⟩ := hsh
      obtain ⟨rfl, rfl⟩ : s = .slice q n cq ∧ d = d' := by
        injection e2 with e2
        simpa [and_comm] using e2
      clear e2
      subst ecs
      have y0 := (HBw.out.cell (p := ⟨b, o + k * 3, none⟩) hb).trans (k0 0 _ rfl)
      have y1 := (HBw.out.cell (p := ⟨b, o + k * 3 + 1, none⟩) hb).trans (k0 1 _ rfl)
      have y2 := (HBw.out.cell (p := ⟨b, o + k * 3 + 2, none⟩) hb).trans (k0 2 _ rfl)
      have Hstep := hid (lnIs_step l k hkt)
      have hraw := hraw.below HBw.out
      have hpre : ∀ (hk1 : k - 1 < l.length), 0 < k → w.cell? ⟨b, o + (k - 1) * 3 + 2, none⟩ = some (.int .i64 l[k - 1].2) := by
        intro hk1 _
        obtain ⟨cs, k0, d, s, rfl, -, -⟩ := hc' (k - 1) hk1
        exact k0 2 _ rfl
      have Hpre := hid hpre
      generalize l[k].1 = c at *
      generalize l[k].2 = t at *
      clear k0 hc hc' hpre
      obtain ⟨W5, hW5⟩ : ∃ W5, W5 = wr.alloc (.cells #[.bool d, .slice q n cq, .int .i64 t] 38) := ⟨_, rfl⟩
      have b5 : Below wr.heap.size wr W5 := by rw [hW5]; exact below1 wr _
      have e5 : W5.heap[wr.heap.size]? = some (.cells #[.bool d, .slice q n cq, .int .i64 t] 38 (0, 0)) := by rw [hW5]; exact heap_alloc_new wr _
      have z5 : wr.heap.size < W5.heap.size := by rw [hW5, size_alloc]; omega
      have zr := HB.out.size
      have HBw5 : Hid (Below w.heap.size w W5) := hid (lnGo b5 HBw.out)
      have HBW5 : Hid (Below W.heap.size W W5) := hid (lnGo b5 HB.out)
      have HS : Hid (∀ w', Below W5.heap.size W5 w' → w'.cell? ⟨wr.heap.size, 0, none⟩ = some (.bool d) ∧ w'.cell? ⟨wr.heap.size, 1, none⟩ = some (.slice q n cq) ∧ w'.cell? ⟨wr.heap.size, 2, none⟩ = some (.int .i64 t) ∧ w'.cell? ⟨w.heap.size, 0, none⟩ = some (.slice (some ⟨b, o, none⟩) L cp) ∧ True) := hid fun w' hb' => by
        obtain ⟨t0, t1, t2⟩ := lnCells3 ((hb'.block wr.heap.size z5).trans e5)
        obtain ⟨t3, -, -⟩ := lnCells3 (((lnGo hb' HBW5.out).block w.heap.size (by have := Z0.out; omega)).trans E0.out)
        exact ⟨t0, t1, t2, t3, trivial⟩
      have HSg0 := hid (fun w' (hb' : Below W5.heap.size W5 w') => RSign_any _ c w' ((hraw.below b5).below hb'))
      clear b5 e5 hraw HB
      by_cases hc0 : c = 0
      · have HSg : Hid (∀ w', Below W5.heap.size W5 w' → Calls Tryz.prog 27 #[.agg #[.bool d, .slice q n cq]] w' (fun e w'' => e = .returned (.int .i64 0) ∧ Below w'.heap.size w' w'')) := hid fun w' hb' => by
          have := HSg0.out w' hb'
          rw [hc0] at this
          exact this
        have Hno : Hid (¬ lnIs l) := hid fun hI => ((Hstep.out).1 (lnIs_take hI _)).2.1 hc0
        clear HSg0 hc0 Hstep
        go_upto_region 4 with fail
        rw [← hW5]
        clear hW5 y0 y1 y2
        refine wp_region_facts (w0 := W5) 20 0 [13, 14, 15, 16, 17, 18, 19, 20, 21, 22, 23, 24, 25, 26, 27, 28, 29, 30, 31, 32] [u13, u14, u15, u16, u17, u18, u19, u20, u21, u22, u23, u24, u25, u26, u27, u28, u29, u30, u31, u32]
          (fun i => match i with | 0 => lnE (.pointer (some ⟨wr.heap.size, 0, none⟩)) | 1 => lnE (.agg #[.bool d, .slice q n cq]) | 2 => lnE (.int .i64 0) | 3 => lnE (.bool true) | 4 => lnE (.bool true) | 5 => lnE (undef) | 6 => lnE (undef) | 7 => lnE (undef) | 8 => lnE (undef) | 9 => lnE (undef) | 10 => lnE (undef) | 11 => lnE (undef) | 12 => lnE (undef) | 13 => lnE (undef) | 14 => lnE (undef) | 15 => lnE (undef) | 16 => lnE (undef) | 17 => lnE (undef) | 18 => lnE (undef) | _ => lnE (.bool true)) [] (by kernel_rfl) (by kernel_rfl) (by kernel_rfl) (by kernel_rfl) (by decide) rfl (by kernel_rfl) rfl (by simp) ?he1 ?_ ?_ ?_
        case he1 => simp only [putAll, Act.put, List.setIfInBounds_toArray, List.set_cons_zero, List.set_cons_succ]
        · intro i hi; simp at hi
        · intro i o hi ho vs wx hvl hb hdep K hK
          have hvs := vlen20 hvl
          obtain ⟨s13, s14, s15, s16, s17, s18, s19, s20, s21, s22, s23, s24, s25, s26, s27, s28, s29, s30, s31, s32, rfl⟩ := hvs
          clear hvl
          have hk5 := HS.out wx hb
          obtain ⟨y3, y4, y5, y6, y7⟩ := hk5
          rcases i with _ | _ | _ | _ | _ | _ | _ | _ | _ | _ | _ | _ | _ | _ | _ | _ | _ | _ | _ | _ | i
          all_goals (simp only [List.getElem?_toArray, List.getElem?_cons_zero, List.getElem?_cons_succ, Option.some.injEq] at ho)
          all_goals try (subst ho)
          all_goals try simp only [putAll, Act.put, List.setIfInBounds_toArray, List.set_cons_zero, List.set_cons_succ]
          · go_simp
            have hK' := hK.out
            simp only [putAll, Act.put, List.setIfInBounds_toArray, List.set_cons_zero, List.set_cons_succ] at hK'
            exact hK' _ _ rfl (Below.refl _ _) (by simp)
          · have e0 : s13 = _ := hdep ⟨0, .data⟩ (by simp) rfl
            have e0 := e0.symm
            subst e0
            go_simp
            have hK' := hK.out
            simp only [putAll, Act.put, List.setIfInBounds_toArray, List.set_cons_zero, List.set_cons_succ] at hK'
            exact hK' _ _ rfl (Below.refl _ _) (by simp)
          · have e1 : s14 = _ := hdep ⟨1, .data⟩ (by simp) rfl
            have e1 := e1.symm
            subst e1
            go_simp
            go_simp
            refine (HSg.out wx hb).mono ?_
            rintro e wy ⟨rfl, hby⟩
            go_wp2_with fail
            have hK' := hK.out
            simp only [putAll, Act.put, List.setIfInBounds_toArray, List.set_cons_zero, List.set_cons_succ] at hK'
            exact hK' _ _ rfl hby (by simp)
          · have e2 : s15 = _ := hdep ⟨2, .data⟩ (by simp) rfl
            have e2 := e2.symm
            subst e2
            go_simp
            have hK' := hK.out
            simp only [putAll, Act.put, List.setIfInBounds_toArray, List.set_cons_zero, List.set_cons_succ] at hK'
            exact hK' _ _ rfl (Below.refl _ _) (by simp)
          · have e3 : s16 = _ := hdep ⟨3, .data⟩ (by simp) rfl
            have e3 := e3.symm
            subst e3
            go_simp
            have hK' := hK.out
            simp only [putAll, Act.put, List.setIfInBounds_toArray, List.set_cons_zero, List.set_cons_succ] at hK'
            exact hK' _ _ rfl (Below.refl _ _) (by simp)
          · go_simp
            have eg : s17 = _ := hdep ⟨4, .guard⟩ (by simp) rfl
            have eg := eg.symm
            subst eg
            first | go_simp | skip
            try rw [if_neg (by simp [undef])]
            have hK' := hK.out
            simp only [putAll, Act.put, List.setIfInBounds_toArray, List.set_cons_zero, List.set_cons_succ] at hK'
            exact hK' _ _ rfl (Below.refl _ _) (by simp)
          · go_simp
            have eg : s17 = _ := hdep ⟨4, .guard⟩ (by simp) rfl
            have eg := eg.symm
            subst eg
            first | go_simp | skip
            try rw [if_neg (by simp [undef])]
            have hK' := hK.out
            simp only [putAll, Act.put, List.setIfInBounds_toArray, List.set_cons_zero, List.set_cons_succ] at hK'
            exact hK' _ _ rfl (Below.refl _ _) (by simp)
          · go_simp
            have eg : s17 = _ := hdep ⟨4, .guard⟩ (by simp) rfl
            have eg := eg.symm
            subst eg
            first | go_simp | skip
            try rw [if_neg (by simp [undef])]
            have hK' := hK.out
            simp only [putAll, Act.put, List.setIfInBounds_toArray, List.set_cons_zero, List.set_cons_succ] at hK'
            exact hK' _ _ rfl (Below.refl _ _) (by simp)
          · go_simp
            have eg : s20 = _ := hdep ⟨7, .guard⟩ (by simp) rfl
            have eg := eg.symm
            subst eg
            first | go_simp | skip
            try rw [if_neg (by simp [undef])]
            have hK' := hK.out
            simp only [putAll, Act.put, List.setIfInBounds_toArray, List.set_cons_zero, List.set_cons_succ] at hK'
            exact hK' _ _ rfl (Below.refl _ _) (by simp)
          · go_simp
            have eg : s20 = _ := hdep ⟨7, .guard⟩ (by simp) rfl
            have eg := eg.symm
            subst eg
            first | go_simp | skip
            try rw [if_neg (by simp [undef])]
            have hK' := hK.out
            simp only [putAll, Act.put, List.setIfInBounds_toArray, List.set_cons_zero, List.set_cons_succ] at hK'
            exact hK' _ _ rfl (Below.refl _ _) (by simp)
          · go_simp
            have eg : s20 = _ := hdep ⟨7, .guard⟩ (by simp) rfl
            have eg := eg.symm
            subst eg
            first | go_simp | skip
            try rw [if_neg (by simp [undef])]
            have hK' := hK.out
            simp only [putAll, Act.put, List.setIfInBounds_toArray, List.set_cons_zero, List.set_cons_succ] at hK'
            exact hK' _ _ rfl (Below.refl _ _) (by simp)
          · go_simp
            have eg : s20 = _ := hdep ⟨7, .guard⟩ (by simp) rfl
            have eg := eg.symm
            subst eg
            first | go_simp | skip
            try rw [if_neg (by simp [undef])]
            have hK' := hK.out
            simp only [putAll, Act.put, List.setIfInBounds_toArray, List.set_cons_zero, List.set_cons_succ] at hK'
            exact hK' _ _ rfl (Below.refl _ _) (by simp)
          · go_simp
            have eg : s20 = _ := hdep ⟨7, .guard⟩ (by simp) rfl
            have eg := eg.symm
            subst eg
            first | go_simp | skip
            try rw [if_neg (by simp [undef])]
            have hK' := hK.out
            simp only [putAll, Act.put, List.setIfInBounds_toArray, List.set_cons_zero, List.set_cons_succ] at hK'
            exact hK' _ _ rfl (Below.refl _ _) (by simp)
          · go_simp
            have eg : s20 = _ := hdep ⟨7, .guard⟩ (by simp) rfl
            have eg := eg.symm
            subst eg
            first | go_simp | skip
            try rw [if_neg (by simp [undef])]
            have hK' := hK.out
            simp only [putAll, Act.put, List.setIfInBounds_toArray, List.set_cons_zero, List.set_cons_succ] at hK'
            exact hK' _ _ rfl (Below.refl _ _) (by simp)
          · go_simp
            have eg : s20 = _ := hdep ⟨7, .guard⟩ (by simp) rfl
            have eg := eg.symm
            subst eg
            first | go_simp | skip
            try rw [if_neg (by simp [undef])]
            have hK' := hK.out
            simp only [putAll, Act.put, List.setIfInBounds_toArray, List.set_cons_zero, List.set_cons_succ] at hK'
            exact hK' _ _ rfl (Below.refl _ _) (by simp)
          · go_simp
            have eg : s20 = _ := hdep ⟨7, .guard⟩ (by simp) rfl
            have eg := eg.symm
            subst eg
            first | go_simp | skip
            try rw [if_neg (by simp [undef])]
            have hK' := hK.out
            simp only [putAll, Act.put, List.setIfInBounds_toArray, List.set_cons_zero, List.set_cons_succ] at hK'
            exact hK' _ _ rfl (Below.refl _ _) (by simp)
          · go_simp
            have eg : s20 = _ := hdep ⟨7, .guard⟩ (by simp) rfl
            have eg := eg.symm
            subst eg
            first | go_simp | skip
            try rw [if_neg (by simp [undef])]
            have hK' := hK.out
            simp only [putAll, Act.put, List.setIfInBounds_toArray, List.set_cons_zero, List.set_cons_succ] at hK'
            exact hK' _ _ rfl (Below.refl _ _) (by simp)
          · go_simp
            have eg : s20 = _ := hdep ⟨7, .guard⟩ (by simp) rfl
            have eg := eg.symm
            subst eg
            first | go_simp | skip
            try rw [if_neg (by simp [undef])]
            have hK' := hK.out
            simp only [putAll, Act.put, List.setIfInBounds_toArray, List.set_cons_zero, List.set_cons_succ] at hK'
            exact hK' _ _ rfl (Below.refl _ _) (by simp)
          · go_simp
            have eg : s17 = _ := hdep ⟨4, .guard⟩ (by simp) rfl
            have eg := eg.symm
            subst eg
            first | go_simp | skip
            try rw [if_neg (by simp [undef])]
            have hK' := hK.out
            simp only [putAll, Act.put, List.setIfInBounds_toArray, List.set_cons_zero, List.set_cons_succ] at hK'
            exact hK' _ _ rfl (Below.refl _ _) (by simp)
          · have e4 : s17 = _ := hdep ⟨4, .data⟩ (by simp) rfl
            have e4 := e4.symm
            subst e4
            go_simp
            have hK' := hK.out
            simp only [putAll, Act.put, List.setIfInBounds_toArray, List.set_cons_zero, List.set_cons_succ] at hK'
            exact hK' _ _ rfl (Below.refl _ _) (by simp)
          · omega
        · intro vs wx hvl hb hf hdist
          have hvs := vlen20 hvl
          obtain ⟨s13, s14, s15, s16, s17, s18, s19, s20, s21, s22, s23, s24, s25, s26, s27, s28, s29, s30, s31, s32, rfl⟩ := hvs
          have f19 : s32 = _ := hf 19 (by decide)
          have f19 := f19.symm
          subst f19
          have Hb9 := hid (lnGo hb HBw5.out)
          clear hf hvl hdist
          refine wpAny_done (by kernel_rfl) ?_ _
          try simp only [putAll, Act.put, List.setIfInBounds_toArray, List.set_cons_zero, List.set_cons_succ]
          have hd : decide (lnIs l) = false := by simpa using Hno.out
          go_wp2
          go_ret
          exact ⟨by rw [hd]; rfl, Hb9.out⟩
      · have hs0 : (c.sign == 0) = false := by
          rw [beq_eq_false_iff_ne]
          exact fun h => hc0 (Int.sign_eq_zero_iff_zero.1 h)
        have HSg := HSg0
        have HsE := hid hs0
        by_cases hk0 : k = 0
        · have HK0 := hid hk0
          have Hnx : Hid (lnIs (l.take (k + 1))) := hid ((Hstep.out).2 ⟨HI.out, hc0, fun h => absurd h (by omega)⟩)
          clear HSg0 hc0 Hstep hs0 hk0 HI
          go_upto_region 4 with fail
          rw [← hW5]
          clear hW5 y0 y1 y2
          refine wp_region_facts (w0 := W5) 20 0 [13, 14, 15, 16, 17, 18, 19, 20, 21, 22, 23, 24, 25, 26, 27, 28, 29, 30, 31, 32] [u13, u14, u15, u16, u17, u18, u19, u20, u21, u22, u23, u24, u25, u26, u27, u28, u29, u30, u31, u32]
            (fun i => match i with | 0 => lnE (.pointer (some ⟨wr.heap.size, 0, none⟩)) | 1 => lnE (.agg #[.bool d, .slice q n cq]) | 2 => lnE (.int .i64 c.sign) | 3 => lnE (.bool false) | 4 => lnE (.bool false) | 5 => lnE (.int .i64 (k : Nat)) | 6 => lnE (.bool false) | 7 => lnE (.bool false) | 8 => lnE (undef) | 9 => lnE (undef) | 10 => lnE (undef) | 11 => lnE (undef) | 12 => lnE (undef) | 13 => lnE (undef) | 14 => lnE (undef) | 15 => lnE (undef) | 16 => lnE (undef) | 17 => lnE (undef) | 18 => lnE (.bool false) | _ => lnE (.bool false)) [] (by kernel_rfl) (by kernel_rfl) (by kernel_rfl) (by kernel_rfl) (by decide) rfl (by kernel_rfl) rfl (by simp) ?he2 ?_ ?_ ?_
          case he2 => simp only [putAll, Act.put, List.setIfInBounds_toArray, List.set_cons_zero, List.set_cons_succ]
          · intro i hi; simp at hi
          · intro i o hi ho vs wx hvl hb hdep K hK
            have hvs := vlen20 hvl
            obtain ⟨s13, s14, s15, s16, s17, s18, s19, s20, s21, s22, s23, s24, s25, s26, s27, s28, s29, s30, s31, s32, rfl⟩ := hvs
            clear hvl
            have hk5 := HS.out wx hb
            obtain ⟨y3, y4, y5, y6, y7⟩ := hk5
            rcases i with _ | _ | _ | _ | _ | _ | _ | _ | _ | _ | _ | _ | _ | _ | _ | _ | _ | _ | _ | _ | i
            all_goals (simp only [List.getElem?_toArray, List.getElem?_cons_zero, List.getElem?_cons_succ, Option.some.injEq] at ho)
            all_goals try (subst ho)
            all_goals try simp only [putAll, Act.put, List.setIfInBounds_toArray, List.set_cons_zero, List.set_cons_succ]
            · go_simp
              have hK' := hK.out
              simp only [putAll, Act.put, List.setIfInBounds_toArray, List.set_cons_zero, List.set_cons_succ] at hK'
              exact hK' _ _ rfl (Below.refl _ _) (by simp)
            · have e0 : s13 = _ := hdep ⟨0, .data⟩ (by simp) rfl
              have e0 := e0.symm
              subst e0
              go_simp
              have hK' := hK.out
              simp only [putAll, Act.put, List.setIfInBounds_toArray, List.set_cons_zero, List.set_cons_succ] at hK'
              exact hK' _ _ rfl (Below.refl _ _) (by simp)
            · have e1 : s14 = _ := hdep ⟨1, .data⟩ (by simp) rfl
              have e1 := e1.symm
              subst e1
              go_simp
              go_simp
              refine (HSg.out wx hb).mono ?_
              rintro e wy ⟨rfl, hby⟩
              go_wp2_with fail
              have hK' := hK.out
              simp only [putAll, Act.put, List.setIfInBounds_toArray, List.set_cons_zero, List.set_cons_succ] at hK'
              exact hK' _ _ rfl hby (by simp)
            · have e2 : s15 = _ := hdep ⟨2, .data⟩ (by simp) rfl
              have e2 := e2.symm
              subst e2
              go_simp
              have hK' := hK.out
              simp only [putAll, Act.put, List.setIfInBounds_toArray, List.set_cons_zero, List.set_cons_succ] at hK'
              exact hK' _ _ (show Value.bool (c.sign == 0) = .bool false by rw [HsE.out]) (Below.refl _ _) (by simp)
            · have e3 : s16 = _ := hdep ⟨3, .data⟩ (by simp) rfl
              have e3 := e3.symm
              subst e3
              go_simp
              have hK' := hK.out
              simp only [putAll, Act.put, List.setIfInBounds_toArray, List.set_cons_zero, List.set_cons_succ] at hK'
              exact hK' _ _ rfl (Below.refl _ _) (by simp)
            · have eg : s17 = _ := hdep ⟨4, .guard⟩ (by simp) rfl
              have eg := eg.symm
              subst eg
              go_simp
              have hK' := hK.out
              simp only [putAll, Act.put, List.setIfInBounds_toArray, List.set_cons_zero, List.set_cons_succ] at hK'
              exact hK' _ _ rfl (Below.refl _ _) (by simp)
            · have e5 : s18 = _ := hdep ⟨5, .data⟩ (by simp) rfl
              have e5 := e5.symm
              subst e5
              have eg : s17 = _ := hdep ⟨4, .guard⟩ (by simp) rfl
              have eg := eg.symm
              subst eg
              go_simp
              have hK' := hK.out
              simp only [putAll, Act.put, List.setIfInBounds_toArray, List.set_cons_zero, List.set_cons_succ] at hK'
              exact hK' _ _ (show _ = Value.bool false by first | rfl | (have := HK0.out; simp [this])) (Below.refl _ _) (by simp)
            · have e6 : s19 = _ := hdep ⟨6, .data⟩ (by simp) rfl
              have e6 := e6.symm
              subst e6
              have eg : s17 = _ := hdep ⟨4, .guard⟩ (by simp) rfl
              have eg := eg.symm
              subst eg
              go_simp
              have hK' := hK.out
              simp only [putAll, Act.put, List.setIfInBounds_toArray, List.set_cons_zero, List.set_cons_succ] at hK'
              exact hK' _ _ rfl (Below.refl _ _) (by simp)
            · go_simp
              have eg : s20 = _ := hdep ⟨7, .guard⟩ (by simp) rfl
              have eg := eg.symm
              subst eg
              first | go_simp | skip
              try rw [if_neg (by simp [undef])]
              have hK' := hK.out
              simp only [putAll, Act.put, List.setIfInBounds_toArray, List.set_cons_zero, List.set_cons_succ] at hK'
              exact hK' _ _ rfl (Below.refl _ _) (by simp)
            · go_simp
              have eg : s20 = _ := hdep ⟨7, .guard⟩ (by simp) rfl
              have eg := eg.symm
              subst eg
              first | go_simp | skip
              try rw [if_neg (by simp [undef])]
              have hK' := hK.out
              simp only [putAll, Act.put, List.setIfInBounds_toArray, List.set_cons_zero, List.set_cons_succ] at hK'
              exact hK' _ _ rfl (Below.refl _ _) (by simp)
            · go_simp
              have eg : s20 = _ := hdep ⟨7, .guard⟩ (by simp) rfl
              have eg := eg.symm
              subst eg
              first | go_simp | skip
              try rw [if_neg (by simp [undef])]
              have hK' := hK.out
              simp only [putAll, Act.put, List.setIfInBounds_toArray, List.set_cons_zero, List.set_cons_succ] at hK'
              exact hK' _ _ rfl (Below.refl _ _) (by simp)
            · go_simp
              have eg : s20 = _ := hdep ⟨7, .guard⟩ (by simp) rfl
              have eg := eg.symm
              subst eg
              first | go_simp | skip
              try rw [if_neg (by simp [undef])]
              have hK' := hK.out
              simp only [putAll, Act.put, List.setIfInBounds_toArray, List.set_cons_zero, List.set_cons_succ] at hK'
              exact hK' _ _ rfl (Below.refl _ _) (by simp)
            · go_simp
              have eg : s20 = _ := hdep ⟨7, .guard⟩ (by simp) rfl
              have eg := eg.symm
              subst eg
              first | go_simp | skip
              try rw [if_neg (by simp [undef])]
              have hK' := hK.out
              simp only [putAll, Act.put, List.setIfInBounds_toArray, List.set_cons_zero, List.set_cons_succ] at hK'
              exact hK' _ _ rfl (Below.refl _ _) (by simp)
            · go_simp
              have eg : s20 = _ := hdep ⟨7, .guard⟩ (by simp) rfl
              have eg := eg.symm
              subst eg
              first | go_simp | skip
              try rw [if_neg (by simp [undef])]
              have hK' := hK.out
              simp only [putAll, Act.put, List.setIfInBounds_toArray, List.set_cons_zero, List.set_cons_succ] at hK'
              exact hK' _ _ rfl (Below.refl _ _) (by simp)
            · go_simp
              have eg : s20 = _ := hdep ⟨7, .guard⟩ (by simp) rfl
              have eg := eg.symm
              subst eg
              first | go_simp | skip
              try rw [if_neg (by simp [undef])]
              have hK' := hK.out
              simp only [putAll, Act.put, List.setIfInBounds_toArray, List.set_cons_zero, List.set_cons_succ] at hK'
              exact hK' _ _ rfl (Below.refl _ _) (by simp)
            · go_simp
              have eg : s20 = _ := hdep ⟨7, .guard⟩ (by simp) rfl
              have eg := eg.symm
              subst eg
              first | go_simp | skip
              try rw [if_neg (by simp [undef])]
              have hK' := hK.out
              simp only [putAll, Act.put, List.setIfInBounds_toArray, List.set_cons_zero, List.set_cons_succ] at hK'
              exact hK' _ _ rfl (Below.refl _ _) (by simp)
            · go_simp
              have eg : s20 = _ := hdep ⟨7, .guard⟩ (by simp) rfl
              have eg := eg.symm
              subst eg
              first | go_simp | skip
              try rw [if_neg (by simp [undef])]
              have hK' := hK.out
              simp only [putAll, Act.put, List.setIfInBounds_toArray, List.set_cons_zero, List.set_cons_succ] at hK'
              exact hK' _ _ rfl (Below.refl _ _) (by simp)
            · go_simp
              have eg : s20 = _ := hdep ⟨7, .guard⟩ (by simp) rfl
              have eg := eg.symm
              subst eg
              first | go_simp | skip
              try rw [if_neg (by simp [undef])]
              have hK' := hK.out
              simp only [putAll, Act.put, List.setIfInBounds_toArray, List.set_cons_zero, List.set_cons_succ] at hK'
              exact hK' _ _ rfl (Below.refl _ _) (by simp)
            · have e7 : s20 = _ := hdep ⟨7, .data⟩ (by simp) rfl
              have e7 := e7.symm
              subst e7
              have eg : s17 = _ := hdep ⟨4, .guard⟩ (by simp) rfl
              have eg := eg.symm
              subst eg
              go_simp
              have hK' := hK.out
              simp only [putAll, Act.put, List.setIfInBounds_toArray, List.set_cons_zero, List.set_cons_succ] at hK'
              exact hK' _ _ rfl (Below.refl _ _) (by simp)
            · have e4 : s17 = _ := hdep ⟨4, .data⟩ (by simp) rfl
              have e4 := e4.symm
              subst e4
              have e18 : s31 = _ := hdep ⟨18, .data⟩ (by simp) rfl
              have e18 := e18.symm
              subst e18
              go_simp
              have hK' := hK.out
              simp only [putAll, Act.put, List.setIfInBounds_toArray, List.set_cons_zero, List.set_cons_succ] at hK'
              exact hK' _ _ rfl (Below.refl _ _) (by simp)
            · omega
          · intro vs wx hvl hb hf hdist
            have hvs := vlen20 hvl
            obtain ⟨s13, s14, s15, s16, s17, s18, s19, s20, s21, s22, s23, s24, s25, s26, s27, s28, s29, s30, s31, s32, rfl⟩ := hvs
            have f19 : s32 = _ := hf 19 (by decide)
            have f19 := f19.symm
            subst f19
            have Hb9 := hid (lnGo hb HBw5.out)
            clear hf hvl hdist
            refine wpAny_done (by kernel_rfl) ?_ _
            try simp only [putAll, Act.put, List.setIfInBounds_toArray, List.set_cons_zero, List.set_cons_succ]
            have Hb9W := hid (lnGo hb HBW5.out)
            go_wp2_with fail
            go_roundw
            case rel => exact ⟨k + 1, by omega, by go_num, Hnx, Hb9W⟩
            case measure => simp [intOf] <;> omega
        · obtain ⟨k1, hk1⟩ : ∃ k1 : Nat, k = k1 + 1 := ⟨k - 1, by omega⟩
          have HK0 : Hid (0 < k) := hid (by omega)
          have hka : k ≤ k1 + 1 := by omega
          have hkb : k1 + 1 ≤ k := by omega
          have hk1t : k - 1 < l.length := by omega
          have hp1 := Hpre.out hk1t (by omega)
          rw [show o + (k - 1) * 3 + 2 = o + k1 * 3 + 2 by rw [hk1, Nat.add_sub_cancel]] at hp1
          obtain ⟨t', ht'⟩ : ∃ t', t' = l[k - 1].2 := ⟨_, rfl⟩
          have et' : l[k - 1].2 = t' := ht'.symm
          have hp1' : w.cell? ⟨b, o + k1 * 3 + 2, none⟩ = some (.int .i64 t') := by rw [hp1, ht']
          have HS0 := HS
          have HS : Hid (∀ w', Below W5.heap.size W5 w' → w'.cell? ⟨wr.heap.size, 0, none⟩ = some (.bool d) ∧ w'.cell? ⟨wr.heap.size, 1, none⟩ = some (.slice q n cq) ∧ w'.cell? ⟨wr.heap.size, 2, none⟩ = some (.int .i64 t) ∧ w'.cell? ⟨w.heap.size, 0, none⟩ = some (.slice (some ⟨b, o, none⟩) L cp) ∧ w'.cell? ⟨b, o + k1 * 3 + 2, none⟩ = some (.int .i64 t')) := hid fun w' hb' => by
            obtain ⟨t0, t1, t2, t3, -⟩ := HS0.out w' hb'
            exact ⟨t0, t1, t2, t3, ((lnGo hb' HBw5.out).cell (p := ⟨b, o + k1 * 3 + 2, none⟩) hb).trans hp1'⟩
          have hk1L : (k1 : Int) < (L : Int) := by omega
          clear HS0 hp1 hp1' Hpre HSg0 hs0 ht' hk1 hk0
          by_cases htt : t ≤ t'
          · have htt' : decide (t ≤ t') = true := by simpa using htt
            have Hno : Hid (¬ lnIs l) := hid fun hI => by
              have := ((Hstep.out).1 (lnIs_take hI _)).2.2 (by omega) hk1t
              rw [et'] at this
              omega
            clear hc0 Hstep htt HI et'
            go_upto_region 4 with fail
            rw [← hW5]
            clear hW5 y0 y1 y2
            refine wp_region_facts (w0 := W5) 20 0 [13, 14, 15, 16, 17, 18, 19, 20, 21, 22, 23, 24, 25, 26, 27, 28, 29, 30, 31, 32] [u13, u14, u15, u16, u17, u18, u19, u20, u21, u22, u23, u24, u25, u26, u27, u28, u29, u30, u31, u32]
              (fun i => match i with | 0 => lnE (.pointer (some ⟨wr.heap.size, 0, none⟩)) | 1 => lnE (.agg #[.bool d, .slice q n cq]) | 2 => lnE (.int .i64 c.sign) | 3 => lnE (.bool false) | 4 => lnE (.bool false) | 5 => lnE (.int .i64 (k : Nat)) | 6 => lnE (.bool true) | 7 => lnE (.bool true) | 8 => lnE (.pointer (some ⟨w.heap.size, 0, none⟩)) | 9 => lnE (.slice (some ⟨b, o, none⟩) L cp) | 10 => lnE (.int .i64 (k : Nat)) | 11 => lnE (.int .i64 (k1 : Nat)) | 12 => lnE (.pointer (some ⟨b, o + k1 * 3, none⟩)) | 13 => lnE (.pointer (some ⟨b, o + k1 * 3 + 2, none⟩)) | 14 => lnE (.int .i64 t') | 15 => lnE (.pointer (some ⟨wr.heap.size, 2, none⟩)) | 16 => lnE (.int .i64 t) | 17 => lnE (.bool true) | 18 => lnE (.bool true) | _ => lnE (.bool true)) [] (by kernel_rfl) (by kernel_rfl) (by kernel_rfl) (by kernel_rfl) (by decide) rfl (by kernel_rfl) rfl (by simp) ?he3 ?_ ?_ ?_
            case he3 => simp only [putAll, Act.put, List.setIfInBounds_toArray, List.set_cons_zero, List.set_cons_succ]
            · intro i hi; simp at hi
            · intro i o hi ho vs wx hvl hb hdep K hK
              have hvs := vlen20 hvl
              obtain ⟨s13, s14, s15, s16, s17, s18, s19, s20, s21, s22, s23, s24, s25, s26, s27, s28, s29, s30, s31, s32, rfl⟩ := hvs
              clear hvl
              have hk5 := HS.out wx hb
              obtain ⟨y3, y4, y5, y6, y7⟩ := hk5
              rcases i with _ | _ | _ | _ | _ | _ | _ | _ | _ | _ | _ | _ | _ | _ | _ | _ | _ | _ | _ | _ | i
              all_goals (simp only [List.getElem?_toArray, List.getElem?_cons_zero, List.getElem?_cons_succ, Option.some.injEq] at ho)
              all_goals try (subst ho)
              all_goals try simp only [putAll, Act.put, List.setIfInBounds_toArray, List.set_cons_zero, List.set_cons_succ]
              · go_simp
                have hK' := hK.out
                simp only [putAll, Act.put, List.setIfInBounds_toArray, List.set_cons_zero, List.set_cons_succ] at hK'
                exact hK' _ _ rfl (Below.refl _ _) (by simp)
              · have e0 : s13 = _ := hdep ⟨0, .data⟩ (by simp) rfl
                have e0 := e0.symm
                subst e0
                go_simp
                have hK' := hK.out
                simp only [putAll, Act.put, List.setIfInBounds_toArray, List.set_cons_zero, List.set_cons_succ] at hK'
                exact hK' _ _ rfl (Below.refl _ _) (by simp)
              · have e1 : s14 = _ := hdep ⟨1, .data⟩ (by simp) rfl
                have e1 := e1.symm
                subst e1
                go_simp
                go_simp
                refine (HSg.out wx hb).mono ?_
                rintro e wy ⟨rfl, hby⟩
                go_wp2_with fail
                have hK' := hK.out
                simp only [putAll, Act.put, List.setIfInBounds_toArray, List.set_cons_zero, List.set_cons_succ] at hK'
                exact hK' _ _ rfl hby (by simp)
              · have e2 : s15 = _ := hdep ⟨2, .data⟩ (by simp) rfl
                have e2 := e2.symm
                subst e2
                go_simp
                have hK' := hK.out
                simp only [putAll, Act.put, List.setIfInBounds_toArray, List.set_cons_zero, List.set_cons_succ] at hK'
                exact hK' _ _ (show Value.bool (c.sign == 0) = .bool false by rw [HsE.out]) (Below.refl _ _) (by simp)
              · have e3 : s16 = _ := hdep ⟨3, .data⟩ (by simp) rfl
                have e3 := e3.symm
                subst e3
                go_simp
                have hK' := hK.out
                simp only [putAll, Act.put, List.setIfInBounds_toArray, List.set_cons_zero, List.set_cons_succ] at hK'
                exact hK' _ _ rfl (Below.refl _ _) (by simp)
              · have eg : s17 = _ := hdep ⟨4, .guard⟩ (by simp) rfl
                have eg := eg.symm
                subst eg
                go_simp
                have hK' := hK.out
                simp only [putAll, Act.put, List.setIfInBounds_toArray, List.set_cons_zero, List.set_cons_succ] at hK'
                exact hK' _ _ rfl (Below.refl _ _) (by simp)
              · have e5 : s18 = _ := hdep ⟨5, .data⟩ (by simp) rfl
                have e5 := e5.symm
                subst e5
                have eg : s17 = _ := hdep ⟨4, .guard⟩ (by simp) rfl
                have eg := eg.symm
                subst eg
                go_simp
                have hK' := hK.out
                simp only [putAll, Act.put, List.setIfInBounds_toArray, List.set_cons_zero, List.set_cons_succ] at hK'
                exact hK' _ _ (show _ = Value.bool true by first | rfl | (have := HK0.out; simp [this])) (Below.refl _ _) (by simp)
              · have e6 : s19 = _ := hdep ⟨6, .data⟩ (by simp) rfl
                have e6 := e6.symm
                subst e6
                have eg : s17 = _ := hdep ⟨4, .guard⟩ (by simp) rfl
                have eg := eg.symm
                subst eg
                go_simp
                have hK' := hK.out
                simp only [putAll, Act.put, List.setIfInBounds_toArray, List.set_cons_zero, List.set_cons_succ] at hK'
                exact hK' _ _ rfl (Below.refl _ _) (by simp)
              · have eg : s20 = _ := hdep ⟨7, .guard⟩ (by simp) rfl
                have eg := eg.symm
                subst eg
                go_simp
                have hK' := hK.out
                simp only [putAll, Act.put, List.setIfInBounds_toArray, List.set_cons_zero, List.set_cons_succ] at hK'
                exact hK' _ _ rfl (Below.refl _ _) (by simp)
              · have e8 : s21 = _ := hdep ⟨8, .data⟩ (by simp) rfl
                have e8 := e8.symm
                subst e8
                have eg : s20 = _ := hdep ⟨7, .guard⟩ (by simp) rfl
                have eg := eg.symm
                subst eg
                go_simp
                have hK' := hK.out
                simp only [putAll, Act.put, List.setIfInBounds_toArray, List.set_cons_zero, List.set_cons_succ] at hK'
                exact hK' _ _ rfl (Below.refl _ _) (by simp)
              · have eg : s20 = _ := hdep ⟨7, .guard⟩ (by simp) rfl
                have eg := eg.symm
                subst eg
                go_simp
                have hK' := hK.out
                simp only [putAll, Act.put, List.setIfInBounds_toArray, List.set_cons_zero, List.set_cons_succ] at hK'
                exact hK' _ _ rfl (Below.refl _ _) (by simp)
              · have e10 : s23 = _ := hdep ⟨10, .data⟩ (by simp) rfl
                have e10 := e10.symm
                subst e10
                have eg : s20 = _ := hdep ⟨7, .guard⟩ (by simp) rfl
                have eg := eg.symm
                subst eg
                go_simp
                have hK' := hK.out
                simp only [putAll, Act.put, List.setIfInBounds_toArray, List.set_cons_zero, List.set_cons_succ] at hK'
                exact hK' _ _ (show _ = Value.int .i64 (k1 : Nat) by first | rfl | (congr 1; omega) | (rw [IntWalk.i64_in _ (by omega)]; congr 1; omega)) (Below.refl _ _) (by simp)
              · have e9 : s22 = _ := hdep ⟨9, .data⟩ (by simp) rfl
                have e9 := e9.symm
                subst e9
                have e11 : s24 = _ := hdep ⟨11, .data⟩ (by simp) rfl
                have e11 := e11.symm
                subst e11
                have eg : s20 = _ := hdep ⟨7, .guard⟩ (by simp) rfl
                have eg := eg.symm
                subst eg
                go_simp
                have hK' := hK.out
                simp only [putAll, Act.put, List.setIfInBounds_toArray, List.set_cons_zero, List.set_cons_succ] at hK'
                exact hK' _ _ rfl (Below.refl _ _) (by simp)
              · have e12 : s25 = _ := hdep ⟨12, .data⟩ (by simp) rfl
                have e12 := e12.symm
                subst e12
                have eg : s20 = _ := hdep ⟨7, .guard⟩ (by simp) rfl
                have eg := eg.symm
                subst eg
                go_simp
                have hK' := hK.out
                simp only [putAll, Act.put, List.setIfInBounds_toArray, List.set_cons_zero, List.set_cons_succ] at hK'
                exact hK' _ _ rfl (Below.refl _ _) (by simp)
              · have e13 : s26 = _ := hdep ⟨13, .data⟩ (by simp) rfl
                have e13 := e13.symm
                subst e13
                have eg : s20 = _ := hdep ⟨7, .guard⟩ (by simp) rfl
                have eg := eg.symm
                subst eg
                go_simp
                have hK' := hK.out
                simp only [putAll, Act.put, List.setIfInBounds_toArray, List.set_cons_zero, List.set_cons_succ] at hK'
                exact hK' _ _ rfl (Below.refl _ _) (by simp)
              · have eg : s20 = _ := hdep ⟨7, .guard⟩ (by simp) rfl
                have eg := eg.symm
                subst eg
                go_simp
                have hK' := hK.out
                simp only [putAll, Act.put, List.setIfInBounds_toArray, List.set_cons_zero, List.set_cons_succ] at hK'
                exact hK' _ _ rfl (Below.refl _ _) (by simp)
              · have e15 : s28 = _ := hdep ⟨15, .data⟩ (by simp) rfl
                have e15 := e15.symm
                subst e15
                have eg : s20 = _ := hdep ⟨7, .guard⟩ (by simp) rfl
                have eg := eg.symm
                subst eg
                go_simp
                have hK' := hK.out
                simp only [putAll, Act.put, List.setIfInBounds_toArray, List.set_cons_zero, List.set_cons_succ] at hK'
                exact hK' _ _ rfl (Below.refl _ _) (by simp)
              · have e14 : s27 = _ := hdep ⟨14, .data⟩ (by simp) rfl
                have e14 := e14.symm
                subst e14
                have e16 : s29 = _ := hdep ⟨16, .data⟩ (by simp) rfl
                have e16 := e16.symm
                subst e16
                have eg : s20 = _ := hdep ⟨7, .guard⟩ (by simp) rfl
                have eg := eg.symm
                subst eg
                go_simp
                have hK' := hK.out
                simp only [putAll, Act.put, List.setIfInBounds_toArray, List.set_cons_zero, List.set_cons_succ] at hK'
                exact hK' _ _ rfl (Below.refl _ _) (by simp)
              · have e7 : s20 = _ := hdep ⟨7, .data⟩ (by simp) rfl
                have e7 := e7.symm
                subst e7
                have e17 : s30 = _ := hdep ⟨17, .data⟩ (by simp) rfl
                have e17 := e17.symm
                subst e17
                have eg : s17 = _ := hdep ⟨4, .guard⟩ (by simp) rfl
                have eg := eg.symm
                subst eg
                go_simp
                have hK' := hK.out
                simp only [putAll, Act.put, List.setIfInBounds_toArray, List.set_cons_zero, List.set_cons_succ] at hK'
                exact hK' _ _ rfl (Below.refl _ _) (by simp)
              · have e4 : s17 = _ := hdep ⟨4, .data⟩ (by simp) rfl
                have e4 := e4.symm
                subst e4
                have e18 : s31 = _ := hdep ⟨18, .data⟩ (by simp) rfl
                have e18 := e18.symm
                subst e18
                go_simp
                have hK' := hK.out
                simp only [putAll, Act.put, List.setIfInBounds_toArray, List.set_cons_zero, List.set_cons_succ] at hK'
                exact hK' _ _ rfl (Below.refl _ _) (by simp)
              · omega
            · intro vs wx hvl hb hf hdist
              have hvs := vlen20 hvl
              obtain ⟨s13, s14, s15, s16, s17, s18, s19, s20, s21, s22, s23, s24, s25, s26, s27, s28, s29, s30, s31, s32, rfl⟩ := hvs
              have f19 : s32 = _ := hf 19 (by decide)
              have f19 := f19.symm
              subst f19
              have Hb9 := hid (lnGo hb HBw5.out)
              clear hf hvl hdist
              refine wpAny_done (by kernel_rfl) ?_ _
              try simp only [putAll, Act.put, List.setIfInBounds_toArray, List.set_cons_zero, List.set_cons_succ]
              have hd : decide (lnIs l) = false := by simpa using Hno.out
              go_wp2
              go_ret
              exact ⟨by rw [hd]; rfl, Hb9.out⟩
          · have htt' : decide (t ≤ t') = false := by simpa using htt
            have Hnx : Hid (lnIs (l.take (k + 1))) := hid ((Hstep.out).2 ⟨HI.out, hc0, fun _ _ => by rw [et']; omega⟩)
            clear hc0 Hstep htt HI et'
            go_upto_region 4 with fail
            rw [← hW5]
            clear hW5 y0 y1 y2
            refine wp_region_facts (w0 := W5) 20 0 [13, 14, 15, 16, 17, 18, 19, 20, 21, 22, 23, 24, 25, 26, 27, 28, 29, 30, 31, 32] [u13, u14, u15, u16, u17, u18, u19, u20, u21, u22, u23, u24, u25, u26, u27, u28, u29, u30, u31, u32]
              (fun i => match i with | 0 => lnE (.pointer (some ⟨wr.heap.size, 0, none⟩)) | 1 => lnE (.agg #[.bool d, .slice q n cq]) | 2 => lnE (.int .i64 c.sign) | 3 => lnE (.bool false) | 4 => lnE (.bool false) | 5 => lnE (.int .i64 (k : Nat)) | 6 => lnE (.bool true) | 7 => lnE (.bool true) | 8 => lnE (.pointer (some ⟨w.heap.size, 0, none⟩)) | 9 => lnE (.slice (some ⟨b, o, none⟩) L cp) | 10 => lnE (.int .i64 (k : Nat)) | 11 => lnE (.int .i64 (k1 : Nat)) | 12 => lnE (.pointer (some ⟨b, o + k1 * 3, none⟩)) | 13 => lnE (.pointer (some ⟨b, o + k1 * 3 + 2, none⟩)) | 14 => lnE (.int .i64 t') | 15 => lnE (.pointer (some ⟨wr.heap.size, 2, none⟩)) | 16 => lnE (.int .i64 t) | 17 => lnE (.bool false) | 18 => lnE (.bool false) | _ => lnE (.bool false)) [] (by kernel_rfl) (by kernel_rfl) (by kernel_rfl) (by kernel_rfl) (by decide) rfl (by kernel_rfl) rfl (by simp) ?he4 ?_ ?_ ?_
            case he4 => simp only [putAll, Act.put, List.setIfInBounds_toArray, List.set_cons_zero, List.set_cons_succ]
            · intro i hi; simp at hi
            · intro i o hi ho vs wx hvl hb hdep K hK
              have hvs := vlen20 hvl
              obtain ⟨s13, s14, s15, s16, s17, s18, s19, s20, s21, s22, s23, s24, s25, s26, s27, s28, s29, s30, s31, s32, rfl⟩ := hvs
              clear hvl
              have hk5 := HS.out wx hb
              obtain ⟨y3, y4, y5, y6, y7⟩ := hk5
              rcases i with _ | _ | _ | _ | _ | _ | _ | _ | _ | _ | _ | _ | _ | _ | _ | _ | _ | _ | _ | _ | i
              all_goals (simp only [List.getElem?_toArray, List.getElem?_cons_zero, List.getElem?_cons_succ, Option.some.injEq] at ho)
              all_goals try (subst ho)
              all_goals try simp only [putAll, Act.put, List.setIfInBounds_toArray, List.set_cons_zero, List.set_cons_succ]
              · go_simp
                have hK' := hK.out
                simp only [putAll, Act.put, List.setIfInBounds_toArray, List.set_cons_zero, List.set_cons_succ] at hK'
                exact hK' _ _ rfl (Below.refl _ _) (by simp)
              · have e0 : s13 = _ := hdep ⟨0, .data⟩ (by simp) rfl
                have e0 := e0.symm
                subst e0
                go_simp
                have hK' := hK.out
                simp only [putAll, Act.put, List.setIfInBounds_toArray, List.set_cons_zero, List.set_cons_succ] at hK'
                exact hK' _ _ rfl (Below.refl _ _) (by simp)
              · have e1 : s14 = _ := hdep ⟨1, .data⟩ (by simp) rfl
                have e1 := e1.symm
                subst e1
                go_simp
                go_simp
                refine (HSg.out wx hb).mono ?_
                rintro e wy ⟨rfl, hby⟩
                go_wp2_with fail
                have hK' := hK.out
                simp only [putAll, Act.put, List.setIfInBounds_toArray, List.set_cons_zero, List.set_cons_succ] at hK'
                exact hK' _ _ rfl hby (by simp)
              · have e2 : s15 = _ := hdep ⟨2, .data⟩ (by simp) rfl
                have e2 := e2.symm
                subst e2
                go_simp
                have hK' := hK.out
                simp only [putAll, Act.put, List.setIfInBounds_toArray, List.set_cons_zero, List.set_cons_succ] at hK'
                exact hK' _ _ (show Value.bool (c.sign == 0) = .bool false by rw [HsE.out]) (Below.refl _ _) (by simp)
              · have e3 : s16 = _ := hdep ⟨3, .data⟩ (by simp) rfl
                have e3 := e3.symm
                subst e3
                go_simp
                have hK' := hK.out
                simp only [putAll, Act.put, List.setIfInBounds_toArray, List.set_cons_zero, List.set_cons_succ] at hK'
                exact hK' _ _ rfl (Below.refl _ _) (by simp)
              · have eg : s17 = _ := hdep ⟨4, .guard⟩ (by simp) rfl
                have eg := eg.symm
                subst eg
                go_simp
                have hK' := hK.out
                simp only [putAll, Act.put, List.setIfInBounds_toArray, List.set_cons_zero, List.set_cons_succ] at hK'
                exact hK' _ _ rfl (Below.refl _ _) (by simp)
              · have e5 : s18 = _ := hdep ⟨5, .data⟩ (by simp) rfl
                have e5 := e5.symm
                subst e5
                have eg : s17 = _ := hdep ⟨4, .guard⟩ (by simp) rfl
                have eg := eg.symm
                subst eg
                go_simp
                have hK' := hK.out
                simp only [putAll, Act.put, List.setIfInBounds_toArray, List.set_cons_zero, List.set_cons_succ] at hK'
                exact hK' _ _ (show _ = Value.bool true by first | rfl | (have := HK0.out; simp [this])) (Below.refl _ _) (by simp)
              · have e6 : s19 = _ := hdep ⟨6, .data⟩ (by simp) rfl
                have e6 := e6.symm
                subst e6
                have eg : s17 = _ := hdep ⟨4, .guard⟩ (by simp) rfl
                have eg := eg.symm
                subst eg
                go_simp
                have hK' := hK.out
                simp only [putAll, Act.put, List.setIfInBounds_toArray, List.set_cons_zero, List.set_cons_succ] at hK'
                exact hK' _ _ rfl (Below.refl _ _) (by simp)
              · have eg : s20 = _ := hdep ⟨7, .guard⟩ (by simp) rfl
                have eg := eg.symm
                subst eg
                go_simp
                have hK' := hK.out
                simp only [putAll, Act.put, List.setIfInBounds_toArray, List.set_cons_zero, List.set_cons_succ] at hK'
                exact hK' _ _ rfl (Below.refl _ _) (by simp)
              · have e8 : s21 = _ := hdep ⟨8, .data⟩ (by simp) rfl
                have e8 := e8.symm
                subst e8
                have eg : s20 = _ := hdep ⟨7, .guard⟩ (by simp) rfl
                have eg := eg.symm
                subst eg
                go_simp
                have hK' := hK.out
                simp only [putAll, Act.put, List.setIfInBounds_toArray, List.set_cons_zero, List.set_cons_succ] at hK'
                exact hK' _ _ rfl (Below.refl _ _) (by simp)
              · have eg : s20 = _ := hdep ⟨7, .guard⟩ (by simp) rfl
                have eg := eg.symm
                subst eg
                go_simp
                have hK' := hK.out
                simp only [putAll, Act.put, List.setIfInBounds_toArray, List.set_cons_zero, List.set_cons_succ] at hK'
                exact hK' _ _ rfl (Below.refl _ _) (by simp)
              · have e10 : s23 = _ := hdep ⟨10, .data⟩ (by simp) rfl
                have e10 := e10.symm
                subst e10
                have eg : s20 = _ := hdep ⟨7, .guard⟩ (by simp) rfl
                have eg := eg.symm
                subst eg
                go_simp
                have hK' := hK.out
                simp only [putAll, Act.put, List.setIfInBounds_toArray, List.set_cons_zero, List.set_cons_succ] at hK'
                exact hK' _ _ (show _ = Value.int .i64 (k1 : Nat) by first | rfl | (congr 1; omega) | (rw [IntWalk.i64_in _ (by omega)]; congr 1; omega)) (Below.refl _ _) (by simp)
              · have e9 : s22 = _ := hdep ⟨9, .data⟩ (by simp) rfl
                have e9 := e9.symm
                subst e9
                have e11 : s24 = _ := hdep ⟨11, .data⟩ (by simp) rfl
                have e11 := e11.symm
                subst e11
                have eg : s20 = _ := hdep ⟨7, .guard⟩ (by simp) rfl
                have eg := eg.symm
                subst eg
                go_simp
                have hK' := hK.out
                simp only [putAll, Act.put, List.setIfInBounds_toArray, List.set_cons_zero, List.set_cons_succ] at hK'
                exact hK' _ _ rfl (Below.refl _ _) (by simp)
              · have e12 : s25 = _ := hdep ⟨12, .data⟩ (by simp) rfl
                have e12 := e12.symm
                subst e12
                have eg : s20 = _ := hdep ⟨7, .guard⟩ (by simp) rfl
                have eg := eg.symm
                subst eg
                go_simp
                have hK' := hK.out
                simp only [putAll, Act.put, List.setIfInBounds_toArray, List.set_cons_zero, List.set_cons_succ] at hK'
                exact hK' _ _ rfl (Below.refl _ _) (by simp)
              · have e13 : s26 = _ := hdep ⟨13, .data⟩ (by simp) rfl
                have e13 := e13.symm
                subst e13
                have eg : s20 = _ := hdep ⟨7, .guard⟩ (by simp) rfl
                have eg := eg.symm
                subst eg
                go_simp
                have hK' := hK.out
                simp only [putAll, Act.put, List.setIfInBounds_toArray, List.set_cons_zero, List.set_cons_succ] at hK'
                exact hK' _ _ rfl (Below.refl _ _) (by simp)
              · have eg : s20 = _ := hdep ⟨7, .guard⟩ (by simp) rfl
                have eg := eg.symm
                subst eg
                go_simp
                have hK' := hK.out
                simp only [putAll, Act.put, List.setIfInBounds_toArray, List.set_cons_zero, List.set_cons_succ] at hK'
                exact hK' _ _ rfl (Below.refl _ _) (by simp)
              · have e15 : s28 = _ := hdep ⟨15, .data⟩ (by simp) rfl
                have e15 := e15.symm
                subst e15
                have eg : s20 = _ := hdep ⟨7, .guard⟩ (by simp) rfl
                have eg := eg.symm
                subst eg
                go_simp
                have hK' := hK.out
                simp only [putAll, Act.put, List.setIfInBounds_toArray, List.set_cons_zero, List.set_cons_succ] at hK'
                exact hK' _ _ rfl (Below.refl _ _) (by simp)
              · have e14 : s27 = _ := hdep ⟨14, .data⟩ (by simp) rfl
                have e14 := e14.symm
                subst e14
                have e16 : s29 = _ := hdep ⟨16, .data⟩ (by simp) rfl
                have e16 := e16.symm
                subst e16
                have eg : s20 = _ := hdep ⟨7, .guard⟩ (by simp) rfl
                have eg := eg.symm
                subst eg
                go_simp
                have hK' := hK.out
                simp only [putAll, Act.put, List.setIfInBounds_toArray, List.set_cons_zero, List.set_cons_succ] at hK'
                exact hK' _ _ rfl (Below.refl _ _) (by simp)
              · have e7 : s20 = _ := hdep ⟨7, .data⟩ (by simp) rfl
                have e7 := e7.symm
                subst e7
                have e17 : s30 = _ := hdep ⟨17, .data⟩ (by simp) rfl
                have e17 := e17.symm
                subst e17
                have eg : s17 = _ := hdep ⟨4, .guard⟩ (by simp) rfl
                have eg := eg.symm
                subst eg
                go_simp
                have hK' := hK.out
                simp only [putAll, Act.put, List.setIfInBounds_toArray, List.set_cons_zero, List.set_cons_succ] at hK'
                exact hK' _ _ rfl (Below.refl _ _) (by simp)
              · have e4 : s17 = _ := hdep ⟨4, .data⟩ (by simp) rfl
                have e4 := e4.symm
                subst e4
                have e18 : s31 = _ := hdep ⟨18, .data⟩ (by simp) rfl
                have e18 := e18.symm
                subst e18
                go_simp
                have hK' := hK.out
                simp only [putAll, Act.put, List.setIfInBounds_toArray, List.set_cons_zero, List.set_cons_succ] at hK'
                exact hK' _ _ rfl (Below.refl _ _) (by simp)
              · omega
            · intro vs wx hvl hb hf hdist
              have hvs := vlen20 hvl
              obtain ⟨s13, s14, s15, s16, s17, s18, s19, s20, s21, s22, s23, s24, s25, s26, s27, s28, s29, s30, s31, s32, rfl⟩ := hvs
              have f19 : s32 = _ := hf 19 (by decide)
              have f19 := f19.symm
              subst f19
              have Hb9 := hid (lnGo hb HBw5.out)
              clear hf hvl hdist
              refine wpAny_done (by kernel_rfl) ?_ _
              try simp only [putAll, Act.put, List.setIfInBounds_toArray, List.set_cons_zero, List.set_cons_succ]
              have Hb9W := hid (lnGo hb HBW5.out)
              go_wp2_with fail
              go_roundw
              case rel => exact ⟨k + 1, by omega, by go_num, Hnx, Hb9W⟩
              case measure => simp [intOf] <;> omega
    · obtain rfl : k = L := by omega
      have hfin : l.take k = l := by rw [HLL.out, List.take_length]
      have HI' := HI.out
      rw [hfin] at HI'
      have hd : decide (lnIs l) = true := by simpa using HI'
      have HBf := hid (lnGo HB.out B0.out)
      clear HI HI' hfin HB
      go_wp2
      go_ret
      exact ⟨by rw [hd]; rfl, HBf.out⟩
end Go.Proofs.YtjfehknilofdjaaGreat
/- elenchuslaw06.LinearSums. -/
namespace Go.Proofs.YtjfehknilofdjaaGreat
open Go.RowKit Big

theorem LxQ.below {w w' : World} {v : Value} {x : Lx} (h : LxQ w v x) (hb : Below w.heap.size w w') : LxQ w' v x := by
  obtain ⟨p, n, cp, s, e, h1, h2, h3, h4⟩ := h
  exact ⟨p, n, cp, s, e, h1.below hb, h2.below hb, h3, h4⟩
theorem LxQ.agg3 {w : World} {v : Value} {x : Lx} (h : LxQ w v x) : ∃ p c q k d, v = .agg #[.slice p x.parts.length c, .bool x.rest.neg, .slice q k d] := by
  obtain ⟨p, n, cp, s, rfl, h1, h2, -⟩ := h
  obtain ⟨q, cq, e2, -⟩ := h2
  injection e2 with e1 e2
  injection e2 with e2 _
  subst e1 e2
  exact ⟨_, _, _, _, _, rfl⟩
theorem lnPut_len (p : Int × Int) : ∀ l, (lnPut l p).length ≤ l.length + 1
  | [] => by simp [lnPut]
  | x :: l => by
    have ih := lnPut_len p l
    unfold lnPut
    split
    · simp
    · split
      · simp
      · simp only [List.length_cons]; omega
theorem lnAll_len : ∀ (ps l : List (Int × Int)), (ps.foldl lnPut l).length ≤ l.length + ps.length
  | [], l => by simp
  | p :: ps, l => by
    rw [List.foldl_cons]
    have := lnAll_len ps (lnPut l p)
    have := lnPut_len p l
    simp only [List.length_cons]
    omega
theorem lnSum_len (ps : List (Int × Int)) : (lnSum ps).length ≤ ps.length := by
  have := lnAll_len ps []
  unfold lnSum lnClean
  exact Nat.le_trans (List.length_filter_le _ _) (by simpa using this)
theorem lnTimes_len (k : Int) (ps : List (Int × Int)) : (lnTimes k ps).length = ps.length := by unfold lnTimes; rw [List.length_map]
theorem vlen23 {l : List Value} (h : l.length = 23) : ∃ a0 a1 a2 a3 a4 a5 a6 a7 a8 a9 a10 a11 a12 a13 a14 a15 a16 a17 a18 a19 a20 a21 a22, l = [a0, a1, a2, a3, a4, a5, a6, a7, a8, a9, a10, a11, a12, a13, a14, a15, a16, a17, a18, a19, a20, a21, a22] := by
  match l, h with
  | [a0, a1, a2, a3, a4, a5, a6, a7, a8, a9, a10, a11, a12, a13, a14, a15, a16, a17, a18, a19, a20, a21, a22], _ => exact ⟨a0, a1, a2, a3, a4, a5, a6, a7, a8, a9, a10, a11, a12, a13, a14, a15, a16, a17, a18, a19, a20, a21, a22, rfl⟩
theorem lnT_shape {w : World} {v : Value} {a : List (Int × Int) × Int} (h : LnT w v a) : ∃ p n c q k d, v = .agg #[.slice p n c, .bool (decide (a.2 < 0)), .slice q k d] := by
  obtain ⟨pv, s, rfl, ⟨p, c, rfl, -⟩, h2⟩ := h
  obtain ⟨q, k, d, e, -⟩ := h2.shape
  obtain rfl : s = .slice q k d := by injection e with e; simp at e; exact e
  exact ⟨_, _, _, _, _, _, rfl⟩
set_option maxRecDepth 100000 in
set_option maxHeartbeats 12800000 in
theorem lawSums6_any (va vb : Value) (x y : Lx) (z : Nx) (n s : Value) (w : World) (ha : LxQ w va x) (hb : LxQ w vb y) (hk : NxQ w [n, s] z) : Calls Tryz.prog 3 #[va, vb, .agg #[n, s]] w (RBool true w) := by
  obtain ⟨p0, c0, q0, k0, d0, rfl⟩ := ha.agg3
  obtain ⟨p1, c1, q1, k1, d1, rfl⟩ := hb.agg3
  have HA := hid ha; have HB := hid hb; have HK0 := hid hk
  obtain ⟨pk, ck, ek, -, -⟩ := hk
  injection ek with e1 ek
  injection ek with e2 _
  subst e1 e2
  have Hzf : Hid (z.fit ↔ z.words.length ≤ 6) := hid Iff.rfl
  obtain ⟨n0, hn⟩ : ∃ n, n = x.parts.length := ⟨_, rfl⟩
  obtain ⟨b0, hb0⟩ : ∃ n, n = x.rest.neg := ⟨_, rfl⟩
  obtain ⟨n1, hn1⟩ : ∃ n, n = y.parts.length := ⟨_, rfl⟩
  obtain ⟨b1, hb1⟩ : ∃ n, n = y.rest.neg := ⟨_, rfl⟩
  obtain ⟨nk, hnk⟩ : ∃ n, n = z.words.length := ⟨_, rfl⟩
  obtain ⟨bk, hbk⟩ : ∃ n, n = z.neg := ⟨_, rfl⟩
  rw [← hn, ← hb0] at HA ⊢
  rw [← hn1, ← hb1] at HB ⊢
  rw [← hnk, ← hbk] at HK0 ⊢
  rw [← hnk] at Hzf
  clear hn hb0 hn1 hb1 hnk hbk ha hb
  obtain ⟨W3, hW⟩ : ∃ W3, W3 = ((w.alloc (.cells #[.slice p0 n0 c0, .bool b0, .slice q0 k0 d0] 28)).alloc (.cells #[.slice p1 n1 c1, .bool b1, .slice q1 k1 d1] 28)).alloc (.cells #[.bool bk, .slice pk nk ck] 26) := ⟨_, rfl⟩
  have hb3 : Below w.heap.size w W3 := by rw [hW]; exact ((below1 _ _).alloc (by simp) _).alloc (by simp; omega) _
  have z3 : W3.heap.size = w.heap.size + 3 := by rw [hW]; simp
  have e0 : W3.heap[w.heap.size]? = some (.cells #[.slice p0 n0 c0, .bool b0, .slice q0 k0 d0] 28 (0, 0)) := by rw [hW, heap_alloc_old _ _ (by simp; omega), heap_alloc_old _ _ (by simp)]; exact heap_alloc_new _ _
  have e1 : W3.heap[w.heap.size + 1]? = some (.cells #[.slice p1 n1 c1, .bool b1, .slice q1 k1 d1] 28 (0, 0)) := by
    rw [hW, heap_alloc_old _ _ (by simp)]
    have := heap_alloc_new (w.alloc (.cells #[.slice p0 n0 c0, .bool b0, .slice q0 k0 d0] 28)) (.cells #[.slice p1 n1 c1, .bool b1, .slice q1 k1 d1] 28)
    rwa [size_alloc] at this
  have e2 : W3.heap[w.heap.size + 1 + 1]? = some (.cells #[.bool bk, .slice pk nk ck] 26 (0, 0)) := by
    have := heap_alloc_new ((w.alloc (.cells #[.slice p0 n0 c0, .bool b0, .slice q0 k0 d0] 28)).alloc (.cells #[.slice p1 n1 c1, .bool b1, .slice q1 k1 d1] 28)) (.cells #[.bool bk, .slice pk nk ck] 26)
    rw [size_alloc, size_alloc] at this
    rw [hW]; exact this
  -- the three variables stay
  obtain ⟨Bx, hBx⟩ : ∃ Bx : World → Prop, Bx = fun w' => w'.heap[w.heap.size]? = some (.cells #[.slice p0 n0 c0, .bool b0, .slice q0 k0 d0] 28 (0, 0)) ∧ w'.heap[w.heap.size + 1]? = some (.cells #[.slice p1 n1 c1, .bool b1, .slice q1 k1 d1] 28 (0, 0)) ∧ w'.heap[w.heap.size + 1 + 1]? = some (.cells #[.bool bk, .slice pk nk ck] 26 (0, 0)) ∧ w.heap.size + 3 ≤ w'.heap.size := ⟨_, rfl⟩
  have HBX : Hid (∀ u u', Bx u → Below u.heap.size u u' → Bx u') := hid (by
    intro u u' h hb
    rw [hBx] at h ⊢
    obtain ⟨h1, h2, h3, h4⟩ := h
    exact ⟨(hb.block _ (by omega)).trans h1, (hb.block _ (by omega)).trans h2, (hb.block _ (by omega)).trans h3, Nat.le_trans h4 hb.size⟩)
  have HBS : Hid (∀ u g a b c, Bx u → w.heap.size + 3 ≤ g → Bx (st3 u g a b c)) := hid (by
    intro u g a b c h hg
    rw [hBx] at h ⊢
    obtain ⟨h1, h2, h3, h4⟩ := h
    have hA := st3_apart u g a b c
    exact ⟨(hA.block _ (by omega) (by omega)).trans h1, (hA.block _ (by omega) (by omega)).trans h2, (hA.block _ (by omega) (by omega)).trans h3, Nat.le_trans h4 hA.size⟩)
  have HBC : Hid (∀ u, Bx u → (u.cell? ⟨w.heap.size, 0, none⟩ = some (.slice p0 n0 c0) ∧ u.cell? ⟨w.heap.size, 1, none⟩ = some (.bool b0) ∧ u.cell? ⟨w.heap.size, 2, none⟩ = some (.slice q0 k0 d0)) ∧ (u.cell? ⟨w.heap.size + 1, 0, none⟩ = some (.slice p1 n1 c1) ∧ u.cell? ⟨w.heap.size + 1, 1, none⟩ = some (.bool b1) ∧ u.cell? ⟨w.heap.size + 1, 2, none⟩ = some (.slice q1 k1 d1)) ∧
      (u.cell? ⟨w.heap.size + 1 + 1, 0, none⟩ = some (.bool bk) ∧ u.cell? ⟨w.heap.size + 1 + 1, 1, none⟩ = some (.slice pk nk ck)) ∧ w.heap.size + 3 ≤ u.heap.size) := hid (by
    intro u h
    rw [hBx] at h
    obtain ⟨h1, h2, h3, h4⟩ := h
    exact ⟨lnCells3 h1, lnCells3 h2, ⟨(two_cells h3).1, (two_cells h3).2.1⟩, h4⟩)
  have X3 : Hid (Bx W3) := hid (by rw [hBx]; exact ⟨e0, e1, e2, by omega⟩)
  have H3 := hid hb3
  clear e0 e1 e2 hBx hb3
  go_enter Tryz.func3, Tryz.ntmps3
  go_upto_region 1 with fail
  rw [← hW]
  clear hW
  go_wp2_with fail
  refine (fixed6_any W3).mono ?_
  rintro e w4 ⟨rfl, b4⟩
  have H4 := hid (lnGo b4 H3.out)
  have X4 := hid (HBX.out _ _ X3.out b4)
  clear b4 X3
  obtain ⟨⟨y0, y1, y2⟩, ⟨y3, y4, y5⟩, ⟨y6, y7⟩, hz4⟩ := HBC.out _ X4.out
  have HF1 := hid (Few6_any _ x w4 (HA.out.below H4.out))
  go_upto_region 3 with fail
  go_wp2_with fail
  refine HF1.out.mono ?_
  rintro e w5 ⟨bf, rfl, hfit, b5⟩
  have H5 := hid (lnGo b5 H4.out)
  have X5 := hid (HBX.out _ _ X4.out b5)
  clear b5 X4 y0 y1 y2 y3 y4 y5 y6 y7 HF1
  cases bf with
  | false =>
    clear hfit
    go_wp2
    go_ret
    exact ⟨rfl, H5.out⟩
  | true =>
  have Hfa := hid (hfit rfl)
  clear hfit
  obtain ⟨⟨y0, y1, y2⟩, ⟨y3, y4, y5⟩, ⟨y6, y7⟩, hz5⟩ := HBC.out _ X5.out
  have HF2 := hid (Few6_any _ y w5 (HB.out.below H5.out))
  go_wp2_with fail
  refine HF2.out.mono ?_
  rintro e w6 ⟨bf, rfl, hfit, b6⟩
  have H6 := hid (lnGo b6 H5.out)
  have X6 := hid (HBX.out _ _ X5.out b6)
  clear b6 X5 y0 y1 y2 y3 y4 y5 y6 y7 HF2
  cases bf with
  | false =>
    clear hfit
    go_wp2
    go_ret
    exact ⟨rfl, H6.out⟩
  | true =>
  have Hfb := hid (hfit rfl)
  clear hfit
  obtain ⟨⟨y0, y1, y2⟩, ⟨y3, y4, y5⟩, ⟨y6, y7⟩, hz6⟩ := HBC.out _ X6.out
  by_cases hnk : nk ≤ 6
  case neg =>
    have hd : decide ((6 : Int) < (nk : Int)) = true := by simp; omega
    go_wp2
    go_ret
    exact ⟨rfl, H6.out⟩
  have hd : decide ((6 : Int) < (nk : Int)) = false := by simp; omega
  have Hfk := hid (Hzf.out.2 hnk)
  have LA := hid (HA.out.raw Hfa.out); have LB := hid (HB.out.raw Hfb.out)
  have SA := hid (HA.out.small Hfa.out); have SB := hid (HB.out.small Hfb.out)
  have RK := hid (HK0.out.raw Hfk.out); have SK := hid (HK0.out.small Hfk.out)
  have la : (x.a).1.length ≤ 40 := by show (x.parts.map Px6.p).length ≤ 40; rw [List.length_map]; exact Hfa.out.1
  have lb : (y.a).1.length ≤ 40 := by show (y.parts.map Px6.p).length ≤ 40; rw [List.length_map]; exact Hfb.out.1
  obtain ⟨⟨a1, a2⟩, hxa⟩ : ∃ a, a = x.a := ⟨_, rfl⟩
  obtain ⟨⟨c1', c2'⟩, hyb⟩ : ∃ a, a = y.a := ⟨_, rfl⟩
  obtain ⟨k, hkz⟩ : ∃ k, k = z.z := ⟨_, rfl⟩
  rw [← hxa] at LA SA la
  rw [← hyb] at LB SB lb
  rw [← hkz] at RK SK
  have la : a1.length ≤ 40 := la
  have lb : c1'.length ≤ 40 := lb
  clear hxa hyb hkz HA HB HK0 Hfk Hzf Hfa Hfb hnk
  have S0 : Hid (∀ p ∈ a1 ++ c1', sz W p.1.natAbs ≤ 6) := hid (fun p hp => by
    rcases List.mem_append.1 hp with hp | hp
    · exact SA.out.1 p hp
    · exact SB.out.1 p hp)
  have L1 : Hid ((lnSum (a1 ++ c1')).length ≤ 80) := hid (Nat.le_trans (lnSum_len _) (by rw [List.length_append]; omega))
  have L2 : Hid ((lnSum (lnTimes k a1)).length ≤ 40) := hid (Nat.le_trans (lnSum_len _) (by rw [lnTimes_len]; exact la))
  obtain ⟨bi, hbi⟩ : ∃ b, b = decide (lnIs a1) := ⟨_, rfl⟩
  have HIs : Hid (∀ u, Below w.heap.size w u → Calls Tryz.prog 11 #[.agg #[.slice p0 n0 c0, .bool b0, .slice q0 k0 d0]] u (RBool bi u)) := hid (fun u hu => by rw [hbi]; exact Is_lin _ (a1, a2) u (LA.out.below hu) (Nat.le_trans la (by decide)))
  have HRIs : Hid (∀ u, Below w.heap.size w u → Calls Tryz.prog 12 #[.agg #[.slice p0 n0 c0, .bool b0, .slice q0 k0 d0]] u (RBool bi u)) := hid (fun u hu => by rw [hbi]; exact RIs_lin _ (a1, a2) u (LA.out.below hu) (Nat.le_trans la (by decide)))
  clear hbi S0
  have la := hid la; have lb := hid lb
  go_upto_region 5 with fail
  clear y0 y1 y2 y3 y4 y5 y6 y7
  refine wp_region_facts (w0 := w6) 23 1 [23, 24, 25, 26, 27, 28, 29, 30, 31, 32, 33, 34, 35, 36, 37, 38, 39, 40, 41, 42, 43, 44, 45] [undef, undef, undef, undef, undef, undef, undef, undef, undef, undef, undef, undef, undef, undef, undef, undef, undef, undef, undef, undef, undef, undef, undef]
    (fun i => match i with | 0 => lnE (.agg #[.slice p0 n0 c0, .bool b0, .slice q0 k0 d0]) | 1 => lnE (.agg #[.slice p1 n1 c1, .bool b1, .slice q1 k1 d1]) | 2 => lnS8 (lnSum (a1 ++ c1'), a2 + c2') | 3 => lnE (.agg #[.slice p0 n0 c0, .bool b0, .slice q0 k0 d0]) | 4 => lnE (.agg #[.slice p1 n1 c1, .bool b1, .slice q1 k1 d1]) | 5 => lnS8 (lnSum (a1 ++ c1'), a2 + c2') | 6 => lnE (.bool true) | 7 => lnE (.bool true) | 8 => lnE (.agg #[.slice p0 n0 c0, .bool b0, .slice q0 k0 d0]) | 9 => lnE (.agg #[.bool bk, .slice pk nk ck]) | 10 => lnS8 (lnSum (lnTimes k a1), a2 * k) | 11 => lnE (.agg #[.slice p0 n0 c0, .bool b0, .slice q0 k0 d0]) | 12 => lnE (.agg #[.bool bk, .slice pk nk ck]) | 13 => lnS8 (lnSum (lnTimes k a1), a2 * k) | 14 => lnE (.bool true) | 15 => lnE (.bool true) | 16 => lnE (.bool true) | 17 => lnE (.agg #[.slice p0 n0 c0, .bool b0, .slice q0 k0 d0]) | 18 => lnE (.bool bi) | 19 => lnE (.agg #[.slice p0 n0 c0, .bool b0, .slice q0 k0 d0]) | 20 => lnE (.bool bi) | 21 => lnE (.bool true) | _ => lnE (.bool true)) [] (by kernel_rfl) (by kernel_rfl) (by kernel_rfl) (by kernel_rfl) (by decide) rfl (by kernel_rfl) rfl (by simp) ?he1 ?_ ?_ ?_
  case he1 => simp only [putAll, Act.put, List.setIfInBounds_toArray, List.set_cons_zero, List.set_cons_succ]
  · intro i hi; simp at hi
  · intro i o hi ho vs wx hvl hb hdep K hK
    have hvs := vlen23 hvl
    obtain ⟨s23, s24, s25, s26, s27, s28, s29, s30, s31, s32, s33, s34, s35, s36, s37, s38, s39, s40, s41, s42, s43, s44, s45, rfl⟩ := hvs
    clear hvl
    have hX := HBX.out _ _ X6.out hb
    obtain ⟨⟨y0, y1, y2⟩, ⟨y3, y4, y5⟩, ⟨y6, y7⟩, hzx⟩ := HBC.out _ hX
    have hBw := lnGo hb H6.out
    rcases i with _ | _ | _ | _ | _ | _ | _ | _ | _ | _ | _ | _ | _ | _ | _ | _ | _ | _ | _ | _ | _ | _ | _ | i
    all_goals (simp only [List.getElem?_toArray, List.getElem?_cons_zero, List.getElem?_cons_succ, Option.some.injEq] at ho)
    all_goals try (subst ho)
    all_goals try simp only [putAll, Act.put, List.setIfInBounds_toArray, List.set_cons_zero, List.set_cons_succ]
    · go_simp
      have hK' := hK.out
      simp only [putAll, Act.put, List.setIfInBounds_toArray, List.set_cons_zero, List.set_cons_succ] at hK'
      exact hK' _ _ rfl (Below.refl _ _) (by simp)
    · go_simp
      have hK' := hK.out
      simp only [putAll, Act.put, List.setIfInBounds_toArray, List.set_cons_zero, List.set_cons_succ] at hK'
      exact hK' _ _ rfl (Below.refl _ _) (by simp)
    · have e0 : s23 = _ := hdep ⟨0, .data⟩ (by simp) rfl
      have e0 := e0.symm
      subst e0
      have e1 : s24 = _ := hdep ⟨1, .data⟩ (by simp) rfl
      have e1 := e1.symm
      subst e1
      go_simp
      go_simp
      refine (Add_lin _ _ (a1, a2) (c1', c2') wx (N := 6) (by decide) (LA.out.below hBw) (LB.out.below hBw) SA.out SB.out (by have := la.out; have := lb.out; show 6 + 6 + (a1.length + c1'.length) ≤ 549755813000; omega)).mono ?_
      rintro e wy ⟨vy, rfl, iy, hby⟩
      have hsh := lnT_shape iy
      obtain ⟨p5, n5, c5, q5, k5, d5, rfl⟩ := hsh
      go_wp2_with fail
      have hK' := hK.out
      simp only [putAll, Act.put, List.setIfInBounds_toArray, List.set_cons_zero, List.set_cons_succ] at hK'
      exact hK' _ _ ⟨_, _, _, _, _, _, rfl, iy⟩ hby (by simp)
    · go_simp
      have hK' := hK.out
      simp only [putAll, Act.put, List.setIfInBounds_toArray, List.set_cons_zero, List.set_cons_succ] at hK'
      exact hK' _ _ rfl (Below.refl _ _) (by simp)
    · go_simp
      have hK' := hK.out
      simp only [putAll, Act.put, List.setIfInBounds_toArray, List.set_cons_zero, List.set_cons_succ] at hK'
      exact hK' _ _ rfl (Below.refl _ _) (by simp)
    · have e3 : s26 = _ := hdep ⟨3, .data⟩ (by simp) rfl
      have e3 := e3.symm
      subst e3
      have e4 : s27 = _ := hdep ⟨4, .data⟩ (by simp) rfl
      have e4 := e4.symm
      subst e4
      go_simp
      go_simp
      refine (RAdd_lin _ _ (a1, a2) (c1', c2') wx (N := 6) (by decide) (LA.out.below hBw) (LB.out.below hBw) SA.out SB.out (by have := la.out; have := lb.out; show 6 + (a1.length + c1'.length) ≤ 1000000; omega)).mono ?_
      rintro e wy ⟨vy, rfl, iy, hby⟩
      have hsh := lnT_shape iy
      obtain ⟨p5, n5, c5, q5, k5, d5, rfl⟩ := hsh
      go_wp2_with fail
      have hK' := hK.out
      simp only [putAll, Act.put, List.setIfInBounds_toArray, List.set_cons_zero, List.set_cons_succ] at hK'
      exact hK' _ _ ⟨_, _, _, _, _, _, rfl, iy⟩ hby (by simp)
    · have e2 : (lnS8 (lnSum (a1 ++ c1'), a2 + c2')).P s25 wx := hdep ⟨2, .data⟩ (by simp) rfl
      have e5 : (lnS8 (lnSum (a1 ++ c1'), a2 + c2')).P s28 wx := hdep ⟨5, .data⟩ (by simp) rfl
      obtain ⟨p2, n2, c2, q2, k2, d2, rfl, T2⟩ := e2
      obtain ⟨p5, n5, c5, q5, k5, d5, rfl, T5⟩ := e5
      go_simp
      go_simp
      refine (Same6_true _ _ (lnSum (a1 ++ c1'), a2 + c2') wx T2 T5 (Nat.le_trans L1.out (by decide))).mono ?_
      rintro e wy ⟨rfl, hby⟩
      go_wp2_with fail
      have hK' := hK.out
      simp only [putAll, Act.put, List.setIfInBounds_toArray, List.set_cons_zero, List.set_cons_succ] at hK'
      exact hK' _ _ rfl hby (by simp)
    · have e6 : s29 = _ := hdep ⟨6, .data⟩ (by simp) rfl
      have e6 := e6.symm
      subst e6
      go_simp
      have hK' := hK.out
      simp only [putAll, Act.put, List.setIfInBounds_toArray, List.set_cons_zero, List.set_cons_succ] at hK'
      exact hK' _ _ rfl (Below.refl _ _) (by simp)
    · have eg : s30 = _ := hdep ⟨7, .guard⟩ (by simp) rfl
      have eg := eg.symm
      subst eg
      go_simp
      have hK' := hK.out
      simp only [putAll, Act.put, List.setIfInBounds_toArray, List.set_cons_zero, List.set_cons_succ] at hK'
      exact hK' _ _ rfl (Below.refl _ _) (by simp)
    · have eg : s30 = _ := hdep ⟨7, .guard⟩ (by simp) rfl
      have eg := eg.symm
      subst eg
      go_simp
      have hK' := hK.out
      simp only [putAll, Act.put, List.setIfInBounds_toArray, List.set_cons_zero, List.set_cons_succ] at hK'
      exact hK' _ _ rfl (Below.refl _ _) (by simp)
    · have e8 : s31 = _ := hdep ⟨8, .data⟩ (by simp) rfl
      have e8 := e8.symm
      subst e8
      have e9 : s32 = _ := hdep ⟨9, .data⟩ (by simp) rfl
      have e9 := e9.symm
      subst e9
      have eg : s30 = _ := hdep ⟨7, .guard⟩ (by simp) rfl
      have eg := eg.symm
      subst eg
      go_simp
      go_simp
      refine (Scale_lin _ _ (a1, a2) k wx (N := 6) (by decide) (LA.out.below hBw) (RK.out.below hBw) SA.out SK.out (by have := la.out; have := lb.out; show 6 + 6 + a1.length ≤ 549755813000; omega)).mono ?_
      rintro e wy ⟨vy, rfl, iy, hby⟩
      have hsh := lnT_shape iy
      obtain ⟨p5, n5, c5, q5, k5, d5, rfl⟩ := hsh
      go_wp2_with fail
      have hK' := hK.out
      simp only [putAll, Act.put, List.setIfInBounds_toArray, List.set_cons_zero, List.set_cons_succ] at hK'
      exact hK' _ _ ⟨_, _, _, _, _, _, rfl, iy⟩ hby (by simp)
    · have eg : s30 = _ := hdep ⟨7, .guard⟩ (by simp) rfl
      have eg := eg.symm
      subst eg
      go_simp
      have hK' := hK.out
      simp only [putAll, Act.put, List.setIfInBounds_toArray, List.set_cons_zero, List.set_cons_succ] at hK'
      exact hK' _ _ rfl (Below.refl _ _) (by simp)
    · have eg : s30 = _ := hdep ⟨7, .guard⟩ (by simp) rfl
      have eg := eg.symm
      subst eg
      go_simp
      have hK' := hK.out
      simp only [putAll, Act.put, List.setIfInBounds_toArray, List.set_cons_zero, List.set_cons_succ] at hK'
      exact hK' _ _ rfl (Below.refl _ _) (by simp)
    · have e11 : s34 = _ := hdep ⟨11, .data⟩ (by simp) rfl
      have e11 := e11.symm
      subst e11
      have e12 : s35 = _ := hdep ⟨12, .data⟩ (by simp) rfl
      have e12 := e12.symm
      subst e12
      have eg : s30 = _ := hdep ⟨7, .guard⟩ (by simp) rfl
      have eg := eg.symm
      subst eg
      go_simp
      go_simp
      refine (RScale_lin _ _ (a1, a2) k wx (N := 6) (by decide) (LA.out.below hBw) (RK.out.below hBw) SA.out SK.out (by have := la.out; have := lb.out; show 6 + 6 + a1.length ≤ 1000000; omega)).mono ?_
      rintro e wy ⟨vy, rfl, iy, hby⟩
      have hsh := lnT_shape iy
      obtain ⟨p5, n5, c5, q5, k5, d5, rfl⟩ := hsh
      go_wp2_with fail
      have hK' := hK.out
      simp only [putAll, Act.put, List.setIfInBounds_toArray, List.set_cons_zero, List.set_cons_succ] at hK'
      exact hK' _ _ ⟨_, _, _, _, _, _, rfl, iy⟩ hby (by simp)
    · have e10 : (lnS8 (lnSum (lnTimes k a1), a2 * k)).P s33 wx := hdep ⟨10, .data⟩ (by simp) rfl
      have e13 : (lnS8 (lnSum (lnTimes k a1), a2 * k)).P s36 wx := hdep ⟨13, .data⟩ (by simp) rfl
      have eg : s30 = _ := hdep ⟨7, .guard⟩ (by simp) rfl
      have eg := eg.symm
      subst eg
      obtain ⟨p10, n10, c10, q10, k10, d10, rfl, T10⟩ := e10
      obtain ⟨p13, n13, c13, q13, k13, d13, rfl, T13⟩ := e13
      go_simp
      go_simp
      refine (Same6_true _ _ (lnSum (lnTimes k a1), a2 * k) wx T10 T13 (Nat.le_trans L2.out (by decide))).mono ?_
      rintro e wy ⟨rfl, hby⟩
      go_wp2_with fail
      have hK' := hK.out
      simp only [putAll, Act.put, List.setIfInBounds_toArray, List.set_cons_zero, List.set_cons_succ] at hK'
      exact hK' _ _ rfl hby (by simp)
    · have e7 : s30 = _ := hdep ⟨7, .data⟩ (by simp) rfl
      have e7 := e7.symm
      subst e7
      have e14 : s37 = _ := hdep ⟨14, .data⟩ (by simp) rfl
      have e14 := e14.symm
      subst e14
      go_simp
      have hK' := hK.out
      simp only [putAll, Act.put, List.setIfInBounds_toArray, List.set_cons_zero, List.set_cons_succ] at hK'
      exact hK' _ _ rfl (Below.refl _ _) (by simp)
    · have e15 : s38 = _ := hdep ⟨15, .data⟩ (by simp) rfl
      have e15 := e15.symm
      subst e15
      go_simp
      have hK' := hK.out
      simp only [putAll, Act.put, List.setIfInBounds_toArray, List.set_cons_zero, List.set_cons_succ] at hK'
      exact hK' _ _ rfl (Below.refl _ _) (by simp)
    · have eg : s39 = _ := hdep ⟨16, .guard⟩ (by simp) rfl
      have eg := eg.symm
      subst eg
      go_simp
      have hK' := hK.out
      simp only [putAll, Act.put, List.setIfInBounds_toArray, List.set_cons_zero, List.set_cons_succ] at hK'
      exact hK' _ _ rfl (Below.refl _ _) (by simp)
    · have e17 : s40 = _ := hdep ⟨17, .data⟩ (by simp) rfl
      have e17 := e17.symm
      subst e17
      have eg : s39 = _ := hdep ⟨16, .guard⟩ (by simp) rfl
      have eg := eg.symm
      subst eg
      go_simp
      go_simp
      refine (HIs.out wx hBw).mono ?_
      rintro e wy ⟨rfl, hby⟩
      go_wp2_with fail
      have hK' := hK.out
      simp only [putAll, Act.put, List.setIfInBounds_toArray, List.set_cons_zero, List.set_cons_succ] at hK'
      exact hK' _ _ rfl hby (by simp)
    · have eg : s39 = _ := hdep ⟨16, .guard⟩ (by simp) rfl
      have eg := eg.symm
      subst eg
      go_simp
      have hK' := hK.out
      simp only [putAll, Act.put, List.setIfInBounds_toArray, List.set_cons_zero, List.set_cons_succ] at hK'
      exact hK' _ _ rfl (Below.refl _ _) (by simp)
    · have e19 : s42 = _ := hdep ⟨19, .data⟩ (by simp) rfl
      have e19 := e19.symm
      subst e19
      have eg : s39 = _ := hdep ⟨16, .guard⟩ (by simp) rfl
      have eg := eg.symm
      subst eg
      go_simp
      go_simp
      refine (HRIs.out wx hBw).mono ?_
      rintro e wy ⟨rfl, hby⟩
      go_wp2_with fail
      have hK' := hK.out
      simp only [putAll, Act.put, List.setIfInBounds_toArray, List.set_cons_zero, List.set_cons_succ] at hK'
      exact hK' _ _ rfl hby (by simp)
    · have e18 : s41 = _ := hdep ⟨18, .data⟩ (by simp) rfl
      have e18 := e18.symm
      subst e18
      have e20 : s43 = _ := hdep ⟨20, .data⟩ (by simp) rfl
      have e20 := e20.symm
      subst e20
      have eg : s39 = _ := hdep ⟨16, .guard⟩ (by simp) rfl
      have eg := eg.symm
      subst eg
      go_simp
      have hK' := hK.out
      simp only [putAll, Act.put, List.setIfInBounds_toArray, List.set_cons_zero, List.set_cons_succ] at hK'
      exact hK' _ _ rfl (Below.refl _ _) (by simp)
    · have e16 : s39 = _ := hdep ⟨16, .data⟩ (by simp) rfl
      have e16 := e16.symm
      subst e16
      have e21 : s44 = _ := hdep ⟨21, .data⟩ (by simp) rfl
      have e21 := e21.symm
      subst e21
      go_simp
      have hK' := hK.out
      simp only [putAll, Act.put, List.setIfInBounds_toArray, List.set_cons_zero, List.set_cons_succ] at hK'
      exact hK' _ _ rfl (Below.refl _ _) (by simp)
    · omega
  · intro vs wx hvl hb hf hdist
    have hvs := vlen23 hvl
    obtain ⟨s23, s24, s25, s26, s27, s28, s29, s30, s31, s32, s33, s34, s35, s36, s37, s38, s39, s40, s41, s42, s43, s44, s45, rfl⟩ := hvs
    have f22 : s45 = _ := hf 22 (by decide)
    have f22 := f22.symm
    subst f22
    have hBw := lnGo hb H6.out
    have HBf := hid hBw
    clear hf hvl hdist hBw
    refine wpAny_one (i := 23) (by kernel_rfl) rfl ?_
    intro K hK
    simp only [putAll, Act.put, List.setIfInBounds_toArray, List.set_cons_zero, List.set_cons_succ]
    have hK' := hK.out
    go_simp
    apply hK'
    clear hK hK'
    refine wpAny_done (by kernel_rfl) ?_ _
    try simp only [Act.put, List.setIfInBounds_toArray, List.set_cons_zero, List.set_cons_succ]
    go_wp2
    go_ret
    exact ⟨rfl, HBf.out⟩
end Go.Proofs.YtjfehknilofdjaaGreat
