/- Texts put together: WholeSum, RefAdd, RefSub, RefOf, DivSmall, Same, Few, Copied, Inv, Copies. -/
import Derived.Test.YtippcalhcnjghaaDoorPrintsCardM2
import Derived.Deep.RegionHeld3
import Derived.Deep.AppendLies
import Derived.WalkKit
/- whole.Add, Sub. -/
namespace Go.Proofs.YtippcalhcnjghaaDoor
open Go.RowKit Big

theorem sg_add_same (n : Bool) (x y : Nat) : sg n (x + y) = sg n x + sg n y := by unfold sg; cases n <;> simp <;> omega
theorem sg_add_lt {n m : Bool} {x y : Nat} (h : n ≠ m) (hxy : x < y) : sg m (y - x) = sg n x + sg m y := by unfold sg; cases n <;> cases m <;> simp at h ⊢ <;> omega
theorem sg_add_ge {n m : Bool} {x y : Nat} (h : n ≠ m) (hxy : ¬ x < y) : sg n (x - y) = sg n x + sg m y := by unfold sg; cases n <;> cases m <;> simp at h ⊢ <;> omega

set_option maxHeartbeats 1600000 in
theorem Add_any (v0 v1 : Value) (a b : Int) (w : World) (h0 : RawAt w v0 a) (h1 : RawAt w v1 b) : Calls Tryd.prog 13 #[v0, v1] w (RInt (a + b) w) := by
  obtain ⟨n0, s0, l0, rfl, a0, b0, c0, rfl⟩ := h0
  obtain ⟨n1, s1, l1, rfl, a1, b1, c1, rfl⟩ := h1
  have t0 : ∀ W : World, At W .u64 s0 l0 → Calls Tryd.prog 38 #[s0] W (fun e w' => e = .returned (cutTo s0 (strip l0).length) ∧ w' = W) := fun W h => trim_val s0 l0 W h
  have t1 : ∀ W : World, At W .u64 s1 l1 → Calls Tryd.prog 38 #[s1] W (fun e w' => e = .returned (cutTo s1 (strip l1).length) ∧ w' = W) := fun W h => trim_val s1 l1 W h
  have T0 := hid t0; have T1 := hid t1; clear t0 t1
  have d0 := hid (strip_dig W2 b0)
  have d1 := hid (strip_dig W2 b1)
  have m0 : sz W (val W l0) ≤ 1099511627776 := Nat.le_trans (sz_val W2 b0) c0
  have m1 : sz W (val W l1) ≤ 1099511627776 := Nat.le_trans (sz_val W2 b1) c1
  obtain ⟨r, hr⟩ : ∃ r, r = sg n0 (val W l0) + sg n1 (val W l1) := ⟨_, rfl⟩
  rw [← hr]
  have Hr := hid hr; clear hr
  go_enter Tryd.func13, Tryd.ntmps13
  go_wp2_with fail
  go_quiet ((first
    | (go_at_call_of 38 (s0); exact Calls.quiet_of_same (T0.out _ (by repeat (first | exact a0 | apply At.drewN | apply At.drew | apply At.alloc))))
    | (go_at_call_of 38 (s1); exact Calls.quiet_of_same (T1.out _ (by repeat (first | exact a1 | apply At.drewN | apply At.drew | apply At.alloc))))))
  generalize hW : World.drewN (World.alloc (World.alloc (World.alloc w _) _) _) _ = W3
  have bw : Below w.heap.size w W3 := by rw [← hW]; exact below_drewN (((below1 _ _).alloc (by simp) _).alloc (by simp; omega) _) _
  have hp : Pair W3 (w.heap.size + 1 + 1) 25 := by rw [← hW]; exact Pair.new2 ..
  obtain ⟨c00, c01, c10, c11, -⟩ : Two W3 w.heap.size (.bool n0) s0 (.bool n1) s1 := by rw [← hW]; exact (Two.new w _ _ _ _ _).below (below_drewN (below1 _ _) _)
  have z3 : w.heap.size + 3 ≤ W3.heap.size := by rw [← hW]; simp
  have A0 : At W3 .u64 (cutTo s0 (strip l0).length) (dig W (val W l0)) := by have := (a0.below bw).strip; rwa [d0.out] at this ⊢
  have A1 : At W3 .u64 (cutTo s1 (strip l1).length) (dig W (val W l1)) := by have := (a1.below bw).strip; rwa [d1.out] at this ⊢
  have bw' := hid bw
  clear hW bw c01 c11 T0 T1 a0 a1
  generalize cutTo s0 (strip l0).length = u0 at *
  generalize cutTo s1 (strip l1).length = u1 at *
  generalize val W l0 = x at *
  generalize val W l1 = y at *
  clear d0 d1 b0 b1 c0 c1
  by_cases hn : n0 = n1
  · subst hn
    have Hs : Hid (sg n0 (x + y) = r) := by unfold Hid; rw [sg_add_same, Hr.out]
    go_wp2
    go_region_held3 (fun w' => w'.cell? ⟨w.heap.size, 0, none⟩ = some (.bool n0) ∧ Pair w' (w.heap.size + 1 + 1) 25)
      (first | (go_split_ands; (try dsimp only); (repeat' apply And.intro) <;> first | assumption | exact Pair.drew ‹_› | exact Pair.below ‹_› hb9 | exact Pair.below ‹_› hb8 | exact Pair.below ‹_› hb7 | exact Pair.below ‹_› hb6 | exact Pair.below ‹_› hb5 | exact Pair.below ‹_› hb4 | exact Pair.below ‹_› hb3 | exact Pair.below ‹_› hb2 | exact Pair.below ‹_› hb1 | exact (hb9.cell (by first | omega | (simp; omega) | (simp; done))).trans ‹_› | exact (hb8.cell (by first | omega | (simp; omega) | (simp; done))).trans ‹_› | exact (hb7.cell (by first | omega | (simp; omega) | (simp; done))).trans ‹_› | exact (hb6.cell (by first | omega | (simp; omega) | (simp; done))).trans ‹_› | exact (hb5.cell (by first | omega | (simp; omega) | (simp; done))).trans ‹_› | exact (hb4.cell (by first | omega | (simp; omega) | (simp; done))).trans ‹_› | exact (hb3.cell (by first | omega | (simp; omega) | (simp; done))).trans ‹_› | exact (hb2.cell (by first | omega | (simp; omega) | (simp; done))).trans ‹_› | exact (hb1.cell (by first | omega | (simp; omega) | (simp; done))).trans ‹_› | exact Pair.set1 (Pair.set0 ‹_› _) _ _ _ | exact (cell_stored _ (by first | (dsimp only; omega) | (simp; done) | (simp; omega)) _ _).trans ‹_› | exact Pair.drew (Pair.below ‹_› (below1 _ _)) | exact Pair.below ‹_› (below1 _ _) | exact Pair.far ‹_› (by omega) hb1 | exact Pair.new .. | exact Pair.new1 .. | exact Pair.new2 .. | (go_keep; done)) | (go_keep; done))
      (first
        | (go_at_call 40; refine (plus_any u0 u1 x y _ (by exact A0) (by exact A1) m0 m1).mono ?_; rintro e w1 ⟨v1, rfl, ho1, hb1⟩; have hz1 : w.heap.size + 3 ≤ w1.heap.size := (by have := hb1.size; simp at this; omega))
        | (go_at_call 39; refine (told_any n0 _ _ _ ho1.at).mono ?_; rintro e w2 ⟨v2, rfl, hi2, hb2⟩; obtain ⟨p2, n2, c2, rfl, hi2⟩ := hi2.shape; have hpr := Pair.below (by go_split_ands; assumption) hb2; obtain ⟨_, _, q0, q1, q2, q3⟩ := hpr.cells))
    go_wp2
    exact bodyPost_ret (v := .agg #[.bool (decide (sg n0 (x + y) < 0)), .slice p2 n2 c2]) (by simp [results, Tryd.results13, go_sem, q0, q1]) rfl
      ⟨_, rfl, by rw [← Hs.out]; exact hi2.stored hpr _ _ _ _, Below.stored ((bw'.out.drew.trans (hb1.mono (B' := w.heap.size) (by simp; omega))).trans (hb2.mono (B' := w.heap.size) (by omega))) (by omega) _ _⟩
  · have hb : (n0 == n1) = false := beq_eq_false_iff_ne.2 hn
    by_cases hxy : x < y
    · have Hs : Hid (sg n1 (y - x) = r) := by unfold Hid; rw [sg_add_lt hn hxy, Hr.out]
      have ho : ord (x : Int) y = -1 := ord_lt (by omega)
      have Hc := hid (compare_any u0 u1 x y W3 A0 A1)
      rw [ho] at Hc
      clear ho
      go_wp2_with (go_at_call 41; refine Hc.out.mono ?_; rintro e w' ⟨rfl, k, rfl⟩)
      go_region_held3 (fun w' => w'.cell? ⟨w.heap.size + 1, 0, none⟩ = some (.bool n1) ∧ Pair w' (w.heap.size + 1 + 1) 25)
        (first | (go_split_ands; (try dsimp only); (repeat' apply And.intro) <;> first | assumption | exact Pair.drew ‹_› | exact Pair.below ‹_› hb9 | exact Pair.below ‹_› hb8 | exact Pair.below ‹_› hb7 | exact Pair.below ‹_› hb6 | exact Pair.below ‹_› hb5 | exact Pair.below ‹_› hb4 | exact Pair.below ‹_› hb3 | exact Pair.below ‹_› hb2 | exact Pair.below ‹_› hb1 | exact (hb9.cell (by first | omega | (simp; omega) | (simp; done))).trans ‹_› | exact (hb8.cell (by first | omega | (simp; omega) | (simp; done))).trans ‹_› | exact (hb7.cell (by first | omega | (simp; omega) | (simp; done))).trans ‹_› | exact (hb6.cell (by first | omega | (simp; omega) | (simp; done))).trans ‹_› | exact (hb5.cell (by first | omega | (simp; omega) | (simp; done))).trans ‹_› | exact (hb4.cell (by first | omega | (simp; omega) | (simp; done))).trans ‹_› | exact (hb3.cell (by first | omega | (simp; omega) | (simp; done))).trans ‹_› | exact (hb2.cell (by first | omega | (simp; omega) | (simp; done))).trans ‹_› | exact (hb1.cell (by first | omega | (simp; omega) | (simp; done))).trans ‹_› | exact Pair.set1 (Pair.set0 ‹_› _) _ _ _ | exact (cell_stored _ (by first | (dsimp only; omega) | (simp; done) | (simp; omega)) _ _).trans ‹_› | exact Pair.drew (Pair.below ‹_› (below1 _ _)) | exact Pair.below ‹_› (below1 _ _) | exact Pair.far ‹_› (by omega) hb1 | exact Pair.new .. | exact Pair.new1 .. | exact Pair.new2 .. | (go_keep; done)) | (go_keep; done))
        (first
          | (go_at_call 42; refine (minus_any u1 u0 y x _ (by exact A1) (by exact A0) (by omega) m1).mono ?_; rintro e w1 ⟨v1, rfl, ho1, hb1⟩; have hz1 : w.heap.size + 3 ≤ w1.heap.size := (by have := hb1.size; simp at this; omega))
          | (go_at_call 39; refine (told_any n1 _ _ _ ho1).mono ?_; rintro e w2 ⟨v2, rfl, hi2, hb2⟩; obtain ⟨p2, n2, c2, rfl, hi2⟩ := hi2.shape; have hpr := Pair.below (by go_split_ands; assumption) hb2; obtain ⟨_, _, q0, q1, q2, q3⟩ := hpr.cells))
      go_wp2
      exact bodyPost_ret (v := .agg #[.bool (decide (sg n1 (y - x) < 0)), .slice p2 n2 c2]) (by simp [results, Tryd.results13, go_sem, q0, q1]) rfl
        ⟨_, rfl, by rw [← Hs.out]; exact hi2.stored hpr _ _ _ _, Below.stored (((below_drewN bw'.out k).drew.trans (hb1.mono (B' := w.heap.size) (by simp; omega))).trans (hb2.mono (B' := w.heap.size) (by omega))) (by omega) _ _⟩
    · have Hs : Hid (sg n0 (x - y) = r) := by unfold Hid; rw [sg_add_ge hn hxy, Hr.out]
      have ho : ∃ o, o = ord (x : Int) y ∧ ¬ o < 0 := ⟨_, rfl, by unfold ord; (repeat' split) <;> omega⟩
      obtain ⟨o, ho, hneg⟩ := ho
      have Hc := hid (compare_any u0 u1 x y W3 A0 A1)
      rw [← ho] at Hc
      clear ho
      go_wp2_with (go_at_call 41; refine Hc.out.mono ?_; rintro e w' ⟨rfl, k, rfl⟩)
      go_region_held3 (fun w' => w'.cell? ⟨w.heap.size, 0, none⟩ = some (.bool n0) ∧ Pair w' (w.heap.size + 1 + 1) 25)
        (first | (go_split_ands; (try dsimp only); (repeat' apply And.intro) <;> first | assumption | exact Pair.drew ‹_› | exact Pair.below ‹_› hb9 | exact Pair.below ‹_› hb8 | exact Pair.below ‹_› hb7 | exact Pair.below ‹_› hb6 | exact Pair.below ‹_› hb5 | exact Pair.below ‹_› hb4 | exact Pair.below ‹_› hb3 | exact Pair.below ‹_› hb2 | exact Pair.below ‹_› hb1 | exact (hb9.cell (by first | omega | (simp; omega) | (simp; done))).trans ‹_› | exact (hb8.cell (by first | omega | (simp; omega) | (simp; done))).trans ‹_› | exact (hb7.cell (by first | omega | (simp; omega) | (simp; done))).trans ‹_› | exact (hb6.cell (by first | omega | (simp; omega) | (simp; done))).trans ‹_› | exact (hb5.cell (by first | omega | (simp; omega) | (simp; done))).trans ‹_› | exact (hb4.cell (by first | omega | (simp; omega) | (simp; done))).trans ‹_› | exact (hb3.cell (by first | omega | (simp; omega) | (simp; done))).trans ‹_› | exact (hb2.cell (by first | omega | (simp; omega) | (simp; done))).trans ‹_› | exact (hb1.cell (by first | omega | (simp; omega) | (simp; done))).trans ‹_› | exact Pair.set1 (Pair.set0 ‹_› _) _ _ _ | exact (cell_stored _ (by first | (dsimp only; omega) | (simp; done) | (simp; omega)) _ _).trans ‹_› | exact Pair.drew (Pair.below ‹_› (below1 _ _)) | exact Pair.below ‹_› (below1 _ _) | exact Pair.far ‹_› (by omega) hb1 | exact Pair.new .. | exact Pair.new1 .. | exact Pair.new2 .. | (go_keep; done)) | (go_keep; done))
        (first
          | (go_at_call 42; refine (minus_any u0 u1 x y _ (by exact A0) (by exact A1) (by omega) m0).mono ?_; rintro e w1 ⟨v1, rfl, ho1, hb1⟩; have hz1 : w.heap.size + 3 ≤ w1.heap.size := (by have := hb1.size; simp at this; omega))
          | (go_at_call 39; refine (told_any n0 _ _ _ ho1).mono ?_; rintro e w2 ⟨v2, rfl, hi2, hb2⟩; obtain ⟨p2, n2, c2, rfl, hi2⟩ := hi2.shape; have hpr := Pair.below (by go_split_ands; assumption) hb2; obtain ⟨_, _, q0, q1, q2, q3⟩ := hpr.cells))
      go_wp2
      exact bodyPost_ret (v := .agg #[.bool (decide (sg n0 (x - y) < 0)), .slice p2 n2 c2]) (by simp [results, Tryd.results13, go_sem, q0, q1]) rfl
        ⟨_, rfl, by rw [← Hs.out]; exact hi2.stored hpr _ _ _ _, Below.stored (((below_drewN bw'.out k).drew.trans (hb1.mono (B' := w.heap.size) (by simp; omega))).trans (hb2.mono (B' := w.heap.size) (by omega))) (by omega) _ _⟩
end Go.Proofs.YtippcalhcnjghaaDoor
/- elenchusref01.Neg, Add. -/
namespace Go.Proofs.YtippcalhcnjghaaDoor
open Go.RowKit Big

set_option maxRecDepth 100000 in
set_option maxHeartbeats 3200000 in
theorem RAdd_any (v0 v1 : Value) (a b : Int) (w : World) (h0 : RawAt w v0 a) (h1 : RawAt w v1 b) : Calls Tryd.prog 14 #[v0, v1] w (RInt (a + b) w) := by
  obtain ⟨n0, s0, l0, rfl, a0, b0, c0, rfl⟩ := h0
  obtain ⟨n1, s1, l1, rfl, a1, b1, c1, rfl⟩ := h1
  have g0 : ∀ W', Below w.heap.size w W' → Calls Tryd.prog 45 #[s0] W' (RAt .i64 (dig D (val W l0)) W') := fun W' hb => Digits_any s0 l0 W' (a0.below hb) b0 (by omega)
  have g1 : ∀ W', Below w.heap.size w W' → Calls Tryd.prog 45 #[s1] W' (RAt .i64 (dig D (val W l1)) W') := fun W' hb => Digits_any s1 l1 W' (a1.below hb) b1 (by omega)
  have go : ∀ W', Below w.heap.size w W' → Calls Tryd.prog 46 #[s0, s1] W' (RNum .i64 (ord (val W l0) (val W l1)) W') := fun W' hb => order_any s0 s1 l0 l1 W' (a0.below hb) (a1.below hb) b0 b1 c0 c1
  have m0 : sz W (val W l0) ≤ 1099511627776 := Nat.le_trans (sz_val W2 b0) c0
  have m1 : sz W (val W l1) ≤ 1099511627776 := Nat.le_trans (sz_val W2 b1) c1
  have G0 := hid g0; have G1 := hid g1; have GO := hid go
  obtain ⟨r, hr⟩ : ∃ r, r = sg n0 (val W l0) + sg n1 (val W l1) := ⟨_, rfl⟩
  rw [← hr]
  have Hr := hid hr
  clear hr g0 g1 go a0 a1 b0 b1 c0 c1
  generalize val W l0 = x at *
  generalize val W l1 = y at *
  have k0 : sz D x ≤ 4398046511104 := Nat.le_trans (sz4 x) (by omega)
  have k1 : sz D y ≤ 4398046511104 := Nat.le_trans (sz4 y) (by omega)
  by_cases hn : n0 = n1
  · subst hn
    have Hs : Hid (sg n0 (x + y) = r) := by unfold Hid; rw [sg_add_same, Hr.out]
    have mw : sz W (x + y) ≤ 2199023255552 := Nat.le_trans (sz_add W2 m0 m1) (by omega)
    have ks : sz D (x + y) ≤ 8796093022208 := Nat.le_trans (sz4 _) (by omega)
    go_enter Tryd.func14, Tryd.ntmps14
    go_wp2_with fail
    generalize hW : World.alloc (World.alloc (World.alloc w _) _) _ = W3
    have bw : Below w.heap.size w W3 := by rw [← hW]; exact ((below1 _ _).alloc (by simp) _).alloc (by simp; omega) _
    have hp : Pair W3 (w.heap.size + 1 + 1) 25 := by rw [← hW]; exact Pair.new2 ..
    obtain ⟨c00, c01, c10, c11, -⟩ : Two W3 w.heap.size (.bool n0) s0 (.bool n0) s1 := by rw [← hW]; exact (Two.new w _ _ _ _ _).below (below1 _ _)
    have z3 : w.heap.size + 3 ≤ W3.heap.size := by rw [← hW]; simp
    have bw' := hid bw
    clear hW bw
    go_region_held3 (fun w' => w'.cell? ⟨w.heap.size, 0, none⟩ = some (.bool n0) ∧ w'.cell? ⟨w.heap.size, 1, none⟩ = some s0 ∧ w'.cell? ⟨w.heap.size + 1, 0, none⟩ = some (.bool n0) ∧ w'.cell? ⟨w.heap.size + 1, 1, none⟩ = some s1 ∧ Pair w' (w.heap.size + 1 + 1) 25)
      (first | (go_split_ands; (try dsimp only); (repeat' apply And.intro) <;> first | assumption | exact Pair.drew ‹_› | exact Pair.below ‹_› hb9 | exact Pair.below ‹_› hb8 | exact Pair.below ‹_› hb7 | exact Pair.below ‹_› hb6 | exact Pair.below ‹_› hb5 | exact Pair.below ‹_› hb4 | exact Pair.below ‹_› hb3 | exact Pair.below ‹_› hb2 | exact Pair.below ‹_› hb1 | exact (hb9.cell (by first | omega | (simp; omega) | (simp; done))).trans ‹_› | exact (hb8.cell (by first | omega | (simp; omega) | (simp; done))).trans ‹_› | exact (hb7.cell (by first | omega | (simp; omega) | (simp; done))).trans ‹_› | exact (hb6.cell (by first | omega | (simp; omega) | (simp; done))).trans ‹_› | exact (hb5.cell (by first | omega | (simp; omega) | (simp; done))).trans ‹_› | exact (hb4.cell (by first | omega | (simp; omega) | (simp; done))).trans ‹_› | exact (hb3.cell (by first | omega | (simp; omega) | (simp; done))).trans ‹_› | exact (hb2.cell (by first | omega | (simp; omega) | (simp; done))).trans ‹_› | exact (hb1.cell (by first | omega | (simp; omega) | (simp; done))).trans ‹_› | exact Pair.set1 (Pair.set0 ‹_› _) _ _ _ | exact (cell_stored _ (by first | (dsimp only; omega) | (simp; done) | (simp; omega)) _ _).trans ‹_› | exact Pair.drew (Pair.below ‹_› (below1 _ _)) | exact Pair.below ‹_› (below1 _ _) | exact Pair.far ‹_› (by omega) hb1 | exact Pair.new .. | exact Pair.new1 .. | exact Pair.new2 .. | (go_keep; done)) | (go_keep; done))
      (first
        | (go_at_call_of 45 (s0); refine (G0.out _ bw'.out.drew).mono ?_; rintro e w1 ⟨v1, rfl, d1, hb1⟩; have hz1 : w.heap.size + 3 ≤ w1.heap.size := (by have := hb1.size; simp at this; omega))
        | (go_at_call_of 45 (s1); refine (G1.out _ (bw'.out.drew.trans (hb1.mono (B' := w.heap.size) (by simp; omega)))).mono ?_; rintro e w2 ⟨v2, rfl, d2, hb2⟩; have d1' := d1.below hb2; have hz2 := hb2.size)
        | (go_at_call 44; refine (rplusN_any v1 v2 x y _ d1' d2 k0 k1).mono ?_; rintro e w3 ⟨v3, rfl, d3, hb3⟩; have hz3 := hb3.size)
        | (go_at_call 43; refine (FromN_any v3 _ _ d3 ks).mono ?_; rintro e w4 ⟨v4, rfl, d4, hb4⟩; have hz4 := hb4.size)
        | (go_at_call 24; refine (WholeN_any n0 v4 _ _ d4 mw).mono ?_; rintro e w5 ⟨v5, rfl, hi5, hb5⟩; obtain ⟨p5, n5, c5, rfl, hi5⟩ := hi5.shape; have hpr := Pair.below (by go_split_ands; assumption) hb5; obtain ⟨_, _, q0, q1, q2, q3⟩ := hpr.cells))
    go_wp2
    exact bodyPost_ret (v := .agg #[.bool (decide (sg n0 (x + y) < 0)), .slice p5 n5 c5]) (by simp [results, Tryd.results14, go_sem, q0, q1]) rfl
      ⟨_, rfl, by rw [← Hs.out]; exact hi5.stored hpr _ _ _ _, Below.stored (((((bw'.out.drew.trans (hb1.mono (B' := w.heap.size) (by simp; omega))).trans (hb2.mono (B' := w.heap.size) (by omega))).trans (hb3.mono (B' := w.heap.size) (by omega))).trans (hb4.mono (B' := w.heap.size) (by omega))).trans (hb5.mono (B' := w.heap.size) (by omega))) (by omega) _ _⟩
  · have hb : (n0 == n1) = false := beq_eq_false_iff_ne.2 hn
    go_enter Tryd.func14, Tryd.ntmps14
    go_wp2_with fail
    generalize hW : World.alloc (World.alloc (World.alloc w _) _) _ = W3
    have bw : Below w.heap.size w W3 := by rw [← hW]; exact ((below1 _ _).alloc (by simp) _).alloc (by simp; omega) _
    have hp : Pair W3 (w.heap.size + 1 + 1) 25 := by rw [← hW]; exact Pair.new2 ..
    obtain ⟨c00, c01, c10, c11, -⟩ : Two W3 w.heap.size (.bool n0) s0 (.bool n1) s1 := by rw [← hW]; exact (Two.new w _ _ _ _ _).below (below1 _ _)
    have z3 : w.heap.size + 3 ≤ W3.heap.size := by rw [← hW]; simp
    have bw' := hid bw
    clear hW bw
    by_cases hxy : x < y
    · have Hs : Hid (sg n1 (y - x) = r) := by unfold Hid; rw [sg_add_lt hn hxy, Hr.out]
      have mw : sz W (y - x) ≤ 2199023255552 := Nat.le_trans (sz_mono W2 (by omega)) (Nat.le_trans m1 (by omega))
      have ks : sz D (y - x) ≤ 8796093022208 := Nat.le_trans (sz4 _) (by omega)
      have hc := GO.out W3 bw'.out
      rw [ord_lt (by omega)] at hc
      have Hc := hid hc
      clear hc
      refine Hc.out.mono ?_
      rintro e W4 ⟨rfl, hb0⟩
      have hz0 := hb0.size
      have e00 := (hb0.cell (p := ⟨w.heap.size, 0, none⟩) (by show w.heap.size < _; omega)).trans c00
      have e01 := (hb0.cell (p := ⟨w.heap.size, 1, none⟩) (by show w.heap.size < _; omega)).trans c01
      have e10 := (hb0.cell (p := ⟨w.heap.size + 1, 0, none⟩) (by show w.heap.size + 1 < _; omega)).trans c10
      have e11 := (hb0.cell (p := ⟨w.heap.size + 1, 1, none⟩) (by show w.heap.size + 1 < _; omega)).trans c11
      have hp4 := hp.below hb0
      have bw4 := hid (bw'.out.trans (hb0.mono (B' := w.heap.size) (by omega)))
      clear c00 c01 c10 c11 hp hb0
      go_wp2_with fail
      go_region_held3 (fun w' => w'.cell? ⟨w.heap.size, 0, none⟩ = some (.bool n0) ∧ w'.cell? ⟨w.heap.size, 1, none⟩ = some s0 ∧ w'.cell? ⟨w.heap.size + 1, 0, none⟩ = some (.bool n1) ∧ w'.cell? ⟨w.heap.size + 1, 1, none⟩ = some s1 ∧ Pair w' (w.heap.size + 1 + 1) 25)
        (first | (go_split_ands; (try dsimp only); (repeat' apply And.intro) <;> first | assumption | exact Pair.drew ‹_› | exact Pair.below ‹_› hb9 | exact Pair.below ‹_› hb8 | exact Pair.below ‹_› hb7 | exact Pair.below ‹_› hb6 | exact Pair.below ‹_› hb5 | exact Pair.below ‹_› hb4 | exact Pair.below ‹_› hb3 | exact Pair.below ‹_› hb2 | exact Pair.below ‹_› hb1 | exact (hb9.cell (by first | omega | (simp; omega) | (simp; done))).trans ‹_› | exact (hb8.cell (by first | omega | (simp; omega) | (simp; done))).trans ‹_› | exact (hb7.cell (by first | omega | (simp; omega) | (simp; done))).trans ‹_› | exact (hb6.cell (by first | omega | (simp; omega) | (simp; done))).trans ‹_› | exact (hb5.cell (by first | omega | (simp; omega) | (simp; done))).trans ‹_› | exact (hb4.cell (by first | omega | (simp; omega) | (simp; done))).trans ‹_› | exact (hb3.cell (by first | omega | (simp; omega) | (simp; done))).trans ‹_› | exact (hb2.cell (by first | omega | (simp; omega) | (simp; done))).trans ‹_› | exact (hb1.cell (by first | omega | (simp; omega) | (simp; done))).trans ‹_› | exact Pair.set1 (Pair.set0 ‹_› _) _ _ _ | exact (cell_stored _ (by first | (dsimp only; omega) | (simp; done) | (simp; omega)) _ _).trans ‹_› | exact Pair.drew (Pair.below ‹_› (below1 _ _)) | exact Pair.below ‹_› (below1 _ _) | exact Pair.far ‹_› (by omega) hb1 | exact Pair.new .. | exact Pair.new1 .. | exact Pair.new2 .. | (go_keep; done)) | (go_keep; done))
        (first
          | (go_at_call_of 45 (s1); refine (G1.out _ bw4.out.drew).mono ?_; rintro e w1 ⟨v1, rfl, d1, hb1⟩; have hz1 : w.heap.size + 3 ≤ w1.heap.size := (by have := hb1.size; simp at this; omega))
          | (go_at_call_of 45 (s0); refine (G0.out _ (bw4.out.drew.trans (hb1.mono (B' := w.heap.size) (by simp; omega)))).mono ?_; rintro e w2 ⟨v2, rfl, d2, hb2⟩; have d1' := d1.below hb2; have hz2 := hb2.size)
          | (go_at_call 47; refine (rlessN_any v1 v2 y x _ d1' d2 k1 (by omega)).mono ?_; rintro e w3 ⟨v3, rfl, d3, hb3⟩; have hz3 := hb3.size)
          | (go_at_call 43; refine (FromN_any v3 _ _ d3 ks).mono ?_; rintro e w4 ⟨v4, rfl, d4, hb4⟩; have hz4 := hb4.size)
          | (go_at_call 24; refine (WholeN_any n1 v4 _ _ d4 mw).mono ?_; rintro e w5 ⟨v5, rfl, hi5, hb5⟩; obtain ⟨p5, n5, c5, rfl, hi5⟩ := hi5.shape; have hpr := Pair.below (by go_split_ands; assumption) hb5; obtain ⟨_, _, q0, q1, q2, q3⟩ := hpr.cells))
      go_wp2
      exact bodyPost_ret (v := .agg #[.bool (decide (sg n1 (y - x) < 0)), .slice p5 n5 c5]) (by simp [results, Tryd.results14, go_sem, q0, q1]) rfl
        ⟨_, rfl, by rw [← Hs.out]; exact hi5.stored hpr _ _ _ _, Below.stored (((((bw4.out.drew.trans (hb1.mono (B' := w.heap.size) (by simp; omega))).trans (hb2.mono (B' := w.heap.size) (by omega))).trans (hb3.mono (B' := w.heap.size) (by omega))).trans (hb4.mono (B' := w.heap.size) (by omega))).trans (hb5.mono (B' := w.heap.size) (by omega))) (by omega) _ _⟩
    · have Hs : Hid (sg n0 (x - y) = r) := by unfold Hid; rw [sg_add_ge hn hxy, Hr.out]
      have mw : sz W (x - y) ≤ 2199023255552 := Nat.le_trans (sz_mono W2 (by omega)) (Nat.le_trans m0 (by omega))
      have ks : sz D (x - y) ≤ 8796093022208 := Nat.le_trans (sz4 _) (by omega)
      have hc := GO.out W3 bw'.out
      obtain ⟨o, ho, hneg⟩ : ∃ o, o = ord (x : Int) y ∧ 0 ≤ o := ⟨_, rfl, by unfold ord; (repeat' split) <;> omega⟩
      rw [← ho] at hc
      have Hc := hid hc
      clear hc ho
      refine Hc.out.mono ?_
      rintro e W4 ⟨rfl, hb0⟩
      have hz0 := hb0.size
      have e00 := (hb0.cell (p := ⟨w.heap.size, 0, none⟩) (by show w.heap.size < _; omega)).trans c00
      have e01 := (hb0.cell (p := ⟨w.heap.size, 1, none⟩) (by show w.heap.size < _; omega)).trans c01
      have e10 := (hb0.cell (p := ⟨w.heap.size + 1, 0, none⟩) (by show w.heap.size + 1 < _; omega)).trans c10
      have e11 := (hb0.cell (p := ⟨w.heap.size + 1, 1, none⟩) (by show w.heap.size + 1 < _; omega)).trans c11
      have hp4 := hp.below hb0
      have bw4 := hid (bw'.out.trans (hb0.mono (B' := w.heap.size) (by omega)))
      clear c00 c01 c10 c11 hp hb0
      go_wp2_with fail
      go_region_held3 (fun w' => w'.cell? ⟨w.heap.size, 0, none⟩ = some (.bool n0) ∧ w'.cell? ⟨w.heap.size, 1, none⟩ = some s0 ∧ w'.cell? ⟨w.heap.size + 1, 0, none⟩ = some (.bool n1) ∧ w'.cell? ⟨w.heap.size + 1, 1, none⟩ = some s1 ∧ Pair w' (w.heap.size + 1 + 1) 25)
        (first | (go_split_ands; (try dsimp only); (repeat' apply And.intro) <;> first | assumption | exact Pair.drew ‹_› | exact Pair.below ‹_› hb9 | exact Pair.below ‹_› hb8 | exact Pair.below ‹_› hb7 | exact Pair.below ‹_› hb6 | exact Pair.below ‹_› hb5 | exact Pair.below ‹_› hb4 | exact Pair.below ‹_› hb3 | exact Pair.below ‹_› hb2 | exact Pair.below ‹_› hb1 | exact (hb9.cell (by first | omega | (simp; omega) | (simp; done))).trans ‹_› | exact (hb8.cell (by first | omega | (simp; omega) | (simp; done))).trans ‹_› | exact (hb7.cell (by first | omega | (simp; omega) | (simp; done))).trans ‹_› | exact (hb6.cell (by first | omega | (simp; omega) | (simp; done))).trans ‹_› | exact (hb5.cell (by first | omega | (simp; omega) | (simp; done))).trans ‹_› | exact (hb4.cell (by first | omega | (simp; omega) | (simp; done))).trans ‹_› | exact (hb3.cell (by first | omega | (simp; omega) | (simp; done))).trans ‹_› | exact (hb2.cell (by first | omega | (simp; omega) | (simp; done))).trans ‹_› | exact (hb1.cell (by first | omega | (simp; omega) | (simp; done))).trans ‹_› | exact Pair.set1 (Pair.set0 ‹_› _) _ _ _ | exact (cell_stored _ (by first | (dsimp only; omega) | (simp; done) | (simp; omega)) _ _).trans ‹_› | exact Pair.drew (Pair.below ‹_› (below1 _ _)) | exact Pair.below ‹_› (below1 _ _) | exact Pair.far ‹_› (by omega) hb1 | exact Pair.new .. | exact Pair.new1 .. | exact Pair.new2 .. | (go_keep; done)) | (go_keep; done))
        (first
          | (go_at_call_of 45 (s0); refine (G0.out _ bw4.out.drew).mono ?_; rintro e w1 ⟨v1, rfl, d1, hb1⟩; have hz1 : w.heap.size + 3 ≤ w1.heap.size := (by have := hb1.size; simp at this; omega))
          | (go_at_call_of 45 (s1); refine (G1.out _ (bw4.out.drew.trans (hb1.mono (B' := w.heap.size) (by simp; omega)))).mono ?_; rintro e w2 ⟨v2, rfl, d2, hb2⟩; have d1' := d1.below hb2; have hz2 := hb2.size)
          | (go_at_call 47; refine (rlessN_any v1 v2 x y _ d1' d2 k0 (by omega)).mono ?_; rintro e w3 ⟨v3, rfl, d3, hb3⟩; have hz3 := hb3.size)
          | (go_at_call 43; refine (FromN_any v3 _ _ d3 ks).mono ?_; rintro e w4 ⟨v4, rfl, d4, hb4⟩; have hz4 := hb4.size)
          | (go_at_call 24; refine (WholeN_any n0 v4 _ _ d4 mw).mono ?_; rintro e w5 ⟨v5, rfl, hi5, hb5⟩; obtain ⟨p5, n5, c5, rfl, hi5⟩ := hi5.shape; have hpr := Pair.below (by go_split_ands; assumption) hb5; obtain ⟨_, _, q0, q1, q2, q3⟩ := hpr.cells))
      go_wp2
      exact bodyPost_ret (v := .agg #[.bool (decide (sg n0 (x - y) < 0)), .slice p5 n5 c5]) (by simp [results, Tryd.results14, go_sem, q0, q1]) rfl
        ⟨_, rfl, by rw [← Hs.out]; exact hi5.stored hpr _ _ _ _, Below.stored (((((bw4.out.drew.trans (hb1.mono (B' := w.heap.size) (by simp; omega))).trans (hb2.mono (B' := w.heap.size) (by omega))).trans (hb3.mono (B' := w.heap.size) (by omega))).trans (hb4.mono (B' := w.heap.size) (by omega))).trans (hb5.mono (B' := w.heap.size) (by omega))) (by omega) _ _⟩
end Go.Proofs.YtippcalhcnjghaaDoor
/- elenchusref01.Neg, Sub, Sign, Cmp, Of. -/
namespace Go.Proofs.YtippcalhcnjghaaDoor
open Go.RowKit Big

theorem IntAt.raw {w : World} {v : Value} {z : Int} (h : IntAt w v z) (hs : sz W z.natAbs ≤ 1099511627776) : RawAt w v z := by
  obtain ⟨s, rfl, ha⟩ := h
  refine ⟨_, s, _, rfl, ha, small_dig W2 _, hs, ?_⟩
  rw [val_dig W2]
  unfold sg
  by_cases hz : z < 0 <;> simp [hz] <;> omega
theorem RawAt.sz {w : World} {v : Value} {z : Int} (h : RawAt w v z) : Big.sz W z.natAbs ≤ 1099511627776 := by
  obtain ⟨neg, s, l, rfl, ha, hs, hl, rfl⟩ := h
  rw [sg_natAbs]
  exact Nat.le_trans (sz_val W2 hs) hl

set_option maxHeartbeats 800000 in
theorem RNeg_any (v : Value) (z : Int) (w : World) (h : RawAt w v z) : Calls Tryd.prog 22 #[v] w (RInt (-z) w) := by
  obtain ⟨neg, s, l, rfl, ha, hs, hl, rfl⟩ := h
  have g : ∀ o o', Calls Tryd.prog 24 #[.bool (!neg), s] ((w.alloc o).alloc o') (RInt (-sg neg (val W l)) ((w.alloc o).alloc o')) := fun o o' => by
    have := Whole_any (!neg) s l _ ((ha.alloc o).alloc o') hs (by omega)
    rwa [show sg (!neg) (val W l) = -sg neg (val W l) by unfold sg; cases neg <;> simp] at this
  have G := hid g
  generalize -sg neg (val W l) = r at *
  clear g ha hs hl
  go_enter Tryd.func22, Tryd.ntmps22
  go_wp2_with fail
  refine (G.out _ _).mono ?_
  rintro e w2 ⟨v2, rfl, hi2, hb2⟩
  obtain ⟨p2, n2, c2, rfl, hi2⟩ := hi2.shape
  have hpr : Pair w2 (w.heap.size + 1) 25 := Pair.below (Pair.new1 ..) hb2
  obtain ⟨_, _, q0, q1, q2, q3⟩ := hpr.cells
  have bw : Below w.heap.size w w2 := ((below1 _ _).alloc (by simp) _).trans (hb2.mono (B' := w.heap.size) (by simp; omega))
  have Hi := hid hi2
  clear hb2 hi2
  go_wp2
  exact bodyPost_ret (v := .agg #[.bool (decide (r < 0)), .slice p2 n2 c2]) (by simp [results, Tryd.results22, go_sem, q0, q1]) rfl
    ⟨_, rfl, Hi.out.stored hpr _ _ _ _, Below.stored bw (by omega) _ _⟩

set_option maxHeartbeats 1600000 in
set_option maxRecDepth 100000 in
theorem RSub_any (v0 v1 : Value) (a b : Int) (w : World) (h0 : RawAt w v0 a) (h1 : RawAt w v1 b) : Calls Tryd.prog 16 #[v0, v1] w (RInt (a - b) w) := by
  have g1 : ∀ W', Below w.heap.size w W' → Calls Tryd.prog 22 #[v1] W' (RInt (-b) W') := fun W' hb => RNeg_any v1 b W' (h1.below hb)
  have g2 : ∀ W' v, Below w.heap.size w W' → IntAt W' v (-b) → Calls Tryd.prog 14 #[v0, v] W' (RInt (a - b) W') := fun W' v hb hv => by
    have := RAdd_any v0 v a (-b) W' (h0.below hb) (hv.raw (by rw [Int.natAbs_neg]; exact h1.sz))
    rwa [show a + -b = a - b by omega] at this
  have G1 := hid g1; have G2 := hid g2
  obtain ⟨n0, s0, l0, rfl, a0, -⟩ := id h0
  obtain ⟨n1, s1, l1, rfl, a1, -⟩ := id h1
  obtain ⟨p0, c0, rfl, -⟩ := a0
  obtain ⟨p1, c1, rfl, -⟩ := a1
  generalize a - b = r at *
  clear g1 g2 h0 h1
  generalize -b = nb at *
  go_enter Tryd.func16, Tryd.ntmps16
  go_wp2_with fail
  generalize hW : World.alloc (World.alloc (World.alloc w _) _) _ = W3
  have bw : Below w.heap.size w W3 := by rw [← hW]; exact ((below1 _ _).alloc (by simp) _).alloc (by simp; omega) _
  have hp : Pair W3 (w.heap.size + 1 + 1) 25 := by rw [← hW]; exact Pair.new2 ..
  obtain ⟨c00, c01, c10, c11, -⟩ : Two W3 w.heap.size (.bool n0) (.slice p0 l0.length c0) (.bool n1) (.slice p1 l1.length c1) := by rw [← hW]; exact (Two.new w _ _ _ _ _).below (below1 _ _)
  have z3 : w.heap.size + 3 ≤ W3.heap.size := by rw [← hW]; simp
  have bw' := hid bw
  clear hW bw
  go_region_held3 (fun w' => w'.cell? ⟨w.heap.size, 0, none⟩ = some (.bool n0) ∧ w'.cell? ⟨w.heap.size, 1, none⟩ = some (.slice p0 l0.length c0) ∧ w'.cell? ⟨w.heap.size + 1, 0, none⟩ = some (.bool n1) ∧ w'.cell? ⟨w.heap.size + 1, 1, none⟩ = some (.slice p1 l1.length c1) ∧ Pair w' (w.heap.size + 1 + 1) 25)
    (first | (go_split_ands; (try dsimp only); (repeat' apply And.intro) <;> first | assumption | exact Pair.drew ‹_› | exact Pair.below ‹_› hb9 | exact Pair.below ‹_› hb8 | exact Pair.below ‹_› hb7 | exact Pair.below ‹_› hb6 | exact Pair.below ‹_› hb5 | exact Pair.below ‹_› hb4 | exact Pair.below ‹_› hb3 | exact Pair.below ‹_› hb2 | exact Pair.below ‹_› hb1 | exact (hb9.cell (by first | omega | (simp; omega) | (simp; done))).trans ‹_› | exact (hb8.cell (by first | omega | (simp; omega) | (simp; done))).trans ‹_› | exact (hb7.cell (by first | omega | (simp; omega) | (simp; done))).trans ‹_› | exact (hb6.cell (by first | omega | (simp; omega) | (simp; done))).trans ‹_› | exact (hb5.cell (by first | omega | (simp; omega) | (simp; done))).trans ‹_› | exact (hb4.cell (by first | omega | (simp; omega) | (simp; done))).trans ‹_› | exact (hb3.cell (by first | omega | (simp; omega) | (simp; done))).trans ‹_› | exact (hb2.cell (by first | omega | (simp; omega) | (simp; done))).trans ‹_› | exact (hb1.cell (by first | omega | (simp; omega) | (simp; done))).trans ‹_› | exact Pair.set1 (Pair.set0 ‹_› _) _ _ _ | exact (cell_stored _ (by first | (dsimp only; omega) | (simp; done) | (simp; omega)) _ _).trans ‹_› | exact Pair.drew (Pair.below ‹_› (below1 _ _)) | exact Pair.below ‹_› (below1 _ _) | exact Pair.far ‹_› (by omega) hb1 | exact Pair.new .. | exact Pair.new1 .. | exact Pair.new2 .. | (go_keep; done)) | (go_keep; done))
    (first
      | (go_at_call 22; refine (G1.out _ bw'.out.drew).mono ?_; rintro e w1 ⟨v1, rfl, hi1, hb1⟩; have hz1 : w.heap.size + 3 ≤ w1.heap.size := (by have := hb1.size; simp at this; omega); obtain ⟨p3, n3, c3, rfl, hi1⟩ := hi1.shape)
      | (go_at_call 14; refine (G2.out _ _ (bw'.out.drew.trans (hb1.mono (B' := w.heap.size) (by simp; omega))) hi1).mono ?_; rintro e w2 ⟨v2, rfl, hi2, hb2⟩; obtain ⟨p2, n2, c2, rfl, hi2⟩ := hi2.shape; have hpr := Pair.below (by go_split_ands; assumption) hb2; obtain ⟨_, _, q0, q1, q2, q3⟩ := hpr.cells))
  go_wp2
  exact bodyPost_ret (v := .agg #[.bool (decide (r < 0)), .slice p2 n2 c2]) (by simp [results, Tryd.results16, go_sem, q0, q1]) rfl
    ⟨_, rfl, hi2.stored hpr _ _ _ _, Below.stored ((bw'.out.drew.trans (hb1.mono (B' := w.heap.size) (by simp; omega))).trans (hb2.mono (B' := w.heap.size) (by omega))) (by omega) _ _⟩
end Go.Proofs.YtippcalhcnjghaaDoor
/- elenchusref01.Sign, Cmp, Of. -/
namespace Go.Proofs.YtippcalhcnjghaaDoor
open Go.RowKit Big

set_option maxHeartbeats 800000 in
theorem RSign_any (v : Value) (z : Int) (w : World) (h : RawAt w v z) : Calls Tryd.prog 20 #[v] w (RNum .i64 z.sign w) := by
  obtain ⟨neg, s, l, rfl, ha, hs, hl, hz⟩ := h
  have g : ∀ o, Calls Tryd.prog 24 #[.bool neg, s] (w.alloc o) (RInt z (w.alloc o)) := fun o => by
    rw [hz]; exact Whole_any neg s l _ (ha.alloc o) hs (by omega)
  have G := hid g
  clear g hs hl hz
  obtain ⟨p, c, rfl, -⟩ := ha
  go_enter Tryd.func20, Tryd.ntmps20
  go_wp2_with fail
  refine (G.out _).mono ?_
  rintro e w2 ⟨v2, rfl, ⟨s2, rfl, hi2⟩, hb2⟩
  have hlen := sz_eq_zero (n := z.natAbs) W2
  unfold sz at hlen
  obtain ⟨p2, c2, rfl, -⟩ := hi2
  have hpr : Pair w2 w.heap.size 25 := Pair.below (Pair.new ..) hb2
  obtain ⟨_, _, q0, q1, q2, q3⟩ := hpr.cells
  have bw : Below w.heap.size w w2 := (below1 _ _).trans (hb2.mono (B' := w.heap.size) (by simp))
  clear hb2 hpr
  rcases Int.lt_trichotomy z 0 with hz | hz | hz
  · have hs : Hid (z.sign = -1) := Int.sign_eq_neg_one_of_neg hz
    clear hlen
    go_wp2
    go_ret
    exact ⟨by rw [hs.out]; rfl, Below.stored bw (by omega) _ _⟩
  · subst hz
    have hs : Hid ((0 : Int).sign = 0) := rfl
    have h0 : (dig W (0 : Int).natAbs).length = 0 := rfl
    rw [h0]
    clear hlen h0
    go_wp2
    go_ret
    exact ⟨by rw [hs.out]; rfl, Below.stored bw (by omega) _ _⟩
  · have hs : Hid (z.sign = 1) := Int.sign_eq_one_of_pos hz
    have hneg : ¬ z < 0 := by omega
    obtain ⟨n, hn⟩ : ∃ n, n = (dig W z.natAbs).length := ⟨_, rfl⟩
    rw [← hn] at hlen ⊢
    have hn0 : ((n : Int) == 0) = false := beq_eq_false_iff_ne.2 (by omega)
    clear hlen hn
    go_wp2
    go_ret
    exact ⟨by rw [hs.out]; rfl, Below.stored bw (by omega) _ _⟩

theorem ord_sub (a b : Int) : (a - b).sign = ord a b := by
  rcases Int.lt_trichotomy a b with h | h | h
  · rw [ord_lt h, Int.sign_eq_neg_one_of_neg (by omega)]
  · subst h; rw [ord_eq]; simp
  · rw [ord_gt h, Int.sign_eq_one_of_pos (by omega)]

theorem sz_sub (a b : Int) (ha : sz W a.natAbs ≤ 549755813888) (hb : sz W b.natAbs ≤ 549755813888) : sz W (a - b).natAbs ≤ 1099511627776 :=
  Nat.le_trans (sz_mono W2 (by omega : (a - b).natAbs ≤ a.natAbs + b.natAbs)) (Nat.le_trans (sz_add W2 ha hb) (by omega))

set_option maxHeartbeats 800000 in
theorem RCmp_any (v0 v1 : Value) (a b : Int) (w : World) (h0 : RawAt w v0 a) (h1 : RawAt w v1 b) (ha : sz W a.natAbs ≤ 549755813888) (hb : sz W b.natAbs ≤ 549755813888) :
    Calls Tryd.prog 18 #[v0, v1] w (RNum .i64 (ord a b) w) := by
  have hsz := sz_sub a b ha hb
  have g1 : ∀ W', Below w.heap.size w W' → Calls Tryd.prog 16 #[v0, v1] W' (RInt (a - b) W') := fun W' hb => RSub_any v0 v1 a b W' (h0.below hb) (h1.below hb)
  have g2 : ∀ W' v, IntAt W' v (a - b) → Calls Tryd.prog 20 #[v] W' (RNum .i64 (ord a b) W') := fun W' v hv => by
    have := RSign_any v _ W' (hv.raw hsz)
    rwa [ord_sub] at this
  have G1 := hid g1; have G2 := hid g2
  obtain ⟨n0, s0, l0, rfl, a0, -⟩ := id h0
  obtain ⟨n1, s1, l1, rfl, a1, -⟩ := id h1
  clear g1 g2 hsz h0 h1 a0 a1
  generalize a - b = d at *
  generalize ord a b = r at *
  go_enter Tryd.func18, Tryd.ntmps18
  go_wp2_with fail
  refine (G1.out _ ((below1 _ _).alloc (by simp) _)).mono ?_
  rintro e w1 ⟨v1, rfl, hi1, hb1⟩
  go_wp2_with fail
  refine (G2.out _ _ hi1).mono ?_
  rintro e w2 ⟨rfl, hb2⟩
  go_wp2_with fail
  go_ret
  exact ⟨rfl, (((below1 _ _).alloc (by simp) _).trans (hb1.mono (B' := w.heap.size) (by simp; omega))).trans (hb2.mono (B' := w.heap.size) (by have := hb1.size; simp at this; omega))⟩
theorem wrap_of_neg (n : Nat) (h : n < W) : IntKind.u64.wrap (n : Int) = (n : Int) := by
  unfold W at h
  simp only [IntKind.wrap, IntKind.bits, IntKind.signed]
  simp
  omega
theorem small_one {x : Nat} (h : x < W) : Small W [x] := small_cons h (small_nil W)

theorem At.one1 (w : World) (o : Obj) (k : IntKind) (x : Nat) (t : TypeId) : At ((w.alloc o).alloc (.cells #[.int k (x : Nat)] t)) k (.slice (some ⟨w.heap.size + 1, 0, none⟩) 1 1) [x] := by
  have := At.one (w.alloc o) k x t
  rwa [size_alloc] at this
theorem sz_word {n : Nat} (h : n < W) : sz W n ≤ 1 := sz_le_of_lt W2 (by rwa [Nat.pow_one])

set_option maxHeartbeats 1600000 in
theorem ROf_any (z : Int) (w : World) (h0 : -9223372036854775808 ≤ z) (h1 : z ≤ 9223372036854775807) : Calls Tryd.prog 32 #[.int .i64 z] w (RInt z w) := by
  by_cases hz : z < 0
  · obtain ⟨n, hn⟩ : ∃ n : Nat, z = -(n : Int) - 1 := ⟨(-z - 1).toNat, by omega⟩
    have hnW : n < W := by unfold W; omega
    have hn' : n ≤ 9223372036854775807 := by omega
    subst hn
    clear h0 h1
    have hsz : sz W (sg true n).natAbs ≤ 1099511627776 := by rw [sg_natAbs]; exact Nat.le_trans (sz_word hnW) (by omega)
    have hsz1 : sz W (sg false 1).natAbs ≤ 1099511627776 := by rw [sg_natAbs]; exact Nat.le_trans (sz_word (by decide)) (by omega)
    have g1 : ∀ o o', Calls Tryd.prog 24 #[.bool true, .slice (some ⟨w.heap.size + 1, 0, none⟩) 1 1] ((w.alloc o).alloc (.cells #[.int .u64 (n : Nat)] o')) (RInt (sg true n) ((w.alloc o).alloc (.cells #[.int .u64 (n : Nat)] o'))) := fun o o' => by
      have := Whole_any true _ [n] _ (At.one1 w o .u64 n o') (small_one hnW) (by simp)
      rwa [show val W [n] = n by simp [val]] at this
    have g2 : ∀ W' o', Calls Tryd.prog 24 #[.bool false, .slice (some ⟨World.heap W' |>.size, 0, none⟩) 1 1] (W'.alloc (.cells #[.int .u64 1] o')) (RInt (sg false 1) (W'.alloc (.cells #[.int .u64 1] o'))) := fun W' o' => by
      have := Whole_any false _ [1] _ (At.oneI W' .u64 1 1 o' rfl) (small_one (by decide)) (by simp)
      rwa [show val W [1] = 1 by simp [val]] at this
    have g3 : ∀ W' v v', IntAt W' v (sg true n) → IntAt W' v' (sg false 1) → Calls Tryd.prog 16 #[v, v'] W' (RInt (-(n : Int) - 1) W') := fun W' v v' h h' => by
      have := RSub_any v v' _ _ W' (h.raw hsz) (h'.raw hsz1)
      rwa [show sg true n - sg false 1 = -(n : Int) - 1 by simp [sg]] at this
    have G1 := hid g1; have G2 := hid g2; have G3 := hid g3
    clear g1 g2 g3 hsz hsz1
    obtain ⟨r, hr⟩ : ∃ r, r = -(n : Int) - 1 := ⟨_, rfl⟩
    have G3' : Hid (∀ W' v v', IntAt W' v (sg true n) → IntAt W' v' (sg false 1) → Calls Tryd.prog 16 #[v, v'] W' (RInt r W')) := by rw [hr]; exact G3
    have G4 : Hid (∀ e w', RInt r w e w' → RInt (-(n : Int) - 1) w e w') := by rw [hr]; exact fun _ _ h => h
    refine Calls.mono ?_ G4.out
    clear hr G3
    generalize sg true n = a at *
    generalize sg false 1 = b at *
    go_enter Tryd.func32, Tryd.ntmps32
    go_wp2_with fail
    refine (G1.out _ _).mono ?_
    rintro e w1 ⟨v1, rfl, hi1, hb1⟩
    go_wp2_with fail
    refine (G2.out _ _).mono ?_
    rintro e w2 ⟨v2, rfl, hi2, hb2⟩
    have hi1' := hi1.below ((below1 _ _).trans (hb2.mono (B' := w1.heap.size) (by simp)))
    go_wp2_with fail
    refine (G3'.out _ _ _ hi1' hi2).mono ?_
    rintro e w3 ⟨v3, rfl, hi3, hb3⟩
    obtain ⟨p3, n3, c3, rfl, hi3⟩ := hi3.shape
    have z1 : w.heap.size + 2 ≤ w1.heap.size := by have := hb1.size; simp at this; omega
    have z2 : w.heap.size + 3 ≤ w2.heap.size := by have := hb2.size; simp at this; omega
    have b12 : Below w1.heap.size w1 w2 := (below1 _ _).trans (hb2.mono (B' := w1.heap.size) (by simp))
    have hpr : Pair w3 w.heap.size 25 := Pair.below (Pair.below (Pair.below (Pair.below (Pair.new ..) (below1 _ _)) hb1) b12) hb3
    obtain ⟨_, _, q0, q1, q2, q3⟩ := hpr.cells
    have bw : Below w.heap.size w w3 := ((((below1 _ _).alloc (by simp) _).trans (hb1.mono (B' := w.heap.size) (by simp; omega))).trans (b12.mono (B' := w.heap.size) (by omega))).trans (hb3.mono (B' := w.heap.size) (by omega))
    have Hi := hid hi3
    clear hb1 hb2 hb3 b12 hi1 hi1' hi2 hi3
    go_wp2
    exact bodyPost_ret (v := .agg #[.bool (decide (r < 0)), .slice p3 n3 c3]) (by simp [results, Tryd.results32, go_sem, q0, q1]) rfl
      ⟨_, rfl, Hi.out.stored hpr _ _ _ _, Below.stored bw (by omega) _ _⟩
  · obtain ⟨n, hn⟩ : ∃ n : Nat, z = (n : Int) := ⟨z.natAbs, by omega⟩
    subst hn
    have hnW : n < W := by unfold W; omega
    have g1 : ∀ o o', Calls Tryd.prog 24 #[.bool false, .slice (some ⟨w.heap.size + 1, 0, none⟩) 1 1] ((w.alloc o).alloc (.cells #[.int .u64 (n : Nat)] o')) (RInt (n : Int) ((w.alloc o).alloc (.cells #[.int .u64 (n : Nat)] o'))) := fun o o' => by
      have := Whole_any false _ [n] _ (At.one1 w o .u64 n o') (small_one hnW) (by simp)
      rwa [show sg false (val W [n]) = (n : Int) by simp [val, sg]] at this
    have G1 := hid g1
    clear g1
    go_enter Tryd.func32, Tryd.ntmps32
    go_wp2_with fail
    refine (G1.out _ _).mono ?_
    rintro e w1 ⟨v1, rfl, hi1, hb1⟩
    obtain ⟨p3, n3, c3, rfl, hi1⟩ := hi1.shape
    have z1 : w.heap.size + 2 ≤ w1.heap.size := by have := hb1.size; simp at this; omega
    have hpr : Pair w1 w.heap.size 25 := Pair.below (Pair.below (Pair.new ..) (below1 _ _)) hb1
    obtain ⟨_, _, q0, q1, q2, q3⟩ := hpr.cells
    have bw : Below w.heap.size w w1 := ((below1 _ _).alloc (by simp) _).trans (hb1.mono (B' := w.heap.size) (by simp; omega))
    have Hi := hid hi1
    clear hb1 hi1
    go_wp2
    exact bodyPost_ret (v := .agg #[.bool (decide ((n : Int) < 0)), .slice p3 n3 c3]) (by simp [results, Tryd.results32, go_sem, q0, q1]) rfl
      ⟨_, rfl, Hi.out.stored hpr _ _ _ _, Below.stored bw (by omega) _ _⟩
end Go.Proofs.YtippcalhcnjghaaDoor
/- whole.divide of numbers of one word. -/
namespace Go.Proofs.YtippcalhcnjghaaDoor
open Go.RowKit Big

def RTwo (q r : Nat) (w : World) (e : Ending) (w' : World) : Prop := ∃ v v', e = .returned (.tuple #[v, v']) ∧ At w' .u64 v (dig W q) ∧ At w' .u64 v' (dig W r) ∧ Below w.heap.size w w'

theorem head_dig {n : Nat} (h : n < W) : (dig W n).headD 0 = n := by
  by_cases h0 : n = 0
  · subst h0; rfl
  · rw [dig_one W2 (by omega) h]; rfl

set_option maxRecDepth 100000 in
set_option maxHeartbeats 1600000 in
theorem divide_small (v0 v1 : Value) (n m : Nat) (w : World) (h0 : At w .u64 v0 (dig W n)) (h1 : At w .u64 v1 (dig W m)) (hn : n < W) (hm : m < W) (hm0 : 0 < m) :
    Calls Tryd.prog 50 #[v0, v1] w (RTwo (n / m) (n % m) w) := by
  have g0 : ∀ W', Below w.heap.size w W' → Calls Tryd.prog 74 #[v0] W' fun e w' => e = .returned (.int .u64 (n : Nat)) ∧ W' = w' := fun W' hb => by
    have := word_any v0 _ W' (h0.below hb); rwa [head_dig hn] at this
  have g1 : ∀ W', Below w.heap.size w W' → Calls Tryd.prog 74 #[v1] W' fun e w' => e = .returned (.int .u64 (m : Nat)) ∧ W' = w' := fun W' hb => by
    have := word_any v1 _ W' (h1.below hb); rwa [head_dig hm] at this
  have s0 : (dig W n).length ≤ 1 := sz_word hn
  have s1 : (dig W m).length ≤ 1 := sz_word hm
  have G0 := hid g0; have G1 := hid g1
  clear g0 g1
  obtain ⟨p0, c0, rfl, -⟩ := h0
  obtain ⟨p1, c1, rfl, -⟩ := h1
  have o0 : ∀ W', Calls Tryd.prog 55 #[.int .u64 ((n / m : Nat) : Int)] W' (RAt .u64 (dig W (n / m)) W') := fun W' => ownWord_any (n / m) W' (Nat.lt_of_le_of_lt (Nat.div_le_self n m) hn)
  have o1 : ∀ W', Calls Tryd.prog 55 #[.int .u64 ((n % m : Nat) : Int)] W' (RAt .u64 (dig W (n % m)) W') := fun W' => ownWord_any (n % m) W' (Nat.lt_trans (Nat.mod_lt n hm0) hm)
  have O0 := hid o0; have O1 := hid o1
  clear o0 o1
  have hq : n / m < W := Nat.lt_of_le_of_lt (Nat.div_le_self n m) hn
  have td' : IntKind.u64.wrap ((n : Int) / (m : Int)) = ((n / m : Nat) : Int) := by
    rw [← Int.natCast_ediv]
    generalize n / m = q at *
    unfold W at hq
    simp only [IntKind.wrap, IntKind.bits, IntKind.signed]
    simp; omega
  have tm' : ((n : Int) % (m : Int)) = ((n % m : Nat) : Int) := (Int.natCast_emod n m).symm
  have hb : ((m : Int) == 0) = false := beq_eq_false_iff_ne.2 (by omega)
  have Td' := hid td'; have Tm' := hid tm'
  clear td' tm' hq
  generalize (dig W n).length = k0 at *
  generalize (dig W m).length = k1 at *
  go_enter Tryd.func50, Tryd.ntmps50
  go_wp2_with fail
  refine (G0.out _ (Below.refl _ _)).mono ?_
  rintro e w' ⟨rfl, rfl⟩
  go_wp2_with fail
  refine (G1.out _ (Below.refl _ _)).mono ?_
  rintro e w' ⟨rfl, rfl⟩
  go_wp2_with fail
  rw [Td'.out]
  refine (O0.out _).mono ?_
  rintro e w1 ⟨q, rfl, hq, hb1⟩
  go_wp2_with fail
  refine (G0.out _ hb1).mono ?_
  rintro e w' ⟨rfl, rfl⟩
  go_wp2_with fail
  refine (G1.out _ hb1).mono ?_
  rintro e w' ⟨rfl, rfl⟩
  go_wp2_with fail
  rw [Tm'.out]
  refine (O1.out _).mono ?_
  rintro e w2 ⟨r, rfl, hr, hb2⟩
  go_wp2_with fail
  go_ret2
  exact ⟨_, _, rfl, hq.below hb2, hr, hb1.trans (hb2.mono hb1.size)⟩
end Go.Proofs.YtippcalhcnjghaaDoor
/- elenchusref01.Same, SameInt. -/
namespace Go.Proofs.YtippcalhcnjghaaDoor
open Go.RowKit Big

def RDrawn (v : Value) (w : World) (e : Ending) (w' : World) : Prop := e = .returned v ∧ ∃ k, w' = w.drewN k

set_option maxHeartbeats 800000 in
theorem Same_any (v0 v1 : Value) (l0 l1 : List Nat) (w : World) (h0 : At w .u64 v0 l0) (h1 : At w .u64 v1 l1) :
    Calls Tryd.prog 37 #[v0, v1] w (RDrawn (.bool (decide (l0 = l1))) w) := by
  obtain ⟨r, hr⟩ : ∃ r, r = decide (l0 = l1) := ⟨_, rfl⟩
  rw [← hr]
  have Hr := hid hr
  clear hr
  obtain ⟨p0, c0, rfl, a1, a2, a3, a4⟩ := h0
  obtain ⟨p1, c1, rfl, b1, b2, b3, b4⟩ := h1
  unfold maxLen at a2 b2
  by_cases hl : l0.length = l1.length
  · have Hl := hid hl
    rw [hl] at a1 ⊢; clear hl
    go_enter Tryd.func37, Tryd.ntmps37
    go_wp2_with fail
    go_loopw [13] (fun i wr => ∃ (k : Nat), k ≤ l1.length ∧ i = .int .i64 (k : Nat) ∧ Hid (l0.take k = l1.take k) ∧ Hid (∃ j, wr = w.drewN j)) (fun i _ => l1.length - (intOf i).toNat)
    case atStart => exact ⟨0, Nat.zero_le _, rfl, rfl, 0, rfl⟩
    case round =>
      obtain ⟨k, hk, rfl, hd, Hw⟩ := hrel
      by_cases hk0 : k < l1.length
      · have hkl : k < l0.length := by rw [Hl.out]; omega
        obtain ⟨b, off, rfl, hbb, hc0⟩ := a4 (Nat.lt_of_le_of_lt (Nat.zero_le _) hkl)
        obtain ⟨b', off', rfl, hbb', hc1⟩ := b4 (by omega)
        have e0 : wr.cell? ⟨b, off + k, none⟩ = some (.int .u64 (l0[k] : Nat)) := by obtain ⟨j, rfl⟩ := Hw.out; exact hc0 k hkl
        have e1 : wr.cell? ⟨b', off' + k, none⟩ = some (.int .u64 (l1[k] : Nat)) := by obtain ⟨j, rfl⟩ := Hw.out; exact hc1 k (by omega)
        have es : l0[k] = l1[k] → l0.take (k + 1) = l1.take (k + 1) := fun h => by rw [take_succ' l0 k hkl, take_succ' l1 k hk0, hd.out, h]
        have en : l0[k] ≠ l1[k] → decide (l0 = l1) = false := fun h => by simp only [decide_eq_false_iff_not]; rintro rfl; exact h rfl
        generalize l0[k] = x at *
        generalize l1[k] = y at *
        have Es : Hid (x = y → l0.take (k + 1) = l1.take (k + 1)) := es
        have En : Hid (x ≠ y → decide (l0 = l1) = false) := en
        clear a4 b4 hc0 hc1 es en hbb hbb'
        have hlow : (0 : Int) ≤ (k : Int) := by omega
        have hup : (k : Int) < (l1.length : Int) := by omega
        by_cases hxy : x = y
        · subst hxy
          go_wp2
          go_quiet (fail)
          go_wp2
          go_roundw
          case rel => exact ⟨k + 1, by omega, by go_num, Es.out (by trivial), drawn_more Hw.out⟩
          case measure => (simp [intOf] <;> omega)
        · have hb : ((x : Int) != (y : Int)) = true := bne_iff_ne.2 (fun h => hxy (by omega))
          have Hf : Hid (decide (l0 = l1) = false) := En.out hxy
          clear Es En
          go_wp2
          go_quiet (fail)
          go_wp2
          go_ret
          exact ⟨by rw [Hr.out, Hf.out]; rfl, drawn_more Hw.out⟩
      · obtain rfl : k = l1.length := by omega
        have ht : Hid (decide (l0 = l1) = true) := by
          have h := hd.out
          rw [List.take_length, List.take_of_length_le (Nat.le_of_eq Hl.out)] at h
          simpa [Hid] using h
        clear a4 b4 hd
        go_wp2
        go_ret
        exact ⟨by rw [Hr.out, ht.out]; rfl, Hw.out⟩
  · have hb : ((l0.length : Int) != (l1.length : Int)) = true := bne_iff_ne.2 (by omega)
    have Hf : Hid (decide (l0 = l1) = false) := by
      simp only [Hid, decide_eq_false_iff_not]; rintro rfl; exact hl rfl
    clear a4 b4
    go_enter Tryd.func37, Tryd.ntmps37
    go_wp2
    go_ret
    exact ⟨by rw [Hr.out, Hf.out]; rfl, 0, rfl⟩

set_option maxHeartbeats 800000 in
theorem SameInt_raw (n0 n1 : Bool) (s0 s1 : Value) (l0 l1 : List Nat) (w : World) (h0 : At w .u64 s0 l0) (h1 : At w .u64 s1 l1) (hn : n0 = n1) (hl : l0 = l1) :
    Calls Tryd.prog 12 #[.agg #[.bool n0, s0], .agg #[.bool n1, s1]] w (RBool true w) := by
  subst hn
  subst hl
  have g : ∀ o o', Calls Tryd.prog 37 #[s0, s1] ((w.alloc o).alloc o') (RDrawn (.bool true) ((w.alloc o).alloc o')) := fun o o' => by
    have := Same_any s0 s1 l0 l0 _ ((h0.alloc o).alloc o') ((h1.alloc o).alloc o')
    rwa [decide_eq_true rfl] at this
  have G := hid g
  clear g h0 h1
  go_enter Tryd.func12, Tryd.ntmps12
  go_wp2_with fail
  refine (G.out _ _).mono ?_
  rintro e w' ⟨rfl, k, rfl⟩
  go_wp2_with fail
  go_ret
  exact ⟨rfl, below_drewN ((below1 _ _).alloc (by simp) _) _⟩
theorem SameInt_same (v0 v1 : Value) (z : Int) (w : World) (h0 : IntAt w v0 z) (h1 : IntAt w v1 z) : Calls Tryd.prog 12 #[v0, v1] w (RBool true w) := by
  obtain ⟨s0, rfl, a0⟩ := h0
  obtain ⟨s1, rfl, a1⟩ := h1
  exact SameInt_raw _ _ s0 s1 _ _ w a0 a1 rfl rfl
end Go.Proofs.YtippcalhcnjghaaDoor
/- elenchuslaw01.few of two numbers, copied. -/
namespace Go.Proofs.YtippcalhcnjghaaDoor
open Go.RowKit Big

set_option maxRecDepth 100000 in
set_option maxHeartbeats 800000 in
theorem few2_any (b : Nat) (n0 n1 : Bool) (p0 p1 : Option Addr) (k0 c0 k1 c1 cap : Nat) (w : World)
    (e0 : w.cell? ⟨b, 0, none⟩ = some (.bool n0)) (e1 : w.cell? ⟨b, 1, none⟩ = some (.slice p0 k0 c0)) (e2 : w.cell? ⟨b, 2, none⟩ = some (.bool n1)) (e3 : w.cell? ⟨b, 3, none⟩ = some (.slice p1 k1 c1))
    (h0 : k0 ≤ 9223372036854775807) (h1 : k1 ≤ 9223372036854775807) :
    Calls Tryd.prog 10 #[.slice (some ⟨b, 0, none⟩) 2 cap] w (RBool (decide (k0 ≤ 20 ∧ k1 ≤ 20)) w) := by
  have hb := World.block_lt_of_cell? w _ e0
  have e2' : ∀ o, (w.alloc o).cell? ⟨b, 2, none⟩ = some (.bool n1) := fun o => ((below1 w o).cell (p := ⟨b, 2, none⟩) hb).trans e2
  have e3' : ∀ o, (w.alloc o).cell? ⟨b, 3, none⟩ = some (.slice p1 k1 c1) := fun o => ((below1 w o).cell (p := ⟨b, 3, none⟩) hb).trans e3
  rcases (by omega : (k0 ≤ 20 ∧ k1 ≤ 20) ∨ (k0 ≤ 20 ∧ 20 < k1) ∨ 20 < k0) with ⟨a0, a1⟩ | ⟨a0, a1⟩ | a0
  · obtain ⟨r, hr⟩ : ∃ r, r = decide (k0 ≤ 20 ∧ k1 ≤ 20) := ⟨_, rfl⟩
    rw [← hr]
    have hd : Hid (r = true) := by unfold Hid; rw [hr]; simp; omega
    clear hr
    go_enter Tryd.func10, Tryd.ntmps10
    go_wp2_with fail
    refine wp_loop_rounds 3 ?_
    rw [rounds_succ]
    go_wp2
    rw [rounds_succ]
    go_wp2
    rw [rounds_succ]
    go_wp2
    go_ret
    exact ⟨by rw [hd.out]; rfl, (below1 _ _).alloc (by simp) _⟩
  · obtain ⟨r, hr⟩ : ∃ r, r = decide (k0 ≤ 20 ∧ k1 ≤ 20) := ⟨_, rfl⟩
    rw [← hr]
    have hd : Hid (r = false) := by unfold Hid; rw [hr]; simp; omega
    clear hr
    go_enter Tryd.func10, Tryd.ntmps10
    go_wp2_with fail
    refine wp_loop_rounds 3 ?_
    rw [rounds_succ]
    go_wp2
    rw [rounds_succ]
    go_wp2
    go_ret
    exact ⟨by rw [hd.out]; rfl, (below1 _ _).alloc (by simp) _⟩
  · obtain ⟨r, hr⟩ : ∃ r, r = decide (k0 ≤ 20 ∧ k1 ≤ 20) := ⟨_, rfl⟩
    rw [← hr]
    have hd : Hid (r = false) := by unfold Hid; rw [hr]; simp; omega
    clear hr
    go_enter Tryd.func10, Tryd.ntmps10
    go_wp2_with fail
    refine wp_loop_rounds 3 ?_
    rw [rounds_succ]
    go_wp2
    go_ret
    exact ⟨by rw [hd.out]; rfl, below1 _ _⟩
end Go.Proofs.YtippcalhcnjghaaDoor
/- elenchuslaw01.copied: the same number in new memory. -/
namespace Go.Proofs.YtippcalhcnjghaaDoor
open Go.RowKit Big

theorem Pair.far {w w' : World} {g B : Nat} {t : TypeId} (h : Pair w g t) (hg : g < B) (hb : Below B w w') : Pair w' g t := by
  obtain ⟨x, p, n, c, h⟩ := h
  exact ⟨x, p, n, c, (hb.block g hg).trans h⟩
/-- 'append(v, x...)' inside a region that draws its order -/
theorem step_append_at {P : Program} {w : World} {ops : Array Oper} {o : Oper} {a : Act} {K : Act → World → Prop} {Q : Exit → Act → World → Prop} {E' : Prop} (hgd : o.guard = none) (s x : Operand) (t : TypeId)
    (ho : o.op = .call { callee := .builtin .append, args := #[s, x], argTypes := #[t, t] })
    {e : TypeId} {k : IntKind} {size : Nat} (E : Elem P t e k size) (base : Nat) (v : Value) (l : List Nat) (hs : a.eval s = v) (hown : Own w base e k v l)
    (vx : Value) (m : List Nat) (hx : a.eval x = vx) (hat : At w k vx m)
    (hlen : l.length + m.length ≤ maxLen) (hbytes : (l.length + m.length) * size ≤ 140737488355328) (hbase : base ≤ w.heap.size)
    (h : ∀ v' w', Own w' base e k v' (l ++ m) → Below base w w' → w.heap.size ≤ w'.heap.size → K (a.put o.dst v') w') :
    if Region.wanted o (yielded ops a.tmps) = true then Oper.wp P o a w K Q else E' := by
  have hw : Region.wanted o (yielded ops a.tmps) = true := by simp [Region.wanted, hgd]
  rw [if_pos hw]
  obtain ⟨i, hi, hz, hsz, hby⟩ := E.row
  obtain ⟨p, cap, rfl, h1, h2, h3, h4⟩ := hat
  cases p with
  | none =>
    obtain rfl := h3 rfl
    obtain rfl : m = [] := List.eq_nil_of_length_eq_zero (by omega)
    have hrun := run_append_owned_none (P := P) (w := w) base t o.type e i 1 E.und hi v l.length (ints k l) hown
    unfold Oper.wp
    simp [execOp, ho, resolve, invoke, builtin, hs, hx, hrun, Result.andThen]
    exact h _ _ (by rw [List.append_nil]; exact hown) (Below.refl _ _) (Nat.le_refl _)
  | some ad =>
    refine wp_append_own w s x t ho base e i (.int k 0) 1 size E.und hi hz hsz hby rfl (by decide) v l.length (ints k l) hs hown ad m.length cap (ints k m) hx (by simp [ints_length]) ?_ ?_ hlen hbytes hbase ?_
    · intro j u hj
      by_cases hjm : j < m.length
      · obtain ⟨b, off, he, hb, hc⟩ := h4 (by omega)
        cases he
        rw [Go.WideShapes.add_plain, hc j hjm]
        simpa [ints, hjm] using hj
      · rw [List.getElem?_eq_none (by rw [ints_length]; omega)] at hj; cases hj
    · intro u hu
      obtain ⟨n, _, rfl⟩ := List.mem_map.1 hu
      rfl
    · intro v' w' h5 h6 _
      refine h v' w' ?_ ((Below.refl _ _).grown h6 hbase hown.row) h6.size
      unfold Own
      rw [List.length_append, ints_append]; exact h5

def RCopied (neg : Bool) (l : List Nat) (w : World) (e : Ending) (w' : World) : Prop := ∃ p c, e = .returned (.agg #[.bool neg, .slice p l.length c]) ∧ At w' .u64 (.slice p l.length c) l ∧ Below w.heap.size w w'

set_option maxRecDepth 100000 in
set_option maxHeartbeats 800000 in
theorem copied_any (neg : Bool) (s : Value) (l : List Nat) (w : World) (ha : At w .u64 s l) (hl : l.length ≤ 1099511627776) :
    Calls Tryd.prog 11 #[.agg #[.bool neg, s]] w (RCopied neg l w) := by
  have hat := hid ha
  obtain ⟨p, c, rfl, -⟩ := ha
  go_enter Tryd.func11, Tryd.ntmps11
  go_wp2_with fail
  generalize hW : World.alloc (World.alloc w _) _ = W3
  have bw : Below w.heap.size w W3 := by rw [← hW]; exact (below1 _ _).alloc (by simp) _
  have hp : Pair W3 (w.heap.size + 1) 25 := by rw [← hW]; exact Pair.new1 ..
  have hc := two_cells (w := W3) (g := w.heap.size) (a := .bool neg) (b := .slice p l.length c) (t := 25) (by rw [← hW, heap_alloc_old _ _ (by simp)]; exact heap_alloc_new w _)
  obtain ⟨c0, c1, -, -⟩ := hc
  have z3 : w.heap.size + 2 ≤ W3.heap.size := by rw [← hW]; simp
  have bw' := hid bw
  clear hW bw
  go_region_held3 (fun w' => w'.cell? ⟨w.heap.size, 0, none⟩ = some (.bool neg) ∧ w'.cell? ⟨w.heap.size, 1, none⟩ = some (.slice p l.length c) ∧ Pair w' (w.heap.size + 1) 25)
    (first | (go_split_ands; (try dsimp only); (repeat' apply And.intro) <;> first | assumption | exact Pair.drew ‹_› | exact Pair.below ‹_› hb9 | exact Pair.below ‹_› hb8 | exact Pair.below ‹_› hb7 | exact Pair.below ‹_› hb6 | exact Pair.below ‹_› hb5 | exact Pair.below ‹_› hb4 | exact Pair.below ‹_› hb3 | exact Pair.below ‹_› hb2 | exact Pair.below ‹_› hb1 | exact (hb9.cell (by first | omega | (simp; omega) | (simp; done))).trans ‹_› | exact (hb8.cell (by first | omega | (simp; omega) | (simp; done))).trans ‹_› | exact (hb7.cell (by first | omega | (simp; omega) | (simp; done))).trans ‹_› | exact (hb6.cell (by first | omega | (simp; omega) | (simp; done))).trans ‹_› | exact (hb5.cell (by first | omega | (simp; omega) | (simp; done))).trans ‹_› | exact (hb4.cell (by first | omega | (simp; omega) | (simp; done))).trans ‹_› | exact (hb3.cell (by first | omega | (simp; omega) | (simp; done))).trans ‹_› | exact (hb2.cell (by first | omega | (simp; omega) | (simp; done))).trans ‹_› | exact (hb1.cell (by first | omega | (simp; omega) | (simp; done))).trans ‹_› | exact Pair.set1 (Pair.set0 ‹_› _) _ _ _ | exact (cell_stored _ (by first | (dsimp only; omega) | (simp; done) | (simp; omega)) _ _).trans ‹_› | exact Pair.drew (Pair.below ‹_› (below1 _ _)) | exact Pair.below ‹_› (below1 _ _) | exact Pair.far ‹_› (by omega) hb1 | exact Pair.new .. | exact Pair.new1 .. | exact Pair.new2 .. | (go_keep; done)) | (go_keep; done))
    (first
      | (refine step_append_at (by rfl) _ _ 23 (by rfl) elemNat W3.heap.size _ [] (by rfl) (World.ownsRow_made W3 #[] 0 (Nat.le_refl _) (by simp [maxLen]) rfl) _ l (by rfl) (((hat.out.below bw'.out).alloc _).drew) (by simp [maxLen]; omega) (by simp; omega) (by simp) ?_; intro v1 w1 ho1 hb1 hz1; obtain ⟨pv, cv, rfl, -⟩ := id ho1.at; have hpr := Pair.far (by go_split_ands; assumption) (by omega) hb1; obtain ⟨_, _, q0, q1, q2, q3⟩ := hpr.cells))
  go_wp2
  exact bodyPost_ret (v := .agg #[.bool neg, .slice pv l.length cv]) (by simp [results, Tryd.results11, go_sem, q0, q1]) rfl
    ⟨_, _, rfl, (by have := ho1.at.stored hpr neg pv l.length cv; simpa using this), Below.stored ((bw'.out.trans ((below1 W3 _).drew.mono (B' := w.heap.size) (by omega))).trans (hb1.mono (B' := w.heap.size) (by omega))) (by omega) _ _⟩
end Go.Proofs.YtippcalhcnjghaaDoor
/- A region that draws its order, walked operation by operation under an invariant that speaks of what has come up: no branching over the orders. -/
namespace Go.Proofs.YtippcalhcnjghaaDoor

theorem count_false_set (l : List Bool) (i : Nat) (h : i < l.length) (hf : l[i] = false) : (l.set i true).count false + 1 = l.count false := by
  induction l generalizing i with
  | nil => simp at h
  | cons b l ih =>
    cases i with
    | zero => simp at hf; subst hf; simp
    | succ i =>
      have := ih i (by simpa using h) (by simpa using hf)
      cases b <;> simp [List.set_cons_succ] <;> omega

/-- edges lead to lower numbers -/
def edgesDown (md : Region.Mode) (ops : Array Oper) : Bool := (List.range ops.size).all fun i => (ops[i]?).all fun o => o.after.all fun e => !Region.binds md e || decide (e.on < i)

theorem all_listed {md : Region.Mode} {ops : Array Oper} (hd : edgesDown md ops = true) {listed : Array Bool} (hs : listed.size = ops.size) (hr : Region.ready md ops listed = []) : ∀ i, i < ops.size → listed.getD i true = true := by
  intro i
  induction i using Nat.strongRecOn with
  | _ i ih =>
    intro hi
    cases hun : listed.getD i true with
    | true => rfl
    | false =>
    have : i ∈ Region.ready md ops listed := mem_ready.2 ⟨hun, ops[i], by simp [hi], fun e he hb => by
      have h1 := List.all_eq_true.1 hd i (by simpa using hi)
      have h2 : ops[i]? = some ops[i] := by simp [hi]
      rw [h2] at h1
      simp only [Option.all_some, Array.all_eq_true_iff_forall_mem] at h1
      have hlt : e.on < i := by simpa [hb] using h1 e he
      have h4 := ih e.on hlt (by omega)
      have h5 : e.on < listed.size := by omega
      simpa [Array.getD, h5] using h4⟩
    rw [hr] at this; cases this

theorem wpAny_inv {P : Program} {ops : Array Oper} {Q : Exit → Act → World → Prop} {md : Region.Mode} (I : Array Bool → Act → World → Prop) (hd : edgesDown md ops = true)
    (hstep : ∀ listed a w, listed.size = ops.size → I listed a w → ∀ i, i ∈ Region.ready md ops listed → wpOp P ops Q i (fun a' w' => I (listed.setIfInBounds i true) a' w') a w)
    (hend : ∀ listed a w, listed.size = ops.size → I listed a w → (∀ i, i < ops.size → listed.getD i true = true) → Q .normal a w) :
    ∀ (fuel : Nat) (listed : Array Bool) (a : Act) (w : World), listed.size = ops.size → listed.toList.count false ≤ fuel → I listed a w → wpAny P md ops Q fuel listed a w := by
  intro fuel
  induction fuel with
  | zero =>
    intro listed a w hs hc hI
    have hr : Region.ready md ops listed = [] := by
      cases hr : Region.ready md ops listed with
      | nil => rfl
      | cons i is =>
        have hm : i ∈ Region.ready md ops listed := by rw [hr]; simp
        obtain ⟨hun, o, ho, -⟩ := mem_ready.1 hm
        have hi : i < listed.size := by rw [hs]; exact (Array.getElem?_eq_some_iff.1 ho).1
        have hmem : false ∈ listed.toList := by
          have : listed[i] = false := by simpa [Array.getD, hi] using hun
          rw [← this]; simp
        have := List.count_pos_iff.2 hmem
        omega
    exact ⟨hr, hend _ _ _ hs hI (all_listed hd hs hr)⟩
  | succ fuel ih =>
    intro listed a w hs hc hI
    refine ⟨fun hr => hend _ _ _ hs hI (all_listed hd hs hr), fun i hi => ?_⟩
    obtain ⟨hun, o, ho, -⟩ := mem_ready.1 hi
    have hil : i < listed.size := by rw [hs]; exact (Array.getElem?_eq_some_iff.1 ho).1
    have hf : listed.toList[i] = false := by simpa [Array.getD, hil] using hun
    have hcount := count_false_set listed.toList i (by simpa using hil) hf
    refine wpOp_mono (fun a' w' h => ih _ a' w' (by simpa using hs) ?_ h) (hstep listed a w hs hI i hi)
    simp only [Array.toList_setIfInBounds]
    omega

/-- The invariant rule at a region: it holds at the beginning with nothing listed. -/
theorem wp_region_inv {P : Program} {ops : Array Oper} {Q : Exit → Act → World → Prop} {id : Nat} {a : Act} {w : World} (I : Array Bool → Act → World → Prop) (hm : P.follows .mixedOrders = true) (hd : edgesDown .any ops = true)
    (h0 : I (Array.replicate ops.size false) a w.drew)
    (hstep : ∀ i o, ops[i]? = some o → ∀ listed a w, listed.size = ops.size → I listed a w → listed.getD i true = false → (∀ e ∈ o.after, Region.binds .any e = true → listed.getD e.on false = true) →
      ∀ K : Act → World → Prop, Shut (∀ a w, I (listed.setIfInBounds i true) a w → K a w) → if Region.wanted o (yielded ops a.tmps) = true then Oper.wp P o a w K Q else K (a.put o.dst undef) w)
    (hend : ∀ listed a w, listed.size = ops.size → I listed a w → (∀ i, i < ops.size → listed.getD i true = true) → Q .normal a w) : (Code.region id ops true).wp P Q a w := by
  refine wp_region_any hm (wpAny_inv I hd ?_ hend ops.size _ a w.drew (by simp) (by simp) h0)
  intro listed a w hs hI i hi
  obtain ⟨hun, o, ho, hall⟩ := mem_ready.1 hi
  exact wpOp_step ho (fun K hK => hstep i o ho listed a w hs hI hun hall K hK)

/-- six slots set -/
def put6 (a : Act) (d1 d2 d3 d4 d5 d6 : Tmp) (v1 v2 v3 v4 v5 v6 : Value) : Act := (((((a.put (some d1) v1).put (some d2) v2).put (some d3) v3).put (some d4) v4).put (some d5) v5).put (some d6) v6
/-- the rule with six slots that vary -/
theorem wp_region_inv6 {P : Program} {ops : Array Oper} {Q : Exit → Act → World → Prop} {id : Nat} {a0 : Act} {w : World} (d1 d2 d3 d4 d5 d6 : Tmp) (v1 v2 v3 v4 v5 v6 : Value)
    (J : Array Bool → Value → Value → Value → Value → Value → Value → World → Prop) (hm : P.follows .mixedOrders = true) (hd : edgesDown .any ops = true)
    (he : a0 = put6 a0 d1 d2 d3 d4 d5 d6 v1 v2 v3 v4 v5 v6) (h0 : J (Array.replicate ops.size false) v1 v2 v3 v4 v5 v6 w.drew)
    (hstep : ∀ i o, ops[i]? = some o → ∀ listed s1 s2 s3 s4 s5 s6 w, listed.size = ops.size → J listed s1 s2 s3 s4 s5 s6 w → listed.getD i false = false → (∀ e ∈ o.after, Region.binds .any e = true → listed.getD e.on false = true) →
      ∀ K : Act → World → Prop, Shut (∀ t1 t2 t3 t4 t5 t6 w, J (listed.setIfInBounds i true) t1 t2 t3 t4 t5 t6 w → K (put6 a0 d1 d2 d3 d4 d5 d6 t1 t2 t3 t4 t5 t6) w) →
      if Region.wanted o (yielded ops (put6 a0 d1 d2 d3 d4 d5 d6 s1 s2 s3 s4 s5 s6).tmps) = true then Oper.wp P o (put6 a0 d1 d2 d3 d4 d5 d6 s1 s2 s3 s4 s5 s6) w K Q else K ((put6 a0 d1 d2 d3 d4 d5 d6 s1 s2 s3 s4 s5 s6).put o.dst undef) w)
    (hend : ∀ listed s1 s2 s3 s4 s5 s6 w, listed.size = ops.size → J listed s1 s2 s3 s4 s5 s6 w → (∀ i, i < ops.size → listed.getD i true = true) → Q .normal (put6 a0 d1 d2 d3 d4 d5 d6 s1 s2 s3 s4 s5 s6) w) : (Code.region id ops true).wp P Q a0 w := by
  refine wp_region_inv (fun L a w => ∃ s1 s2 s3 s4 s5 s6, a = put6 a0 d1 d2 d3 d4 d5 d6 s1 s2 s3 s4 s5 s6 ∧ J L s1 s2 s3 s4 s5 s6 w) hm hd ⟨_, _, _, _, _, _, he, h0⟩ ?_ ?_
  · rintro i o ho L a w hs ⟨s1, s2, s3, s4, s5, s6, rfl, hJ⟩ hun hall K hK
    refine hstep i o ho L s1 s2 s3 s4 s5 s6 w hs hJ ?_ hall K (fun t1 t2 t3 t4 t5 t6 w h => hK.out _ _ ⟨_, _, _, _, _, _, rfl, h⟩)
    by_cases hi : i < L.size
    · simpa [Array.getD, hi] using hun
    · simp [Array.getD, hi]
  · rintro L a w hs ⟨s1, s2, s3, s4, s5, s6, rfl, hJ⟩ hall
    exact hend L s1 s2 s3 s4 s5 s6 w hs hJ hall

end Go.Proofs.YtippcalhcnjghaaDoor
/- 'x, y := copied(a), copied(b)': what holds of the frame and the world, whatever has come up of the statement. -/
namespace Go.Proofs.YtippcalhcnjghaaDoor
open Go.RowKit Big

theorem Two.drew {w : World} {g : Nat} {a b c d : Value} (h : Two w g a b c d) : Two w.drew g a b c d := ⟨h.c00, h.c01, h.c10, h.c11, h.lt⟩
theorem Two.set {w : World} {g : Nat} {a b c d : Value} (h : Two w g a b c d) (x j : Nat) (u : Value) (hx : g + 1 < x) : Two (w.setCell ⟨x, j, none⟩ u) g a b c d :=
  ⟨(World.cell?_of_block (w := w) (Below.heap_setCell w _ u g (by show g ≠ x; omega))).trans h.c00, (World.cell?_of_block (w := w) (Below.heap_setCell w _ u g (by show g ≠ x; omega))).trans h.c01,
   (World.cell?_of_block (w := w) (Below.heap_setCell w _ u (g + 1) (by show g + 1 ≠ x; omega))).trans h.c10, (World.cell?_of_block (w := w) (Below.heap_setCell w _ u (g + 1) (by show g + 1 ≠ x; omega))).trans h.c11, by simpa [World.setCell] using h.lt⟩
theorem four_cells {w : World} {g : Nat} {a b c d : Value} {t : TypeId} (h : w.heap[g]? = some (.cells #[a, b, c, d] t (0, 0))) :
    w.cell? ⟨g, 0, none⟩ = some a ∧ w.cell? ⟨g, 1, none⟩ = some b ∧ w.cell? ⟨g, 2, none⟩ = some c ∧ w.cell? ⟨g, 3, none⟩ = some d :=
  ⟨by rw [cell_of_row w g 0 _ t (0, 0) h]; rfl, by rw [cell_of_row w g 1 _ t (0, 0) h]; rfl, by rw [cell_of_row w g 2 _ t (0, 0) h]; rfl, by rw [cell_of_row w g 3 _ t (0, 0) h]; rfl⟩

theorem Below.go {u w w' : World} (hb : Below w.heap.size w w') (h : Below u.heap.size u w) : Below u.heap.size u w' := h.trans (hb.mono h.size)
/-- a value is a number's copy -/
def Cop (w : World) (n : Bool) (l : List Nat) (v : Value) : Prop := ∃ q k, v = .agg #[.bool n, .slice q l.length k] ∧ At w .u64 (.slice q l.length k) l
theorem Cop.below {w w' : World} {n : Bool} {l : List Nat} {v : Value} (h : Cop w n l v) (hb : Below w.heap.size w w') : Cop w' n l v := by
  obtain ⟨q, k, rfl, ha⟩ := h
  exact ⟨q, k, rfl, ha.below hb⟩
/-- a pointer to a variable of a number, from block B on -/
def VarAt (w : World) (B : Nat) (v : Value) : Prop := ∃ g, v = .pointer (some ⟨g, 0, none⟩) ∧ Pair w g 25 ∧ B ≤ g
theorem VarAt.below {w w' : World} {B : Nat} {v : Value} (h : VarAt w B v) (hb : Below w.heap.size w w') : VarAt w' B v := by
  obtain ⟨g, rfl, hp, hB⟩ := h
  exact ⟨g, rfl, hp.below hb, hB⟩
/-- .. which holds the number's copy -/
def Holds (w : World) (n : Bool) (l : List Nat) (v : Value) : Prop :=
  ∃ g q k, v = .pointer (some ⟨g, 0, none⟩) ∧ w.heap[g]? = some (.cells #[.bool n, .slice q l.length k] 25 (0, 0)) ∧ At w .u64 (.slice q l.length k) l

structure C2 (g0 : Nat) (n0 n1 : Bool) (p0 p1 : Option Addr) (c0 c1 : Nat) (l0 l1 : List Nat) (B : Nat) (u : World) (L : Array Bool) (s5 s6 s15 s16 s17 s18 : Value) (w : World) : Prop where
  two : Two w g0 (.bool n0) (.slice p0 l0.length c0) (.bool n1) (.slice p1 l1.length c1)
  low : g0 + 2 ≤ B
  bel : Below B u w
  sz : B ≤ w.heap.size
  a0 : At w .u64 (.slice p0 l0.length c0) l0
  a1 : At w .u64 (.slice p1 l1.length c1) l1
  f0 : L.getD 0 false = true → s15 = .agg #[.bool n0, .slice p0 l0.length c0]
  f1 : L.getD 1 false = true → Cop w n0 l0 s16
  f2 : L.getD 2 false = true → s17 = .agg #[.bool n1, .slice p1 l1.length c1]
  f3 : L.getD 3 false = true → Cop w n1 l1 s18
  f4 : L.getD 4 false = true → VarAt w B s5
  f5 : L.getD 5 false = true → VarAt w B s6
  f45 : L.getD 4 false = true → L.getD 5 false = true → s5 ≠ s6
  f6 : L.getD 6 false = true → Holds w n0 l0 s5
  f7 : L.getD 7 false = true → Holds w n1 l1 s6
  d6 : L.getD 6 false = true → L.getD 4 false = true ∧ L.getD 5 false = true
  d7 : L.getD 7 false = true → L.getD 6 false = true

section
variable {g0 : Nat} {n0 n1 : Bool} {p0 p1 : Option Addr} {c0 c1 : Nat} {l0 l1 : List Nat} {B : Nat} {u : World} {L : Array Bool} {s5 s6 s15 s16 s17 s18 : Value} {w : World}
theorem setD {L : Array Bool} {i j : Nat} (h : i ≠ j) (hh : (L.setIfInBounds i true).getD j false = true) : L.getD j false = true := by rwa [getD_set_ne false h] at hh
theorem setUp {L : Array Bool} {i j : Nat} (h : L.getD j false = true) : (L.setIfInBounds i true).getD j false = true := getD_set_true h
theorem C2.load0 (h : C2 g0 n0 n1 p0 p1 c0 c1 l0 l1 B u L s5 s6 s15 s16 s17 s18 w) : C2 g0 n0 n1 p0 p1 c0 c1 l0 l1 B u (L.setIfInBounds 0 true) s5 s6 (.agg #[.bool n0, .slice p0 l0.length c0]) s16 s17 s18 w :=
  { h with
    f0 := fun _ => rfl
    f1 := fun hj => h.f1 (setD (by decide) hj)
    f2 := fun hj => h.f2 (setD (by decide) hj)
    f3 := fun hj => h.f3 (setD (by decide) hj)
    f4 := fun hj => h.f4 (setD (by decide) hj)
    f5 := fun hj => h.f5 (setD (by decide) hj)
    f45 := fun hj hk => h.f45 (setD (by decide) hj) (setD (by decide) hk)
    f6 := fun hj => h.f6 (setD (by decide) hj)
    f7 := fun hj => h.f7 (setD (by decide) hj)
    d6 := fun hj => ⟨setUp (h.d6 (setD (by decide) hj)).1, setUp (h.d6 (setD (by decide) hj)).2⟩
    d7 := fun hj => setUp (h.d7 (setD (by decide) hj)) }
theorem C2.load2 (h : C2 g0 n0 n1 p0 p1 c0 c1 l0 l1 B u L s5 s6 s15 s16 s17 s18 w) : C2 g0 n0 n1 p0 p1 c0 c1 l0 l1 B u (L.setIfInBounds 2 true) s5 s6 s15 s16 (.agg #[.bool n1, .slice p1 l1.length c1]) s18 w :=
  { h with
    f0 := fun hj => h.f0 (setD (by decide) hj)
    f1 := fun hj => h.f1 (setD (by decide) hj)
    f2 := fun _ => rfl
    f3 := fun hj => h.f3 (setD (by decide) hj)
    f4 := fun hj => h.f4 (setD (by decide) hj)
    f5 := fun hj => h.f5 (setD (by decide) hj)
    f45 := fun hj hk => h.f45 (setD (by decide) hj) (setD (by decide) hk)
    f6 := fun hj => h.f6 (setD (by decide) hj)
    f7 := fun hj => h.f7 (setD (by decide) hj)
    d6 := fun hj => ⟨setUp (h.d6 (setD (by decide) hj)).1, setUp (h.d6 (setD (by decide) hj)).2⟩
    d7 := fun hj => setUp (h.d7 (setD (by decide) hj)) }
theorem Holds.below {w w' : World} {n : Bool} {l : List Nat} {v : Value} (h : Holds w n l v) (hb : Below w.heap.size w w') : Holds w' n l v := by
  obtain ⟨g, q, k, rfl, hg, ha⟩ := h
  exact ⟨g, q, k, rfl, (hb.block g (Array.getElem?_eq_some_iff.1 hg).1).trans hg, ha.below hb⟩
theorem C2.call1 (h : C2 g0 n0 n1 p0 p1 c0 c1 l0 l1 B u L s5 s6 s15 s16 s17 s18 w) {w' : World} {v : Value} (hb : Below w.heap.size w w') (hv : Cop w' n0 l0 v) :
    C2 g0 n0 n1 p0 p1 c0 c1 l0 l1 B u (L.setIfInBounds 1 true) s5 s6 s15 v s17 s18 w' :=
  { two := h.two.below hb
    low := h.low
    bel := h.bel.trans (hb.mono h.sz)
    sz := Nat.le_trans h.sz hb.size
    a0 := h.a0.below hb
    a1 := h.a1.below hb
    f0 := fun hj => h.f0 (setD (by decide) hj)
    f1 := fun _ => hv
    f2 := fun hj => h.f2 (setD (by decide) hj)
    f3 := fun hj => (h.f3 (setD (by decide) hj)).below hb
    f4 := fun hj => (h.f4 (setD (by decide) hj)).below hb
    f5 := fun hj => (h.f5 (setD (by decide) hj)).below hb
    f45 := fun hj hk => h.f45 (setD (by decide) hj) (setD (by decide) hk)
    f6 := fun hj => (h.f6 (setD (by decide) hj)).below hb
    f7 := fun hj => (h.f7 (setD (by decide) hj)).below hb
    d6 := fun hj => ⟨setUp (h.d6 (setD (by decide) hj)).1, setUp (h.d6 (setD (by decide) hj)).2⟩
    d7 := fun hj => setUp (h.d7 (setD (by decide) hj)) }
theorem C2.call3 (h : C2 g0 n0 n1 p0 p1 c0 c1 l0 l1 B u L s5 s6 s15 s16 s17 s18 w) {w' : World} {v : Value} (hb : Below w.heap.size w w') (hv : Cop w' n1 l1 v) :
    C2 g0 n0 n1 p0 p1 c0 c1 l0 l1 B u (L.setIfInBounds 3 true) s5 s6 s15 s16 s17 v w' :=
  { two := h.two.below hb
    low := h.low
    bel := h.bel.trans (hb.mono h.sz)
    sz := Nat.le_trans h.sz hb.size
    a0 := h.a0.below hb
    a1 := h.a1.below hb
    f0 := fun hj => h.f0 (setD (by decide) hj)
    f1 := fun hj => (h.f1 (setD (by decide) hj)).below hb
    f2 := fun hj => h.f2 (setD (by decide) hj)
    f3 := fun _ => hv
    f4 := fun hj => (h.f4 (setD (by decide) hj)).below hb
    f5 := fun hj => (h.f5 (setD (by decide) hj)).below hb
    f45 := fun hj hk => h.f45 (setD (by decide) hj) (setD (by decide) hk)
    f6 := fun hj => (h.f6 (setD (by decide) hj)).below hb
    f7 := fun hj => (h.f7 (setD (by decide) hj)).below hb
    d6 := fun hj => ⟨setUp (h.d6 (setD (by decide) hj)).1, setUp (h.d6 (setD (by decide) hj)).2⟩
    d7 := fun hj => setUp (h.d7 (setD (by decide) hj)) }
theorem VarAt.ne {w : World} {v : Value} {B : Nat} (h : VarAt w B v) : v ≠ .pointer (some ⟨w.heap.size, 0, none⟩) := by
  obtain ⟨g, rfl, hp, -⟩ := h
  intro he
  have hl := hp.lt
  injection he with he
  injection he with he
  injection he with he
  omega
theorem C2.alloc4 (h : C2 g0 n0 n1 p0 p1 c0 c1 l0 l1 B u L s5 s6 s15 s16 s17 s18 w) (hu : L.getD 4 false = false) :
    C2 g0 n0 n1 p0 p1 c0 c1 l0 l1 B u (L.setIfInBounds 4 true) (.pointer (some ⟨w.heap.size, 0, none⟩)) s6 s15 s16 s17 s18 (w.alloc (.cells #[.bool false, .slice none 0 0] 25)) :=
  have hb := below1 w (.cells #[.bool false, .slice none 0 0] 25)
  { two := h.two.below hb
    low := h.low
    bel := h.bel.trans (hb.mono h.sz)
    sz := Nat.le_trans h.sz hb.size
    a0 := h.a0.below hb
    a1 := h.a1.below hb
    f0 := fun hj => h.f0 (setD (by decide) hj)
    f1 := fun hj => (h.f1 (setD (by decide) hj)).below hb
    f2 := fun hj => h.f2 (setD (by decide) hj)
    f3 := fun hj => (h.f3 (setD (by decide) hj)).below hb
    f4 := fun _ => ⟨_, rfl, Pair.new .., h.sz⟩
    f5 := fun hj => (h.f5 (setD (by decide) hj)).below hb
    f45 := fun _ hk => ((h.f5 (setD (by decide) hk)).ne).symm
    f6 := fun hj => by have := (h.d6 (setD (by decide) hj)).1; rw [hu] at this; cases this
    f7 := fun hj => by have := (h.d6 (h.d7 (setD (by decide) hj))).1; rw [hu] at this; cases this
    d6 := fun hj => ⟨setUp (h.d6 (setD (by decide) hj)).1, setUp (h.d6 (setD (by decide) hj)).2⟩
    d7 := fun hj => setUp (h.d7 (setD (by decide) hj)) }
theorem C2.alloc5 (h : C2 g0 n0 n1 p0 p1 c0 c1 l0 l1 B u L s5 s6 s15 s16 s17 s18 w) (hu : L.getD 5 false = false) :
    C2 g0 n0 n1 p0 p1 c0 c1 l0 l1 B u (L.setIfInBounds 5 true) s5 (.pointer (some ⟨w.heap.size, 0, none⟩)) s15 s16 s17 s18 (w.alloc (.cells #[.bool false, .slice none 0 0] 25)) :=
  have hb := below1 w (.cells #[.bool false, .slice none 0 0] 25)
  { two := h.two.below hb
    low := h.low
    bel := h.bel.trans (hb.mono h.sz)
    sz := Nat.le_trans h.sz hb.size
    a0 := h.a0.below hb
    a1 := h.a1.below hb
    f0 := fun hj => h.f0 (setD (by decide) hj)
    f1 := fun hj => (h.f1 (setD (by decide) hj)).below hb
    f2 := fun hj => h.f2 (setD (by decide) hj)
    f3 := fun hj => (h.f3 (setD (by decide) hj)).below hb
    f4 := fun hj => (h.f4 (setD (by decide) hj)).below hb
    f5 := fun _ => ⟨_, rfl, Pair.new .., h.sz⟩
    f45 := fun hj _ => (h.f4 (setD (by decide) hj)).ne
    f6 := fun hj => by have := (h.d6 (setD (by decide) hj)).2; rw [hu] at this; cases this
    f7 := fun hj => by have := (h.d6 (h.d7 (setD (by decide) hj))).2; rw [hu] at this; cases this
    d6 := fun hj => ⟨setUp (h.d6 (setD (by decide) hj)).1, setUp (h.d6 (setD (by decide) hj)).2⟩
    d7 := fun hj => setUp (h.d7 (setD (by decide) hj)) }
theorem Cop.stored {w : World} {n : Bool} {l : List Nat} {v : Value} (h : Cop w n l v) {g : Nat} {t : TypeId} (hp : Pair w g t) (x : Bool) (p : Option Addr) (m c : Nat) :
    Cop ((w.setCell ⟨g, 0, none⟩ (.bool x)).setCell ⟨g, 1, none⟩ (.slice p m c)) n l v := by
  obtain ⟨q, k, rfl, ha⟩ := h
  exact ⟨q, k, rfl, ha.stored hp x p m c⟩
theorem Pair.apart {w : World} {g g' : Nat} {t : TypeId} (h : Pair w g t) (hne : g ≠ g') (u u' : Value) : Pair ((w.setCell ⟨g', 0, none⟩ u).setCell ⟨g', 1, none⟩ u') g t := by
  obtain ⟨x, p, n, c, h⟩ := h
  exact ⟨x, p, n, c, ((Below.heap_setCell _ _ _ _ hne).trans (Below.heap_setCell _ _ _ _ hne)).trans h⟩
theorem Pair.self {w : World} {g : Nat} {t : TypeId} (h : Pair w g t) (x : Bool) (p : Option Addr) (n c : Nat) : Pair ((w.setCell ⟨g, 0, none⟩ (.bool x)).setCell ⟨g, 1, none⟩ (.slice p n c)) g t := (h.set0 x).set1 p n c
theorem VarAt.stored {w : World} {B : Nat} {v : Value} (h : VarAt w B v) {g : Nat} (hp : Pair w g 25) (x : Bool) (p : Option Addr) (n c : Nat) : VarAt ((w.setCell ⟨g, 0, none⟩ (.bool x)).setCell ⟨g, 1, none⟩ (.slice p n c)) B v := by
  obtain ⟨g', rfl, hp', hB⟩ := h
  refine ⟨g', rfl, ?_, hB⟩
  by_cases he : g' = g
  · subst he; exact hp'.self x p n c
  · exact hp'.apart he _ _
theorem Pair.put {w : World} {g : Nat} {t : TypeId} (h : Pair w g t) (x : Bool) (p : Option Addr) (n c : Nat) : ((w.setCell ⟨g, 0, none⟩ (.bool x)).setCell ⟨g, 1, none⟩ (.slice p n c)).heap[g]? = some (.cells #[.bool x, .slice p n c] t (0, 0)) := by
  obtain ⟨y, p', n', c', h⟩ := h
  have h1 := heap_setCell_same w g 0 _ t (.bool x) h
  exact heap_setCell_same _ g 1 _ t (.slice p n c) h1
theorem size_stored (w : World) (g : Nat) (u u' : Value) : ((w.setCell ⟨g, 0, none⟩ u).setCell ⟨g, 1, none⟩ u').heap.size = w.heap.size := by simp [World.setCell]
theorem C2.store6 (h : C2 g0 n0 n1 p0 p1 c0 c1 l0 l1 B u L s5 s6 s15 s16 s17 s18 w) (h4 : L.getD 4 false = true) (h5 : L.getD 5 false = true) (hu : L.getD 6 false = false) {g : Nat} {q : Option Addr} {k : Nat}
    (e5 : s5 = .pointer (some ⟨g, 0, none⟩)) (hp : Pair w g 25) (hB : B ≤ g) (ha : At w .u64 (.slice q l0.length k) l0) :
    C2 g0 n0 n1 p0 p1 c0 c1 l0 l1 B u (L.setIfInBounds 6 true) s5 s6 s15 s16 s17 s18 ((w.setCell ⟨g, 0, none⟩ (.bool n0)).setCell ⟨g, 1, none⟩ (.slice q l0.length k)) :=
  { two := (h.two.set g 0 _ (by have := h.low; omega)).set g 1 _ (by have := h.low; omega)
    low := h.low
    bel := Below.stored h.bel hB _ _
    sz := by rw [size_stored]; exact h.sz
    a0 := h.a0.stored hp ..
    a1 := h.a1.stored hp ..
    f0 := fun hj => h.f0 (setD (by decide) hj)
    f1 := fun hj => (h.f1 (setD (by decide) hj)).stored hp ..
    f2 := fun hj => h.f2 (setD (by decide) hj)
    f3 := fun hj => (h.f3 (setD (by decide) hj)).stored hp ..
    f4 := fun hj => (h.f4 (setD (by decide) hj)).stored hp ..
    f5 := fun hj => (h.f5 (setD (by decide) hj)).stored hp ..
    f45 := fun hj hk => h.f45 (setD (by decide) hj) (setD (by decide) hk)
    f6 := fun _ => ⟨g, q, k, e5, hp.put .., ha.stored hp ..⟩
    f7 := fun hj => by have := h.d7 (setD (by decide) hj); rw [hu] at this; cases this
    d6 := fun _ => ⟨setUp h4, setUp h5⟩
    d7 := fun hj => setUp (h.d7 (setD (by decide) hj)) }
theorem C2.store7 (h : C2 g0 n0 n1 p0 p1 c0 c1 l0 l1 B u L s5 s6 s15 s16 s17 s18 w) (h6 : L.getD 6 false = true) {g : Nat} {q : Option Addr} {k : Nat}
    (e6 : s6 = .pointer (some ⟨g, 0, none⟩)) (hp : Pair w g 25) (hB : B ≤ g) (ha : At w .u64 (.slice q l1.length k) l1) :
    C2 g0 n0 n1 p0 p1 c0 c1 l0 l1 B u (L.setIfInBounds 7 true) s5 s6 s15 s16 s17 s18 ((w.setCell ⟨g, 0, none⟩ (.bool n1)).setCell ⟨g, 1, none⟩ (.slice q l1.length k)) :=
  { two := (h.two.set g 0 _ (by have := h.low; omega)).set g 1 _ (by have := h.low; omega)
    low := h.low
    bel := Below.stored h.bel hB _ _
    sz := by rw [size_stored]; exact h.sz
    a0 := h.a0.stored hp ..
    a1 := h.a1.stored hp ..
    f0 := fun hj => h.f0 (setD (by decide) hj)
    f1 := fun hj => (h.f1 (setD (by decide) hj)).stored hp ..
    f2 := fun hj => h.f2 (setD (by decide) hj)
    f3 := fun hj => (h.f3 (setD (by decide) hj)).stored hp ..
    f4 := fun hj => (h.f4 (setD (by decide) hj)).stored hp ..
    f5 := fun hj => (h.f5 (setD (by decide) hj)).stored hp ..
    f45 := fun hj hk => h.f45 (setD (by decide) hj) (setD (by decide) hk)
    f6 := fun hj => by
      have hd := h.d6 h6
      have hne := h.f45 hd.1 hd.2
      obtain ⟨g', q', k', e', hg', ha'⟩ := h.f6 h6
      have hgg : g' ≠ g := by rintro rfl; exact hne (e'.trans e6.symm)
      exact ⟨g', q', k', e', ((Below.heap_setCell _ _ _ _ hgg).trans (Below.heap_setCell _ _ _ _ hgg)).trans hg', ha'.stored hp ..⟩
    f7 := fun _ => ⟨g, q, k, e6, hp.put .., ha.stored hp ..⟩
    d6 := fun _ => ⟨setUp (h.d6 h6).1, setUp (h.d6 h6).2⟩
    d7 := fun _ => setUp h6 }
/-- all has come up -/
structure Done2 (g0 : Nat) (n0 n1 : Bool) (p0 p1 : Option Addr) (c0 c1 : Nat) (l0 l1 : List Nat) (B : Nat) (u : World) (s5 s6 : Value) (w : World) : Prop where
  two : Two w g0 (.bool n0) (.slice p0 l0.length c0) (.bool n1) (.slice p1 l1.length c1)
  bel : Below B u w
  sz : B ≤ w.heap.size
  a0 : At w .u64 (.slice p0 l0.length c0) l0
  a1 : At w .u64 (.slice p1 l1.length c1) l1
  hx : Holds w n0 l0 s5
  hy : Holds w n1 l1 s6
theorem C2.done (h : C2 g0 n0 n1 p0 p1 c0 c1 l0 l1 B u L s5 s6 s15 s16 s17 s18 w) (h6 : L.getD 6 false = true) (h7 : L.getD 7 false = true) : Done2 g0 n0 n1 p0 p1 c0 c1 l0 l1 B u s5 s6 w :=
  { h with hx := h.f6 h6, hy := h.f7 h7 }
theorem C2.start {g0 : Nat} {n0 n1 : Bool} {p0 p1 : Option Addr} {c0 c1 : Nat} {l0 l1 : List Nat} {w : World} {s5 s6 s15 s16 s17 s18 : Value} (ht : Two w g0 (.bool n0) (.slice p0 l0.length c0) (.bool n1) (.slice p1 l1.length c1))
    (ha : At w .u64 (.slice p0 l0.length c0) l0) (hb : At w .u64 (.slice p1 l1.length c1) l1) : C2 g0 n0 n1 p0 p1 c0 c1 l0 l1 w.heap.size w (Array.replicate 8 false) s5 s6 s15 s16 s17 s18 w.drew :=
  { two := ht.drew, low := ht.lt, bel := Below.drew (Below.refl _ _), sz := Nat.le_refl _, a0 := ha.drew, a1 := hb.drew
    f0 := fun h => by simp at h
    f1 := fun h => by simp at h
    f2 := fun h => by simp at h
    f3 := fun h => by simp at h
    f4 := fun h => by simp at h
    f5 := fun h => by simp at h
    f45 := fun h => by simp at h
    f6 := fun h => by simp at h
    f7 := fun h => by simp at h
    d6 := fun h => by simp at h
    d7 := fun h => by simp at h }
theorem listed_of {L : Array Bool} {n i : Nat} (h : ∀ i, i < n → L.getD i true = true) (hs : L.size = n) (hi : i < n) : L.getD i false = true := by
  have := h i hi
  have hl : i < L.size := by omega
  simpa [Array.getD, hl] using this
end
end Go.Proofs.YtippcalhcnjghaaDoor
