/- whole.Add, Sub. -/
import Derived.Test.YtlicmnlllappnaaDoorWholeCmp
namespace Go.Proofs.YtlicmnlllappnaaDoor
open Go.RowKit Big

theorem sg_add_same (n : Bool) (x y : Nat) : sg n (x + y) = sg n x + sg n y := by unfold sg; cases n <;> simp <;> omega
theorem sg_add_lt {n m : Bool} {x y : Nat} (h : n ≠ m) (hxy : x < y) : sg m (y - x) = sg n x + sg m y := by unfold sg; cases n <;> cases m <;> simp at h ⊢ <;> omega
theorem sg_add_ge {n m : Bool} {x y : Nat} (h : n ≠ m) (hxy : ¬ x < y) : sg n (x - y) = sg n x + sg m y := by unfold sg; cases n <;> cases m <;> simp at h ⊢ <;> omega

set_option maxHeartbeats 1600000 in
theorem Add_any (v0 v1 : Value) (a b : Int) (w : World) (h0 : RawAt w v0 a) (h1 : RawAt w v1 b) : Calls Tryd.prog 13 #[v0, v1] w (RInt (a + b) w) := by
  obtain ⟨n0, s0, l0, rfl, a0, b0, c0, rfl⟩ := h0
  obtain ⟨n1, s1, l1, rfl, a1, b1, c1, rfl⟩ := h1
  have t0 : ∀ W : World, At W .u64 s0 l0 → Calls Tryd.prog 38 #[s0] W (fun e w' => e = .returned (cutTo s0 (strip l0).length) ∧ w' = W) := fun W h => trim_val s0 l0 W h
  have t1 : ∀ W : World, At W .u64 s1 l1 → Calls Tryd.prog 38 #[s1] W (fun e w' => e = .returned (cutTo s1 (strip l1).length) ∧ w' = W) := fun W h => trim_val s1 l1 W h
  have T0 := hid t0; have T1 := hid t1; clear t0 t1
  have d0 := hid (strip_dig W2 b0)
  have d1 := hid (strip_dig W2 b1)
  have m0 : sz W (val W l0) ≤ 1099511627776 := Nat.le_trans (sz_val W2 b0) c0
  have m1 : sz W (val W l1) ≤ 1099511627776 := Nat.le_trans (sz_val W2 b1) c1
  obtain ⟨r, hr⟩ : ∃ r, r = sg n0 (val W l0) + sg n1 (val W l1) := ⟨_, rfl⟩
  rw [← hr]
  have Hr := hid hr; clear hr
  go_enter Tryd.func13, Tryd.ntmps13
  go_wp2_with fail
  go_quiet ((first
    | (go_at_call_of 38 (s0); exact Calls.quiet_of_same (T0.out _ (by repeat (first | exact a0 | apply At.drewN | apply At.drew | apply At.alloc))))
    | (go_at_call_of 38 (s1); exact Calls.quiet_of_same (T1.out _ (by repeat (first | exact a1 | apply At.drewN | apply At.drew | apply At.alloc))))))
  generalize hW : World.drewN (World.alloc (World.alloc (World.alloc w _) _) _) _ = W3
  have bw : Below w.heap.size w W3 := by rw [← hW]; exact below_drewN (((below1 _ _).alloc (by simp) _).alloc (by simp; omega) _) _
  have hp : Pair W3 (w.heap.size + 1 + 1) 25 := by rw [← hW]; exact Pair.new2 ..
  obtain ⟨c00, c01, c10, c11, -⟩ : Two W3 w.heap.size (.bool n0) s0 (.bool n1) s1 := by rw [← hW]; exact (Two.new w _ _ _ _ _).below (below_drewN (below1 _ _) _)
  have z3 : w.heap.size + 3 ≤ W3.heap.size := by rw [← hW]; simp
  have A0 : At W3 .u64 (cutTo s0 (strip l0).length) (dig W (val W l0)) := by have := (a0.below bw).strip; rwa [d0.out] at this ⊢
  have A1 : At W3 .u64 (cutTo s1 (strip l1).length) (dig W (val W l1)) := by have := (a1.below bw).strip; rwa [d1.out] at this ⊢
  have bw' := hid bw
  clear hW bw c01 c11 T0 T1 a0 a1
  generalize cutTo s0 (strip l0).length = u0 at *
  generalize cutTo s1 (strip l1).length = u1 at *
  generalize val W l0 = x at *
  generalize val W l1 = y at *
  clear d0 d1 b0 b1 c0 c1
  by_cases hn : n0 = n1
  · subst hn
    have Hs : Hid (sg n0 (x + y) = r) := by unfold Hid; rw [sg_add_same, Hr.out]
    go_wp2
    go_region_held3 (fun w' => w'.cell? ⟨w.heap.size, 0, none⟩ = some (.bool n0) ∧ Pair w' (w.heap.size + 1 + 1) 25)
      (first | (go_split_ands; (try dsimp only); (repeat' apply And.intro) <;> first | assumption | exact Pair.drew ‹_› | exact Pair.below ‹_› hb9 | exact Pair.below ‹_› hb8 | exact Pair.below ‹_› hb7 | exact Pair.below ‹_› hb6 | exact Pair.below ‹_› hb5 | exact Pair.below ‹_› hb4 | exact Pair.below ‹_› hb3 | exact Pair.below ‹_› hb2 | exact Pair.below ‹_› hb1 | exact (hb9.cell (by first | omega | (simp; omega) | (simp; done))).trans ‹_› | exact (hb8.cell (by first | omega | (simp; omega) | (simp; done))).trans ‹_› | exact (hb7.cell (by first | omega | (simp; omega) | (simp; done))).trans ‹_› | exact (hb6.cell (by first | omega | (simp; omega) | (simp; done))).trans ‹_› | exact (hb5.cell (by first | omega | (simp; omega) | (simp; done))).trans ‹_› | exact (hb4.cell (by first | omega | (simp; omega) | (simp; done))).trans ‹_› | exact (hb3.cell (by first | omega | (simp; omega) | (simp; done))).trans ‹_› | exact (hb2.cell (by first | omega | (simp; omega) | (simp; done))).trans ‹_› | exact (hb1.cell (by first | omega | (simp; omega) | (simp; done))).trans ‹_› | exact Pair.set1 (Pair.set0 ‹_› _) _ _ _ | exact (cell_stored _ (by first | (dsimp only; omega) | (simp; done) | (simp; omega)) _ _).trans ‹_› | exact Pair.drew (Pair.below ‹_› (below1 _ _)) | exact Pair.below ‹_› (below1 _ _) | exact Pair.far ‹_› (by omega) hb1 | exact Pair.new .. | exact Pair.new1 .. | exact Pair.new2 .. | (go_keep; done)) | (go_keep; done))
      (first
        | (go_at_call 40; refine (plus_any u0 u1 x y _ (by exact A0) (by exact A1) m0 m1).mono ?_; rintro e w1 ⟨v1, rfl, ho1, hb1⟩; have hz1 : w.heap.size + 3 ≤ w1.heap.size := (by have := hb1.size; simp at this; omega))
        | (go_at_call 39; refine (told_any n0 _ _ _ ho1.at).mono ?_; rintro e w2 ⟨v2, rfl, hi2, hb2⟩; obtain ⟨p2, n2, c2, rfl, hi2⟩ := hi2.shape; have hpr := Pair.below (by go_split_ands; assumption) hb2; obtain ⟨_, _, q0, q1, q2, q3⟩ := hpr.cells))
    go_wp2
    exact bodyPost_ret (v := .agg #[.bool (decide (sg n0 (x + y) < 0)), .slice p2 n2 c2]) (by simp [results, Tryd.results13, go_sem, q0, q1]) rfl
      ⟨_, rfl, by rw [← Hs.out]; exact hi2.stored hpr _ _ _ _, Below.stored ((bw'.out.drew.trans (hb1.mono (B' := w.heap.size) (by simp; omega))).trans (hb2.mono (B' := w.heap.size) (by omega))) (by omega) _ _⟩
  · have hb : (n0 == n1) = false := beq_eq_false_iff_ne.2 hn
    by_cases hxy : x < y
    · have Hs : Hid (sg n1 (y - x) = r) := by unfold Hid; rw [sg_add_lt hn hxy, Hr.out]
      have ho : ord (x : Int) y = -1 := ord_lt (by omega)
      have Hc := hid (compare_any u0 u1 x y W3 A0 A1)
      rw [ho] at Hc
      clear ho
      go_wp2_with (go_at_call 41; refine Hc.out.mono ?_; rintro e w' ⟨rfl, k, rfl⟩)
      go_region_held3 (fun w' => w'.cell? ⟨w.heap.size + 1, 0, none⟩ = some (.bool n1) ∧ Pair w' (w.heap.size + 1 + 1) 25)
        (first | (go_split_ands; (try dsimp only); (repeat' apply And.intro) <;> first | assumption | exact Pair.drew ‹_› | exact Pair.below ‹_› hb9 | exact Pair.below ‹_› hb8 | exact Pair.below ‹_› hb7 | exact Pair.below ‹_› hb6 | exact Pair.below ‹_› hb5 | exact Pair.below ‹_› hb4 | exact Pair.below ‹_› hb3 | exact Pair.below ‹_› hb2 | exact Pair.below ‹_› hb1 | exact (hb9.cell (by first | omega | (simp; omega) | (simp; done))).trans ‹_› | exact (hb8.cell (by first | omega | (simp; omega) | (simp; done))).trans ‹_› | exact (hb7.cell (by first | omega | (simp; omega) | (simp; done))).trans ‹_› | exact (hb6.cell (by first | omega | (simp; omega) | (simp; done))).trans ‹_› | exact (hb5.cell (by first | omega | (simp; omega) | (simp; done))).trans ‹_› | exact (hb4.cell (by first | omega | (simp; omega) | (simp; done))).trans ‹_› | exact (hb3.cell (by first | omega | (simp; omega) | (simp; done))).trans ‹_› | exact (hb2.cell (by first | omega | (simp; omega) | (simp; done))).trans ‹_› | exact (hb1.cell (by first | omega | (simp; omega) | (simp; done))).trans ‹_› | exact Pair.set1 (Pair.set0 ‹_› _) _ _ _ | exact (cell_stored _ (by first | (dsimp only; omega) | (simp; done) | (simp; omega)) _ _).trans ‹_› | exact Pair.drew (Pair.below ‹_› (below1 _ _)) | exact Pair.below ‹_› (below1 _ _) | exact Pair.far ‹_› (by omega) hb1 | exact Pair.new .. | exact Pair.new1 .. | exact Pair.new2 .. | (go_keep; done)) | (go_keep; done))
        (first
          | (go_at_call 42; refine (minus_any u1 u0 y x _ (by exact A1) (by exact A0) (by omega) m1).mono ?_; rintro e w1 ⟨v1, rfl, ho1, hb1⟩; have hz1 : w.heap.size + 3 ≤ w1.heap.size := (by have := hb1.size; simp at this; omega))
          | (go_at_call 39; refine (told_any n1 _ _ _ ho1).mono ?_; rintro e w2 ⟨v2, rfl, hi2, hb2⟩; obtain ⟨p2, n2, c2, rfl, hi2⟩ := hi2.shape; have hpr := Pair.below (by go_split_ands; assumption) hb2; obtain ⟨_, _, q0, q1, q2, q3⟩ := hpr.cells))
      go_wp2
      exact bodyPost_ret (v := .agg #[.bool (decide (sg n1 (y - x) < 0)), .slice p2 n2 c2]) (by simp [results, Tryd.results13, go_sem, q0, q1]) rfl
        ⟨_, rfl, by rw [← Hs.out]; exact hi2.stored hpr _ _ _ _, Below.stored (((below_drewN bw'.out k).drew.trans (hb1.mono (B' := w.heap.size) (by simp; omega))).trans (hb2.mono (B' := w.heap.size) (by omega))) (by omega) _ _⟩
    · have Hs : Hid (sg n0 (x - y) = r) := by unfold Hid; rw [sg_add_ge hn hxy, Hr.out]
      have ho : ∃ o, o = ord (x : Int) y ∧ ¬ o < 0 := ⟨_, rfl, by unfold ord; (repeat' split) <;> omega⟩
      obtain ⟨o, ho, hneg⟩ := ho
      have Hc := hid (compare_any u0 u1 x y W3 A0 A1)
      rw [← ho] at Hc
      clear ho
      go_wp2_with (go_at_call 41; refine Hc.out.mono ?_; rintro e w' ⟨rfl, k, rfl⟩)
      go_region_held3 (fun w' => w'.cell? ⟨w.heap.size, 0, none⟩ = some (.bool n0) ∧ Pair w' (w.heap.size + 1 + 1) 25)
        (first | (go_split_ands; (try dsimp only); (repeat' apply And.intro) <;> first | assumption | exact Pair.drew ‹_› | exact Pair.below ‹_› hb9 | exact Pair.below ‹_› hb8 | exact Pair.below ‹_› hb7 | exact Pair.below ‹_› hb6 | exact Pair.below ‹_› hb5 | exact Pair.below ‹_› hb4 | exact Pair.below ‹_› hb3 | exact Pair.below ‹_› hb2 | exact Pair.below ‹_› hb1 | exact (hb9.cell (by first | omega | (simp; omega) | (simp; done))).trans ‹_› | exact (hb8.cell (by first | omega | (simp; omega) | (simp; done))).trans ‹_› | exact (hb7.cell (by first | omega | (simp; omega) | (simp; done))).trans ‹_› | exact (hb6.cell (by first | omega | (simp; omega) | (simp; done))).trans ‹_› | exact (hb5.cell (by first | omega | (simp; omega) | (simp; done))).trans ‹_› | exact (hb4.cell (by first | omega | (simp; omega) | (simp; done))).trans ‹_› | exact (hb3.cell (by first | omega | (simp; omega) | (simp; done))).trans ‹_› | exact (hb2.cell (by first | omega | (simp; omega) | (simp; done))).trans ‹_› | exact (hb1.cell (by first | omega | (simp; omega) | (simp; done))).trans ‹_› | exact Pair.set1 (Pair.set0 ‹_› _) _ _ _ | exact (cell_stored _ (by first | (dsimp only; omega) | (simp; done) | (simp; omega)) _ _).trans ‹_› | exact Pair.drew (Pair.below ‹_› (below1 _ _)) | exact Pair.below ‹_› (below1 _ _) | exact Pair.far ‹_› (by omega) hb1 | exact Pair.new .. | exact Pair.new1 .. | exact Pair.new2 .. | (go_keep; done)) | (go_keep; done))
        (first
          | (go_at_call 42; refine (minus_any u0 u1 x y _ (by exact A0) (by exact A1) (by omega) m0).mono ?_; rintro e w1 ⟨v1, rfl, ho1, hb1⟩; have hz1 : w.heap.size + 3 ≤ w1.heap.size := (by have := hb1.size; simp at this; omega))
          | (go_at_call 39; refine (told_any n0 _ _ _ ho1).mono ?_; rintro e w2 ⟨v2, rfl, hi2, hb2⟩; obtain ⟨p2, n2, c2, rfl, hi2⟩ := hi2.shape; have hpr := Pair.below (by go_split_ands; assumption) hb2; obtain ⟨_, _, q0, q1, q2, q3⟩ := hpr.cells))
      go_wp2
      exact bodyPost_ret (v := .agg #[.bool (decide (sg n0 (x - y) < 0)), .slice p2 n2 c2]) (by simp [results, Tryd.results13, go_sem, q0, q1]) rfl
        ⟨_, rfl, by rw [← Hs.out]; exact hi2.stored hpr _ _ _ _, Below.stored (((below_drewN bw'.out k).drew.trans (hb1.mono (B' := w.heap.size) (by simp; omega))).trans (hb2.mono (B' := w.heap.size) (by omega))) (by omega) _ _⟩
end Go.Proofs.YtlicmnlllappnaaDoor
