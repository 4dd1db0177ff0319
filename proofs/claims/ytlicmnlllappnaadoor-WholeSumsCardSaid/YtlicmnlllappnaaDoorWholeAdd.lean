/- whole.Neg, Sign, Cmp, Add, Sub. -/
import Derived.Test.YtlicmnlllappnaaDoorWholeFns
namespace Go.Proofs.YtlicmnlllappnaaDoor
open Go.RowKit Big

set_option maxHeartbeats 800000 in
theorem Neg_any (v : Value) (z : Int) (w : World) (h : RawAt w v z) : Calls Tryd.prog 21 #[v] w (RInt (-z) w) := by
  obtain ⟨neg, s, l, rfl, ha, hs, hl, rfl⟩ := h
  have Hs := hid (strip_dig W2 hs)
  have Hz : Hid (-sg neg (val W l) = sg (!neg) (val W l)) := by unfold Hid sg; cases neg <;> simp
  obtain ⟨z, hz⟩ : ∃ z, z = -sg neg (val W l) := ⟨_, rfl⟩
  rw [← hz]
  rw [← hz] at Hz
  clear hz
  go_enter Tryd.func21, Tryd.ntmps21
  go_wp2_with fail
  go_region_held3 (fun w' => w'.cell? ⟨w.heap.size, 0, none⟩ = some (.bool neg) ∧ w'.cell? ⟨w.heap.size, 1, none⟩ = some s ∧ Pair w' (w.heap.size + 1) 25)
    (first | (go_split_ands; (try dsimp only); (repeat' apply And.intro) <;> first | assumption | exact Pair.drew ‹_› | exact Pair.below ‹_› hb9 | exact Pair.below ‹_› hb8 | exact Pair.below ‹_› hb7 | exact Pair.below ‹_› hb6 | exact Pair.below ‹_› hb5 | exact Pair.below ‹_› hb4 | exact Pair.below ‹_› hb3 | exact Pair.below ‹_› hb2 | exact Pair.below ‹_› hb1 | exact (hb9.cell (by first | omega | (simp; omega) | (simp; done))).trans ‹_› | exact (hb8.cell (by first | omega | (simp; omega) | (simp; done))).trans ‹_› | exact (hb7.cell (by first | omega | (simp; omega) | (simp; done))).trans ‹_› | exact (hb6.cell (by first | omega | (simp; omega) | (simp; done))).trans ‹_› | exact (hb5.cell (by first | omega | (simp; omega) | (simp; done))).trans ‹_› | exact (hb4.cell (by first | omega | (simp; omega) | (simp; done))).trans ‹_› | exact (hb3.cell (by first | omega | (simp; omega) | (simp; done))).trans ‹_› | exact (hb2.cell (by first | omega | (simp; omega) | (simp; done))).trans ‹_› | exact (hb1.cell (by first | omega | (simp; omega) | (simp; done))).trans ‹_› | exact Pair.set1 (Pair.set0 ‹_› _) _ _ _ | exact (cell_stored _ (by first | (dsimp only; omega) | (simp; done) | (simp; omega)) _ _).trans ‹_› | exact Pair.drew (Pair.below ‹_› (below1 _ _)) | exact Pair.below ‹_› (below1 _ _) | exact Pair.far ‹_› (by omega) hb1 | exact Pair.new .. | exact Pair.new1 .. | exact Pair.new2 .. | (go_keep; done)) | (go_keep; done))
    (first
      | (go_at_call 49; refine (own_any s l _ ?_ hl).mono ?_; (repeat (first | exact ha | apply At.drew | apply At.alloc)); rintro e w1 ⟨v1, rfl, ho1, hb1⟩; have hz1 : w.heap.size + 2 ≤ w1.heap.size := (by have := hb1.size; simp at this; omega))
      | (go_at_call 39; refine (told_any (!neg) _ _ _ (by rw [← Hs.out]; exact ho1.at)).mono ?_; rintro e w2 ⟨v2, rfl, hi2, hb2⟩; obtain ⟨p2, n2, c2, rfl, hi2⟩ := hi2.shape; have hpr := Pair.below (by go_split_ands; assumption) hb2; obtain ⟨_, _, q0, q1, q2, q3⟩ := hpr.cells))
  go_wp2
  exact bodyPost_ret (v := .agg #[.bool (decide (sg (!neg) (val W l) < 0)), .slice p2 n2 c2]) (by simp [results, Tryd.results21, go_sem, q0, q1]) rfl
    ⟨_, rfl, by rw [Hz.out]; exact hi2.stored hpr _ _ _ _, Below.stored ((((below1 _ _).alloc (by simp) _).drew.trans (hb1.mono (B' := w.heap.size) (by simp; omega))).trans (hb2.mono (B' := w.heap.size) (by omega))) (by omega) _ _⟩

theorem sign_sg (neg : Bool) (n : Nat) : (sg neg n).sign = if n = 0 then 0 else if neg then -1 else 1 := by
  unfold sg
  by_cases h : n = 0
  · subst h; cases neg <;> simp
  · rw [if_neg h]
    cases neg
    · simp only [Bool.false_eq_true, if_false]; exact Int.sign_eq_one_of_pos (by omega)
    · simp only [if_true]; exact Int.sign_eq_neg_one_of_neg (by omega)

set_option maxHeartbeats 800000 in
theorem Sign_any (v : Value) (z : Int) (w : World) (h : RawAt w v z) : Calls Tryd.prog 19 #[v] w (fun e w' => e = .returned (.int .i64 z.sign) ∧ Below w.heap.size w w') := by
  obtain ⟨neg, s, l, rfl, ha, hs, hl, rfl⟩ := h
  have Hs := hid (strip_dig W2 hs)
  have Hz := hid (sign_sg neg (val W l))
  have ht : ∀ o, Calls Tryd.prog 38 #[s] (w.alloc o) (fun e w' => e = .returned (cutTo s (strip l).length) ∧ w' = w.alloc o) := fun o => trim_val s l _ (ha.alloc o)
  have Ht := hid ht; clear ht
  obtain ⟨p, c, rfl, -⟩ := ha
  obtain ⟨n, hn⟩ : ∃ n, n = val W l := ⟨_, rfl⟩
  obtain ⟨m, hm⟩ : ∃ m, m = (strip l).length := ⟨_, rfl⟩
  have hmn : m = 0 ↔ n = 0 := by rw [hm, Hs.out, ← hn]; exact sz_eq_zero W2
  rw [← hn] at Hz ⊢
  rw [← hm] at Ht
  clear hm hn
  obtain ⟨z, hz⟩ : ∃ z, z = (sg neg n).sign := ⟨_, rfl⟩
  rw [← hz] at Hz ⊢
  clear hz
  by_cases h0 : m = 0
  · have hz : z = 0 := by rw [Hz.out, if_pos (hmn.1 h0)]
    subst hz
    subst h0
    go_enter Tryd.func19, Tryd.ntmps19
    go_wp2_with (go_at_call 38; refine (Ht.out _).mono ?_; rintro e w' ⟨rfl, rfl⟩; simp only [cutTo])
    go_ret
    exact ⟨rfl, below1 _ _⟩
  · have hz : z = if neg then -1 else 1 := by rw [Hz.out, if_neg (fun e => h0 (hmn.2 e))]
    have hb : ((m : Int) == 0) = false := beq_eq_false_iff_ne.2 (by omega)
    cases neg
    · simp only [Bool.false_eq_true, if_false] at hz
      subst hz
      go_enter Tryd.func19, Tryd.ntmps19
      go_wp2_with (go_at_call 38; refine (Ht.out _).mono ?_; rintro e w' ⟨rfl, rfl⟩; simp only [cutTo])
      go_ret
      exact ⟨rfl, below1 _ _⟩
    · simp only [if_true] at hz
      subst hz
      go_enter Tryd.func19, Tryd.ntmps19
      go_wp2_with (go_at_call 38; refine (Ht.out _).mono ?_; rintro e w' ⟨rfl, rfl⟩; simp only [cutTo])
      go_ret
      exact ⟨rfl, below1 _ _⟩

end Go.Proofs.YtlicmnlllappnaaDoor
