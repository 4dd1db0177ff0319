/- whole.trimHalves: what is left is the digits without the noughts at the end. -/
import Derived.Test.YtlicmnlllappnaaDoorTrim
import Derived.BigQuiet
import Derived.Deep.QuietTactic
namespace Go.Proofs.YtlicmnlllappnaaDoor
open Go.RowKit Big

set_option maxHeartbeats 400000 in
theorem htrim_val (v : Value) (l : List Nat) (w : World) (h : At w .u32 v l) :
    Calls Tryd.prog 81 #[v] w (fun e w' => e = .returned (cutTo v (strip l).length) ∧ w' = w) := by
  obtain ⟨p, cap, rfl, h1, h2, h3, h4⟩ := h
  unfold maxLen at h2
  go_enter Tryd.func81, Tryd.ntmps81
  go_wp2
  go_loop [0] (fun s => ∃ k : Nat, k ≤ l.length ∧ s = .slice p k cap ∧ strip (l.take k) = strip l) (fun s => lenOf s)
  case atStart => exact ⟨l.length, Nat.le_refl _, rfl, by rw [List.take_length]⟩
  case round =>
    obtain ⟨k, hk, rfl, hs⟩ := hrel
    have Hs := hid hs; clear hs
    by_cases hk0 : 0 < k
    · obtain ⟨b, off, rfl, hb, hc⟩ := h4 (by omega)
      have hck : w.cell? ⟨b, off + (k - 1), none⟩ = some (.int .u32 (l[k-1]'(by omega) : Nat)) := hc (k - 1) (by omega)
      clear hc h4
      go_wp2
      · go_round
        case rel =>
          have hz : ((l[k-1]'(by omega) : Nat) == 0) = true := by simpa using ‹((l[k-1]'(by omega) : Nat) == (0 : Int)) = true›
          refine ⟨k - 1, by omega, rfl, ?_⟩
          rw [← Hs.out, ← strip_take (k := k - 1) (by omega) (by simpa using hz), Nat.sub_add_cancel hk0]
        case measure => simp [lenOf]; omega
      · have hz : ¬ (l[k-1]'(by omega) : Nat) = 0 := by
          have := ‹((l[k-1]'(by omega) : Nat) == (0 : Int)) = false›
          simpa using this
        have hs := strip_take_ne (l := l) (k := k - 1) (by omega) hz
        rw [Nat.sub_add_cancel hk0, Hs.out] at hs
        go_ret
        exact ⟨by rw [hs, List.length_take, Nat.min_eq_left hk]; rfl, rfl⟩
    · obtain rfl : k = 0 := by omega
      have hs : Hid (strip l = []) := by rw [← Hs.out]; rfl
      go_wp2
      go_ret
      exact ⟨by rw [hs.out]; rfl, rfl⟩
theorem htrim_any (v : Value) (l : List Nat) (w : World) (h : At w .u32 v l) : Calls Tryd.prog 81 #[v] w (RSame .u32 (strip l) w) :=
  (htrim_val v l w h).mono fun _ _ ⟨he, hw⟩ => ⟨_, he, by subst hw; exact h.strip, hw.symm⟩
end Go.Proofs.YtlicmnlllappnaaDoor
