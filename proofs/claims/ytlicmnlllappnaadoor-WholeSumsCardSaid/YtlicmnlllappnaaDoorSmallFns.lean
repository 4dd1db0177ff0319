/- whole's small functions: told, ownWord, word, own. -/
import Derived.Test.YtlicmnlllappnaaDoorTrim
namespace Go.Proofs.YtlicmnlllappnaaDoor
open Go.RowKit Big

set_option maxHeartbeats 400000 in
theorem told_any (neg : Bool) (s : Value) (n : Nat) (w : World) (h : At w .u64 s (dig W n)) :
    Calls Tryd.prog 39 #[.bool neg, s] w (RInt (sg neg n) w) := by
  have hat := hid h
  obtain ⟨p, cap, rfl, h1, h2, h3, h4⟩ := h
  unfold maxLen at h2
  clear h4
  by_cases h0 : (dig W n).length = 0
  · have hn : n = 0 := (dig_eq_nil W2).1 (List.eq_nil_of_length_eq_zero h0)
    have Hn := hid hn; clear hn
    go_enter Tryd.func39, Tryd.ntmps39
    go_wp2
    exact bodyPost_ret (v := .agg #[.bool false, .slice none 0 0]) (by simp [results, Tryd.results39, go_sem]) rfl ⟨_, rfl, by rw [Hn.out, sg_zero]; exact IntAt.zero _, below1 _ _⟩
  · have hn : n ≠ 0 := fun e => h0 (by rw [e]; rfl)
    have Hn := hid hn; clear hn
    go_enter Tryd.func39, Tryd.ntmps39
    go_wp2
    exact bodyPost_ret (v := .agg #[.bool neg, .slice p (dig W n).length cap]) (by simp [results, Tryd.results39, go_sem]) rfl ⟨_, rfl, IntAt.mk Hn.out (hat.out.below (below1 _ _)), below1 _ _⟩

set_option maxHeartbeats 400000 in
theorem ownWord_any (x : Nat) (w : World) (hx : x < W) :
    Calls Tryd.prog 55 #[.int .u64 x] w (RAt .u64 (dig W x) w) := by
  by_cases h0 : x = 0
  · subst h0
    go_enter Tryd.func55, Tryd.ntmps55
    go_wp2
    go_ret
    exact ⟨_, rfl, At.nil _ _, Below.refl _ _⟩
  · have Hd := hid (dig_one W2 (by omega) hx)
    go_enter Tryd.func55, Tryd.ntmps55
    go_wp2
    go_ret
    exact ⟨_, rfl, by rw [Hd.out]; exact At.one _ _ _ _, below1 _ _⟩

set_option maxHeartbeats 400000 in
theorem word_any (v : Value) (l : List Nat) (w : World) (h : At w .u64 v l) :
    Calls Tryd.prog 74 #[v] w fun e w' => e = .returned (.int .u64 (l.headD 0 : Nat)) ∧ w = w' := by
  obtain ⟨p, cap, rfl, h1, h2, h3, h4⟩ := h
  unfold maxLen at h2
  cases l with
  | nil =>
    go_enter Tryd.func74, Tryd.ntmps74
    go_wp2
    go_ret
    exact ⟨rfl, rfl⟩
  | cons x l =>
    obtain ⟨b, off, rfl, hb, hc⟩ := h4 (by simp)
    have hck : w.cell? ⟨b, off, none⟩ = some (.int .u64 x) := hc 0 (by simp)
    clear hc h4
    have hl : (l.length + 1 == 0) = false := by simp
    have hl2 : 0 < l.length + 1 := by omega
    rw [List.length_cons] at *
    go_enter Tryd.func74, Tryd.ntmps74
    go_wp2
    go_ret
    exact ⟨rfl, rfl⟩

end Go.Proofs.YtlicmnlllappnaaDoor
