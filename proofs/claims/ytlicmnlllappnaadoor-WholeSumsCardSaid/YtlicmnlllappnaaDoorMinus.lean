/- whole.minus: differences of words with borrows. -/
import Derived.Test.YtlicmnlllappnaaDoorPlus
namespace Go.Proofs.YtlicmnlllappnaaDoor
open Go.RowKit Big

theorem minus_step {l l0 l1 : List Nat} {k x y c s c2 : Nat} {hk : k < l0.length} (hl : l.length = k) (hx : x = l0[k]) (hy : y = l1[k]?.getD 0) (hs : x + W * c2 = s + y + c)
    (hv : val W l + val W (l1.take k) = val W (l0.take k) + c * W ^ k) : val W (l ++ [s]) + val W (l1.take (k + 1)) = val W (l0.take (k + 1)) + c2 * W ^ (k + 1) := by
  rw [val_snoc, val_take_succ W l0 k hk, val_take_getD, hl, ← hx, ← hy, Nat.pow_succ]
  exact sub_step hs hv

set_option maxRecDepth 100000 in
set_option maxHeartbeats 800000 in
/-- whole.minus of two numbers' digits, the second no greater: the difference's digits -/
theorem minus_any (v0 v1 : Value) (n m : Nat) (w : World) (h0 : At w .u64 v0 (dig W n)) (h1 : At w .u64 v1 (dig W m)) (hmn : m ≤ n) (hlen : sz W n ≤ 1099511627776) :
    Calls Tryd.prog 42 #[v0, v1] w (RAt .u64 (dig W (n - m)) w) := by
  have s0 := small_dig W2 n
  have s1 := small_dig W2 m
  have hl : (dig W m).length ≤ (dig W n).length := sz_mono W2 hmn
  have hvv : val W (dig W m) ≤ val W (dig W n) ∧ val W (dig W n) - val W (dig W m) = n - m := by rw [val_dig W2, val_dig W2]; exact ⟨hmn, rfl⟩
  unfold sz at hlen
  have Hvv := hid hvv; clear hvv hmn
  obtain ⟨r, hr⟩ : ∃ r, r = dig W (n - m) := ⟨_, rfl⟩
  rw [← hr]
  have Hr := hid hr; clear hr
  generalize dig W n = l0 at *
  generalize dig W m = l1 at *
  obtain ⟨p0, c0, rfl, a1, a2, a3, a4⟩ := h0
  obtain ⟨p1, c1, rfl, b1, b2, b3, b4⟩ := h1
  unfold maxLen at a2 b2
  go_enter Tryd.func42, Tryd.ntmps42
  go_wp2_with (first
    | (at_make; refine wpList_make_at rfl _ _ 23 rfl elemNat w.heap.size _ _ _ l0.length rfl rfl (by simp) (by omega) (by simp [maxLen]; omega) (Nat.le_refl _) ?_; intro vo w1 ho hb1 hs1 hvo; clear hvo))
  go_loopw [5, 6, 15] (fun o c i wr => ∃ (k : Nat) (l : List Nat) (c' : Nat), k ≤ l0.length ∧ i = .int .i64 (k : Nat) ∧ c = .int .u64 (c' : Nat) ∧ c' ≤ 1 ∧ Own wr w.heap.size 59 .u64 o l ∧ l.length = k ∧ Small W l ∧
      Hid (val W l + val W (l1.take k) = val W (l0.take k) + c' * W ^ k) ∧ Below w.heap.size w wr) (fun _ _ i _ => l0.length - (intOf i).toNat)
  case atStart => exact ⟨0, [], 0, Nat.zero_le _, rfl, rfl, by omega, ho, rfl, small_nil _, by simp [Hid, val], hb1⟩
  case round =>
    obtain ⟨k, l, c', hk, rfl, rfl, hc', hown, hlk, hsl, hv, hbel⟩ := hrel
    have Hlk := hid hlk; clear hlk
    by_cases hkl : k < l0.length
    · obtain ⟨b, off, rfl, hbb, hcell⟩ := a4 (by omega)
      have e0 : wr.cell? ⟨b, off + k, none⟩ = some (.int .u64 (l0[k] : Nat)) := (hbel.cell (p := ⟨b, off + k, none⟩) hbb).trans (hcell k hkl)
      have x0 := small_get s0 k hkl
      obtain ⟨x, hx⟩ : ∃ x, x = l0[k] := ⟨_, rfl⟩
      rw [← hx] at e0 x0
      have Hx := hid hx; clear hx hcell a4
      by_cases hk1 : k < l1.length
      · obtain ⟨b', off', rfl, hbb', hcell'⟩ := b4 (by omega)
        have e1 : wr.cell? ⟨b', off' + k, none⟩ = some (.int .u64 (l1[k] : Nat)) := (hbel.cell (p := ⟨b', off' + k, none⟩) hbb').trans (hcell' k hk1)
        have y0 := small_get s1 k hk1
        obtain ⟨y, hy⟩ : ∃ y, y = l1[k] := ⟨_, rfl⟩
        rw [← hy] at e1 y0
        have Hy : Hid (y = l1[k]?.getD 0) := by unfold Hid; simpa [hk1] using hy
        clear hy hcell' b4
        obtain ⟨s, c2, hs, hsW, hc2, hadd⟩ := sub64 x y c' x0 y0 hc'
        have Hs := hid hs; clear hs
        go_wp2_with (first
          | (at_builtin; refine wpList_append_at rfl _ _ 23 rfl elemNat w.heap.size _ l rfl (hown.alloc _) _ [s] rfl (At.one _ _ _ _) (by rw [Hlk.out]; simp [maxLen]; omega) (by rw [Hlk.out]; simp; omega) (by have := hbel.size; simp; omega) ?_; intro v2 w2 ho2 hb2 hs2))
        go_roundw
        case rel => exact ⟨k + 1, l ++ [s], c2, by omega, by go_num, rfl, hc2, ho2, by simp [Hlk.out], small_snoc hsl hsW,
            minus_step Hlk.out Hx.out Hy.out Hs.out hv.out, (hbel.trans ((below1 _ _).mono hbel.size)).trans hb2⟩
        case measure => simp [intOf]; omega
      · obtain ⟨y, hy⟩ : ∃ y, y = 0 := ⟨_, rfl⟩
        have y0 : y < W := by rw [hy]; decide
        have Hy : Hid (y = l1[k]?.getD 0) := by unfold Hid; simpa [hk1] using hy
        obtain ⟨s, c2, hs, hsW, hc2, hadd⟩ := sub64 x y c' x0 y0 hc'
        have Hs := hid hs; clear hs
        rw [hy] at hadd; simp only [Int.natCast_zero] at hadd; clear hy
        go_wp2_with (first
          | (at_builtin; refine wpList_append_at rfl _ _ 23 rfl elemNat w.heap.size _ l rfl (hown.alloc _) _ [s] rfl (At.one _ _ _ _) (by rw [Hlk.out]; simp [maxLen]; omega) (by rw [Hlk.out]; simp; omega) (by have := hbel.size; simp; omega) ?_; intro v2 w2 ho2 hb2 hs2))
        go_roundw
        case rel => exact ⟨k + 1, l ++ [s], c2, by omega, by go_num, rfl, hc2, ho2, by simp [Hlk.out], small_snoc hsl hsW,
            minus_step Hlk.out Hx.out Hy.out Hs.out hv.out, (hbel.trans ((below1 _ _).mono hbel.size)).trans hb2⟩
        case measure => simp [intOf]; omega
    · obtain rfl : k = l0.length := by omega
      have hv' : val W l + val W l1 = val W l0 + c' * W ^ l0.length := by
        have := hv.out
        rwa [List.take_length, val_take_ge W l1 _ (by omega)] at this
      have hlt := val_lt (by decide : 0 < W) hsl
      have e : strip l = r := by
        rw [strip_dig W2 hsl, Hr.out, ← Hvv.out.2]
        have := Hvv.out.1
        rw [Hlk.out] at hlt
        have : c' = 0 := by
          rcases (by omega : c' = 0 ∨ c' = 1) with h | h
          · exact h
          · subst h; omega
        subst this
        congr 1; omega
      have He := hid e; clear hv hv' e hlt a4 b4
      go_wp2_with (first
        | (go_at_call 38; refine (trim_any _ l _ hown.at).mono ?_; rintro e w' ⟨v', rfl, hv', rfl⟩))
      go_ret
      exact ⟨_, rfl, by rw [← He.out]; exact hv', hbel⟩
end Go.Proofs.YtlicmnlllappnaaDoor
