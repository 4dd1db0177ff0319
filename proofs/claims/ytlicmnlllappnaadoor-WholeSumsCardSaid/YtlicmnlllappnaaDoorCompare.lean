/- whole.compare: the order of sizes. -/
import Derived.Test.YtlicmnlllappnaaDoorOwn
import Derived.Deep.QuietTactic
import Derived.BigQuiet
import Derived.WalkSmall
namespace Go.Proofs.YtlicmnlllappnaaDoor
open Go.RowKit Big

def ord (a b : Int) : Int := if a < b then -1 else if b < a then 1 else 0
theorem ord_lt {a b : Int} (h : a < b) : ord a b = -1 := by simp [ord, h]
theorem ord_gt {a b : Int} (h : b < a) : ord a b = 1 := by simp [ord, h]; omega
theorem ord_eq (a : Int) : ord a a = 0 := by simp [ord]

theorem cmpInt_any (a b : Int) (w : World) :
    Calls Tryd.prog 48 #[.int .i64 a, .int .i64 b] w fun e w' => e = .returned (.int .i64 (ord a b)) ∧ w' = w := by
  rcases Int.lt_trichotomy a b with h | h | h
  · rw [ord_lt h]
    go_enter Tryd.func48, Tryd.ntmps48
    go_wp2
    go_ret
    exact ⟨rfl, rfl⟩
  · subst h
    rw [ord_eq]
    go_enter Tryd.func48, Tryd.ntmps48
    go_wp2
    go_ret
    exact ⟨rfl, rfl⟩
  · have h' : ¬ a < b := by omega
    rw [ord_gt h]
    go_enter Tryd.func48, Tryd.ntmps48
    go_wp2
    go_ret
    exact ⟨rfl, rfl⟩
theorem cmpWord_any (a b : Int) (w : World) :
    Calls Tryd.prog 68 #[.int .u64 a, .int .u64 b] w fun e w' => e = .returned (.int .i64 (ord a b)) ∧ w' = w := by
  rcases Int.lt_trichotomy a b with h | h | h
  · rw [ord_lt h]
    go_enter Tryd.func68, Tryd.ntmps68
    go_wp2
    go_ret
    exact ⟨rfl, rfl⟩
  · subst h
    rw [ord_eq]
    go_enter Tryd.func68, Tryd.ntmps68
    go_wp2
    go_ret
    exact ⟨rfl, rfl⟩
  · have h' : ¬ a < b := by omega
    rw [ord_gt h]
    go_enter Tryd.func68, Tryd.ntmps68
    go_wp2
    go_ret
    exact ⟨rfl, rfl⟩

theorem drawn_more {w wr : World} {n : Nat} (h : ∃ j, wr = w.drewN j) : ∃ j, wr.drewN n = w.drewN j := by
  obtain ⟨j, rfl⟩ := h
  exact ⟨j + n, by rw [World.drewN_drewN]⟩
def ROrd (z : Int) (w : World) (e : Ending) (w' : World) : Prop := e = .returned (.int .i64 z) ∧ ∃ k, w' = w.drewN k

/-- the order, seen at the highest digits that part -/
theorem ord_part {l0 l1 : List Nat} {n m : Nat} (s0 : Small W l0) (s1 : Small W l1) (h0 : val W l0 = n) (h1 : val W l1 = m) {k : Nat} (hk0 : k < l0.length) (hk1 : k < l1.length)
    (hd : l0.drop (k + 1) = l1.drop (k + 1)) (hne : l0[k] ≠ l1[k]) : ord (l0[k] : Nat) (l1[k] : Nat) = ord n m := by
  rcases Nat.lt_or_ge l0[k] l1[k] with h | h
  · have := val_lt_of_part s0 hk0 hk1 hd h
    rw [ord_lt (by omega), ord_lt (by omega)]
  · have := val_lt_of_part s1 hk1 hk0 hd.symm (show l1[k] < l0[k] by omega)
    rw [ord_gt (by omega), ord_gt (by omega)]

set_option maxRecDepth 100000 in
set_option maxHeartbeats 800000 in
theorem compare_any (v0 v1 : Value) (n m : Nat) (w : World) (h0 : At w .u64 v0 (dig W n)) (h1 : At w .u64 v1 (dig W m)) :
    Calls Tryd.prog 41 #[v0, v1] w (ROrd (ord n m) w) := by
  have s0 := small_dig W2 n
  have s1 := small_dig W2 m
  have k1 : (dig W n).length < (dig W m).length → n < m := lt_of_sz_lt W2
  have k2 : (dig W m).length < (dig W n).length → m < n := lt_of_sz_lt W2
  have hv0 := val_dig W2 n
  have hv1 := val_dig W2 m
  generalize dig W n = l0 at *
  generalize dig W m = l1 at *
  have Hv0 := hid hv0; clear hv0
  have Hv1 := hid hv1; clear hv1
  obtain ⟨p0, c0, rfl, a1, a2, a3, a4⟩ := h0
  obtain ⟨p1, c1, rfl, b1, b2, b3, b4⟩ := h1
  unfold maxLen at a2 b2
  by_cases hl : l0.length = l1.length
  · have Hl := hid hl
    rw [hl] at a1 ⊢; clear hl
    go_enter Tryd.func41, Tryd.ntmps41
    go_wp2_with fail
    go_loopw [5] (fun i wr => ∃ (k : Nat), k ≤ l1.length ∧ i = .int .i64 ((k : Int) - 1) ∧ Hid (l0.drop k = l1.drop k) ∧ Hid (∃ j, wr = w.drewN j)) (fun i _ => (intOf i + 1).toNat)
    case atStart => exact ⟨l1.length, Nat.le_refl _, rfl, by unfold Hid; rw [List.drop_length, ← Hl.out, List.drop_length], 0, rfl⟩
    case round =>
      obtain ⟨k, hk, rfl, hd, Hw⟩ := hrel
      by_cases hk0 : 0 < k
      · obtain ⟨k, rfl⟩ : ∃ k', k = k' + 1 := ⟨k - 1, by omega⟩
        have hkl : k < l0.length := by rw [Hl.out]; omega
        obtain ⟨b, off, rfl, hbb, hc0⟩ := a4 (Nat.lt_of_le_of_lt (Nat.zero_le _) hkl)
        obtain ⟨b', off', rfl, hbb', hc1⟩ := b4 (by omega)
        have e0 : wr.cell? ⟨b, off + k, none⟩ = some (.int .u64 (l0[k] : Nat)) := by obtain ⟨j, rfl⟩ := Hw.out; exact hc0 k hkl
        have e1 : wr.cell? ⟨b', off' + k, none⟩ = some (.int .u64 (l1[k] : Nat)) := by obtain ⟨j, rfl⟩ := Hw.out; exact hc1 k (by omega)
        have ep := ord_part s0 s1 Hv0.out Hv1.out hkl (show k < l1.length by omega) hd.out
        have es : l0[k] = l1[k] → l0.drop k = l1.drop k := fun h => by
          rw [List.drop_eq_getElem_cons hkl, List.drop_eq_getElem_cons (show k < l1.length by omega), h, hd.out]
        generalize l0[k] = x at *
        generalize l1[k] = y at *
        have Ep := hid ep
        have Es : Hid (x = y → l0.drop k = l1.drop k) := es
        clear a4 b4 hc0 hc1 ep es hbb hbb' s0 s1 k1 k2
        have hlow : (0 : Int) ≤ (k : Int) + 1 - 1 := by omega
        have hsp : (k : Int) + 1 - 1 = (k : Int) := by omega
        by_cases hxy : x = y
        · subst hxy
          go_wp2
          go_quiet (fail)
          go_wp2
          go_roundw
          case rel => exact ⟨k, by omega, rfl, Es.out (by trivial), drawn_more Hw.out⟩
          case measure => simp [intOf]
        · have hb : ((x : Int) != (y : Int)) = true := bne_iff_ne.2 (fun h => hxy (by omega))
          go_wp2
          go_quiet (fail)
          go_wp2
          go_quiet ((go_at_call 68; exact quiet_add_same (cmpWord_any _ _ _)))
          go_wp2
          go_ret
          exact ⟨by rw [← Ep.out (fun h => hxy h)]; rfl, drawn_more (drawn_more Hw.out)⟩
      · obtain rfl : k = 0 := by omega
        have hn : ord n m = 0 := by
          have h := hd.out
          rw [List.drop_zero, List.drop_zero] at h
          rw [← Hv0.out, ← Hv1.out, h]; exact ord_eq _
        have Hn := hid hn
        clear hn a4 b4 k1 k2 hd
        go_wp2
        go_ret
        exact ⟨by rw [Hn.out]; rfl, Hw.out⟩
  · have hn : (l0.length < l1.length ∧ ord l0.length l1.length = ord n m) ∨ (l1.length < l0.length ∧ ord l0.length l1.length = ord n m) := by
      rcases Nat.lt_or_ge l0.length l1.length with h | h
      · exact Or.inl ⟨h, by have := k1 h; rw [ord_lt (by omega), ord_lt (by omega)]⟩
      · exact Or.inr ⟨by omega, by have := k2 (by omega); rw [ord_gt (by omega), ord_gt (by omega)]⟩
    have Hn : Hid (ord l0.length l1.length = ord n m) := by rcases hn with h | h <;> exact h.2
    clear hn a4 b4 k1 k2
    have hb : ((l0.length : Int) != (l1.length : Int)) = true := bne_iff_ne.2 (by omega)
    go_enter Tryd.func41, Tryd.ntmps41
    go_wp2_with (go_at_call 48; refine (cmpInt_any _ _ _).mono ?_; rintro e w' ⟨rfl, rfl⟩)
    go_ret
    exact ⟨by rw [← Hn.out]; rfl, 0, rfl⟩
end Go.Proofs.YtlicmnlllappnaaDoor
