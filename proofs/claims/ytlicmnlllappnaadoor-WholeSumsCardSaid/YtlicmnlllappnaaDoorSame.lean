/- elenchusref01.Same, SameInt. -/
import Derived.Test.YtlicmnlllappnaaDoorCompare
import Derived.Test.YtlicmnlllappnaaDoorMem2
namespace Go.Proofs.YtlicmnlllappnaaDoor
open Go.RowKit Big

def RDrawn (v : Value) (w : World) (e : Ending) (w' : World) : Prop := e = .returned v ∧ ∃ k, w' = w.drewN k

set_option maxHeartbeats 800000 in
theorem Same_any (v0 v1 : Value) (l0 l1 : List Nat) (w : World) (h0 : At w .u64 v0 l0) (h1 : At w .u64 v1 l1) :
    Calls Tryd.prog 37 #[v0, v1] w (RDrawn (.bool (decide (l0 = l1))) w) := by
  obtain ⟨r, hr⟩ : ∃ r, r = decide (l0 = l1) := ⟨_, rfl⟩
  rw [← hr]
  have Hr := hid hr
  clear hr
  obtain ⟨p0, c0, rfl, a1, a2, a3, a4⟩ := h0
  obtain ⟨p1, c1, rfl, b1, b2, b3, b4⟩ := h1
  unfold maxLen at a2 b2
  by_cases hl : l0.length = l1.length
  · have Hl := hid hl
    rw [hl] at a1 ⊢; clear hl
    go_enter Tryd.func37, Tryd.ntmps37
    go_wp2_with fail
    go_loopw [13] (fun i wr => ∃ (k : Nat), k ≤ l1.length ∧ i = .int .i64 (k : Nat) ∧ Hid (l0.take k = l1.take k) ∧ Hid (∃ j, wr = w.drewN j)) (fun i _ => l1.length - (intOf i).toNat)
    case atStart => exact ⟨0, Nat.zero_le _, rfl, rfl, 0, rfl⟩
    case round =>
      obtain ⟨k, hk, rfl, hd, Hw⟩ := hrel
      by_cases hk0 : k < l1.length
      · have hkl : k < l0.length := by rw [Hl.out]; omega
        obtain ⟨b, off, rfl, hbb, hc0⟩ := a4 (Nat.lt_of_le_of_lt (Nat.zero_le _) hkl)
        obtain ⟨b', off', rfl, hbb', hc1⟩ := b4 (by omega)
        have e0 : wr.cell? ⟨b, off + k, none⟩ = some (.int .u64 (l0[k] : Nat)) := by obtain ⟨j, rfl⟩ := Hw.out; exact hc0 k hkl
        have e1 : wr.cell? ⟨b', off' + k, none⟩ = some (.int .u64 (l1[k] : Nat)) := by obtain ⟨j, rfl⟩ := Hw.out; exact hc1 k (by omega)
        have es : l0[k] = l1[k] → l0.take (k + 1) = l1.take (k + 1) := fun h => by rw [take_succ' l0 k hkl, take_succ' l1 k hk0, hd.out, h]
        have en : l0[k] ≠ l1[k] → decide (l0 = l1) = false := fun h => by simp only [decide_eq_false_iff_not]; rintro rfl; exact h rfl
        generalize l0[k] = x at *
        generalize l1[k] = y at *
        have Es : Hid (x = y → l0.take (k + 1) = l1.take (k + 1)) := es
        have En : Hid (x ≠ y → decide (l0 = l1) = false) := en
        clear a4 b4 hc0 hc1 es en hbb hbb'
        have hlow : (0 : Int) ≤ (k : Int) := by omega
        have hup : (k : Int) < (l1.length : Int) := by omega
        by_cases hxy : x = y
        · subst hxy
          go_wp2
          go_quiet (fail)
          go_wp2
          go_roundw
          case rel => exact ⟨k + 1, by omega, by go_num, Es.out (by trivial), drawn_more Hw.out⟩
          case measure => (simp [intOf] <;> omega)
        · have hb : ((x : Int) != (y : Int)) = true := bne_iff_ne.2 (fun h => hxy (by omega))
          have Hf : Hid (decide (l0 = l1) = false) := En.out hxy
          clear Es En
          go_wp2
          go_quiet (fail)
          go_wp2
          go_ret
          exact ⟨by rw [Hr.out, Hf.out]; rfl, drawn_more Hw.out⟩
      · obtain rfl : k = l1.length := by omega
        have ht : Hid (decide (l0 = l1) = true) := by
          have h := hd.out
          rw [List.take_length, List.take_of_length_le (Nat.le_of_eq Hl.out)] at h
          simpa [Hid] using h
        clear a4 b4 hd
        go_wp2
        go_ret
        exact ⟨by rw [Hr.out, ht.out]; rfl, Hw.out⟩
  · have hb : ((l0.length : Int) != (l1.length : Int)) = true := bne_iff_ne.2 (by omega)
    have Hf : Hid (decide (l0 = l1) = false) := by
      simp only [Hid, decide_eq_false_iff_not]; rintro rfl; exact hl rfl
    clear a4 b4
    go_enter Tryd.func37, Tryd.ntmps37
    go_wp2
    go_ret
    exact ⟨by rw [Hr.out, Hf.out]; rfl, 0, rfl⟩

set_option maxHeartbeats 800000 in
theorem SameInt_raw (n0 n1 : Bool) (s0 s1 : Value) (l0 l1 : List Nat) (w : World) (h0 : At w .u64 s0 l0) (h1 : At w .u64 s1 l1) (hn : n0 = n1) (hl : l0 = l1) :
    Calls Tryd.prog 12 #[.agg #[.bool n0, s0], .agg #[.bool n1, s1]] w (RBool true w) := by
  subst hn
  subst hl
  have g : ∀ o o', Calls Tryd.prog 37 #[s0, s1] ((w.alloc o).alloc o') (RDrawn (.bool true) ((w.alloc o).alloc o')) := fun o o' => by
    have := Same_any s0 s1 l0 l0 _ ((h0.alloc o).alloc o') ((h1.alloc o).alloc o')
    rwa [decide_eq_true rfl] at this
  have G := hid g
  clear g h0 h1
  go_enter Tryd.func12, Tryd.ntmps12
  go_wp2_with fail
  refine (G.out _ _).mono ?_
  rintro e w' ⟨rfl, k, rfl⟩
  go_wp2_with fail
  go_ret
  exact ⟨rfl, below_drewN ((below1 _ _).alloc (by simp) _) _⟩
theorem SameInt_same (v0 v1 : Value) (z : Int) (w : World) (h0 : IntAt w v0 z) (h1 : IntAt w v1 z) : Calls Tryd.prog 12 #[v0, v1] w (RBool true w) := by
  obtain ⟨s0, rfl, a0⟩ := h0
  obtain ⟨s1, rfl, a1⟩ := h1
  exact SameInt_raw _ _ s0 s1 _ _ w a0 a1 rfl rfl
end Go.Proofs.YtlicmnlllappnaaDoor
