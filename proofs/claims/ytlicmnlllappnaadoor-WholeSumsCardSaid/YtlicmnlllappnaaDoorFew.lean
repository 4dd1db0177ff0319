/- elenchuslaw01.few of two numbers, copied. -/
import Derived.Test.YtlicmnlllappnaaDoorWholeFns
import Derived.Test.YtlicmnlllappnaaDoorSame
import Derived.Deep.RegionHeld3
import Derived.Deep.AppendLies
namespace Go.Proofs.YtlicmnlllappnaaDoor
open Go.RowKit Big

set_option maxRecDepth 100000 in
set_option maxHeartbeats 800000 in
theorem few2_any (b : Nat) (n0 n1 : Bool) (p0 p1 : Option Addr) (k0 c0 k1 c1 cap : Nat) (w : World)
    (e0 : w.cell? ⟨b, 0, none⟩ = some (.bool n0)) (e1 : w.cell? ⟨b, 1, none⟩ = some (.slice p0 k0 c0)) (e2 : w.cell? ⟨b, 2, none⟩ = some (.bool n1)) (e3 : w.cell? ⟨b, 3, none⟩ = some (.slice p1 k1 c1))
    (h0 : k0 ≤ 9223372036854775807) (h1 : k1 ≤ 9223372036854775807) :
    Calls Tryd.prog 10 #[.slice (some ⟨b, 0, none⟩) 2 cap] w (RBool (decide (k0 ≤ 20 ∧ k1 ≤ 20)) w) := by
  have hb := World.block_lt_of_cell? w _ e0
  have e2' : ∀ o, (w.alloc o).cell? ⟨b, 2, none⟩ = some (.bool n1) := fun o => ((below1 w o).cell (p := ⟨b, 2, none⟩) hb).trans e2
  have e3' : ∀ o, (w.alloc o).cell? ⟨b, 3, none⟩ = some (.slice p1 k1 c1) := fun o => ((below1 w o).cell (p := ⟨b, 3, none⟩) hb).trans e3
  rcases (by omega : (k0 ≤ 20 ∧ k1 ≤ 20) ∨ (k0 ≤ 20 ∧ 20 < k1) ∨ 20 < k0) with ⟨a0, a1⟩ | ⟨a0, a1⟩ | a0
  · obtain ⟨r, hr⟩ : ∃ r, r = decide (k0 ≤ 20 ∧ k1 ≤ 20) := ⟨_, rfl⟩
    rw [← hr]
    have hd : Hid (r = true) := by unfold Hid; rw [hr]; simp; omega
    clear hr
    go_enter Tryd.func10, Tryd.ntmps10
    go_wp2_with fail
    refine wp_loop_rounds 3 ?_
    rw [rounds_succ]
    go_wp2
    rw [rounds_succ]
    go_wp2
    rw [rounds_succ]
    go_wp2
    go_ret
    exact ⟨by rw [hd.out]; rfl, (below1 _ _).alloc (by simp) _⟩
  · obtain ⟨r, hr⟩ : ∃ r, r = decide (k0 ≤ 20 ∧ k1 ≤ 20) := ⟨_, rfl⟩
    rw [← hr]
    have hd : Hid (r = false) := by unfold Hid; rw [hr]; simp; omega
    clear hr
    go_enter Tryd.func10, Tryd.ntmps10
    go_wp2_with fail
    refine wp_loop_rounds 3 ?_
    rw [rounds_succ]
    go_wp2
    rw [rounds_succ]
    go_wp2
    go_ret
    exact ⟨by rw [hd.out]; rfl, (below1 _ _).alloc (by simp) _⟩
  · obtain ⟨r, hr⟩ : ∃ r, r = decide (k0 ≤ 20 ∧ k1 ≤ 20) := ⟨_, rfl⟩
    rw [← hr]
    have hd : Hid (r = false) := by unfold Hid; rw [hr]; simp; omega
    clear hr
    go_enter Tryd.func10, Tryd.ntmps10
    go_wp2_with fail
    refine wp_loop_rounds 3 ?_
    rw [rounds_succ]
    go_wp2
    go_ret
    exact ⟨by rw [hd.out]; rfl, below1 _ _⟩
end Go.Proofs.YtlicmnlllappnaaDoor
