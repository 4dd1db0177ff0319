/- whole.Parse of the text -0. -/
import Derived.Test.YtlicmnlllappnaaDoorPrintSmall
namespace Go.Proofs.YtlicmnlllappnaaDoor
open Go.RowKit Big Go.Lib

set_option maxHeartbeats 800000 in
theorem isSize_zero (w : World) : Calls Tryd.prog 57 #[.string ⟨#[48]⟩] w fun e w' => e = .returned (.bool true) ∧ w' = w := by
  go_enter Tryd.func57, Tryd.ntmps57
  go_wp2_with fail
  refine wp_loop_rounds 2 ?_
  rw [rounds_succ]
  go_wp2
  rw [rounds_succ]
  go_wp2
  go_ret
  exact ⟨rfl, rfl⟩

def RParse (z : Int) (c : Int) (w : World) (e : Ending) (w' : World) : Prop := ∃ v, e = .returned (.tuple #[v, .int .i64 c]) ∧ IntAt w' v z ∧ Below w.heap.size w w'

set_option maxHeartbeats 800000 in
theorem Parse_bad (w : World) : Calls Tryd.prog 33 #[.string ⟨#[45, 48]⟩] w (RParse 0 6 w) := by
  have hc := fun W' => Tryd.strings_CutPrefix ⟨#[45, 48]⟩ ⟨#[45]⟩ W'
  have e1 : (Lib.trimPrefix [45, 48] [45] : List UInt8) = [48] := by decide
  have e2 : Lib.hasPrefix ([45, 48] : List UInt8) [45] = true := by decide
  have hc' : ∀ W', Calls Tryd.prog 56 #[.string ⟨#[45, 48]⟩, .string ⟨#[45]⟩] W' fun e w' => e = .returned (.tuple #[.string ⟨#[48]⟩, .bool true]) ∧ w' = W' := fun W' => by
    have := hc W'
    rw [show (⟨#[45, 48]⟩ : ByteArray).data.toList = [45, 48] from rfl, show (⟨#[45]⟩ : ByteArray).data.toList = [45] from rfl, e1, e2] at this
    exact this
  have Hc := hid hc'
  clear hc hc' e1 e2
  go_enter Tryd.func33, Tryd.ntmps33
  go_wp2_with fail
  refine (Hc.out _).mono ?_
  rintro e w1 ⟨rfl, rfl⟩
  go_wp2_with fail
  refine (isSize_zero _).mono ?_
  rintro e w2 ⟨rfl, rfl⟩
  go_wp2_with fail
  go_goals
  exact bodyPost_ret (v := .tuple #[.agg #[.bool false, .slice none 0 0], .int .i64 6]) (by simp [results, Tryd.results33, go_sem]) rfl ⟨_, rfl, IntAt.zero _, below1 _ _⟩
end Go.Proofs.YtlicmnlllappnaaDoor
