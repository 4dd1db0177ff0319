/- Texts put together: OpenRat. -/
import Derived.Test.YteiniokddopacaaOrderCardM8
import Derived.Deep.DeepHandedRow
import Derived.ProofKit
import Derived.ChangeSame
/- A fraction that comes in as data: how it reads. -/
namespace Go.Proofs.Yteiniokddopacaa
open Go.ChangeShapes Go.WideShapes Go.ChangeAt Go.RowKit Go.Deep Go.Joins Big

theorem own : ownKnob Try.prog.godebug = none := by kernel_rfl
theorem fieldsRat : ∃ f0 f1 : Field, Try.prog.underlying 29 = some (.struct #[f0, f1]) ∧ f0.type = 25 ∧ f1.type = 23 ∧ f0.offset = 0 ∧ f1.offset = 2 := ⟨_, _, Try.underlying29, rfl, rfl, rfl, rfl⟩
theorem fieldsInt2 : ∃ f0 f1 : Field, Try.prog.underlying 25 = some (.struct #[f0, f1]) ∧ f0.type = 4 ∧ f1.type = 23 ∧ f0.offset = 0 ∧ f1.offset = 1 := ⟨_, _, Try.underlying25, rfl, rfl, rfl, rfl⟩
theorem cellsRat : Try.prog.cellsOf 29 = 3 := by kernel_rfl
theorem cellsInt2 : Try.prog.cellsOf 25 = 2 := by kernel_rfl
theorem cellsNat : Try.prog.cellsOf 23 = 1 := by kernel_rfl
theorem cellsBool : Try.prog.cellsOf 4 = 1 := by kernel_rfl
section
variable {H : Type} {enc : TypeId × Value → H} {w : World} {base : Nat} {spare : Nat → Bool} {held : Bool}
set_option maxRecDepth 100000 in
theorem open_rat {r : Reach} {b0 : Nat} {v : Value} {d : DataW H} {p : List MemPlace} (hv : Value.okWide Try.prog w r b0 29 v) (h : DataW.Trod enc Try.prog w base spare held 29 v d p) :
    ∃ k0 k1, RatIn w v k0 k1 := by
  obtain ⟨f0, f1, hs, e0, e1, o0, o1⟩ := fieldsRat
  obtain ⟨cs, rfl, hsz⟩ := okWide_struct hs hv
  obtain ⟨fuel, hf⟩ := h
  obtain ⟨y0, y1, n, -, hl, h0, h1⟩ := trod_struct2 hs hf
  rw [e0, o0] at h0
  rw [e1, o1] at h1
  rw [cellsRat] at hl
  rw [cellsInt2] at h0
  rw [cellsNat] at h1
  obtain ⟨a, b, c, hcs⟩ : ∃ a b c, cs = #[a, b, c] := by
    obtain ⟨l⟩ := cs
    have hl' : l.length = 3 := by simpa [Value.cells] using hl
    match l, hl' with
    | [a, b, c], _ => exact ⟨a, b, c, rfl⟩
  subst hcs
  have h0' : DataW.trod enc Try.prog w base spare held n 25 [a, b] = some y0 := h0
  have h1' : DataW.trod enc Try.prog w base spare held n 23 [c] = some y1 := h1
  obtain ⟨g0, g1, hs2, e2, e3, o2, o3⟩ := fieldsInt2
  obtain ⟨z0, z1, m, -, -, k0, k1⟩ := trod_struct2 hs2 h0'
  rw [e2, o2, cellsBool] at k0
  rw [e3, o3, cellsNat] at k1
  have k0' : DataW.trod enc Try.prog w base spare held m 4 [a] = some z0 := k0
  have k1' : DataW.trod enc Try.prog w base spare held m 23 [b] = some z1 := k1
  obtain ⟨q, hq, -⟩ := DataW.trod_bool Try.underlying4 k0'
  obtain ⟨l0, ha, hl0⟩ := open_nat k1'
  obtain ⟨l1, hc, hl1⟩ := open_nat h1'
  obtain rfl : a = .bool q := by simpa using hq
  obtain ⟨p0, c0, rfl, r0⟩ := id ha
  obtain ⟨p1, c1, rfl, r1⟩ := id hc
  exact ⟨_, _, q, p0, c0, p1, c1, l0, l1, rfl, ha, hc, hl0, hl1, rfl, rfl⟩
end
end Go.Proofs.Yteiniokddopacaa
