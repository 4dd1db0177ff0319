/-
  No cell of these rows narrows 'for every input' (looked for: loops, veiled, ifaces, maps, wideKeys, modest, calm, conditions, laid).
  DERIVED. THE GIVEN ROWS OF THIS SEAT. 6 by the template 'for every input the law returns true; each argument reads behind the call as it read before'; 0 by the template 'total and deterministic' (their statements: YtjfcocadohgneaaGreatTotals.lean).
  GIVEN WITH THE SEED: the statements are not yours to turn. If you find one false, say at which input.
  Laid BY PROGRAM, IN A SANDBOX (cutbox-rows.mjs): the forced cells as the released guide's own fill.sh prints them over the translation 2432e7e66dd6bbf7… (all of the seat's roots in one cut). By AI agents, Wed Nov 11 2026. No macro, syntax, notation, axiom, sorry.
-/
import Derived.Test.YtjfcocadohgneaaGreatChecked
import GoSem.Claim
import GoSem.ClaimJoined
import GoSem.ClaimMapViews
import Derived.JoinedTies
import Derived.KernelRfl
namespace Go.Proofs.YtjfcocadohgneaaGreat
/- THE CELL 'sum', in the pinned program and in every row, IS THE sha256 OF THE DUMP (.gsa) THAT YtjfcocadohgneaaGreatProg.lean LOADS. Nothing in Lean hashes anything: it is a label: what it is worth is what the hold of that sum in a sandbox is worth. -/
noncomputable def Tryz.pinned : Pinned := { name := "ytjfcocadohgneaagreat", sum := "2432e7e66dd6bbf7e5fdca263bc12b03e26abeae1f9dc76a89ac6b2502f7b7af", checked := Tryz.checked }
namespace Rows
def none {H : Type} : Left H := { results := [], args := [] }

/-- 'elenchuslaw14.TableauAnswers': WHATEVER THE INPUT: true; the input reads as it did. -/
def tableauAnswersSpec : ChangeSpec := { name := "tableauAnswers", fn := fun _ => fun
  | [d1, d2, d3, d4] => { results := [.lit (.bool true)], args := [d1, d2, d3, d4] }
  | _ => none }
def tableauAnswersRow : OpenClaim := { program := "ytjfcocadohgneaagreat", sum := "2432e7e66dd6bbf7e5fdca263bc12b03e26abeae1f9dc76a89ac6b2502f7b7af", func := "elenchus/elenchuslaw14.TableauAnswers", spec := "tableauAnswers", inPlace := ["math/bits.Add64", "math/bits.Sub64"], unfollowed := true, recurses := true, apart := false }
def TableauAnswersSaid : Prop := tableauAnswersRow.holds Tryz.pinned (OpenSpec.ofChange tableauAnswersSpec)

/-- ITS FALSE NEIGHBOUR: 'it returns false'. Refute it at one input. -/
def tableauAnswersWrong : ChangeSpec := { name := "tableauAnswers", fn := fun _ => fun
  | [d1, d2, d3, d4] => { results := [.lit (.bool false)], args := [d1, d2, d3, d4] }
  | _ => none }
def TableauAnswersWrongFalsely : Prop := tableauAnswersRow.holds Tryz.pinned (OpenSpec.ofChange tableauAnswersWrong)

/-- 'elenchuslaw14.TableauMeets': WHATEVER THE INPUT: true; the input reads as it did. -/
def tableauMeetsSpec : ChangeSpec := { name := "tableauMeets", fn := fun _ => fun
  | [d1, d2, d3, d4] => { results := [.lit (.bool true)], args := [d1, d2, d3, d4] }
  | _ => none }
def tableauMeetsRow : OpenClaim := { program := "ytjfcocadohgneaagreat", sum := "2432e7e66dd6bbf7e5fdca263bc12b03e26abeae1f9dc76a89ac6b2502f7b7af", func := "elenchus/elenchuslaw14.TableauMeets", spec := "tableauMeets", inPlace := ["math/bits.Add64", "math/bits.Sub64"], unfollowed := true, recurses := true, apart := false }
def TableauMeetsSaid : Prop := tableauMeetsRow.holds Tryz.pinned (OpenSpec.ofChange tableauMeetsSpec)

/-- ITS FALSE NEIGHBOUR: 'it returns false'. Refute it at one input. -/
def tableauMeetsWrong : ChangeSpec := { name := "tableauMeets", fn := fun _ => fun
  | [d1, d2, d3, d4] => { results := [.lit (.bool false)], args := [d1, d2, d3, d4] }
  | _ => none }
def TableauMeetsWrongFalsely : Prop := tableauMeetsRow.holds Tryz.pinned (OpenSpec.ofChange tableauMeetsWrong)

/-- 'elenchuslaw14.TableauSums': WHATEVER THE INPUT: true; the input reads as it did. -/
def tableauSumsSpec : ChangeSpec := { name := "tableauSums", fn := fun _ => fun
  | [d1, d2, d3] => { results := [.lit (.bool true)], args := [d1, d2, d3] }
  | _ => none }
def tableauSumsRow : OpenClaim := { program := "ytjfcocadohgneaagreat", sum := "2432e7e66dd6bbf7e5fdca263bc12b03e26abeae1f9dc76a89ac6b2502f7b7af", func := "elenchus/elenchuslaw14.TableauSums", spec := "tableauSums", inPlace := ["math/bits.Add64", "math/bits.Sub64"], unfollowed := true, recurses := true, apart := false }
def TableauSumsSaid : Prop := tableauSumsRow.holds Tryz.pinned (OpenSpec.ofChange tableauSumsSpec)

/-- ITS FALSE NEIGHBOUR: 'it returns false'. Refute it at one input. -/
def tableauSumsWrong : ChangeSpec := { name := "tableauSums", fn := fun _ => fun
  | [d1, d2, d3] => { results := [.lit (.bool false)], args := [d1, d2, d3] }
  | _ => none }
def TableauSumsWrongFalsely : Prop := tableauSumsRow.holds Tryz.pinned (OpenSpec.ofChange tableauSumsWrong)

/-- 'elenchuslaw14.TableauStays': WHATEVER THE INPUT: true; the input reads as it did. -/
def tableauStaysSpec : ChangeSpec := { name := "tableauStays", fn := fun _ => fun
  | [d1, d2, d3, d4] => { results := [.lit (.bool true)], args := [d1, d2, d3, d4] }
  | _ => none }
def tableauStaysRow : OpenClaim := { program := "ytjfcocadohgneaagreat", sum := "2432e7e66dd6bbf7e5fdca263bc12b03e26abeae1f9dc76a89ac6b2502f7b7af", func := "elenchus/elenchuslaw14.TableauStays", spec := "tableauStays", inPlace := ["math/bits.Add64", "math/bits.Sub64"], unfollowed := true, recurses := true, apart := false }
def TableauStaysSaid : Prop := tableauStaysRow.holds Tryz.pinned (OpenSpec.ofChange tableauStaysSpec)

/-- ITS FALSE NEIGHBOUR: 'it returns false'. Refute it at one input. -/
def tableauStaysWrong : ChangeSpec := { name := "tableauStays", fn := fun _ => fun
  | [d1, d2, d3, d4] => { results := [.lit (.bool false)], args := [d1, d2, d3, d4] }
  | _ => none }
def TableauStaysWrongFalsely : Prop := tableauStaysRow.holds Tryz.pinned (OpenSpec.ofChange tableauStaysWrong)

/-- 'elenchuslaw06.LinearSums': WHATEVER THE INPUT: true; the input reads as it did. -/
def linearSumsSpec : ChangeSpec := { name := "linearSums", fn := fun _ => fun
  | [d1, d2, d3] => { results := [.lit (.bool true)], args := [d1, d2, d3] }
  | _ => none }
def linearSumsRow : OpenClaim := { program := "ytjfcocadohgneaagreat", sum := "2432e7e66dd6bbf7e5fdca263bc12b03e26abeae1f9dc76a89ac6b2502f7b7af", func := "elenchus/elenchuslaw06.LinearSums", spec := "linearSums", inPlace := ["math/bits.Add64", "math/bits.Sub64"], unfollowed := true, recurses := true, apart := false }
def LinearSumsSaid : Prop := linearSumsRow.holds Tryz.pinned (OpenSpec.ofChange linearSumsSpec)

/-- ITS FALSE NEIGHBOUR: 'it returns false'. Refute it at one input. -/
def linearSumsWrong : ChangeSpec := { name := "linearSums", fn := fun _ => fun
  | [d1, d2, d3] => { results := [.lit (.bool false)], args := [d1, d2, d3] }
  | _ => none }
def LinearSumsWrongFalsely : Prop := linearSumsRow.holds Tryz.pinned (OpenSpec.ofChange linearSumsWrong)

/-- 'elenchuslaw06.LinearTight': WHATEVER THE INPUT: true; the input reads as it did. -/
def linearTightSpec : ChangeSpec := { name := "linearTight", fn := fun _ => fun
  | [d1, d2] => { results := [.lit (.bool true)], args := [d1, d2] }
  | _ => none }
def linearTightRow : OpenClaim := { program := "ytjfcocadohgneaagreat", sum := "2432e7e66dd6bbf7e5fdca263bc12b03e26abeae1f9dc76a89ac6b2502f7b7af", func := "elenchus/elenchuslaw06.LinearTight", spec := "linearTight", inPlace := ["math/bits.Add64", "math/bits.Sub64"], unfollowed := true, recurses := true, apart := false }
def LinearTightSaid : Prop := linearTightRow.holds Tryz.pinned (OpenSpec.ofChange linearTightSpec)

/-- ITS FALSE NEIGHBOUR: 'it returns false'. Refute it at one input. -/
def linearTightWrong : ChangeSpec := { name := "linearTight", fn := fun _ => fun
  | [d1, d2] => { results := [.lit (.bool false)], args := [d1, d2] }
  | _ => none }
def LinearTightWrongFalsely : Prop := linearTightRow.holds Tryz.pinned (OpenSpec.ofChange linearTightWrong)

/- THE SECOND FORM. 'bulk': how many values and letters a reading holds, each counted each time it is reached (what is shared counts as often as it is met; a slice's spare places count too). A statement '..UptoSaid' is the law's where the arguments, and the package variables that the reading takes, are together of bulk at most 1048576: NARROWER than '..Said'. Prove '..Said' where nothing that the law and all that it calls make is longer than what came in: it says more and counts as full. Else prove '..UptoSaid'. A law counts once. -/
mutual
def uptoBulk {H : Type} : DataW H → Nat
  | .lit (.string bytes) => bytes.length + 1
  | .lit _ => 1
  | .nil => 1
  | .ptr d => uptoBulk d + 1
  | .slice elems spare => uptoBulkAll elems + uptoBulkAll spare + 1
  | .agg parts => uptoBulkAll parts + 1
  | .iface _ d => uptoBulk d + 1
  | .map entries => uptoBulkEntries entries + 1
  | .held _ => 1
def uptoBulkAll {H : Type} : List (DataW H) → Nat
  | [] => 0
  | d :: r => uptoBulk d + uptoBulkAll r
def uptoBulkEntries {H : Type} : List (Lit × DataW H) → Nat
  | [] => 0
  | x :: r => uptoBulkEntry x + uptoBulkEntries r
def uptoBulkEntry {H : Type} : Lit × DataW H → Nat
  | (.string bytes, d) => bytes.length + uptoBulk d + 1
  | (_, d) => uptoBulk d + 1
 end
def uptoSmall : (H : Type) → List (DataW H) → Bool := fun _ ds => decide (uptoBulkAll ds ≤ 1048576)
def OpenSpec.upto (s : _root_.Go.ChangeSpec) : _root_.Go.OpenSpec := { _root_.Go.OpenSpec.ofChange s with cond := some uptoSmall }

/-- 'elenchuslaw14.TableauAnswers', WHERE WHAT IT READS IS OF BULK AT MOST 1048576: true; the input reads as it did. -/
def tableauAnswersUptoRow : OpenClaim := { program := "ytjfcocadohgneaagreat", sum := "2432e7e66dd6bbf7e5fdca263bc12b03e26abeae1f9dc76a89ac6b2502f7b7af", func := "elenchus/elenchuslaw14.TableauAnswers", spec := "tableauAnswers", inPlace := ["math/bits.Add64", "math/bits.Sub64"], unfollowed := true, recurses := true, apart := false, narrowed := true }
def TableauAnswersUptoSaid : Prop := tableauAnswersUptoRow.holds Tryz.pinned (OpenSpec.upto tableauAnswersSpec)

/-- 'elenchuslaw14.TableauMeets', WHERE WHAT IT READS IS OF BULK AT MOST 1048576: true; the input reads as it did. -/
def tableauMeetsUptoRow : OpenClaim := { program := "ytjfcocadohgneaagreat", sum := "2432e7e66dd6bbf7e5fdca263bc12b03e26abeae1f9dc76a89ac6b2502f7b7af", func := "elenchus/elenchuslaw14.TableauMeets", spec := "tableauMeets", inPlace := ["math/bits.Add64", "math/bits.Sub64"], unfollowed := true, recurses := true, apart := false, narrowed := true }
def TableauMeetsUptoSaid : Prop := tableauMeetsUptoRow.holds Tryz.pinned (OpenSpec.upto tableauMeetsSpec)

/-- 'elenchuslaw14.TableauSums', WHERE WHAT IT READS IS OF BULK AT MOST 1048576: true; the input reads as it did. -/
def tableauSumsUptoRow : OpenClaim := { program := "ytjfcocadohgneaagreat", sum := "2432e7e66dd6bbf7e5fdca263bc12b03e26abeae1f9dc76a89ac6b2502f7b7af", func := "elenchus/elenchuslaw14.TableauSums", spec := "tableauSums", inPlace := ["math/bits.Add64", "math/bits.Sub64"], unfollowed := true, recurses := true, apart := false, narrowed := true }
def TableauSumsUptoSaid : Prop := tableauSumsUptoRow.holds Tryz.pinned (OpenSpec.upto tableauSumsSpec)

/-- 'elenchuslaw14.TableauStays', WHERE WHAT IT READS IS OF BULK AT MOST 1048576: true; the input reads as it did. -/
def tableauStaysUptoRow : OpenClaim := { program := "ytjfcocadohgneaagreat", sum := "2432e7e66dd6bbf7e5fdca263bc12b03e26abeae1f9dc76a89ac6b2502f7b7af", func := "elenchus/elenchuslaw14.TableauStays", spec := "tableauStays", inPlace := ["math/bits.Add64", "math/bits.Sub64"], unfollowed := true, recurses := true, apart := false, narrowed := true }
def TableauStaysUptoSaid : Prop := tableauStaysUptoRow.holds Tryz.pinned (OpenSpec.upto tableauStaysSpec)

/-- 'elenchuslaw06.LinearSums', WHERE WHAT IT READS IS OF BULK AT MOST 1048576: true; the input reads as it did. -/
def linearSumsUptoRow : OpenClaim := { program := "ytjfcocadohgneaagreat", sum := "2432e7e66dd6bbf7e5fdca263bc12b03e26abeae1f9dc76a89ac6b2502f7b7af", func := "elenchus/elenchuslaw06.LinearSums", spec := "linearSums", inPlace := ["math/bits.Add64", "math/bits.Sub64"], unfollowed := true, recurses := true, apart := false, narrowed := true }
def LinearSumsUptoSaid : Prop := linearSumsUptoRow.holds Tryz.pinned (OpenSpec.upto linearSumsSpec)

/-- 'elenchuslaw06.LinearTight', WHERE WHAT IT READS IS OF BULK AT MOST 1048576: true; the input reads as it did. -/
def linearTightUptoRow : OpenClaim := { program := "ytjfcocadohgneaagreat", sum := "2432e7e66dd6bbf7e5fdca263bc12b03e26abeae1f9dc76a89ac6b2502f7b7af", func := "elenchus/elenchuslaw06.LinearTight", spec := "linearTight", inPlace := ["math/bits.Add64", "math/bits.Sub64"], unfollowed := true, recurses := true, apart := false, narrowed := true }
def LinearTightUptoSaid : Prop := linearTightUptoRow.holds Tryz.pinned (OpenSpec.upto linearTightSpec)

end Rows
end Go.Proofs.YtjfcocadohgneaaGreat
