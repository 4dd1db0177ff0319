/-
  No cell of these rows narrows 'for every input' (looked for: loops, veiled, ifaces, maps, wideKeys, modest, calm, conditions, laid).
  DERIVED. THE GIVEN ROWS OF THIS SEAT. 5 by the template 'for every input the law returns true; each argument reads behind the call as it read before'; 0 by the template 'total and deterministic' (their statements: YtmimmckhnomcdaaTotals.lean).
  GIVEN WITH THE SEED: the statements are not yours to turn. If you find one false, say at which input.
  Laid BY PROGRAM, IN A SANDBOX (cutbox-rows.mjs): the forced cells as the released guide's own fill.sh prints them over the translation 3c35530b882b6cfd… (all of the seat's roots in one cut). By AI agents, Wed Nov 11 2026. No macro, syntax, notation, axiom, sorry.
-/
import Derived.Test.YtmimmckhnomcdaaChecked
import GoSem.Claim
import GoSem.ClaimJoined
import GoSem.ClaimMapViews
import Derived.JoinedTies
import Derived.KernelRfl
namespace Go.Proofs.Ytmimmckhnomcdaa
/- THE CELL 'sum', in the pinned program and in every row, IS THE sha256 OF THE DUMP (.gsa) THAT YtmimmckhnomcdaaProg.lean LOADS. Nothing in Lean hashes anything: it is a label: what it is worth is what the hold of that sum in a sandbox is worth. -/
noncomputable def Try.pinned : Pinned := { name := "ytmimmckhnomcdaa", sum := "3c35530b882b6cfd990ee0b303488d0818f1e7af99550c859c6e053c2854d3e3", checked := Try.checked }
namespace Rows
def none {H : Type} : Left H := { results := [], args := [] }

/-- 'elenchuslaw12.RankPlays': WHATEVER THE INPUT: true; the input reads as it did. -/
def rankPlaysSpec : ChangeSpec := { name := "rankPlays", fn := fun _ => fun
  | [d1, d2] => { results := [.lit (.bool true)], args := [d1, d2] }
  | _ => none }
def rankPlaysRow : OpenClaim := { program := "ytmimmckhnomcdaa", sum := "3c35530b882b6cfd990ee0b303488d0818f1e7af99550c859c6e053c2854d3e3", func := "elenchus/elenchuslaw12.RankPlays", spec := "rankPlays", unfollowed := true, recurses := true, apart := false }
def RankPlaysSaid : Prop := rankPlaysRow.holds Try.pinned (OpenSpec.ofChange rankPlaysSpec)

/-- ITS FALSE NEIGHBOUR: 'it returns false'. Refute it at one input. -/
def rankPlaysWrong : ChangeSpec := { name := "rankPlays", fn := fun _ => fun
  | [d1, d2] => { results := [.lit (.bool false)], args := [d1, d2] }
  | _ => none }
def RankPlaysWrongFalsely : Prop := rankPlaysRow.holds Try.pinned (OpenSpec.ofChange rankPlaysWrong)

/-- 'elenchuslaw12.RankFalls': WHATEVER THE INPUT: true; the input reads as it did. -/
def rankFallsSpec : ChangeSpec := { name := "rankFalls", fn := fun _ => fun
  | [d1, d2] => { results := [.lit (.bool true)], args := [d1, d2] }
  | _ => none }
def rankFallsRow : OpenClaim := { program := "ytmimmckhnomcdaa", sum := "3c35530b882b6cfd990ee0b303488d0818f1e7af99550c859c6e053c2854d3e3", func := "elenchus/elenchuslaw12.RankFalls", spec := "rankFalls", unfollowed := true, recurses := true, apart := false }
def RankFallsSaid : Prop := rankFallsRow.holds Try.pinned (OpenSpec.ofChange rankFallsSpec)

/-- ITS FALSE NEIGHBOUR: 'it returns false'. Refute it at one input. -/
def rankFallsWrong : ChangeSpec := { name := "rankFalls", fn := fun _ => fun
  | [d1, d2] => { results := [.lit (.bool false)], args := [d1, d2] }
  | _ => none }
def RankFallsWrongFalsely : Prop := rankFallsRow.holds Try.pinned (OpenSpec.ofChange rankFallsWrong)

/-- 'elenchuslaw12.RankBack': WHATEVER THE INPUT: true; the input reads as it did. -/
def rankBackSpec : ChangeSpec := { name := "rankBack", fn := fun _ => fun
  | [d1, d2] => { results := [.lit (.bool true)], args := [d1, d2] }
  | _ => none }
def rankBackRow : OpenClaim := { program := "ytmimmckhnomcdaa", sum := "3c35530b882b6cfd990ee0b303488d0818f1e7af99550c859c6e053c2854d3e3", func := "elenchus/elenchuslaw12.RankBack", spec := "rankBack", unfollowed := true, recurses := true, apart := false }
def RankBackSaid : Prop := rankBackRow.holds Try.pinned (OpenSpec.ofChange rankBackSpec)

/-- ITS FALSE NEIGHBOUR: 'it returns false'. Refute it at one input. -/
def rankBackWrong : ChangeSpec := { name := "rankBack", fn := fun _ => fun
  | [d1, d2] => { results := [.lit (.bool false)], args := [d1, d2] }
  | _ => none }
def RankBackWrongFalsely : Prop := rankBackRow.holds Try.pinned (OpenSpec.ofChange rankBackWrong)

/-- 'elenchuslaw12.RankGreat': WHATEVER THE INPUT: true; the input reads as it did. -/
def rankGreatSpec : ChangeSpec := { name := "rankGreat", fn := fun _ => fun
  | [d1, d2] => { results := [.lit (.bool true)], args := [d1, d2] }
  | _ => none }
def rankGreatRow : OpenClaim := { program := "ytmimmckhnomcdaa", sum := "3c35530b882b6cfd990ee0b303488d0818f1e7af99550c859c6e053c2854d3e3", func := "elenchus/elenchuslaw12.RankGreat", spec := "rankGreat", unfollowed := true, recurses := true, apart := false }
def RankGreatSaid : Prop := rankGreatRow.holds Try.pinned (OpenSpec.ofChange rankGreatSpec)

/-- ITS FALSE NEIGHBOUR: 'it returns false'. Refute it at one input. -/
def rankGreatWrong : ChangeSpec := { name := "rankGreat", fn := fun _ => fun
  | [d1, d2] => { results := [.lit (.bool false)], args := [d1, d2] }
  | _ => none }
def RankGreatWrongFalsely : Prop := rankGreatRow.holds Try.pinned (OpenSpec.ofChange rankGreatWrong)

/-- 'elenchuslaw12.RankNil': WHATEVER THE INPUT: true; the input reads as it did. -/
def rankNilSpec : ChangeSpec := { name := "rankNil", fn := fun _ => fun
  | [d] => { results := [.lit (.bool true)], args := [d] }
  | _ => none }
def rankNilRow : OpenClaim := { program := "ytmimmckhnomcdaa", sum := "3c35530b882b6cfd990ee0b303488d0818f1e7af99550c859c6e053c2854d3e3", func := "elenchus/elenchuslaw12.RankNil", spec := "rankNil", unfollowed := true, recurses := true, apart := false }
def RankNilSaid : Prop := rankNilRow.holds Try.pinned (OpenSpec.ofChange rankNilSpec)

/-- ITS FALSE NEIGHBOUR: 'it returns false'. Refute it at one input. -/
def rankNilWrong : ChangeSpec := { name := "rankNil", fn := fun _ => fun
  | [d] => { results := [.lit (.bool false)], args := [d] }
  | _ => none }
def RankNilWrongFalsely : Prop := rankNilRow.holds Try.pinned (OpenSpec.ofChange rankNilWrong)

/- THE SECOND FORM. 'bulk': how many values and letters a reading holds, each counted each time it is reached (what is shared counts as often as it is met; a slice's spare places count too). A statement '..UptoSaid' is the law's where the arguments, and the package variables that the reading takes, are together of bulk at most 1048576: NARROWER than '..Said'. Prove '..Said' where nothing that the law and all that it calls make is longer than what came in: it says more and counts as full. Else prove '..UptoSaid'. A law counts once. -/
mutual
def uptoBulk {H : Type} : DataW H → Nat
  | .lit (.string bytes) => bytes.length + 1
  | .lit _ => 1
  | .nil => 1
  | .ptr d => uptoBulk d + 1
  | .slice elems spare => uptoBulkAll elems + uptoBulkAll spare + 1
  | .agg parts => uptoBulkAll parts + 1
  | .iface _ d => uptoBulk d + 1
  | .map entries => uptoBulkEntries entries + 1
  | .held _ => 1
def uptoBulkAll {H : Type} : List (DataW H) → Nat
  | [] => 0
  | d :: r => uptoBulk d + uptoBulkAll r
def uptoBulkEntries {H : Type} : List (Lit × DataW H) → Nat
  | [] => 0
  | x :: r => uptoBulkEntry x + uptoBulkEntries r
def uptoBulkEntry {H : Type} : Lit × DataW H → Nat
  | (.string bytes, d) => bytes.length + uptoBulk d + 1
  | (_, d) => uptoBulk d + 1
 end
def uptoSmall : (H : Type) → List (DataW H) → Bool := fun _ ds => decide (uptoBulkAll ds ≤ 1048576)
def OpenSpec.upto (s : _root_.Go.ChangeSpec) : _root_.Go.OpenSpec := { _root_.Go.OpenSpec.ofChange s with cond := some uptoSmall }

/-- 'elenchuslaw12.RankPlays', WHERE WHAT IT READS IS OF BULK AT MOST 1048576: true; the input reads as it did. -/
def rankPlaysUptoRow : OpenClaim := { program := "ytmimmckhnomcdaa", sum := "3c35530b882b6cfd990ee0b303488d0818f1e7af99550c859c6e053c2854d3e3", func := "elenchus/elenchuslaw12.RankPlays", spec := "rankPlays", unfollowed := true, recurses := true, apart := false, narrowed := true }
def RankPlaysUptoSaid : Prop := rankPlaysUptoRow.holds Try.pinned (OpenSpec.upto rankPlaysSpec)

/-- 'elenchuslaw12.RankFalls', WHERE WHAT IT READS IS OF BULK AT MOST 1048576: true; the input reads as it did. -/
def rankFallsUptoRow : OpenClaim := { program := "ytmimmckhnomcdaa", sum := "3c35530b882b6cfd990ee0b303488d0818f1e7af99550c859c6e053c2854d3e3", func := "elenchus/elenchuslaw12.RankFalls", spec := "rankFalls", unfollowed := true, recurses := true, apart := false, narrowed := true }
def RankFallsUptoSaid : Prop := rankFallsUptoRow.holds Try.pinned (OpenSpec.upto rankFallsSpec)

/-- 'elenchuslaw12.RankBack', WHERE WHAT IT READS IS OF BULK AT MOST 1048576: true; the input reads as it did. -/
def rankBackUptoRow : OpenClaim := { program := "ytmimmckhnomcdaa", sum := "3c35530b882b6cfd990ee0b303488d0818f1e7af99550c859c6e053c2854d3e3", func := "elenchus/elenchuslaw12.RankBack", spec := "rankBack", unfollowed := true, recurses := true, apart := false, narrowed := true }
def RankBackUptoSaid : Prop := rankBackUptoRow.holds Try.pinned (OpenSpec.upto rankBackSpec)

/-- 'elenchuslaw12.RankGreat', WHERE WHAT IT READS IS OF BULK AT MOST 1048576: true; the input reads as it did. -/
def rankGreatUptoRow : OpenClaim := { program := "ytmimmckhnomcdaa", sum := "3c35530b882b6cfd990ee0b303488d0818f1e7af99550c859c6e053c2854d3e3", func := "elenchus/elenchuslaw12.RankGreat", spec := "rankGreat", unfollowed := true, recurses := true, apart := false, narrowed := true }
def RankGreatUptoSaid : Prop := rankGreatUptoRow.holds Try.pinned (OpenSpec.upto rankGreatSpec)

/-- 'elenchuslaw12.RankNil', WHERE WHAT IT READS IS OF BULK AT MOST 1048576: true; the input reads as it did. -/
def rankNilUptoRow : OpenClaim := { program := "ytmimmckhnomcdaa", sum := "3c35530b882b6cfd990ee0b303488d0818f1e7af99550c859c6e053c2854d3e3", func := "elenchus/elenchuslaw12.RankNil", spec := "rankNil", unfollowed := true, recurses := true, apart := false, narrowed := true }
def RankNilUptoSaid : Prop := rankNilUptoRow.holds Try.pinned (OpenSpec.upto rankNilSpec)

end Rows
end Go.Proofs.Ytmimmckhnomcdaa
