/-
  NARROWER THAN 'FOR EVERY INPUT', by the rows' own cells (each row's printed sentence says how): SexpPrints: loops · SexpBlanks: loops.
  DERIVED. THE GIVEN ROWS OF THIS SEAT. 6 by the template 'for every input the law returns true; each argument reads behind the call as it read before'; 0 by the template 'total and deterministic' (their statements: YtcpkejonpnmljaaTotals.lean).
  GIVEN WITH THE SEED: the statements are not yours to turn. If you find one false, say at which input.
  Laid BY PROGRAM, IN A SANDBOX (cutbox-rows.mjs): the forced cells as the released guide's own fill.sh prints them over the translation 00a83af0252a09ab… (all of the seat's roots in one cut). By AI agents, Wed Nov 11 2026. No macro, syntax, notation, axiom, sorry.
-/
import Derived.Test.YtcpkejonpnmljaaChecked
import GoSem.Claim
import GoSem.ClaimJoined
import GoSem.ClaimMapViews
import Derived.JoinedTies
import Derived.KernelRfl
namespace Go.Proofs.Ytcpkejonpnmljaa
/- THE CELL 'sum', in the pinned program and in every row, IS THE sha256 OF THE DUMP (.gsa) THAT YtcpkejonpnmljaaProg.lean LOADS. Nothing in Lean hashes anything: it is a label: what it is worth is what the hold of that sum in a sandbox is worth. -/
noncomputable def Try.pinned : Pinned := { name := "ytcpkejonpnmljaa", sum := "00a83af0252a09ab221d19435a337d3910921179e32b63b3dd0ae92aa5b9a41c", checked := Try.checked }
namespace Rows
def none {H : Type} : Left H := { results := [], args := [] }

/-- 'elenchuslaw03.SexpLong': WHATEVER THE INPUT: true; the input reads as it did. -/
def sexpLongSpec : ChangeSpec := { name := "sexpLong", fn := fun _ => fun
  | [d1, d2] => { results := [.lit (.bool true)], args := [d1, d2] }
  | _ => none }
def sexpLongRow : OpenClaim := { program := "ytcpkejonpnmljaa", sum := "00a83af0252a09ab221d19435a337d3910921179e32b63b3dd0ae92aa5b9a41c", func := "elenchus/elenchuslaw03.SexpLong", spec := "sexpLong", inPlace := ["internal/bytealg.IndexByteString", "internal/abi.NoEscape"], unfollowed := true, recurses := true, apart := false }
def SexpLongSaid : Prop := sexpLongRow.holds Try.pinned (OpenSpec.ofChange sexpLongSpec)

/-- ITS FALSE NEIGHBOUR: 'it returns false'. Refute it at one input. -/
def sexpLongWrong : ChangeSpec := { name := "sexpLong", fn := fun _ => fun
  | [d1, d2] => { results := [.lit (.bool false)], args := [d1, d2] }
  | _ => none }
def SexpLongWrongFalsely : Prop := sexpLongRow.holds Try.pinned (OpenSpec.ofChange sexpLongWrong)

/-- 'elenchuslaw03.SexpDeep': WHATEVER THE INPUT: true; the input reads as it did. -/
def sexpDeepSpec : ChangeSpec := { name := "sexpDeep", fn := fun _ => fun
  | [d1, d2] => { results := [.lit (.bool true)], args := [d1, d2] }
  | _ => none }
def sexpDeepRow : OpenClaim := { program := "ytcpkejonpnmljaa", sum := "00a83af0252a09ab221d19435a337d3910921179e32b63b3dd0ae92aa5b9a41c", func := "elenchus/elenchuslaw03.SexpDeep", spec := "sexpDeep", inPlace := ["internal/bytealg.IndexByteString", "internal/abi.NoEscape"], unfollowed := true, recurses := true, apart := false }
def SexpDeepSaid : Prop := sexpDeepRow.holds Try.pinned (OpenSpec.ofChange sexpDeepSpec)

/-- ITS FALSE NEIGHBOUR: 'it returns false'. Refute it at one input. -/
def sexpDeepWrong : ChangeSpec := { name := "sexpDeep", fn := fun _ => fun
  | [d1, d2] => { results := [.lit (.bool false)], args := [d1, d2] }
  | _ => none }
def SexpDeepWrongFalsely : Prop := sexpDeepRow.holds Try.pinned (OpenSpec.ofChange sexpDeepWrong)

/-- 'elenchuslaw03.SexpPrints': WHATEVER THE INPUT: true; the input reads as it did. -/
def sexpPrintsSpec : ChangeSpec := { name := "sexpPrints", fn := fun _ => fun
  | [d] => { results := [.lit (.bool true)], args := [d] }
  | _ => none }
def sexpPrintsRow : OpenClaim := { program := "ytcpkejonpnmljaa", sum := "00a83af0252a09ab221d19435a337d3910921179e32b63b3dd0ae92aa5b9a41c", func := "elenchus/elenchuslaw03.SexpPrints", spec := "sexpPrints", inPlace := ["internal/bytealg.IndexByteString", "internal/abi.NoEscape"], unfollowed := true, recurses := true, loops := true, apart := false }
def SexpPrintsSaid : Prop := sexpPrintsRow.holds Try.pinned (OpenSpec.ofChange sexpPrintsSpec)

/-- ITS FALSE NEIGHBOUR: 'it returns false'. Refute it at one input. -/
def sexpPrintsWrong : ChangeSpec := { name := "sexpPrints", fn := fun _ => fun
  | [d] => { results := [.lit (.bool false)], args := [d] }
  | _ => none }
def SexpPrintsWrongFalsely : Prop := sexpPrintsRow.holds Try.pinned (OpenSpec.ofChange sexpPrintsWrong)

/-- 'elenchuslaw03.SexpAgain': WHATEVER THE INPUT: true; the input reads as it did. -/
def sexpAgainSpec : ChangeSpec := { name := "sexpAgain", fn := fun _ => fun
  | [d] => { results := [.lit (.bool true)], args := [d] }
  | _ => none }
def sexpAgainRow : OpenClaim := { program := "ytcpkejonpnmljaa", sum := "00a83af0252a09ab221d19435a337d3910921179e32b63b3dd0ae92aa5b9a41c", func := "elenchus/elenchuslaw03.SexpAgain", spec := "sexpAgain", inPlace := ["internal/bytealg.IndexByteString", "internal/abi.NoEscape"], unfollowed := true, recurses := true, apart := false }
def SexpAgainSaid : Prop := sexpAgainRow.holds Try.pinned (OpenSpec.ofChange sexpAgainSpec)

/-- ITS FALSE NEIGHBOUR: 'it returns false'. Refute it at one input. -/
def sexpAgainWrong : ChangeSpec := { name := "sexpAgain", fn := fun _ => fun
  | [d] => { results := [.lit (.bool false)], args := [d] }
  | _ => none }
def SexpAgainWrongFalsely : Prop := sexpAgainRow.holds Try.pinned (OpenSpec.ofChange sexpAgainWrong)

/-- 'elenchuslaw03.SexpJoins': WHATEVER THE INPUT: true; the input reads as it did. -/
def sexpJoinsSpec : ChangeSpec := { name := "sexpJoins", fn := fun _ => fun
  | [d1, d2] => { results := [.lit (.bool true)], args := [d1, d2] }
  | _ => none }
def sexpJoinsRow : OpenClaim := { program := "ytcpkejonpnmljaa", sum := "00a83af0252a09ab221d19435a337d3910921179e32b63b3dd0ae92aa5b9a41c", func := "elenchus/elenchuslaw03.SexpJoins", spec := "sexpJoins", inPlace := ["internal/bytealg.IndexByteString", "internal/abi.NoEscape"], unfollowed := true, recurses := true, apart := false }
def SexpJoinsSaid : Prop := sexpJoinsRow.holds Try.pinned (OpenSpec.ofChange sexpJoinsSpec)

/-- ITS FALSE NEIGHBOUR: 'it returns false'. Refute it at one input. -/
def sexpJoinsWrong : ChangeSpec := { name := "sexpJoins", fn := fun _ => fun
  | [d1, d2] => { results := [.lit (.bool false)], args := [d1, d2] }
  | _ => none }
def SexpJoinsWrongFalsely : Prop := sexpJoinsRow.holds Try.pinned (OpenSpec.ofChange sexpJoinsWrong)

/-- 'elenchuslaw03.SexpBlanks': WHATEVER THE INPUT: true; the input reads as it did. -/
def sexpBlanksSpec : ChangeSpec := { name := "sexpBlanks", fn := fun _ => fun
  | [d1, d2] => { results := [.lit (.bool true)], args := [d1, d2] }
  | _ => none }
def sexpBlanksRow : OpenClaim := { program := "ytcpkejonpnmljaa", sum := "00a83af0252a09ab221d19435a337d3910921179e32b63b3dd0ae92aa5b9a41c", func := "elenchus/elenchuslaw03.SexpBlanks", spec := "sexpBlanks", inPlace := ["internal/bytealg.IndexByteString", "internal/abi.NoEscape"], unfollowed := true, recurses := true, loops := true, apart := false }
def SexpBlanksSaid : Prop := sexpBlanksRow.holds Try.pinned (OpenSpec.ofChange sexpBlanksSpec)

/-- ITS FALSE NEIGHBOUR: 'it returns false'. Refute it at one input. -/
def sexpBlanksWrong : ChangeSpec := { name := "sexpBlanks", fn := fun _ => fun
  | [d1, d2] => { results := [.lit (.bool false)], args := [d1, d2] }
  | _ => none }
def SexpBlanksWrongFalsely : Prop := sexpBlanksRow.holds Try.pinned (OpenSpec.ofChange sexpBlanksWrong)

/- THE SECOND FORM. 'bulk': how many values and letters a reading holds, each counted each time it is reached (what is shared counts as often as it is met; a slice's spare places count too). A statement '..UptoSaid' is the law's where the arguments, and the package variables that the reading takes, are together of bulk at most 1048576: NARROWER than '..Said'. Prove '..Said' where nothing that the law and all that it calls make is longer than what came in: it says more and counts as full. Else prove '..UptoSaid'. A law counts once. -/
mutual
def uptoBulk {H : Type} : DataW H → Nat
  | .lit (.string bytes) => bytes.length + 1
  | .lit _ => 1
  | .nil => 1
  | .ptr d => uptoBulk d + 1
  | .slice elems spare => uptoBulkAll elems + uptoBulkAll spare + 1
  | .agg parts => uptoBulkAll parts + 1
  | .iface _ d => uptoBulk d + 1
  | .map entries => uptoBulkEntries entries + 1
  | .held _ => 1
def uptoBulkAll {H : Type} : List (DataW H) → Nat
  | [] => 0
  | d :: r => uptoBulk d + uptoBulkAll r
def uptoBulkEntries {H : Type} : List (Lit × DataW H) → Nat
  | [] => 0
  | x :: r => uptoBulkEntry x + uptoBulkEntries r
def uptoBulkEntry {H : Type} : Lit × DataW H → Nat
  | (.string bytes, d) => bytes.length + uptoBulk d + 1
  | (_, d) => uptoBulk d + 1
 end
def uptoSmall : (H : Type) → List (DataW H) → Bool := fun _ ds => decide (uptoBulkAll ds ≤ 1048576)
def OpenSpec.upto (s : _root_.Go.ChangeSpec) : _root_.Go.OpenSpec := { _root_.Go.OpenSpec.ofChange s with cond := some uptoSmall }

/-- 'elenchuslaw03.SexpLong', WHERE WHAT IT READS IS OF BULK AT MOST 1048576: true; the input reads as it did. -/
def sexpLongUptoRow : OpenClaim := { program := "ytcpkejonpnmljaa", sum := "00a83af0252a09ab221d19435a337d3910921179e32b63b3dd0ae92aa5b9a41c", func := "elenchus/elenchuslaw03.SexpLong", spec := "sexpLong", inPlace := ["internal/bytealg.IndexByteString", "internal/abi.NoEscape"], unfollowed := true, recurses := true, apart := false, narrowed := true }
def SexpLongUptoSaid : Prop := sexpLongUptoRow.holds Try.pinned (OpenSpec.upto sexpLongSpec)

/-- 'elenchuslaw03.SexpDeep', WHERE WHAT IT READS IS OF BULK AT MOST 1048576: true; the input reads as it did. -/
def sexpDeepUptoRow : OpenClaim := { program := "ytcpkejonpnmljaa", sum := "00a83af0252a09ab221d19435a337d3910921179e32b63b3dd0ae92aa5b9a41c", func := "elenchus/elenchuslaw03.SexpDeep", spec := "sexpDeep", inPlace := ["internal/bytealg.IndexByteString", "internal/abi.NoEscape"], unfollowed := true, recurses := true, apart := false, narrowed := true }
def SexpDeepUptoSaid : Prop := sexpDeepUptoRow.holds Try.pinned (OpenSpec.upto sexpDeepSpec)

/-- 'elenchuslaw03.SexpPrints', WHERE WHAT IT READS IS OF BULK AT MOST 1048576: true; the input reads as it did. -/
def sexpPrintsUptoRow : OpenClaim := { program := "ytcpkejonpnmljaa", sum := "00a83af0252a09ab221d19435a337d3910921179e32b63b3dd0ae92aa5b9a41c", func := "elenchus/elenchuslaw03.SexpPrints", spec := "sexpPrints", inPlace := ["internal/bytealg.IndexByteString", "internal/abi.NoEscape"], unfollowed := true, recurses := true, loops := true, apart := false, narrowed := true }
def SexpPrintsUptoSaid : Prop := sexpPrintsUptoRow.holds Try.pinned (OpenSpec.upto sexpPrintsSpec)

/-- 'elenchuslaw03.SexpAgain', WHERE WHAT IT READS IS OF BULK AT MOST 1048576: true; the input reads as it did. -/
def sexpAgainUptoRow : OpenClaim := { program := "ytcpkejonpnmljaa", sum := "00a83af0252a09ab221d19435a337d3910921179e32b63b3dd0ae92aa5b9a41c", func := "elenchus/elenchuslaw03.SexpAgain", spec := "sexpAgain", inPlace := ["internal/bytealg.IndexByteString", "internal/abi.NoEscape"], unfollowed := true, recurses := true, apart := false, narrowed := true }
def SexpAgainUptoSaid : Prop := sexpAgainUptoRow.holds Try.pinned (OpenSpec.upto sexpAgainSpec)

/-- 'elenchuslaw03.SexpJoins', WHERE WHAT IT READS IS OF BULK AT MOST 1048576: true; the input reads as it did. -/
def sexpJoinsUptoRow : OpenClaim := { program := "ytcpkejonpnmljaa", sum := "00a83af0252a09ab221d19435a337d3910921179e32b63b3dd0ae92aa5b9a41c", func := "elenchus/elenchuslaw03.SexpJoins", spec := "sexpJoins", inPlace := ["internal/bytealg.IndexByteString", "internal/abi.NoEscape"], unfollowed := true, recurses := true, apart := false, narrowed := true }
def SexpJoinsUptoSaid : Prop := sexpJoinsUptoRow.holds Try.pinned (OpenSpec.upto sexpJoinsSpec)

/-- 'elenchuslaw03.SexpBlanks', WHERE WHAT IT READS IS OF BULK AT MOST 1048576: true; the input reads as it did. -/
def sexpBlanksUptoRow : OpenClaim := { program := "ytcpkejonpnmljaa", sum := "00a83af0252a09ab221d19435a337d3910921179e32b63b3dd0ae92aa5b9a41c", func := "elenchus/elenchuslaw03.SexpBlanks", spec := "sexpBlanks", inPlace := ["internal/bytealg.IndexByteString", "internal/abi.NoEscape"], unfollowed := true, recurses := true, loops := true, apart := false, narrowed := true }
def SexpBlanksUptoSaid : Prop := sexpBlanksUptoRow.holds Try.pinned (OpenSpec.upto sexpBlanksSpec)

end Rows
end Go.Proofs.Ytcpkejonpnmljaa
