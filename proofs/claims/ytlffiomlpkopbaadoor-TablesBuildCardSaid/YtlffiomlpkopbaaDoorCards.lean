/-
  DERIVED. GIVEN WITH THE SEED: THE CARDS: each row of YtlffiomlpkopbaaDoorRows.lean that lists a variable, with what it lists TIED to the program's text (the seventh form; the later family's looks); each row that meets fmt, with fmt's text TOLD by the authors' own Lean function (tested against real Go, not proved from fmt's source: count such statements apart). THE CARD IS WHAT COUNTS. Prove the row's statement (the work); the ties are given (YtlffiomlpkopbaaDoorTie.lean); close each card by the builder's one call (the guide's Derived/Test/ToyasCard.lean, 'card_holds'). Laid BY PROGRAM, IN A SANDBOX (cutbox-door.mjs). By AI agents, Wed Nov 11 2026. No macro, syntax, notation, axiom, sorry.
-/
import Derived.Test.YtlffiomlpkopbaaDoorRows
import GoSem.ClaimSeven
namespace Go.Proofs.YtlffiomlpkopbaaDoor
namespace Rows

/-- THE TIED CARD OF 'elenchuslaw16.TablesClash'. -/
def tablesClashCard : Claim7 := { stood := { row := tablesClashRow, standIns := [], harness := (true, "a2808bae500c9de3fc7b369bececc029345d79dc01f92348fbdd4de8d16cb266"), looks := false }, kinds := [], alts := [], laidByText := true, laidKinds := [.data, .data, .data], laidTests := true, laidLooks := .later }
def TablesClashCardSaid : Prop := Claim7.holds Tryd.pinned (.plain (OpenSpec.ofChange tablesClashSpec)) tablesClashCard

/-- THE TIED CARD OF 'elenchuslaw16.TablesBuild'. -/
def tablesBuildCard : Claim7 := { stood := { row := tablesBuildRow, standIns := [], harness := (true, "a2808bae500c9de3fc7b369bececc029345d79dc01f92348fbdd4de8d16cb266"), looks := false }, kinds := [], alts := [], laidByText := true, laidKinds := [.data, .data, .data], laidTests := true, laidLooks := .later }
def TablesBuildCardSaid : Prop := Claim7.holds Tryd.pinned (.plain (OpenSpec.ofChange tablesBuildSpec)) tablesBuildCard

/-- THE TIED CARD OF 'elenchuslaw16.TablesTell'. -/
def tablesTellCard : Claim7 := { stood := { row := tablesTellRow, standIns := [], harness := (true, "a2808bae500c9de3fc7b369bececc029345d79dc01f92348fbdd4de8d16cb266"), looks := false }, kinds := [], alts := [], laidByText := true, laidKinds := [.data, .data, .data], laidTests := true, laidLooks := .later }
def TablesTellCardSaid : Prop := Claim7.holds Tryd.pinned (.plain (OpenSpec.ofChange tablesTellSpec)) tablesTellCard

/-- THE TIED CARD OF 'elenchuslaw16.TablesTwice'. -/
def tablesTwiceCard : Claim7 := { stood := { row := tablesTwiceRow, standIns := [], harness := (true, "a2808bae500c9de3fc7b369bececc029345d79dc01f92348fbdd4de8d16cb266"), looks := false }, kinds := [], alts := [], laidByText := true, laidKinds := [.data, .data, .data], laidTests := true, laidLooks := .later }
def TablesTwiceCardSaid : Prop := Claim7.holds Tryd.pinned (.plain (OpenSpec.ofChange tablesTwiceSpec)) tablesTwiceCard

/-- THE TIED CARD OF 'elenchuslaw16.TablesApart'. -/
def tablesApartCard : Claim7 := { stood := { row := tablesApartRow, standIns := [], harness := (true, "a2808bae500c9de3fc7b369bececc029345d79dc01f92348fbdd4de8d16cb266"), looks := false }, kinds := [], alts := [], laidByText := true, laidKinds := [.data, .data, .data], laidTests := true, laidLooks := .later }
def TablesApartCardSaid : Prop := Claim7.holds Tryd.pinned (.plain (OpenSpec.ofChange tablesApartSpec)) tablesApartCard

/-- THE SECOND FORM's CARD OF 'elenchuslaw16.TablesClash'. -/
def tablesClashUptoCard : Claim7 := { stood := { row := tablesClashUptoRow, standIns := [], harness := (true, "a2808bae500c9de3fc7b369bececc029345d79dc01f92348fbdd4de8d16cb266"), looks := false }, kinds := [], alts := [], laidByText := true, laidKinds := [.data, .data, .data], laidTests := true, laidLooks := .later }
def TablesClashUptoCardSaid : Prop := Claim7.holds Tryd.pinned (.plain (OpenSpec.upto tablesClashSpec)) tablesClashUptoCard

/-- THE SECOND FORM's CARD OF 'elenchuslaw16.TablesBuild'. -/
def tablesBuildUptoCard : Claim7 := { stood := { row := tablesBuildUptoRow, standIns := [], harness := (true, "a2808bae500c9de3fc7b369bececc029345d79dc01f92348fbdd4de8d16cb266"), looks := false }, kinds := [], alts := [], laidByText := true, laidKinds := [.data, .data, .data], laidTests := true, laidLooks := .later }
def TablesBuildUptoCardSaid : Prop := Claim7.holds Tryd.pinned (.plain (OpenSpec.upto tablesBuildSpec)) tablesBuildUptoCard

/-- THE SECOND FORM's CARD OF 'elenchuslaw16.TablesTell'. -/
def tablesTellUptoCard : Claim7 := { stood := { row := tablesTellUptoRow, standIns := [], harness := (true, "a2808bae500c9de3fc7b369bececc029345d79dc01f92348fbdd4de8d16cb266"), looks := false }, kinds := [], alts := [], laidByText := true, laidKinds := [.data, .data, .data], laidTests := true, laidLooks := .later }
def TablesTellUptoCardSaid : Prop := Claim7.holds Tryd.pinned (.plain (OpenSpec.upto tablesTellSpec)) tablesTellUptoCard

/-- THE SECOND FORM's CARD OF 'elenchuslaw16.TablesTwice'. -/
def tablesTwiceUptoCard : Claim7 := { stood := { row := tablesTwiceUptoRow, standIns := [], harness := (true, "a2808bae500c9de3fc7b369bececc029345d79dc01f92348fbdd4de8d16cb266"), looks := false }, kinds := [], alts := [], laidByText := true, laidKinds := [.data, .data, .data], laidTests := true, laidLooks := .later }
def TablesTwiceUptoCardSaid : Prop := Claim7.holds Tryd.pinned (.plain (OpenSpec.upto tablesTwiceSpec)) tablesTwiceUptoCard

/-- THE SECOND FORM's CARD OF 'elenchuslaw16.TablesApart'. -/
def tablesApartUptoCard : Claim7 := { stood := { row := tablesApartUptoRow, standIns := [], harness := (true, "a2808bae500c9de3fc7b369bececc029345d79dc01f92348fbdd4de8d16cb266"), looks := false }, kinds := [], alts := [], laidByText := true, laidKinds := [.data, .data, .data], laidTests := true, laidLooks := .later }
def TablesApartUptoCardSaid : Prop := Claim7.holds Tryd.pinned (.plain (OpenSpec.upto tablesApartSpec)) tablesApartUptoCard
end Rows
end Go.Proofs.YtlffiomlpkopbaaDoor
