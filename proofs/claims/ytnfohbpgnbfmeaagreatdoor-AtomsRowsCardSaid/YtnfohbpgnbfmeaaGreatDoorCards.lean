/-
  DERIVED. GIVEN WITH THE SEED: THE CARDS: each row of YtnfohbpgnbfmeaaGreatDoorRows.lean that lists a variable, with what it lists TIED to the program's text (the seventh form; the later family's looks); each row that meets fmt, with fmt's text TOLD by the authors' own Lean function (tested against real Go, not proved from fmt's source: count such statements apart). THE CARD IS WHAT COUNTS. Prove the row's statement (the work); the ties are given (YtnfohbpgnbfmeaaGreatDoorTie.lean); close each card by the builder's one call (the guide's Derived/Test/ToyasCard.lean, 'card_holds'). Laid BY PROGRAM, IN A SANDBOX (cutbox-door.mjs). By AI agents, Wed Nov 11 2026. No macro, syntax, notation, axiom, sorry.
-/
import Derived.Test.YtnfohbpgnbfmeaaGreatDoorRows
import GoSem.ClaimSeven
namespace Go.Proofs.YtnfohbpgnbfmeaaGreatDoor
namespace Rows

/-- THE TIED CARD OF 'elenchuslaw10.AtomsAsks'. -/
def atomsAsksCard : Claim7 := { stood := { row := atomsAsksRow, standIns := [], harness := (true, "8d2bdd410b4e52b4433013a5859aa1d41164188ebafa64dacf1b7226f6d383ec"), looks := false }, kinds := [], alts := [], laidByText := true, laidKinds := [.data, .data, .data], laidTests := true, laidLooks := .later }
def AtomsAsksCardSaid : Prop := Claim7.holds Tryz.pinned (.plain (OpenSpec.ofChange atomsAsksSpec)) atomsAsksCard

/-- THE TIED CARD OF 'elenchuslaw10.AtomsMeans'. -/
def atomsMeansCard : Claim7 := { stood := { row := atomsMeansRow, standIns := [], harness := (true, "8d2bdd410b4e52b4433013a5859aa1d41164188ebafa64dacf1b7226f6d383ec"), looks := false }, kinds := [], alts := [], laidByText := true, laidKinds := [.data, .data, .data], laidTests := true, laidLooks := .later }
def AtomsMeansCardSaid : Prop := Claim7.holds Tryz.pinned (.plain (OpenSpec.ofChange atomsMeansSpec)) atomsMeansCard

/-- THE TIED CARD OF 'elenchuslaw10.AtomsOpposes'. -/
def atomsOpposesCard : Claim7 := { stood := { row := atomsOpposesRow, standIns := [], harness := (true, "8d2bdd410b4e52b4433013a5859aa1d41164188ebafa64dacf1b7226f6d383ec"), looks := false }, kinds := [], alts := [], laidByText := true, laidKinds := [.data, .data, .data], laidTests := true, laidLooks := .later }
def AtomsOpposesCardSaid : Prop := Claim7.holds Tryz.pinned (.plain (OpenSpec.ofChange atomsOpposesSpec)) atomsOpposesCard

/-- THE TIED CARD OF 'elenchuslaw10.AtomsTimes'. -/
def atomsTimesCard : Claim7 := { stood := { row := atomsTimesRow, standIns := [], harness := (true, "8d2bdd410b4e52b4433013a5859aa1d41164188ebafa64dacf1b7226f6d383ec"), looks := false }, kinds := [], alts := [], laidByText := true, laidKinds := [.data, .data, .data], laidTests := true, laidLooks := .later }
def AtomsTimesCardSaid : Prop := Claim7.holds Tryz.pinned (.plain (OpenSpec.ofChange atomsTimesSpec)) atomsTimesCard

/-- THE TIED CARD OF 'elenchuslaw10.AtomsNil'. -/
def atomsNilCard : Claim7 := { stood := { row := atomsNilRow, standIns := [], harness := (true, "8d2bdd410b4e52b4433013a5859aa1d41164188ebafa64dacf1b7226f6d383ec"), looks := false }, kinds := [], alts := [], laidByText := true, laidKinds := [.data, .data, .data], laidTests := true, laidLooks := .later }
def AtomsNilCardSaid : Prop := Claim7.holds Tryz.pinned (.plain (OpenSpec.ofChange atomsNilSpec)) atomsNilCard

/-- THE TIED CARD OF 'elenchuslaw10.AtomsRows'. -/
def atomsRowsCard : Claim7 := { stood := { row := atomsRowsRow, standIns := [], harness := (true, "8d2bdd410b4e52b4433013a5859aa1d41164188ebafa64dacf1b7226f6d383ec"), looks := false }, kinds := [], alts := [], laidByText := true, laidKinds := [.data, .data, .data], laidTests := true, laidLooks := .later }
def AtomsRowsCardSaid : Prop := Claim7.holds Tryz.pinned (.plain (OpenSpec.ofChange atomsRowsSpec)) atomsRowsCard

/-- THE SECOND FORM's CARD OF 'elenchuslaw10.AtomsAsks'. -/
def atomsAsksUptoCard : Claim7 := { stood := { row := atomsAsksUptoRow, standIns := [], harness := (true, "8d2bdd410b4e52b4433013a5859aa1d41164188ebafa64dacf1b7226f6d383ec"), looks := false }, kinds := [], alts := [], laidByText := true, laidKinds := [.data, .data, .data], laidTests := true, laidLooks := .later }
def AtomsAsksUptoCardSaid : Prop := Claim7.holds Tryz.pinned (.plain (OpenSpec.upto atomsAsksSpec)) atomsAsksUptoCard

/-- THE SECOND FORM's CARD OF 'elenchuslaw10.AtomsMeans'. -/
def atomsMeansUptoCard : Claim7 := { stood := { row := atomsMeansUptoRow, standIns := [], harness := (true, "8d2bdd410b4e52b4433013a5859aa1d41164188ebafa64dacf1b7226f6d383ec"), looks := false }, kinds := [], alts := [], laidByText := true, laidKinds := [.data, .data, .data], laidTests := true, laidLooks := .later }
def AtomsMeansUptoCardSaid : Prop := Claim7.holds Tryz.pinned (.plain (OpenSpec.upto atomsMeansSpec)) atomsMeansUptoCard

/-- THE SECOND FORM's CARD OF 'elenchuslaw10.AtomsOpposes'. -/
def atomsOpposesUptoCard : Claim7 := { stood := { row := atomsOpposesUptoRow, standIns := [], harness := (true, "8d2bdd410b4e52b4433013a5859aa1d41164188ebafa64dacf1b7226f6d383ec"), looks := false }, kinds := [], alts := [], laidByText := true, laidKinds := [.data, .data, .data], laidTests := true, laidLooks := .later }
def AtomsOpposesUptoCardSaid : Prop := Claim7.holds Tryz.pinned (.plain (OpenSpec.upto atomsOpposesSpec)) atomsOpposesUptoCard

/-- THE SECOND FORM's CARD OF 'elenchuslaw10.AtomsTimes'. -/
def atomsTimesUptoCard : Claim7 := { stood := { row := atomsTimesUptoRow, standIns := [], harness := (true, "8d2bdd410b4e52b4433013a5859aa1d41164188ebafa64dacf1b7226f6d383ec"), looks := false }, kinds := [], alts := [], laidByText := true, laidKinds := [.data, .data, .data], laidTests := true, laidLooks := .later }
def AtomsTimesUptoCardSaid : Prop := Claim7.holds Tryz.pinned (.plain (OpenSpec.upto atomsTimesSpec)) atomsTimesUptoCard

/-- THE SECOND FORM's CARD OF 'elenchuslaw10.AtomsNil'. -/
def atomsNilUptoCard : Claim7 := { stood := { row := atomsNilUptoRow, standIns := [], harness := (true, "8d2bdd410b4e52b4433013a5859aa1d41164188ebafa64dacf1b7226f6d383ec"), looks := false }, kinds := [], alts := [], laidByText := true, laidKinds := [.data, .data, .data], laidTests := true, laidLooks := .later }
def AtomsNilUptoCardSaid : Prop := Claim7.holds Tryz.pinned (.plain (OpenSpec.upto atomsNilSpec)) atomsNilUptoCard

/-- THE SECOND FORM's CARD OF 'elenchuslaw10.AtomsRows'. -/
def atomsRowsUptoCard : Claim7 := { stood := { row := atomsRowsUptoRow, standIns := [], harness := (true, "8d2bdd410b4e52b4433013a5859aa1d41164188ebafa64dacf1b7226f6d383ec"), looks := false }, kinds := [], alts := [], laidByText := true, laidKinds := [.data, .data, .data], laidTests := true, laidLooks := .later }
def AtomsRowsUptoCardSaid : Prop := Claim7.holds Tryz.pinned (.plain (OpenSpec.upto atomsRowsSpec)) atomsRowsUptoCard
end Rows
end Go.Proofs.YtnfohbpgnbfmeaaGreatDoor
