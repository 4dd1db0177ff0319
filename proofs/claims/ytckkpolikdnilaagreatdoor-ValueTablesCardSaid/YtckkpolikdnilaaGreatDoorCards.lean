/-
  DERIVED. GIVEN WITH THE SEED: THE CARDS: each row of YtckkpolikdnilaaGreatDoorRows.lean that lists a variable, with what it lists TIED to the program's text (the seventh form; the later family's looks); each row that meets fmt, with fmt's text TOLD by the authors' own Lean function (tested against real Go, not proved from fmt's source: count such statements apart). THE CARD IS WHAT COUNTS. Prove the row's statement (the work); the ties are given (YtckkpolikdnilaaGreatDoorTie.lean); close each card by the builder's one call (the guide's Derived/Test/ToyasCard.lean, 'card_holds'). Laid BY PROGRAM, IN A SANDBOX (cutbox-door.mjs). By AI agents, Wed Nov 11 2026. No macro, syntax, notation, axiom, sorry.
-/
import Derived.Test.YtckkpolikdnilaaGreatDoorRows
import GoSem.ClaimSeven
namespace Go.Proofs.YtckkpolikdnilaaGreatDoor
namespace Rows

/-- THE TIED CARD OF 'elenchuslaw05.ValueEvals'. -/
def valueEvalsCard : Claim7 := { stood := { row := valueEvalsRow, standIns := [], harness := (true, "411452e43aeebf1f72099c849757fb72924075bf8c6ed739ae3885535a26932e"), looks := false }, kinds := [], alts := [], laidByText := true, laidKinds := [.data, .data, .data], laidTests := true, laidLooks := .later }
def ValueEvalsCardSaid : Prop := Claim7.holds Tryz.pinned (.plain (OpenSpec.ofChange valueEvalsSpec)) valueEvalsCard

/-- THE TIED CARD OF 'elenchuslaw05.ValueTells'. -/
def valueTellsCard : Claim7 := { stood := { row := valueTellsRow, standIns := [], harness := (true, "411452e43aeebf1f72099c849757fb72924075bf8c6ed739ae3885535a26932e"), looks := false }, kinds := [], alts := [], laidByText := true, laidKinds := [.data, .data, .data], laidTests := true, laidLooks := .later }
def ValueTellsCardSaid : Prop := Claim7.holds Tryz.pinned (.plain (OpenSpec.ofChange valueTellsSpec)) valueTellsCard

/-- THE TIED CARD OF 'elenchuslaw05.ValueHolds'. -/
def valueHoldsCard : Claim7 := { stood := { row := valueHoldsRow, standIns := [], harness := (true, "411452e43aeebf1f72099c849757fb72924075bf8c6ed739ae3885535a26932e"), looks := false }, kinds := [], alts := [], laidByText := true, laidKinds := [.data, .data, .data], laidTests := true, laidLooks := .later }
def ValueHoldsCardSaid : Prop := Claim7.holds Tryz.pinned (.plain (OpenSpec.ofChange valueHoldsSpec)) valueHoldsCard

/-- THE TIED CARD OF 'elenchuslaw05.ValueTables'. -/
def valueTablesCard : Claim7 := { stood := { row := valueTablesRow, standIns := [], harness := (true, "411452e43aeebf1f72099c849757fb72924075bf8c6ed739ae3885535a26932e"), looks := false }, kinds := [], alts := [], laidByText := true, laidKinds := [.data, .data, .data], laidTests := true, laidLooks := .later }
def ValueTablesCardSaid : Prop := Claim7.holds Tryz.pinned (.plain (OpenSpec.ofChange valueTablesSpec)) valueTablesCard

/-- THE TIED CARD OF 'elenchuslaw05.ValueOpposes'. -/
def valueOpposesCard : Claim7 := { stood := { row := valueOpposesRow, standIns := [], harness := (true, "411452e43aeebf1f72099c849757fb72924075bf8c6ed739ae3885535a26932e"), looks := false }, kinds := [], alts := [], laidByText := true, laidKinds := [.data, .data, .data], laidTests := true, laidLooks := .later }
def ValueOpposesCardSaid : Prop := Claim7.holds Tryz.pinned (.plain (OpenSpec.ofChange valueOpposesSpec)) valueOpposesCard

/-- THE SECOND FORM's CARD OF 'elenchuslaw05.ValueEvals'. -/
def valueEvalsUptoCard : Claim7 := { stood := { row := valueEvalsUptoRow, standIns := [], harness := (true, "411452e43aeebf1f72099c849757fb72924075bf8c6ed739ae3885535a26932e"), looks := false }, kinds := [], alts := [], laidByText := true, laidKinds := [.data, .data, .data], laidTests := true, laidLooks := .later }
def ValueEvalsUptoCardSaid : Prop := Claim7.holds Tryz.pinned (.plain (OpenSpec.upto valueEvalsSpec)) valueEvalsUptoCard

/-- THE SECOND FORM's CARD OF 'elenchuslaw05.ValueTells'. -/
def valueTellsUptoCard : Claim7 := { stood := { row := valueTellsUptoRow, standIns := [], harness := (true, "411452e43aeebf1f72099c849757fb72924075bf8c6ed739ae3885535a26932e"), looks := false }, kinds := [], alts := [], laidByText := true, laidKinds := [.data, .data, .data], laidTests := true, laidLooks := .later }
def ValueTellsUptoCardSaid : Prop := Claim7.holds Tryz.pinned (.plain (OpenSpec.upto valueTellsSpec)) valueTellsUptoCard

/-- THE SECOND FORM's CARD OF 'elenchuslaw05.ValueHolds'. -/
def valueHoldsUptoCard : Claim7 := { stood := { row := valueHoldsUptoRow, standIns := [], harness := (true, "411452e43aeebf1f72099c849757fb72924075bf8c6ed739ae3885535a26932e"), looks := false }, kinds := [], alts := [], laidByText := true, laidKinds := [.data, .data, .data], laidTests := true, laidLooks := .later }
def ValueHoldsUptoCardSaid : Prop := Claim7.holds Tryz.pinned (.plain (OpenSpec.upto valueHoldsSpec)) valueHoldsUptoCard

/-- THE SECOND FORM's CARD OF 'elenchuslaw05.ValueTables'. -/
def valueTablesUptoCard : Claim7 := { stood := { row := valueTablesUptoRow, standIns := [], harness := (true, "411452e43aeebf1f72099c849757fb72924075bf8c6ed739ae3885535a26932e"), looks := false }, kinds := [], alts := [], laidByText := true, laidKinds := [.data, .data, .data], laidTests := true, laidLooks := .later }
def ValueTablesUptoCardSaid : Prop := Claim7.holds Tryz.pinned (.plain (OpenSpec.upto valueTablesSpec)) valueTablesUptoCard

/-- THE SECOND FORM's CARD OF 'elenchuslaw05.ValueOpposes'. -/
def valueOpposesUptoCard : Claim7 := { stood := { row := valueOpposesUptoRow, standIns := [], harness := (true, "411452e43aeebf1f72099c849757fb72924075bf8c6ed739ae3885535a26932e"), looks := false }, kinds := [], alts := [], laidByText := true, laidKinds := [.data, .data, .data], laidTests := true, laidLooks := .later }
def ValueOpposesUptoCardSaid : Prop := Claim7.holds Tryz.pinned (.plain (OpenSpec.upto valueOpposesSpec)) valueOpposesUptoCard
end Rows
end Go.Proofs.YtckkpolikdnilaaGreatDoor
