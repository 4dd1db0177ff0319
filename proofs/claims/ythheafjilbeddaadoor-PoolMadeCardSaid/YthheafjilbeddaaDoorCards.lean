/-
  DERIVED. GIVEN WITH THE SEED: THE CARDS: each row of YthheafjilbeddaaDoorRows.lean that lists a variable, with what it lists TIED to the program's text (the seventh form; the later family's looks); each row that meets fmt, with fmt's text TOLD by the authors' own Lean function (tested against real Go, not proved from fmt's source: count such statements apart). THE CARD IS WHAT COUNTS. Prove the row's statement (the work); the ties are given (YthheafjilbeddaaDoorTie.lean); close each card by the builder's one call (the guide's Derived/Test/ToyasCard.lean, 'card_holds'). Laid BY PROGRAM, IN A SANDBOX (cutbox-door.mjs). By AI agents, Wed Nov 11 2026. No macro, syntax, notation, axiom, sorry.
-/
import Derived.Test.YthheafjilbeddaaDoorRows
import GoSem.ClaimSeven
namespace Go.Proofs.YthheafjilbeddaaDoor
namespace Rows

/-- THE TIED CARD OF 'elenchuslaw04.PoolMakes'. -/
def poolMakesCard : Claim7 := { stood := { row := poolMakesRow, standIns := [], harness := (true, "7faceee15dfb664cd0490efe379115581fc761a3431f3089733e8d530ee89a1d"), looks := false }, kinds := [], alts := [], laidByText := true, laidKinds := [.data, .data, .data], laidTests := true, laidLooks := .later }
def PoolMakesCardSaid : Prop := Claim7.holds Tryd.pinned (.plain (OpenSpec.ofChange poolMakesSpec)) poolMakesCard

/-- THE TIED CARD OF 'elenchuslaw04.PoolDeclares'. -/
def poolDeclaresCard : Claim7 := { stood := { row := poolDeclaresRow, standIns := [], harness := (true, "7faceee15dfb664cd0490efe379115581fc761a3431f3089733e8d530ee89a1d"), looks := false }, kinds := [], alts := [], laidByText := true, laidKinds := [.data, .data, .data], laidTests := true, laidLooks := .later }
def PoolDeclaresCardSaid : Prop := Claim7.holds Tryd.pinned (.plain (OpenSpec.ofChange poolDeclaresSpec)) poolDeclaresCard

/-- THE TIED CARD OF 'elenchuslaw04.PoolChecks'. -/
def poolChecksCard : Claim7 := { stood := { row := poolChecksRow, standIns := [], harness := (true, "7faceee15dfb664cd0490efe379115581fc761a3431f3089733e8d530ee89a1d"), looks := false }, kinds := [], alts := [], laidByText := true, laidKinds := [.data, .data, .data], laidTests := true, laidLooks := .later }
def PoolChecksCardSaid : Prop := Claim7.holds Tryd.pinned (.plain (OpenSpec.ofChange poolChecksSpec)) poolChecksCard

/-- THE TIED CARD OF 'elenchuslaw04.PoolAgain'. -/
def poolAgainCard : Claim7 := { stood := { row := poolAgainRow, standIns := [], harness := (true, "7faceee15dfb664cd0490efe379115581fc761a3431f3089733e8d530ee89a1d"), looks := false }, kinds := [], alts := [], laidByText := true, laidKinds := [.data, .data, .data], laidTests := true, laidLooks := .later }
def PoolAgainCardSaid : Prop := Claim7.holds Tryd.pinned (.plain (OpenSpec.ofChange poolAgainSpec)) poolAgainCard

/-- THE TIED CARD OF 'elenchuslaw04.PoolMade'. -/
def poolMadeCard : Claim7 := { stood := { row := poolMadeRow, standIns := [], harness := (true, "7faceee15dfb664cd0490efe379115581fc761a3431f3089733e8d530ee89a1d"), looks := false }, kinds := [], alts := [], laidByText := true, laidKinds := [.data, .data, .data], laidTests := true, laidLooks := .later }
def PoolMadeCardSaid : Prop := Claim7.holds Tryd.pinned (.plain (OpenSpec.ofChange poolMadeSpec)) poolMadeCard

/-- THE TIED CARD OF 'elenchuslaw04.PoolNil'. -/
def poolNilCard : Claim7 := { stood := { row := poolNilRow, standIns := [], harness := (true, "7faceee15dfb664cd0490efe379115581fc761a3431f3089733e8d530ee89a1d"), looks := false }, kinds := [], alts := [], laidByText := true, laidKinds := [.data, .data, .data], laidTests := true, laidLooks := .later }
def PoolNilCardSaid : Prop := Claim7.holds Tryd.pinned (.plain (OpenSpec.ofChange poolNilSpec)) poolNilCard

/-- THE SECOND FORM's CARD OF 'elenchuslaw04.PoolMakes'. -/
def poolMakesUptoCard : Claim7 := { stood := { row := poolMakesUptoRow, standIns := [], harness := (true, "7faceee15dfb664cd0490efe379115581fc761a3431f3089733e8d530ee89a1d"), looks := false }, kinds := [], alts := [], laidByText := true, laidKinds := [.data, .data, .data], laidTests := true, laidLooks := .later }
def PoolMakesUptoCardSaid : Prop := Claim7.holds Tryd.pinned (.plain (OpenSpec.upto poolMakesSpec)) poolMakesUptoCard

/-- THE SECOND FORM's CARD OF 'elenchuslaw04.PoolDeclares'. -/
def poolDeclaresUptoCard : Claim7 := { stood := { row := poolDeclaresUptoRow, standIns := [], harness := (true, "7faceee15dfb664cd0490efe379115581fc761a3431f3089733e8d530ee89a1d"), looks := false }, kinds := [], alts := [], laidByText := true, laidKinds := [.data, .data, .data], laidTests := true, laidLooks := .later }
def PoolDeclaresUptoCardSaid : Prop := Claim7.holds Tryd.pinned (.plain (OpenSpec.upto poolDeclaresSpec)) poolDeclaresUptoCard

/-- THE SECOND FORM's CARD OF 'elenchuslaw04.PoolChecks'. -/
def poolChecksUptoCard : Claim7 := { stood := { row := poolChecksUptoRow, standIns := [], harness := (true, "7faceee15dfb664cd0490efe379115581fc761a3431f3089733e8d530ee89a1d"), looks := false }, kinds := [], alts := [], laidByText := true, laidKinds := [.data, .data, .data], laidTests := true, laidLooks := .later }
def PoolChecksUptoCardSaid : Prop := Claim7.holds Tryd.pinned (.plain (OpenSpec.upto poolChecksSpec)) poolChecksUptoCard

/-- THE SECOND FORM's CARD OF 'elenchuslaw04.PoolAgain'. -/
def poolAgainUptoCard : Claim7 := { stood := { row := poolAgainUptoRow, standIns := [], harness := (true, "7faceee15dfb664cd0490efe379115581fc761a3431f3089733e8d530ee89a1d"), looks := false }, kinds := [], alts := [], laidByText := true, laidKinds := [.data, .data, .data], laidTests := true, laidLooks := .later }
def PoolAgainUptoCardSaid : Prop := Claim7.holds Tryd.pinned (.plain (OpenSpec.upto poolAgainSpec)) poolAgainUptoCard

/-- THE SECOND FORM's CARD OF 'elenchuslaw04.PoolMade'. -/
def poolMadeUptoCard : Claim7 := { stood := { row := poolMadeUptoRow, standIns := [], harness := (true, "7faceee15dfb664cd0490efe379115581fc761a3431f3089733e8d530ee89a1d"), looks := false }, kinds := [], alts := [], laidByText := true, laidKinds := [.data, .data, .data], laidTests := true, laidLooks := .later }
def PoolMadeUptoCardSaid : Prop := Claim7.holds Tryd.pinned (.plain (OpenSpec.upto poolMadeSpec)) poolMadeUptoCard

/-- THE SECOND FORM's CARD OF 'elenchuslaw04.PoolNil'. -/
def poolNilUptoCard : Claim7 := { stood := { row := poolNilUptoRow, standIns := [], harness := (true, "7faceee15dfb664cd0490efe379115581fc761a3431f3089733e8d530ee89a1d"), looks := false }, kinds := [], alts := [], laidByText := true, laidKinds := [.data, .data, .data], laidTests := true, laidLooks := .later }
def PoolNilUptoCardSaid : Prop := Claim7.holds Tryd.pinned (.plain (OpenSpec.upto poolNilSpec)) poolNilUptoCard
end Rows
end Go.Proofs.YthheafjilbeddaaDoor
