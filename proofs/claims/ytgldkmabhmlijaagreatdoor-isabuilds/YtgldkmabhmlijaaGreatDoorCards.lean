/-
  DERIVED. GIVEN WITH THE SEED: THE CARDS: each row of YtgldkmabhmlijaaGreatDoorRows.lean that lists a variable, with what it lists TIED to the program's text (the seventh form; the later family's looks); each row that meets fmt, with fmt's text TOLD by the authors' own Lean function (tested against real Go, not proved from fmt's source: count such statements apart). THE CARD IS WHAT COUNTS. Prove the row's statement (the work); the ties are given (YtgldkmabhmlijaaGreatDoorTie.lean); close each card by the builder's one call (the guide's Derived/Test/ToyasCard.lean, 'card_holds'). Laid BY PROGRAM, IN A SANDBOX (cutbox-door.mjs). By AI agents, Wed Nov 11 2026. No macro, syntax, notation, axiom, sorry.
-/
import Derived.Test.YtgldkmabhmlijaaGreatDoorRows
import GoSem.ClaimSeven
namespace Go.Proofs.YtgldkmabhmlijaaGreatDoor
namespace Rows

/-- THE TIED CARD OF 'gatehouselaw02.IsaParses'. -/
def isaParsesCard : Claim7 := { stood := { row := isaParsesRow, standIns := [], harness := (true, "19d4619d7611092486ee316783fc0d6c0c10617bd1f980071bca88d9b6c1c47c"), looks := true }, kinds := [], alts := [], laidByText := true, laidKinds := [.data, .data, .data, .data, .sentinel, .sentinel, .data, .pinned], laidTests := true, laidLooks := .later }
def IsaParsesCardSaid : Prop := Claim7.holds Tryz.pinned (.plain (OpenSpec.ofChange isaParsesSpec)) isaParsesCard

/-- THE TIED CARD OF 'gatehouselaw02.IsaBuilds'. -/
def isaBuildsCard : Claim7 := { stood := { row := isaBuildsRow, standIns := [], harness := (true, "19d4619d7611092486ee316783fc0d6c0c10617bd1f980071bca88d9b6c1c47c"), looks := true }, kinds := [], alts := [], laidByText := true, laidKinds := [.data, .data, .data, .data, .sentinel, .sentinel, .data, .pinned], laidTests := true, laidLooks := .later }
def IsaBuildsCardSaid : Prop := Claim7.holds Tryz.pinned (.plain (OpenSpec.ofChange isaBuildsSpec)) isaBuildsCard

/-- THE SECOND FORM's CARD OF 'gatehouselaw02.IsaParses'. -/
def isaParsesUptoCard : Claim7 := { stood := { row := isaParsesUptoRow, standIns := [], harness := (true, "19d4619d7611092486ee316783fc0d6c0c10617bd1f980071bca88d9b6c1c47c"), looks := true }, kinds := [], alts := [], laidByText := true, laidKinds := [.data, .data, .data, .data, .sentinel, .sentinel, .data, .pinned], laidTests := true, laidLooks := .later }
def IsaParsesUptoCardSaid : Prop := Claim7.holds Tryz.pinned (.plain (OpenSpec.upto isaParsesSpec)) isaParsesUptoCard

/-- THE SECOND FORM's CARD OF 'gatehouselaw02.IsaBuilds'. -/
def isaBuildsUptoCard : Claim7 := { stood := { row := isaBuildsUptoRow, standIns := [], harness := (true, "19d4619d7611092486ee316783fc0d6c0c10617bd1f980071bca88d9b6c1c47c"), looks := true }, kinds := [], alts := [], laidByText := true, laidKinds := [.data, .data, .data, .data, .sentinel, .sentinel, .data, .pinned], laidTests := true, laidLooks := .later }
def IsaBuildsUptoCardSaid : Prop := Claim7.holds Tryz.pinned (.plain (OpenSpec.upto isaBuildsSpec)) isaBuildsUptoCard
end Rows
end Go.Proofs.YtgldkmabhmlijaaGreatDoor
