/-
  DERIVED. GIVEN WITH THE SEED: THE CARDS: each row of YtgldkmabhmlijaaDoorRows.lean that lists a variable, with what it lists TIED to the program's text (the seventh form; the later family's looks); each row that meets fmt, with fmt's text TOLD by the authors' own Lean function (tested against real Go, not proved from fmt's source: count such statements apart). THE CARD IS WHAT COUNTS. Prove the row's statement (the work); the ties are given (YtgldkmabhmlijaaDoorTie.lean); close each card by the builder's one call (the guide's Derived/Test/ToyasCard.lean, 'card_holds'). Laid BY PROGRAM, IN A SANDBOX (cutbox-door.mjs). By AI agents, Wed Nov 11 2026. No macro, syntax, notation, axiom, sorry.
-/
import Derived.Test.YtgldkmabhmlijaaDoorRows
import GoSem.ClaimSeven
namespace Go.Proofs.YtgldkmabhmlijaaDoor
namespace Rows

/-- THE TIED CARD OF 'gatehouselaw02.IsaLists'. -/
def isaListsCard : Claim7 := { stood := { row := isaListsRow, standIns := [], harness := (true, "43ddc892bf2060b3673cb6a05b4635f05ef650a36cdb979e6acf1179f10722e0"), looks := true }, kinds := [], alts := [], laidByText := true, laidKinds := [.data, .data, .data, .data, .sentinel, .sentinel, .data, .pinned], laidTests := true, laidLooks := .later }
def IsaListsCardSaid : Prop := Claim7.holds Tryd.pinned (.plain (OpenSpec.ofChange isaListsSpec)) isaListsCard

/-- THE TIED CARD OF 'gatehouselaw02.IsaPlaces'. -/
def isaPlacesCard : Claim7 := { stood := { row := isaPlacesRow, standIns := [], harness := (true, "43ddc892bf2060b3673cb6a05b4635f05ef650a36cdb979e6acf1179f10722e0"), looks := true }, kinds := [], alts := [], laidByText := true, laidKinds := [.data, .data, .data, .data, .sentinel, .sentinel, .data, .pinned], laidTests := true, laidLooks := .later }
def IsaPlacesCardSaid : Prop := Claim7.holds Tryd.pinned (.plain (OpenSpec.ofChange isaPlacesSpec)) isaPlacesCard

/-- THE SECOND FORM's CARD OF 'gatehouselaw02.IsaLists'. -/
def isaListsUptoCard : Claim7 := { stood := { row := isaListsUptoRow, standIns := [], harness := (true, "43ddc892bf2060b3673cb6a05b4635f05ef650a36cdb979e6acf1179f10722e0"), looks := true }, kinds := [], alts := [], laidByText := true, laidKinds := [.data, .data, .data, .data, .sentinel, .sentinel, .data, .pinned], laidTests := true, laidLooks := .later }
def IsaListsUptoCardSaid : Prop := Claim7.holds Tryd.pinned (.plain (OpenSpec.upto isaListsSpec)) isaListsUptoCard

/-- THE SECOND FORM's CARD OF 'gatehouselaw02.IsaPlaces'. -/
def isaPlacesUptoCard : Claim7 := { stood := { row := isaPlacesUptoRow, standIns := [], harness := (true, "43ddc892bf2060b3673cb6a05b4635f05ef650a36cdb979e6acf1179f10722e0"), looks := true }, kinds := [], alts := [], laidByText := true, laidKinds := [.data, .data, .data, .data, .sentinel, .sentinel, .data, .pinned], laidTests := true, laidLooks := .later }
def IsaPlacesUptoCardSaid : Prop := Claim7.holds Tryd.pinned (.plain (OpenSpec.upto isaPlacesSpec)) isaPlacesUptoCard
end Rows
end Go.Proofs.YtgldkmabhmlijaaDoor
