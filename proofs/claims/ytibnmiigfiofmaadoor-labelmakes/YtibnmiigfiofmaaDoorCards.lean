/-
  DERIVED. GIVEN WITH THE SEED: THE CARDS: each row of YtibnmiigfiofmaaDoorRows.lean that lists a variable, with what it lists TIED to the program's text (the seventh form; the later family's looks); each row that meets fmt, with fmt's text TOLD by the authors' own Lean function (tested against real Go, not proved from fmt's source: count such statements apart). THE CARD IS WHAT COUNTS. Prove the row's statement (the work); the ties are given (YtibnmiigfiofmaaDoorTie.lean); close each card by the builder's one call (the guide's Derived/Test/ToyasCard.lean, 'card_holds'). Laid BY PROGRAM, IN A SANDBOX (cutbox-door.mjs). By AI agents, Wed Nov 11 2026. No macro, syntax, notation, axiom, sorry.
-/
import Derived.Test.YtibnmiigfiofmaaDoorRows
import GoSem.ClaimSeven
namespace Go.Proofs.YtibnmiigfiofmaaDoor
namespace Rows

/-- THE TIED CARD OF 'gatehouselaw01.LabelForms'. -/
def labelFormsCard : Claim7 := { stood := { row := labelFormsRow, standIns := [], harness := (true, "a48e3211ba116a8b26b06b4fc1880a30921f908541c36a687fe3426f77448027"), looks := false }, kinds := [], alts := [], laidByText := true, laidKinds := [.data, .data, .data], laidTests := true, laidLooks := .later }
def LabelFormsCardSaid : Prop := Claim7.holds Tryd.pinned (.plain (OpenSpec.ofChange labelFormsSpec)) labelFormsCard

/-- THE TIED CARD OF 'gatehouselaw01.LabelMakes'. -/
def labelMakesCard : Claim7 := { stood := { row := labelMakesRow, standIns := [], harness := (true, "a48e3211ba116a8b26b06b4fc1880a30921f908541c36a687fe3426f77448027"), looks := false }, kinds := [], alts := [], laidByText := true, laidKinds := [.data, .data, .data], laidTests := true, laidLooks := .later }
def LabelMakesCardSaid : Prop := Claim7.holds Tryd.pinned (.plain (OpenSpec.ofChange labelMakesSpec)) labelMakesCard

/-- THE TIED CARD OF 'gatehouselaw01.LabelCompares'. -/
def labelComparesCard : Claim7 := { stood := { row := labelComparesRow, standIns := [], harness := (true, "a48e3211ba116a8b26b06b4fc1880a30921f908541c36a687fe3426f77448027"), looks := false }, kinds := [], alts := [], laidByText := true, laidKinds := [.data, .data, .data], laidTests := true, laidLooks := .later }
def LabelComparesCardSaid : Prop := Claim7.holds Tryd.pinned (.plain (OpenSpec.ofChange labelComparesSpec)) labelComparesCard

/-- THE TIED CARD OF 'gatehouselaw01.LabelTurns'. -/
def labelTurnsCard : Claim7 := { stood := { row := labelTurnsRow, standIns := [], harness := (true, "a48e3211ba116a8b26b06b4fc1880a30921f908541c36a687fe3426f77448027"), looks := false }, kinds := [], alts := [], laidByText := true, laidKinds := [.data, .data, .data], laidTests := true, laidLooks := .later }
def LabelTurnsCardSaid : Prop := Claim7.holds Tryd.pinned (.plain (OpenSpec.ofChange labelTurnsSpec)) labelTurnsCard

/-- THE TIED CARD OF 'gatehouselaw01.LabelLooks'. -/
def labelLooksCard : Claim7 := { stood := { row := labelLooksRow, standIns := [], harness := (true, "a48e3211ba116a8b26b06b4fc1880a30921f908541c36a687fe3426f77448027"), looks := false }, kinds := [], alts := [], laidByText := true, laidKinds := [.data, .data, .data], laidTests := true, laidLooks := .later }
def LabelLooksCardSaid : Prop := Claim7.holds Tryd.pinned (.plain (OpenSpec.ofChange labelLooksSpec)) labelLooksCard

/-- THE TIED CARD OF 'gatehouselaw01.LabelBytes'. -/
def labelBytesCard : Claim7 := { stood := { row := labelBytesRow, standIns := [], harness := (true, "a48e3211ba116a8b26b06b4fc1880a30921f908541c36a687fe3426f77448027"), looks := false }, kinds := [], alts := [], laidByText := true, laidKinds := [.data, .data, .data], laidTests := true, laidLooks := .later }
def LabelBytesCardSaid : Prop := Claim7.holds Tryd.pinned (.plain (OpenSpec.ofChange labelBytesSpec)) labelBytesCard

/-- THE SECOND FORM's CARD OF 'gatehouselaw01.LabelForms'. -/
def labelFormsUptoCard : Claim7 := { stood := { row := labelFormsUptoRow, standIns := [], harness := (true, "a48e3211ba116a8b26b06b4fc1880a30921f908541c36a687fe3426f77448027"), looks := false }, kinds := [], alts := [], laidByText := true, laidKinds := [.data, .data, .data], laidTests := true, laidLooks := .later }
def LabelFormsUptoCardSaid : Prop := Claim7.holds Tryd.pinned (.plain (OpenSpec.upto labelFormsSpec)) labelFormsUptoCard

/-- THE SECOND FORM's CARD OF 'gatehouselaw01.LabelMakes'. -/
def labelMakesUptoCard : Claim7 := { stood := { row := labelMakesUptoRow, standIns := [], harness := (true, "a48e3211ba116a8b26b06b4fc1880a30921f908541c36a687fe3426f77448027"), looks := false }, kinds := [], alts := [], laidByText := true, laidKinds := [.data, .data, .data], laidTests := true, laidLooks := .later }
def LabelMakesUptoCardSaid : Prop := Claim7.holds Tryd.pinned (.plain (OpenSpec.upto labelMakesSpec)) labelMakesUptoCard

/-- THE SECOND FORM's CARD OF 'gatehouselaw01.LabelCompares'. -/
def labelComparesUptoCard : Claim7 := { stood := { row := labelComparesUptoRow, standIns := [], harness := (true, "a48e3211ba116a8b26b06b4fc1880a30921f908541c36a687fe3426f77448027"), looks := false }, kinds := [], alts := [], laidByText := true, laidKinds := [.data, .data, .data], laidTests := true, laidLooks := .later }
def LabelComparesUptoCardSaid : Prop := Claim7.holds Tryd.pinned (.plain (OpenSpec.upto labelComparesSpec)) labelComparesUptoCard

/-- THE SECOND FORM's CARD OF 'gatehouselaw01.LabelTurns'. -/
def labelTurnsUptoCard : Claim7 := { stood := { row := labelTurnsUptoRow, standIns := [], harness := (true, "a48e3211ba116a8b26b06b4fc1880a30921f908541c36a687fe3426f77448027"), looks := false }, kinds := [], alts := [], laidByText := true, laidKinds := [.data, .data, .data], laidTests := true, laidLooks := .later }
def LabelTurnsUptoCardSaid : Prop := Claim7.holds Tryd.pinned (.plain (OpenSpec.upto labelTurnsSpec)) labelTurnsUptoCard

/-- THE SECOND FORM's CARD OF 'gatehouselaw01.LabelLooks'. -/
def labelLooksUptoCard : Claim7 := { stood := { row := labelLooksUptoRow, standIns := [], harness := (true, "a48e3211ba116a8b26b06b4fc1880a30921f908541c36a687fe3426f77448027"), looks := false }, kinds := [], alts := [], laidByText := true, laidKinds := [.data, .data, .data], laidTests := true, laidLooks := .later }
def LabelLooksUptoCardSaid : Prop := Claim7.holds Tryd.pinned (.plain (OpenSpec.upto labelLooksSpec)) labelLooksUptoCard

/-- THE SECOND FORM's CARD OF 'gatehouselaw01.LabelBytes'. -/
def labelBytesUptoCard : Claim7 := { stood := { row := labelBytesUptoRow, standIns := [], harness := (true, "a48e3211ba116a8b26b06b4fc1880a30921f908541c36a687fe3426f77448027"), looks := false }, kinds := [], alts := [], laidByText := true, laidKinds := [.data, .data, .data], laidTests := true, laidLooks := .later }
def LabelBytesUptoCardSaid : Prop := Claim7.holds Tryd.pinned (.plain (OpenSpec.upto labelBytesSpec)) labelBytesUptoCard
end Rows
end Go.Proofs.YtibnmiigfiofmaaDoor
