/-
  DERIVED. GIVEN WITH THE SEED: THE CARDS: each row of YtpledmomljjfeaaDoorRows.lean that lists a variable, with what it lists TIED to the program's text (the seventh form; the later family's looks); each row that meets fmt, with fmt's text TOLD by the authors' own Lean function (tested against real Go, not proved from fmt's source: count such statements apart). THE CARD IS WHAT COUNTS. Prove the row's statement (the work); the ties are given (YtpledmomljjfeaaDoorTie.lean); close each card by the builder's one call (the guide's Derived/Test/ToyasCard.lean, 'card_holds'). Laid BY PROGRAM, IN A SANDBOX (cutbox-door.mjs). By AI agents, Wed Nov 11 2026. No macro, syntax, notation, axiom, sorry.
-/
import Derived.Test.YtpledmomljjfeaaDoorRows
import GoSem.ClaimSeven
namespace Go.Proofs.YtpledmomljjfeaaDoor
namespace Rows

/-- THE TIED CARD OF 'gatehouselaw15.ShaSums'. -/
def shaSumsCard : Claim7 := { stood := { row := shaSumsRow, standIns := [], harness := (true, "ca7b2008281e318cbefc2de25e5de0f3b882136848180568f756b9bc75b02c3c"), looks := false }, kinds := [], alts := [], laidByText := true, laidKinds := [.data], laidTests := true, laidLooks := .later }
def ShaSumsCardSaid : Prop := Claim7.holds Tryd.pinned (.plain (OpenSpec.ofChange shaSumsSpec)) shaSumsCard

/-- THE TIED CARD OF 'gatehouselaw15.ShaParts'. -/
def shaPartsCard : Claim7 := { stood := { row := shaPartsRow, standIns := [], harness := (true, "ca7b2008281e318cbefc2de25e5de0f3b882136848180568f756b9bc75b02c3c"), looks := false }, kinds := [], alts := [], laidByText := true, laidKinds := [.data], laidTests := true, laidLooks := .later }
def ShaPartsCardSaid : Prop := Claim7.holds Tryd.pinned (.plain (OpenSpec.ofChange shaPartsSpec)) shaPartsCard

/-- THE TIED CARD OF 'gatehouselaw15.ShaDigits'. -/
def shaDigitsCard : Claim7 := { stood := { row := shaDigitsRow, standIns := [], harness := (true, "ca7b2008281e318cbefc2de25e5de0f3b882136848180568f756b9bc75b02c3c"), looks := false }, kinds := [], alts := [], laidByText := true, laidKinds := [.data], laidTests := true, laidLooks := .later }
def ShaDigitsCardSaid : Prop := Claim7.holds Tryd.pinned (.plain (OpenSpec.ofChange shaDigitsSpec)) shaDigitsCard

/-- THE TIED CARD OF 'gatehouselaw15.ShaStretches'. -/
def shaStretchesCard : Claim7 := { stood := { row := shaStretchesRow, standIns := [], harness := (true, "ca7b2008281e318cbefc2de25e5de0f3b882136848180568f756b9bc75b02c3c"), looks := false }, kinds := [], alts := [], laidByText := true, laidKinds := [.data], laidTests := true, laidLooks := .later }
def ShaStretchesCardSaid : Prop := Claim7.holds Tryd.pinned (.plain (OpenSpec.ofChange shaStretchesSpec)) shaStretchesCard

/-- THE TIED CARD OF 'gatehouselaw15.ShaSame'. -/
def shaSameCard : Claim7 := { stood := { row := shaSameRow, standIns := [], harness := (true, "ca7b2008281e318cbefc2de25e5de0f3b882136848180568f756b9bc75b02c3c"), looks := false }, kinds := [], alts := [], laidByText := true, laidKinds := [.data], laidTests := true, laidLooks := .later }
def ShaSameCardSaid : Prop := Claim7.holds Tryd.pinned (.plain (OpenSpec.ofChange shaSameSpec)) shaSameCard

/-- THE TIED CARD OF 'gatehouselaw15.ShaNone'. -/
def shaNoneCard : Claim7 := { stood := { row := shaNoneRow, standIns := [], harness := (true, "ca7b2008281e318cbefc2de25e5de0f3b882136848180568f756b9bc75b02c3c"), looks := false }, kinds := [], alts := [], laidByText := true, laidKinds := [.data], laidTests := true, laidLooks := .later }
def ShaNoneCardSaid : Prop := Claim7.holds Tryd.pinned (.plain (OpenSpec.ofChange shaNoneSpec)) shaNoneCard

/-- THE SECOND FORM's CARD OF 'gatehouselaw15.ShaSums'. -/
def shaSumsUptoCard : Claim7 := { stood := { row := shaSumsUptoRow, standIns := [], harness := (true, "ca7b2008281e318cbefc2de25e5de0f3b882136848180568f756b9bc75b02c3c"), looks := false }, kinds := [], alts := [], laidByText := true, laidKinds := [.data], laidTests := true, laidLooks := .later }
def ShaSumsUptoCardSaid : Prop := Claim7.holds Tryd.pinned (.plain (OpenSpec.upto shaSumsSpec)) shaSumsUptoCard

/-- THE SECOND FORM's CARD OF 'gatehouselaw15.ShaParts'. -/
def shaPartsUptoCard : Claim7 := { stood := { row := shaPartsUptoRow, standIns := [], harness := (true, "ca7b2008281e318cbefc2de25e5de0f3b882136848180568f756b9bc75b02c3c"), looks := false }, kinds := [], alts := [], laidByText := true, laidKinds := [.data], laidTests := true, laidLooks := .later }
def ShaPartsUptoCardSaid : Prop := Claim7.holds Tryd.pinned (.plain (OpenSpec.upto shaPartsSpec)) shaPartsUptoCard

/-- THE SECOND FORM's CARD OF 'gatehouselaw15.ShaDigits'. -/
def shaDigitsUptoCard : Claim7 := { stood := { row := shaDigitsUptoRow, standIns := [], harness := (true, "ca7b2008281e318cbefc2de25e5de0f3b882136848180568f756b9bc75b02c3c"), looks := false }, kinds := [], alts := [], laidByText := true, laidKinds := [.data], laidTests := true, laidLooks := .later }
def ShaDigitsUptoCardSaid : Prop := Claim7.holds Tryd.pinned (.plain (OpenSpec.upto shaDigitsSpec)) shaDigitsUptoCard

/-- THE SECOND FORM's CARD OF 'gatehouselaw15.ShaStretches'. -/
def shaStretchesUptoCard : Claim7 := { stood := { row := shaStretchesUptoRow, standIns := [], harness := (true, "ca7b2008281e318cbefc2de25e5de0f3b882136848180568f756b9bc75b02c3c"), looks := false }, kinds := [], alts := [], laidByText := true, laidKinds := [.data], laidTests := true, laidLooks := .later }
def ShaStretchesUptoCardSaid : Prop := Claim7.holds Tryd.pinned (.plain (OpenSpec.upto shaStretchesSpec)) shaStretchesUptoCard

/-- THE SECOND FORM's CARD OF 'gatehouselaw15.ShaSame'. -/
def shaSameUptoCard : Claim7 := { stood := { row := shaSameUptoRow, standIns := [], harness := (true, "ca7b2008281e318cbefc2de25e5de0f3b882136848180568f756b9bc75b02c3c"), looks := false }, kinds := [], alts := [], laidByText := true, laidKinds := [.data], laidTests := true, laidLooks := .later }
def ShaSameUptoCardSaid : Prop := Claim7.holds Tryd.pinned (.plain (OpenSpec.upto shaSameSpec)) shaSameUptoCard

/-- THE SECOND FORM's CARD OF 'gatehouselaw15.ShaNone'. -/
def shaNoneUptoCard : Claim7 := { stood := { row := shaNoneUptoRow, standIns := [], harness := (true, "ca7b2008281e318cbefc2de25e5de0f3b882136848180568f756b9bc75b02c3c"), looks := false }, kinds := [], alts := [], laidByText := true, laidKinds := [.data], laidTests := true, laidLooks := .later }
def ShaNoneUptoCardSaid : Prop := Claim7.holds Tryd.pinned (.plain (OpenSpec.upto shaNoneSpec)) shaNoneUptoCard
end Rows
end Go.Proofs.YtpledmomljjfeaaDoor
