/-
  DERIVED. GIVEN WITH THE SEED: THE CARDS: each row of YtfcmgodeehjnoaaDoorRows.lean that lists a variable, with what it lists TIED to the program's text (the seventh form; the later family's looks); each row that meets fmt, with fmt's text TOLD by the authors' own Lean function (tested against real Go, not proved from fmt's source: count such statements apart). THE CARD IS WHAT COUNTS. Prove the row's statement (the work); the ties are given (YtfcmgodeehjnoaaDoorTie.lean); close each card by the builder's one call (the guide's Derived/Test/ToyasCard.lean, 'card_holds'). Laid BY PROGRAM, IN A SANDBOX (cutbox-door.mjs). By AI agents, Wed Nov 11 2026. No macro, syntax, notation, axiom, sorry.
-/
import Derived.Test.YtfcmgodeehjnoaaDoorRows
import GoSem.ClaimSeven
namespace Go.Proofs.YtfcmgodeehjnoaaDoor
namespace Rows

/-- THE TIED CARD OF 'gatehouselaw15.ShaSums'. -/
def shaSumsCard : Claim7 := { stood := { row := shaSumsRow, standIns := [], harness := (true, "3cb95c159520694c03489504c8a94ecfb62df9caf4c5fed205b4307333914dfd"), looks := false }, kinds := [], alts := [], laidByText := true, laidKinds := [.data], laidTests := true, laidLooks := .later }
def ShaSumsCardSaid : Prop := Claim7.holds Tryd.pinned (.plain (OpenSpec.ofChange shaSumsSpec)) shaSumsCard

/-- THE TIED CARD OF 'gatehouselaw15.ShaStretches'. -/
def shaStretchesCard : Claim7 := { stood := { row := shaStretchesRow, standIns := [], harness := (true, "3cb95c159520694c03489504c8a94ecfb62df9caf4c5fed205b4307333914dfd"), looks := false }, kinds := [], alts := [], laidByText := true, laidKinds := [.data], laidTests := true, laidLooks := .later }
def ShaStretchesCardSaid : Prop := Claim7.holds Tryd.pinned (.plain (OpenSpec.ofChange shaStretchesSpec)) shaStretchesCard

/-- THE SECOND FORM's CARD OF 'gatehouselaw15.ShaSums'. -/
def shaSumsUptoCard : Claim7 := { stood := { row := shaSumsUptoRow, standIns := [], harness := (true, "3cb95c159520694c03489504c8a94ecfb62df9caf4c5fed205b4307333914dfd"), looks := false }, kinds := [], alts := [], laidByText := true, laidKinds := [.data], laidTests := true, laidLooks := .later }
def ShaSumsUptoCardSaid : Prop := Claim7.holds Tryd.pinned (.plain (OpenSpec.upto shaSumsSpec)) shaSumsUptoCard

/-- THE SECOND FORM's CARD OF 'gatehouselaw15.ShaStretches'. -/
def shaStretchesUptoCard : Claim7 := { stood := { row := shaStretchesUptoRow, standIns := [], harness := (true, "3cb95c159520694c03489504c8a94ecfb62df9caf4c5fed205b4307333914dfd"), looks := false }, kinds := [], alts := [], laidByText := true, laidKinds := [.data], laidTests := true, laidLooks := .later }
def ShaStretchesUptoCardSaid : Prop := Claim7.holds Tryd.pinned (.plain (OpenSpec.upto shaStretchesSpec)) shaStretchesUptoCard
end Rows
end Go.Proofs.YtfcmgodeehjnoaaDoor
