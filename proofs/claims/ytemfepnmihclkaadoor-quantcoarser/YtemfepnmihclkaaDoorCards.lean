/-
  DERIVED. GIVEN WITH THE SEED: THE CARDS: each row of YtemfepnmihclkaaDoorRows.lean that lists a variable, with what it lists TIED to the program's text (the seventh form; the later family's looks); each row that meets fmt, with fmt's text TOLD by the authors' own Lean function (tested against real Go, not proved from fmt's source: count such statements apart). THE CARD IS WHAT COUNTS. Prove the row's statement (the work); the ties are given (YtemfepnmihclkaaDoorTie.lean); close each card by the builder's one call (the guide's Derived/Test/ToyasCard.lean, 'card_holds'). Laid BY PROGRAM, IN A SANDBOX (cutbox-door.mjs). By AI agents, Wed Nov 11 2026. No macro, syntax, notation, axiom, sorry.
-/
import Derived.Test.YtemfepnmihclkaaDoorRows
import GoSem.ClaimSeven
namespace Go.Proofs.YtemfepnmihclkaaDoor
namespace Rows

/-- THE TIED CARD OF 'shinglelaw11.QuantTurns'. -/
def quantTurnsCard : Claim7 := { stood := { row := quantTurnsRow, standIns := [], harness := (true, "02072fcac7694fd475a50e826c9ab9ad6c33f5fdd9d680d605f063814dc90cf0"), looks := false }, kinds := [], alts := [], laidByText := true, laidKinds := [.data], laidTests := true, laidLooks := .later }
def QuantTurnsCardSaid : Prop := Claim7.holds Tryd.pinned (.plain (OpenSpec.ofChange quantTurnsSpec)) quantTurnsCard

/-- THE TIED CARD OF 'shinglelaw11.QuantNear'. -/
def quantNearCard : Claim7 := { stood := { row := quantNearRow, standIns := [], harness := (true, "02072fcac7694fd475a50e826c9ab9ad6c33f5fdd9d680d605f063814dc90cf0"), looks := false }, kinds := [], alts := [], laidByText := true, laidKinds := [.data], laidTests := true, laidLooks := .later }
def QuantNearCardSaid : Prop := Claim7.holds Tryd.pinned (.plain (OpenSpec.ofChange quantNearSpec)) quantNearCard

/-- THE TIED CARD OF 'shinglelaw11.QuantCoarser'. -/
def quantCoarserCard : Claim7 := { stood := { row := quantCoarserRow, standIns := [], harness := (true, "02072fcac7694fd475a50e826c9ab9ad6c33f5fdd9d680d605f063814dc90cf0"), looks := false }, kinds := [], alts := [], laidByText := true, laidKinds := [.data], laidTests := true, laidLooks := .later }
def QuantCoarserCardSaid : Prop := Claim7.holds Tryd.pinned (.plain (OpenSpec.ofChange quantCoarserSpec)) quantCoarserCard

/-- THE SECOND FORM's CARD OF 'shinglelaw11.QuantTurns'. -/
def quantTurnsUptoCard : Claim7 := { stood := { row := quantTurnsUptoRow, standIns := [], harness := (true, "02072fcac7694fd475a50e826c9ab9ad6c33f5fdd9d680d605f063814dc90cf0"), looks := false }, kinds := [], alts := [], laidByText := true, laidKinds := [.data], laidTests := true, laidLooks := .later }
def QuantTurnsUptoCardSaid : Prop := Claim7.holds Tryd.pinned (.plain (OpenSpec.upto quantTurnsSpec)) quantTurnsUptoCard

/-- THE SECOND FORM's CARD OF 'shinglelaw11.QuantNear'. -/
def quantNearUptoCard : Claim7 := { stood := { row := quantNearUptoRow, standIns := [], harness := (true, "02072fcac7694fd475a50e826c9ab9ad6c33f5fdd9d680d605f063814dc90cf0"), looks := false }, kinds := [], alts := [], laidByText := true, laidKinds := [.data], laidTests := true, laidLooks := .later }
def QuantNearUptoCardSaid : Prop := Claim7.holds Tryd.pinned (.plain (OpenSpec.upto quantNearSpec)) quantNearUptoCard

/-- THE SECOND FORM's CARD OF 'shinglelaw11.QuantCoarser'. -/
def quantCoarserUptoCard : Claim7 := { stood := { row := quantCoarserUptoRow, standIns := [], harness := (true, "02072fcac7694fd475a50e826c9ab9ad6c33f5fdd9d680d605f063814dc90cf0"), looks := false }, kinds := [], alts := [], laidByText := true, laidKinds := [.data], laidTests := true, laidLooks := .later }
def QuantCoarserUptoCardSaid : Prop := Claim7.holds Tryd.pinned (.plain (OpenSpec.upto quantCoarserSpec)) quantCoarserUptoCard
end Rows
end Go.Proofs.YtemfepnmihclkaaDoor
