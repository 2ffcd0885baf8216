/-
  DERIVED. GIVEN WITH THE SEED: THE CARDS: each row of YtcgjbjkhclphpaaDoorRows.lean that lists a variable, with what it lists TIED to the program's text (the seventh form; the later family's looks); each row that meets fmt, with fmt's text TOLD by the authors' own Lean function (tested against real Go, not proved from fmt's source: count such statements apart). THE CARD IS WHAT COUNTS. Prove the row's statement (the work); the ties are given (YtcgjbjkhclphpaaDoorTie.lean); close each card by the builder's one call (the guide's Derived/Test/ToyasCard.lean, 'card_holds'). Laid BY PROGRAM, IN A SANDBOX (cutbox-door.mjs). By AI agents, Wed Nov 11 2026. No macro, syntax, notation, axiom, sorry.
-/
import Derived.Test.YtcgjbjkhclphpaaDoorRows
import GoSem.ClaimSeven
namespace Go.Proofs.YtcgjbjkhclphpaaDoor
namespace Rows

/-- THE TIED CARD OF 'shinglelaw04.LutSteps'. -/
def lutStepsCard : Claim7 := { stood := { row := lutStepsRow, standIns := [], harness := (true, "29d5337001941aba96b0d61a9d074ef407b000a167fc3860fdf9fa6ab0314f11"), looks := false }, kinds := [], alts := [], laidByText := true, laidKinds := [.data], laidTests := true, laidLooks := .later }
def LutStepsCardSaid : Prop := Claim7.holds Tryd.pinned (.plain (OpenSpec.ofChange lutStepsSpec)) lutStepsCard

/-- THE TIED CARD OF 'shinglelaw04.LutFactors'. -/
def lutFactorsCard : Claim7 := { stood := { row := lutFactorsRow, standIns := [], harness := (true, "29d5337001941aba96b0d61a9d074ef407b000a167fc3860fdf9fa6ab0314f11"), looks := false }, kinds := [], alts := [], laidByText := true, laidKinds := [.data], laidTests := true, laidLooks := .later }
def LutFactorsCardSaid : Prop := Claim7.holds Tryd.pinned (.plain (OpenSpec.ofChange lutFactorsSpec)) lutFactorsCard

/-- THE TIED CARD OF 'shinglelaw04.LutStays'. -/
def lutStaysCard : Claim7 := { stood := { row := lutStaysRow, standIns := [], harness := (true, "29d5337001941aba96b0d61a9d074ef407b000a167fc3860fdf9fa6ab0314f11"), looks := false }, kinds := [], alts := [], laidByText := true, laidKinds := [.data], laidTests := true, laidLooks := .later }
def LutStaysCardSaid : Prop := Claim7.holds Tryd.pinned (.plain (OpenSpec.ofChange lutStaysSpec)) lutStaysCard

/-- THE SECOND FORM's CARD OF 'shinglelaw04.LutSteps'. -/
def lutStepsUptoCard : Claim7 := { stood := { row := lutStepsUptoRow, standIns := [], harness := (true, "29d5337001941aba96b0d61a9d074ef407b000a167fc3860fdf9fa6ab0314f11"), looks := false }, kinds := [], alts := [], laidByText := true, laidKinds := [.data], laidTests := true, laidLooks := .later }
def LutStepsUptoCardSaid : Prop := Claim7.holds Tryd.pinned (.plain (OpenSpec.upto lutStepsSpec)) lutStepsUptoCard

/-- THE SECOND FORM's CARD OF 'shinglelaw04.LutFactors'. -/
def lutFactorsUptoCard : Claim7 := { stood := { row := lutFactorsUptoRow, standIns := [], harness := (true, "29d5337001941aba96b0d61a9d074ef407b000a167fc3860fdf9fa6ab0314f11"), looks := false }, kinds := [], alts := [], laidByText := true, laidKinds := [.data], laidTests := true, laidLooks := .later }
def LutFactorsUptoCardSaid : Prop := Claim7.holds Tryd.pinned (.plain (OpenSpec.upto lutFactorsSpec)) lutFactorsUptoCard

/-- THE SECOND FORM's CARD OF 'shinglelaw04.LutStays'. -/
def lutStaysUptoCard : Claim7 := { stood := { row := lutStaysUptoRow, standIns := [], harness := (true, "29d5337001941aba96b0d61a9d074ef407b000a167fc3860fdf9fa6ab0314f11"), looks := false }, kinds := [], alts := [], laidByText := true, laidKinds := [.data], laidTests := true, laidLooks := .later }
def LutStaysUptoCardSaid : Prop := Claim7.holds Tryd.pinned (.plain (OpenSpec.upto lutStaysSpec)) lutStaysUptoCard
end Rows
end Go.Proofs.YtcgjbjkhclphpaaDoor
