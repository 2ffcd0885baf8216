/-
  NARROWER THAN 'FOR EVERY INPUT', by the rows' own cells (each row's printed sentence says how): LutSteps: laid · LutFactors: laid · LutStays: laid.
  DERIVED. THE GIVEN ROWS OF THIS SEAT. 3 by the template 'for every input the law returns true; each argument reads behind the call as it read before'; 0 by the template 'total and deterministic' (their statements: YtcgjbjkhclphpaaDoorTotals.lean).
  GIVEN WITH THE SEED: the statements are not yours to turn. If you find one false, say at which input.
  Laid BY PROGRAM, IN A SANDBOX (cutbox-rows.mjs): the forced cells as the released guide's own fill.sh prints them over the translation 8d47c9cd64386474… (all of the seat's roots in one cut). By AI agents, Wed Nov 11 2026. No macro, syntax, notation, axiom, sorry.
-/
import Derived.Test.YtcgjbjkhclphpaaDoorChecked
import GoSem.Claim
import GoSem.ClaimJoined
import GoSem.ClaimMapViews
import Derived.JoinedTies
import Derived.KernelRfl
namespace Go.Proofs.YtcgjbjkhclphpaaDoor
/- THE CELL 'sum', in the pinned program and in every row, IS THE sha256 OF THE DUMP (.gsa) THAT YtcgjbjkhclphpaaDoorProg.lean LOADS. Nothing in Lean hashes anything: it is a label: what it is worth is what the hold of that sum in a sandbox is worth. -/
noncomputable def Tryd.pinned : Pinned := { name := "ytcgjbjkhclphpaadoor", sum := "8d47c9cd6438647425d167eeb2de6ddd9f17f9a00c69bb213cb18f4233bc3432", checked := Tryd.checked }
namespace Rows
def none {H : Type} : Left H := { results := [], args := [] }

/- WHAT THE LISTED PACKAGE-LEVEL VARIABLES READ AS WHEN THE CALL BEGINS. Each datum BY PROGRAM (the guide's laid-datum.mjs) off the statement by which the dump's own 'gosem.cut.vars' lays the variable. In a bare row this is a premise. The card (YtcgjbjkhclphpaaDoorCards.lean) ties it to the program's text. -/
def laid_shingle_lut_quarters {H : Type} : DataW H := .agg [.agg [.lit (.int .i64 4), .lit (.int .i64 0), .lit (.int .i64 1)], .agg [.lit (.int .i64 503829), .lit (.int .i64 52958), .lit (.int .i64 105917)], .agg [.lit (.int .i64 665857), .lit (.int .i64 58854), .lit (.int .i64 117708)], .agg [.lit (.int .i64 440253), .lit (.int .i64 32722), .lit (.int .i64 65444)]]

/-- 'shinglelaw04.LutSteps': WHATEVER THE INPUT: true; the input reads as it did. -/
def lutStepsSpec : ChangeSpec := { name := "lutSteps", fn := fun _ => fun
  | [d1, d2] => { results := [.lit (.bool true)], args := [d1, d2] }
  | _ => none }
def lutStepsRow : OpenClaim := { program := "ytcgjbjkhclphpaadoor", sum := "8d47c9cd6438647425d167eeb2de6ddd9f17f9a00c69bb213cb18f4233bc3432", func := "shingle/shinglelaw04.LutSteps", spec := "lutSteps", named := ["shingle/lut.quarters"], apart := false, laid := [("shingle/lut.quarters", laid_shingle_lut_quarters)] }
def LutStepsSaid : Prop := lutStepsRow.holds Tryd.pinned (OpenSpec.ofChange lutStepsSpec)

/-- ITS FALSE NEIGHBOUR: 'it returns false'. Refute it at one input. -/
def lutStepsWrong : ChangeSpec := { name := "lutSteps", fn := fun _ => fun
  | [d1, d2] => { results := [.lit (.bool false)], args := [d1, d2] }
  | _ => none }
def LutStepsWrongFalsely : Prop := lutStepsRow.holds Tryd.pinned (OpenSpec.ofChange lutStepsWrong)

/-- 'shinglelaw04.LutFactors': WHATEVER THE INPUT: true; the input reads as it did. -/
def lutFactorsSpec : ChangeSpec := { name := "lutFactors", fn := fun _ => fun
  | [d] => { results := [.lit (.bool true)], args := [d] }
  | _ => none }
def lutFactorsRow : OpenClaim := { program := "ytcgjbjkhclphpaadoor", sum := "8d47c9cd6438647425d167eeb2de6ddd9f17f9a00c69bb213cb18f4233bc3432", func := "shingle/shinglelaw04.LutFactors", spec := "lutFactors", named := ["shingle/lut.quarters"], apart := false, laid := [("shingle/lut.quarters", laid_shingle_lut_quarters)] }
def LutFactorsSaid : Prop := lutFactorsRow.holds Tryd.pinned (OpenSpec.ofChange lutFactorsSpec)

/-- ITS FALSE NEIGHBOUR: 'it returns false'. Refute it at one input. -/
def lutFactorsWrong : ChangeSpec := { name := "lutFactors", fn := fun _ => fun
  | [d] => { results := [.lit (.bool false)], args := [d] }
  | _ => none }
def LutFactorsWrongFalsely : Prop := lutFactorsRow.holds Tryd.pinned (OpenSpec.ofChange lutFactorsWrong)

/-- 'shinglelaw04.LutStays': WHATEVER THE INPUT: true; the input reads as it did. -/
def lutStaysSpec : ChangeSpec := { name := "lutStays", fn := fun _ => fun
  | [d] => { results := [.lit (.bool true)], args := [d] }
  | _ => none }
def lutStaysRow : OpenClaim := { program := "ytcgjbjkhclphpaadoor", sum := "8d47c9cd6438647425d167eeb2de6ddd9f17f9a00c69bb213cb18f4233bc3432", func := "shingle/shinglelaw04.LutStays", spec := "lutStays", named := ["shingle/lut.quarters"], apart := false, laid := [("shingle/lut.quarters", laid_shingle_lut_quarters)] }
def LutStaysSaid : Prop := lutStaysRow.holds Tryd.pinned (OpenSpec.ofChange lutStaysSpec)

/-- ITS FALSE NEIGHBOUR: 'it returns false'. Refute it at one input. -/
def lutStaysWrong : ChangeSpec := { name := "lutStays", fn := fun _ => fun
  | [d] => { results := [.lit (.bool false)], args := [d] }
  | _ => none }
def LutStaysWrongFalsely : Prop := lutStaysRow.holds Tryd.pinned (OpenSpec.ofChange lutStaysWrong)

/- THE SECOND FORM. 'bulk': how many values and letters a reading holds, each counted each time it is reached (what is shared counts as often as it is met; a slice's spare places count too). A statement '..UptoSaid' is the law's where the arguments, and the package variables that the reading takes, are together of bulk at most 1048576: NARROWER than '..Said'. Prove '..Said' where nothing that the law and all that it calls make is longer than what came in: it says more and counts as full. Else prove '..UptoSaid'. A law counts once. -/
mutual
def uptoBulk {H : Type} : DataW H → Nat
  | .lit (.string bytes) => bytes.length + 1
  | .lit _ => 1
  | .nil => 1
  | .ptr d => uptoBulk d + 1
  | .slice elems spare => uptoBulkAll elems + uptoBulkAll spare + 1
  | .agg parts => uptoBulkAll parts + 1
  | .iface _ d => uptoBulk d + 1
  | .map entries => uptoBulkEntries entries + 1
  | .held _ => 1
def uptoBulkAll {H : Type} : List (DataW H) → Nat
  | [] => 0
  | d :: r => uptoBulk d + uptoBulkAll r
def uptoBulkEntries {H : Type} : List (Lit × DataW H) → Nat
  | [] => 0
  | x :: r => uptoBulkEntry x + uptoBulkEntries r
def uptoBulkEntry {H : Type} : Lit × DataW H → Nat
  | (.string bytes, d) => bytes.length + uptoBulk d + 1
  | (_, d) => uptoBulk d + 1
 end
def uptoSmall : (H : Type) → List (DataW H) → Bool := fun _ ds => decide (uptoBulkAll ds ≤ 1048576)
def OpenSpec.upto (s : _root_.Go.ChangeSpec) : _root_.Go.OpenSpec := { _root_.Go.OpenSpec.ofChange s with cond := some uptoSmall }

/-- 'shinglelaw04.LutSteps', WHERE WHAT IT READS IS OF BULK AT MOST 1048576: true; the input reads as it did. -/
def lutStepsUptoRow : OpenClaim := { program := "ytcgjbjkhclphpaadoor", sum := "8d47c9cd6438647425d167eeb2de6ddd9f17f9a00c69bb213cb18f4233bc3432", func := "shingle/shinglelaw04.LutSteps", spec := "lutSteps", named := ["shingle/lut.quarters"], apart := false, laid := [("shingle/lut.quarters", laid_shingle_lut_quarters)], narrowed := true }
def LutStepsUptoSaid : Prop := lutStepsUptoRow.holds Tryd.pinned (OpenSpec.upto lutStepsSpec)

/-- 'shinglelaw04.LutFactors', WHERE WHAT IT READS IS OF BULK AT MOST 1048576: true; the input reads as it did. -/
def lutFactorsUptoRow : OpenClaim := { program := "ytcgjbjkhclphpaadoor", sum := "8d47c9cd6438647425d167eeb2de6ddd9f17f9a00c69bb213cb18f4233bc3432", func := "shingle/shinglelaw04.LutFactors", spec := "lutFactors", named := ["shingle/lut.quarters"], apart := false, laid := [("shingle/lut.quarters", laid_shingle_lut_quarters)], narrowed := true }
def LutFactorsUptoSaid : Prop := lutFactorsUptoRow.holds Tryd.pinned (OpenSpec.upto lutFactorsSpec)

/-- 'shinglelaw04.LutStays', WHERE WHAT IT READS IS OF BULK AT MOST 1048576: true; the input reads as it did. -/
def lutStaysUptoRow : OpenClaim := { program := "ytcgjbjkhclphpaadoor", sum := "8d47c9cd6438647425d167eeb2de6ddd9f17f9a00c69bb213cb18f4233bc3432", func := "shingle/shinglelaw04.LutStays", spec := "lutStays", named := ["shingle/lut.quarters"], apart := false, laid := [("shingle/lut.quarters", laid_shingle_lut_quarters)], narrowed := true }
def LutStaysUptoSaid : Prop := lutStaysUptoRow.holds Tryd.pinned (OpenSpec.upto lutStaysSpec)

end Rows
end Go.Proofs.YtcgjbjkhclphpaaDoor
