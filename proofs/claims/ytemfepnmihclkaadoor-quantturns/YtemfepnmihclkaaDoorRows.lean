/-
  NARROWER THAN 'FOR EVERY INPUT', by the rows' own cells (each row's printed sentence says how): QuantTurns: laid · QuantNear: laid · QuantCoarser: laid.
  DERIVED. THE GIVEN ROWS OF THIS SEAT. 3 by the template 'for every input the law returns true; each argument reads behind the call as it read before'; 0 by the template 'total and deterministic' (their statements: YtemfepnmihclkaaDoorTotals.lean).
  GIVEN WITH THE SEED: the statements are not yours to turn. If you find one false, say at which input.
  Laid BY PROGRAM, IN A SANDBOX (cutbox-rows.mjs): the forced cells as the released guide's own fill.sh prints them over the translation 45ceec1c60372ba2… (all of the seat's roots in one cut). By AI agents, Wed Nov 11 2026. No macro, syntax, notation, axiom, sorry.
-/
import Derived.Test.YtemfepnmihclkaaDoorChecked
import GoSem.Claim
import GoSem.ClaimJoined
import GoSem.ClaimMapViews
import Derived.JoinedTies
import Derived.KernelRfl
namespace Go.Proofs.YtemfepnmihclkaaDoor
/- THE CELL 'sum', in the pinned program and in every row, IS THE sha256 OF THE DUMP (.gsa) THAT YtemfepnmihclkaaDoorProg.lean LOADS. Nothing in Lean hashes anything: it is a label: what it is worth is what the hold of that sum in a sandbox is worth. -/
noncomputable def Tryd.pinned : Pinned := { name := "ytemfepnmihclkaadoor", sum := "45ceec1c60372ba23d7fb77226352fe19d78684073bf5477b91fe7d8c8dafe80", checked := Tryd.checked }
namespace Rows
def none {H : Type} : Left H := { results := [], args := [] }

/- WHAT THE LISTED PACKAGE-LEVEL VARIABLES READ AS WHEN THE CALL BEGINS. Each datum BY PROGRAM (the guide's laid-datum.mjs) off the statement by which the dump's own 'gosem.cut.vars' lays the variable. In a bare row this is a premise. The card (YtemfepnmihclkaaDoorCards.lean) ties it to the program's text. -/
def laid_shingle_lut_quarters {H : Type} : DataW H := .agg [.agg [.lit (.int .i64 4), .lit (.int .i64 0), .lit (.int .i64 1)], .agg [.lit (.int .i64 503829), .lit (.int .i64 52958), .lit (.int .i64 105917)], .agg [.lit (.int .i64 665857), .lit (.int .i64 58854), .lit (.int .i64 117708)], .agg [.lit (.int .i64 440253), .lit (.int .i64 32722), .lit (.int .i64 65444)]]

/-- 'shinglelaw11.QuantTurns': WHATEVER THE INPUT: true; the input reads as it did. -/
def quantTurnsSpec : ChangeSpec := { name := "quantTurns", fn := fun _ => fun
  | [d1, d2, d3] => { results := [.lit (.bool true)], args := [d1, d2, d3] }
  | _ => none }
def quantTurnsRow : OpenClaim := { program := "ytemfepnmihclkaadoor", sum := "45ceec1c60372ba23d7fb77226352fe19d78684073bf5477b91fe7d8c8dafe80", func := "shingle/shinglelaw11.QuantTurns", spec := "quantTurns", named := ["shingle/lut.quarters"], apart := false, laid := [("shingle/lut.quarters", laid_shingle_lut_quarters)] }
def QuantTurnsSaid : Prop := quantTurnsRow.holds Tryd.pinned (OpenSpec.ofChange quantTurnsSpec)

/-- ITS FALSE NEIGHBOUR: 'it returns false'. Refute it at one input. -/
def quantTurnsWrong : ChangeSpec := { name := "quantTurns", fn := fun _ => fun
  | [d1, d2, d3] => { results := [.lit (.bool false)], args := [d1, d2, d3] }
  | _ => none }
def QuantTurnsWrongFalsely : Prop := quantTurnsRow.holds Tryd.pinned (OpenSpec.ofChange quantTurnsWrong)

/-- 'shinglelaw11.QuantNear': WHATEVER THE INPUT: true; the input reads as it did. -/
def quantNearSpec : ChangeSpec := { name := "quantNear", fn := fun _ => fun
  | [d1, d2, d3] => { results := [.lit (.bool true)], args := [d1, d2, d3] }
  | _ => none }
def quantNearRow : OpenClaim := { program := "ytemfepnmihclkaadoor", sum := "45ceec1c60372ba23d7fb77226352fe19d78684073bf5477b91fe7d8c8dafe80", func := "shingle/shinglelaw11.QuantNear", spec := "quantNear", named := ["shingle/lut.quarters"], apart := false, laid := [("shingle/lut.quarters", laid_shingle_lut_quarters)] }
def QuantNearSaid : Prop := quantNearRow.holds Tryd.pinned (OpenSpec.ofChange quantNearSpec)

/-- ITS FALSE NEIGHBOUR: 'it returns false'. Refute it at one input. -/
def quantNearWrong : ChangeSpec := { name := "quantNear", fn := fun _ => fun
  | [d1, d2, d3] => { results := [.lit (.bool false)], args := [d1, d2, d3] }
  | _ => none }
def QuantNearWrongFalsely : Prop := quantNearRow.holds Tryd.pinned (OpenSpec.ofChange quantNearWrong)

/-- 'shinglelaw11.QuantCoarser': WHATEVER THE INPUT: true; the input reads as it did. -/
def quantCoarserSpec : ChangeSpec := { name := "quantCoarser", fn := fun _ => fun
  | [d1, d2, d3] => { results := [.lit (.bool true)], args := [d1, d2, d3] }
  | _ => none }
def quantCoarserRow : OpenClaim := { program := "ytemfepnmihclkaadoor", sum := "45ceec1c60372ba23d7fb77226352fe19d78684073bf5477b91fe7d8c8dafe80", func := "shingle/shinglelaw11.QuantCoarser", spec := "quantCoarser", named := ["shingle/lut.quarters"], apart := false, laid := [("shingle/lut.quarters", laid_shingle_lut_quarters)] }
def QuantCoarserSaid : Prop := quantCoarserRow.holds Tryd.pinned (OpenSpec.ofChange quantCoarserSpec)

/-- ITS FALSE NEIGHBOUR: 'it returns false'. Refute it at one input. -/
def quantCoarserWrong : ChangeSpec := { name := "quantCoarser", fn := fun _ => fun
  | [d1, d2, d3] => { results := [.lit (.bool false)], args := [d1, d2, d3] }
  | _ => none }
def QuantCoarserWrongFalsely : Prop := quantCoarserRow.holds Tryd.pinned (OpenSpec.ofChange quantCoarserWrong)

/- THE SECOND FORM. 'bulk': how many values and letters a reading holds, each counted each time it is reached (what is shared counts as often as it is met; a slice's spare places count too). A statement '..UptoSaid' is the law's where the arguments, and the package variables that the reading takes, are together of bulk at most 1048576: NARROWER than '..Said'. Prove '..Said' where nothing that the law and all that it calls make is longer than what came in: it says more and counts as full. Else prove '..UptoSaid'. A law counts once. -/
mutual
def uptoBulk {H : Type} : DataW H → Nat
  | .lit (.string bytes) => bytes.length + 1
  | .lit _ => 1
  | .nil => 1
  | .ptr d => uptoBulk d + 1
  | .slice elems spare => uptoBulkAll elems + uptoBulkAll spare + 1
  | .agg parts => uptoBulkAll parts + 1
  | .iface _ d => uptoBulk d + 1
  | .map entries => uptoBulkEntries entries + 1
  | .held _ => 1
def uptoBulkAll {H : Type} : List (DataW H) → Nat
  | [] => 0
  | d :: r => uptoBulk d + uptoBulkAll r
def uptoBulkEntries {H : Type} : List (Lit × DataW H) → Nat
  | [] => 0
  | x :: r => uptoBulkEntry x + uptoBulkEntries r
def uptoBulkEntry {H : Type} : Lit × DataW H → Nat
  | (.string bytes, d) => bytes.length + uptoBulk d + 1
  | (_, d) => uptoBulk d + 1
 end
def uptoSmall : (H : Type) → List (DataW H) → Bool := fun _ ds => decide (uptoBulkAll ds ≤ 1048576)
def OpenSpec.upto (s : _root_.Go.ChangeSpec) : _root_.Go.OpenSpec := { _root_.Go.OpenSpec.ofChange s with cond := some uptoSmall }

/-- 'shinglelaw11.QuantTurns', WHERE WHAT IT READS IS OF BULK AT MOST 1048576: true; the input reads as it did. -/
def quantTurnsUptoRow : OpenClaim := { program := "ytemfepnmihclkaadoor", sum := "45ceec1c60372ba23d7fb77226352fe19d78684073bf5477b91fe7d8c8dafe80", func := "shingle/shinglelaw11.QuantTurns", spec := "quantTurns", named := ["shingle/lut.quarters"], apart := false, laid := [("shingle/lut.quarters", laid_shingle_lut_quarters)], narrowed := true }
def QuantTurnsUptoSaid : Prop := quantTurnsUptoRow.holds Tryd.pinned (OpenSpec.upto quantTurnsSpec)

/-- 'shinglelaw11.QuantNear', WHERE WHAT IT READS IS OF BULK AT MOST 1048576: true; the input reads as it did. -/
def quantNearUptoRow : OpenClaim := { program := "ytemfepnmihclkaadoor", sum := "45ceec1c60372ba23d7fb77226352fe19d78684073bf5477b91fe7d8c8dafe80", func := "shingle/shinglelaw11.QuantNear", spec := "quantNear", named := ["shingle/lut.quarters"], apart := false, laid := [("shingle/lut.quarters", laid_shingle_lut_quarters)], narrowed := true }
def QuantNearUptoSaid : Prop := quantNearUptoRow.holds Tryd.pinned (OpenSpec.upto quantNearSpec)

/-- 'shinglelaw11.QuantCoarser', WHERE WHAT IT READS IS OF BULK AT MOST 1048576: true; the input reads as it did. -/
def quantCoarserUptoRow : OpenClaim := { program := "ytemfepnmihclkaadoor", sum := "45ceec1c60372ba23d7fb77226352fe19d78684073bf5477b91fe7d8c8dafe80", func := "shingle/shinglelaw11.QuantCoarser", spec := "quantCoarser", named := ["shingle/lut.quarters"], apart := false, laid := [("shingle/lut.quarters", laid_shingle_lut_quarters)], narrowed := true }
def QuantCoarserUptoSaid : Prop := quantCoarserUptoRow.holds Tryd.pinned (OpenSpec.upto quantCoarserSpec)

end Rows
end Go.Proofs.YtemfepnmihclkaaDoor
