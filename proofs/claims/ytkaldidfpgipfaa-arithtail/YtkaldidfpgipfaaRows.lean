/-
  No cell of these rows narrows 'for every input' (looked for: loops, veiled, ifaces, maps, wideKeys, modest, calm, conditions, laid).
  DERIVED. THE GIVEN ROWS OF THIS SEAT. 4 by the template 'for every input the law returns true; each argument reads behind the call as it read before'; 0 by the template 'total and deterministic' (their statements: YtkaldidfpgipfaaTotals.lean).
  GIVEN WITH THE SEED: the statements are not yours to turn. If you find one false, say at which input.
  Laid BY PROGRAM, IN A SANDBOX (cutbox-rows.mjs): the forced cells as the released guide's own fill.sh prints them over the translation 1f8e177f0bd85843… (all of the seat's roots in one cut). By AI agents, Wed Nov 11 2026. No macro, syntax, notation, axiom, sorry.
-/
import Derived.Test.YtkaldidfpgipfaaChecked
import GoSem.Claim
import GoSem.ClaimJoined
import GoSem.ClaimMapViews
import Derived.JoinedTies
import Derived.KernelRfl
namespace Go.Proofs.Ytkaldidfpgipfaa
/- THE CELL 'sum', in the pinned program and in every row, IS THE sha256 OF THE DUMP (.gsa) THAT YtkaldidfpgipfaaProg.lean LOADS. Nothing in Lean hashes anything: it is a label: what it is worth is what the hold of that sum in a sandbox is worth. -/
noncomputable def Try.pinned : Pinned := { name := "ytkaldidfpgipfaa", sum := "1f8e177f0bd858431d9883a1f1142477e2fcb8e0b935f56fcf7814db6683b457", checked := Try.checked }
namespace Rows
def none {H : Type} : Left H := { results := [], args := [] }

/-- 'shinglelaw05.ArithPuts': WHATEVER THE INPUT: true; the input reads as it did. -/
def arithPutsSpec : ChangeSpec := { name := "arithPuts", fn := fun _ => fun
  | [d1, d2] => { results := [.lit (.bool true)], args := [d1, d2] }
  | _ => none }
def arithPutsRow : OpenClaim := { program := "ytkaldidfpgipfaa", sum := "1f8e177f0bd858431d9883a1f1142477e2fcb8e0b935f56fcf7814db6683b457", func := "shingle/shinglelaw05.ArithPuts", spec := "arithPuts", apart := false }
def ArithPutsSaid : Prop := arithPutsRow.holds Try.pinned (OpenSpec.ofChange arithPutsSpec)

/-- ITS FALSE NEIGHBOUR: 'it returns false'. Refute it at one input. -/
def arithPutsWrong : ChangeSpec := { name := "arithPuts", fn := fun _ => fun
  | [d1, d2] => { results := [.lit (.bool false)], args := [d1, d2] }
  | _ => none }
def ArithPutsWrongFalsely : Prop := arithPutsRow.holds Try.pinned (OpenSpec.ofChange arithPutsWrong)

/-- 'shinglelaw05.ArithGets': WHATEVER THE INPUT: true; the input reads as it did. -/
def arithGetsSpec : ChangeSpec := { name := "arithGets", fn := fun _ => fun
  | [d1, d2, d3] => { results := [.lit (.bool true)], args := [d1, d2, d3] }
  | _ => none }
def arithGetsRow : OpenClaim := { program := "ytkaldidfpgipfaa", sum := "1f8e177f0bd858431d9883a1f1142477e2fcb8e0b935f56fcf7814db6683b457", func := "shingle/shinglelaw05.ArithGets", spec := "arithGets", apart := false }
def ArithGetsSaid : Prop := arithGetsRow.holds Try.pinned (OpenSpec.ofChange arithGetsSpec)

/-- ITS FALSE NEIGHBOUR: 'it returns false'. Refute it at one input. -/
def arithGetsWrong : ChangeSpec := { name := "arithGets", fn := fun _ => fun
  | [d1, d2, d3] => { results := [.lit (.bool false)], args := [d1, d2, d3] }
  | _ => none }
def ArithGetsWrongFalsely : Prop := arithGetsRow.holds Try.pinned (OpenSpec.ofChange arithGetsWrong)

/-- 'shinglelaw05.ArithBack': WHATEVER THE INPUT: true; the input reads as it did. -/
def arithBackSpec : ChangeSpec := { name := "arithBack", fn := fun _ => fun
  | [d1, d2] => { results := [.lit (.bool true)], args := [d1, d2] }
  | _ => none }
def arithBackRow : OpenClaim := { program := "ytkaldidfpgipfaa", sum := "1f8e177f0bd858431d9883a1f1142477e2fcb8e0b935f56fcf7814db6683b457", func := "shingle/shinglelaw05.ArithBack", spec := "arithBack", apart := false }
def ArithBackSaid : Prop := arithBackRow.holds Try.pinned (OpenSpec.ofChange arithBackSpec)

/-- ITS FALSE NEIGHBOUR: 'it returns false'. Refute it at one input. -/
def arithBackWrong : ChangeSpec := { name := "arithBack", fn := fun _ => fun
  | [d1, d2] => { results := [.lit (.bool false)], args := [d1, d2] }
  | _ => none }
def ArithBackWrongFalsely : Prop := arithBackRow.holds Try.pinned (OpenSpec.ofChange arithBackWrong)

/-- 'shinglelaw05.ArithTail': WHATEVER THE INPUT: true; the input reads as it did. -/
def arithTailSpec : ChangeSpec := { name := "arithTail", fn := fun _ => fun
  | [d1, d2] => { results := [.lit (.bool true)], args := [d1, d2] }
  | _ => none }
def arithTailRow : OpenClaim := { program := "ytkaldidfpgipfaa", sum := "1f8e177f0bd858431d9883a1f1142477e2fcb8e0b935f56fcf7814db6683b457", func := "shingle/shinglelaw05.ArithTail", spec := "arithTail", apart := false }
def ArithTailSaid : Prop := arithTailRow.holds Try.pinned (OpenSpec.ofChange arithTailSpec)

/-- ITS FALSE NEIGHBOUR: 'it returns false'. Refute it at one input. -/
def arithTailWrong : ChangeSpec := { name := "arithTail", fn := fun _ => fun
  | [d1, d2] => { results := [.lit (.bool false)], args := [d1, d2] }
  | _ => none }
def ArithTailWrongFalsely : Prop := arithTailRow.holds Try.pinned (OpenSpec.ofChange arithTailWrong)

/- THE SECOND FORM. 'bulk': how many values and letters a reading holds, each counted each time it is reached (what is shared counts as often as it is met; a slice's spare places count too). A statement '..UptoSaid' is the law's where the arguments, and the package variables that the reading takes, are together of bulk at most 1048576: NARROWER than '..Said'. Prove '..Said' where nothing that the law and all that it calls make is longer than what came in: it says more and counts as full. Else prove '..UptoSaid'. A law counts once. -/
mutual
def uptoBulk {H : Type} : DataW H → Nat
  | .lit (.string bytes) => bytes.length + 1
  | .lit _ => 1
  | .nil => 1
  | .ptr d => uptoBulk d + 1
  | .slice elems spare => uptoBulkAll elems + uptoBulkAll spare + 1
  | .agg parts => uptoBulkAll parts + 1
  | .iface _ d => uptoBulk d + 1
  | .map entries => uptoBulkEntries entries + 1
  | .held _ => 1
def uptoBulkAll {H : Type} : List (DataW H) → Nat
  | [] => 0
  | d :: r => uptoBulk d + uptoBulkAll r
def uptoBulkEntries {H : Type} : List (Lit × DataW H) → Nat
  | [] => 0
  | x :: r => uptoBulkEntry x + uptoBulkEntries r
def uptoBulkEntry {H : Type} : Lit × DataW H → Nat
  | (.string bytes, d) => bytes.length + uptoBulk d + 1
  | (_, d) => uptoBulk d + 1
 end
def uptoSmall : (H : Type) → List (DataW H) → Bool := fun _ ds => decide (uptoBulkAll ds ≤ 1048576)
def OpenSpec.upto (s : _root_.Go.ChangeSpec) : _root_.Go.OpenSpec := { _root_.Go.OpenSpec.ofChange s with cond := some uptoSmall }

/-- 'shinglelaw05.ArithPuts', WHERE WHAT IT READS IS OF BULK AT MOST 1048576: true; the input reads as it did. -/
def arithPutsUptoRow : OpenClaim := { program := "ytkaldidfpgipfaa", sum := "1f8e177f0bd858431d9883a1f1142477e2fcb8e0b935f56fcf7814db6683b457", func := "shingle/shinglelaw05.ArithPuts", spec := "arithPuts", apart := false, narrowed := true }
def ArithPutsUptoSaid : Prop := arithPutsUptoRow.holds Try.pinned (OpenSpec.upto arithPutsSpec)

/-- 'shinglelaw05.ArithGets', WHERE WHAT IT READS IS OF BULK AT MOST 1048576: true; the input reads as it did. -/
def arithGetsUptoRow : OpenClaim := { program := "ytkaldidfpgipfaa", sum := "1f8e177f0bd858431d9883a1f1142477e2fcb8e0b935f56fcf7814db6683b457", func := "shingle/shinglelaw05.ArithGets", spec := "arithGets", apart := false, narrowed := true }
def ArithGetsUptoSaid : Prop := arithGetsUptoRow.holds Try.pinned (OpenSpec.upto arithGetsSpec)

/-- 'shinglelaw05.ArithBack', WHERE WHAT IT READS IS OF BULK AT MOST 1048576: true; the input reads as it did. -/
def arithBackUptoRow : OpenClaim := { program := "ytkaldidfpgipfaa", sum := "1f8e177f0bd858431d9883a1f1142477e2fcb8e0b935f56fcf7814db6683b457", func := "shingle/shinglelaw05.ArithBack", spec := "arithBack", apart := false, narrowed := true }
def ArithBackUptoSaid : Prop := arithBackUptoRow.holds Try.pinned (OpenSpec.upto arithBackSpec)

/-- 'shinglelaw05.ArithTail', WHERE WHAT IT READS IS OF BULK AT MOST 1048576: true; the input reads as it did. -/
def arithTailUptoRow : OpenClaim := { program := "ytkaldidfpgipfaa", sum := "1f8e177f0bd858431d9883a1f1142477e2fcb8e0b935f56fcf7814db6683b457", func := "shingle/shinglelaw05.ArithTail", spec := "arithTail", apart := false, narrowed := true }
def ArithTailUptoSaid : Prop := arithTailUptoRow.holds Try.pinned (OpenSpec.upto arithTailSpec)

end Rows
end Go.Proofs.Ytkaldidfpgipfaa
