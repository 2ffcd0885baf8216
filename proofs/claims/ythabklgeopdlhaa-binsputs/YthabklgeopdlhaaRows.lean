/-
  No cell of these rows narrows 'for every input' (looked for: loops, veiled, ifaces, maps, wideKeys, modest, calm, conditions, laid).
  DERIVED. THE GIVEN ROWS OF THIS SEAT. 4 by the template 'for every input the law returns true; each argument reads behind the call as it read before'; 0 by the template 'total and deterministic' (their statements: YthabklgeopdlhaaTotals.lean).
  GIVEN WITH THE SEED: the statements are not yours to turn. If you find one false, say at which input.
  Laid BY PROGRAM, IN A SANDBOX (cutbox-rows.mjs): the forced cells as the released guide's own fill.sh prints them over the translation fa0b2c2ce79a0701… (all of the seat's roots in one cut). By AI agents, Wed Nov 11 2026. No macro, syntax, notation, axiom, sorry.
-/
import Derived.Test.YthabklgeopdlhaaChecked
import GoSem.Claim
import GoSem.ClaimJoined
import GoSem.ClaimMapViews
import Derived.JoinedTies
import Derived.KernelRfl
namespace Go.Proofs.Ythabklgeopdlhaa
/- THE CELL 'sum', in the pinned program and in every row, IS THE sha256 OF THE DUMP (.gsa) THAT YthabklgeopdlhaaProg.lean LOADS. Nothing in Lean hashes anything: it is a label: what it is worth is what the hold of that sum in a sandbox is worth. -/
noncomputable def Try.pinned : Pinned := { name := "ythabklgeopdlhaa", sum := "fa0b2c2ce79a0701d1723e4ae5cf7929593f1159aa7f5564df92d49fc506ebce", checked := Try.checked }
namespace Rows
def none {H : Type} : Left H := { results := [], args := [] }

/-- 'shinglelaw06.BinsPuts': WHATEVER THE INPUT: true; the input reads as it did. -/
def binsPutsSpec : ChangeSpec := { name := "binsPuts", fn := fun _ => fun
  | [d1, d2, d3] => { results := [.lit (.bool true)], args := [d1, d2, d3] }
  | _ => none }
def binsPutsRow : OpenClaim := { program := "ythabklgeopdlhaa", sum := "fa0b2c2ce79a0701d1723e4ae5cf7929593f1159aa7f5564df92d49fc506ebce", func := "shingle/shinglelaw06.BinsPuts", spec := "binsPuts", apart := false }
def BinsPutsSaid : Prop := binsPutsRow.holds Try.pinned (OpenSpec.ofChange binsPutsSpec)

/-- ITS FALSE NEIGHBOUR: 'it returns false'. Refute it at one input. -/
def binsPutsWrong : ChangeSpec := { name := "binsPuts", fn := fun _ => fun
  | [d1, d2, d3] => { results := [.lit (.bool false)], args := [d1, d2, d3] }
  | _ => none }
def BinsPutsWrongFalsely : Prop := binsPutsRow.holds Try.pinned (OpenSpec.ofChange binsPutsWrong)

/-- 'shinglelaw06.BinsGets': WHATEVER THE INPUT: true; the input reads as it did. -/
def binsGetsSpec : ChangeSpec := { name := "binsGets", fn := fun _ => fun
  | [d1, d2, d3] => { results := [.lit (.bool true)], args := [d1, d2, d3] }
  | _ => none }
def binsGetsRow : OpenClaim := { program := "ythabklgeopdlhaa", sum := "fa0b2c2ce79a0701d1723e4ae5cf7929593f1159aa7f5564df92d49fc506ebce", func := "shingle/shinglelaw06.BinsGets", spec := "binsGets", apart := false }
def BinsGetsSaid : Prop := binsGetsRow.holds Try.pinned (OpenSpec.ofChange binsGetsSpec)

/-- ITS FALSE NEIGHBOUR: 'it returns false'. Refute it at one input. -/
def binsGetsWrong : ChangeSpec := { name := "binsGets", fn := fun _ => fun
  | [d1, d2, d3] => { results := [.lit (.bool false)], args := [d1, d2, d3] }
  | _ => none }
def BinsGetsWrongFalsely : Prop := binsGetsRow.holds Try.pinned (OpenSpec.ofChange binsGetsWrong)

/-- 'shinglelaw06.BinsBack': WHATEVER THE INPUT: true; the input reads as it did. -/
def binsBackSpec : ChangeSpec := { name := "binsBack", fn := fun _ => fun
  | [d1, d2] => { results := [.lit (.bool true)], args := [d1, d2] }
  | _ => none }
def binsBackRow : OpenClaim := { program := "ythabklgeopdlhaa", sum := "fa0b2c2ce79a0701d1723e4ae5cf7929593f1159aa7f5564df92d49fc506ebce", func := "shingle/shinglelaw06.BinsBack", spec := "binsBack", apart := false }
def BinsBackSaid : Prop := binsBackRow.holds Try.pinned (OpenSpec.ofChange binsBackSpec)

/-- ITS FALSE NEIGHBOUR: 'it returns false'. Refute it at one input. -/
def binsBackWrong : ChangeSpec := { name := "binsBack", fn := fun _ => fun
  | [d1, d2] => { results := [.lit (.bool false)], args := [d1, d2] }
  | _ => none }
def BinsBackWrongFalsely : Prop := binsBackRow.holds Try.pinned (OpenSpec.ofChange binsBackWrong)

/-- 'shinglelaw06.BinsCosts': WHATEVER THE INPUT: true; the input reads as it did. -/
def binsCostsSpec : ChangeSpec := { name := "binsCosts", fn := fun _ => fun
  | [d] => { results := [.lit (.bool true)], args := [d] }
  | _ => none }
def binsCostsRow : OpenClaim := { program := "ythabklgeopdlhaa", sum := "fa0b2c2ce79a0701d1723e4ae5cf7929593f1159aa7f5564df92d49fc506ebce", func := "shingle/shinglelaw06.BinsCosts", spec := "binsCosts", apart := false }
def BinsCostsSaid : Prop := binsCostsRow.holds Try.pinned (OpenSpec.ofChange binsCostsSpec)

/-- ITS FALSE NEIGHBOUR: 'it returns false'. Refute it at one input. -/
def binsCostsWrong : ChangeSpec := { name := "binsCosts", fn := fun _ => fun
  | [d] => { results := [.lit (.bool false)], args := [d] }
  | _ => none }
def BinsCostsWrongFalsely : Prop := binsCostsRow.holds Try.pinned (OpenSpec.ofChange binsCostsWrong)

/- THE SECOND FORM. 'bulk': how many values and letters a reading holds, each counted each time it is reached (what is shared counts as often as it is met; a slice's spare places count too). A statement '..UptoSaid' is the law's where the arguments, and the package variables that the reading takes, are together of bulk at most 1048576: NARROWER than '..Said'. Prove '..Said' where nothing that the law and all that it calls make is longer than what came in: it says more and counts as full. Else prove '..UptoSaid'. A law counts once. -/
mutual
def uptoBulk {H : Type} : DataW H → Nat
  | .lit (.string bytes) => bytes.length + 1
  | .lit _ => 1
  | .nil => 1
  | .ptr d => uptoBulk d + 1
  | .slice elems spare => uptoBulkAll elems + uptoBulkAll spare + 1
  | .agg parts => uptoBulkAll parts + 1
  | .iface _ d => uptoBulk d + 1
  | .map entries => uptoBulkEntries entries + 1
  | .held _ => 1
def uptoBulkAll {H : Type} : List (DataW H) → Nat
  | [] => 0
  | d :: r => uptoBulk d + uptoBulkAll r
def uptoBulkEntries {H : Type} : List (Lit × DataW H) → Nat
  | [] => 0
  | x :: r => uptoBulkEntry x + uptoBulkEntries r
def uptoBulkEntry {H : Type} : Lit × DataW H → Nat
  | (.string bytes, d) => bytes.length + uptoBulk d + 1
  | (_, d) => uptoBulk d + 1
 end
def uptoSmall : (H : Type) → List (DataW H) → Bool := fun _ ds => decide (uptoBulkAll ds ≤ 1048576)
def OpenSpec.upto (s : _root_.Go.ChangeSpec) : _root_.Go.OpenSpec := { _root_.Go.OpenSpec.ofChange s with cond := some uptoSmall }

/-- 'shinglelaw06.BinsPuts', WHERE WHAT IT READS IS OF BULK AT MOST 1048576: true; the input reads as it did. -/
def binsPutsUptoRow : OpenClaim := { program := "ythabklgeopdlhaa", sum := "fa0b2c2ce79a0701d1723e4ae5cf7929593f1159aa7f5564df92d49fc506ebce", func := "shingle/shinglelaw06.BinsPuts", spec := "binsPuts", apart := false, narrowed := true }
def BinsPutsUptoSaid : Prop := binsPutsUptoRow.holds Try.pinned (OpenSpec.upto binsPutsSpec)

/-- 'shinglelaw06.BinsGets', WHERE WHAT IT READS IS OF BULK AT MOST 1048576: true; the input reads as it did. -/
def binsGetsUptoRow : OpenClaim := { program := "ythabklgeopdlhaa", sum := "fa0b2c2ce79a0701d1723e4ae5cf7929593f1159aa7f5564df92d49fc506ebce", func := "shingle/shinglelaw06.BinsGets", spec := "binsGets", apart := false, narrowed := true }
def BinsGetsUptoSaid : Prop := binsGetsUptoRow.holds Try.pinned (OpenSpec.upto binsGetsSpec)

/-- 'shinglelaw06.BinsBack', WHERE WHAT IT READS IS OF BULK AT MOST 1048576: true; the input reads as it did. -/
def binsBackUptoRow : OpenClaim := { program := "ythabklgeopdlhaa", sum := "fa0b2c2ce79a0701d1723e4ae5cf7929593f1159aa7f5564df92d49fc506ebce", func := "shingle/shinglelaw06.BinsBack", spec := "binsBack", apart := false, narrowed := true }
def BinsBackUptoSaid : Prop := binsBackUptoRow.holds Try.pinned (OpenSpec.upto binsBackSpec)

/-- 'shinglelaw06.BinsCosts', WHERE WHAT IT READS IS OF BULK AT MOST 1048576: true; the input reads as it did. -/
def binsCostsUptoRow : OpenClaim := { program := "ythabklgeopdlhaa", sum := "fa0b2c2ce79a0701d1723e4ae5cf7929593f1159aa7f5564df92d49fc506ebce", func := "shingle/shinglelaw06.BinsCosts", spec := "binsCosts", apart := false, narrowed := true }
def BinsCostsUptoSaid : Prop := binsCostsUptoRow.holds Try.pinned (OpenSpec.upto binsCostsSpec)

end Rows
end Go.Proofs.Ythabklgeopdlhaa
