/-
  No cell of these rows narrows 'for every input' (looked for: loops, veiled, ifaces, maps, wideKeys, modest, calm, conditions, laid).
  DERIVED. THE GIVEN ROWS OF THIS SEAT. 4 by the template 'for every input the law returns true; each argument reads behind the call as it read before'; 0 by the template 'total and deterministic' (their statements: YtonalomagfekaaaTotals.lean).
  GIVEN WITH THE SEED: the statements are not yours to turn. If you find one false, say at which input.
  Laid BY PROGRAM, IN A SANDBOX (cutbox-rows.mjs): the forced cells as the released guide's own fill.sh prints them over the translation 10077099d7ab5f44… (all of the seat's roots in one cut). By AI agents, Wed Nov 11 2026. No macro, syntax, notation, axiom, sorry.
-/
import Derived.Test.YtonalomagfekaaaChecked
import GoSem.Claim
import GoSem.ClaimJoined
import GoSem.ClaimMapViews
import Derived.JoinedTies
import Derived.KernelRfl
namespace Go.Proofs.Ytonalomagfekaaa
/- THE CELL 'sum', in the pinned program and in every row, IS THE sha256 OF THE DUMP (.gsa) THAT YtonalomagfekaaaProg.lean LOADS. Nothing in Lean hashes anything: it is a label: what it is worth is what the hold of that sum in a sandbox is worth. -/
noncomputable def Try.pinned : Pinned := { name := "ytonalomagfekaaa", sum := "10077099d7ab5f443bd34ce2252cb8328bf793fbc05b8dca58682c873b46ab1d", checked := Try.checked }
namespace Rows
def none {H : Type} : Left H := { results := [], args := [] }

/-- 'shinglelaw09.WaveTurns': WHATEVER THE INPUT: true; the input reads as it did. -/
def waveTurnsSpec : ChangeSpec := { name := "waveTurns", fn := fun _ => fun
  | [d1, d2, d3] => { results := [.lit (.bool true)], args := [d1, d2, d3] }
  | _ => none }
def waveTurnsRow : OpenClaim := { program := "ytonalomagfekaaa", sum := "10077099d7ab5f443bd34ce2252cb8328bf793fbc05b8dca58682c873b46ab1d", func := "shingle/shinglelaw09.WaveTurns", spec := "waveTurns", unfollowed := true, recurses := true, apart := false }
def WaveTurnsSaid : Prop := waveTurnsRow.holds Try.pinned (OpenSpec.ofChange waveTurnsSpec)

/-- ITS FALSE NEIGHBOUR: 'it returns false'. Refute it at one input. -/
def waveTurnsWrong : ChangeSpec := { name := "waveTurns", fn := fun _ => fun
  | [d1, d2, d3] => { results := [.lit (.bool false)], args := [d1, d2, d3] }
  | _ => none }
def WaveTurnsWrongFalsely : Prop := waveTurnsRow.holds Try.pinned (OpenSpec.ofChange waveTurnsWrong)

/-- 'shinglelaw09.WavePads': WHATEVER THE INPUT: true; the input reads as it did. -/
def wavePadsSpec : ChangeSpec := { name := "wavePads", fn := fun _ => fun
  | [d1, d2, d3] => { results := [.lit (.bool true)], args := [d1, d2, d3] }
  | _ => none }
def wavePadsRow : OpenClaim := { program := "ytonalomagfekaaa", sum := "10077099d7ab5f443bd34ce2252cb8328bf793fbc05b8dca58682c873b46ab1d", func := "shingle/shinglelaw09.WavePads", spec := "wavePads", unfollowed := true, recurses := true, apart := false }
def WavePadsSaid : Prop := wavePadsRow.holds Try.pinned (OpenSpec.ofChange wavePadsSpec)

/-- ITS FALSE NEIGHBOUR: 'it returns false'. Refute it at one input. -/
def wavePadsWrong : ChangeSpec := { name := "wavePads", fn := fun _ => fun
  | [d1, d2, d3] => { results := [.lit (.bool false)], args := [d1, d2, d3] }
  | _ => none }
def WavePadsWrongFalsely : Prop := wavePadsRow.holds Try.pinned (OpenSpec.ofChange wavePadsWrong)

/-- 'shinglelaw09.WaveBack': WHATEVER THE INPUT: true; the input reads as it did. -/
def waveBackSpec : ChangeSpec := { name := "waveBack", fn := fun _ => fun
  | [d1, d2, d3] => { results := [.lit (.bool true)], args := [d1, d2, d3] }
  | _ => none }
def waveBackRow : OpenClaim := { program := "ytonalomagfekaaa", sum := "10077099d7ab5f443bd34ce2252cb8328bf793fbc05b8dca58682c873b46ab1d", func := "shingle/shinglelaw09.WaveBack", spec := "waveBack", unfollowed := true, recurses := true, apart := false }
def WaveBackSaid : Prop := waveBackRow.holds Try.pinned (OpenSpec.ofChange waveBackSpec)

/-- ITS FALSE NEIGHBOUR: 'it returns false'. Refute it at one input. -/
def waveBackWrong : ChangeSpec := { name := "waveBack", fn := fun _ => fun
  | [d1, d2, d3] => { results := [.lit (.bool false)], args := [d1, d2, d3] }
  | _ => none }
def WaveBackWrongFalsely : Prop := waveBackRow.holds Try.pinned (OpenSpec.ofChange waveBackWrong)

/-- 'shinglelaw09.WaveRaised': WHATEVER THE INPUT: true; the input reads as it did. -/
def waveRaisedSpec : ChangeSpec := { name := "waveRaised", fn := fun _ => fun
  | [d1, d2, d3] => { results := [.lit (.bool true)], args := [d1, d2, d3] }
  | _ => none }
def waveRaisedRow : OpenClaim := { program := "ytonalomagfekaaa", sum := "10077099d7ab5f443bd34ce2252cb8328bf793fbc05b8dca58682c873b46ab1d", func := "shingle/shinglelaw09.WaveRaised", spec := "waveRaised", unfollowed := true, recurses := true, apart := false }
def WaveRaisedSaid : Prop := waveRaisedRow.holds Try.pinned (OpenSpec.ofChange waveRaisedSpec)

/-- ITS FALSE NEIGHBOUR: 'it returns false'. Refute it at one input. -/
def waveRaisedWrong : ChangeSpec := { name := "waveRaised", fn := fun _ => fun
  | [d1, d2, d3] => { results := [.lit (.bool false)], args := [d1, d2, d3] }
  | _ => none }
def WaveRaisedWrongFalsely : Prop := waveRaisedRow.holds Try.pinned (OpenSpec.ofChange waveRaisedWrong)

/- THE SECOND FORM. 'bulk': how many values and letters a reading holds, each counted each time it is reached (what is shared counts as often as it is met; a slice's spare places count too). A statement '..UptoSaid' is the law's where the arguments, and the package variables that the reading takes, are together of bulk at most 1048576: NARROWER than '..Said'. Prove '..Said' where nothing that the law and all that it calls make is longer than what came in: it says more and counts as full. Else prove '..UptoSaid'. A law counts once. -/
mutual
def uptoBulk {H : Type} : DataW H → Nat
  | .lit (.string bytes) => bytes.length + 1
  | .lit _ => 1
  | .nil => 1
  | .ptr d => uptoBulk d + 1
  | .slice elems spare => uptoBulkAll elems + uptoBulkAll spare + 1
  | .agg parts => uptoBulkAll parts + 1
  | .iface _ d => uptoBulk d + 1
  | .map entries => uptoBulkEntries entries + 1
  | .held _ => 1
def uptoBulkAll {H : Type} : List (DataW H) → Nat
  | [] => 0
  | d :: r => uptoBulk d + uptoBulkAll r
def uptoBulkEntries {H : Type} : List (Lit × DataW H) → Nat
  | [] => 0
  | x :: r => uptoBulkEntry x + uptoBulkEntries r
def uptoBulkEntry {H : Type} : Lit × DataW H → Nat
  | (.string bytes, d) => bytes.length + uptoBulk d + 1
  | (_, d) => uptoBulk d + 1
 end
def uptoSmall : (H : Type) → List (DataW H) → Bool := fun _ ds => decide (uptoBulkAll ds ≤ 1048576)
def OpenSpec.upto (s : _root_.Go.ChangeSpec) : _root_.Go.OpenSpec := { _root_.Go.OpenSpec.ofChange s with cond := some uptoSmall }

/-- 'shinglelaw09.WaveTurns', WHERE WHAT IT READS IS OF BULK AT MOST 1048576: true; the input reads as it did. -/
def waveTurnsUptoRow : OpenClaim := { program := "ytonalomagfekaaa", sum := "10077099d7ab5f443bd34ce2252cb8328bf793fbc05b8dca58682c873b46ab1d", func := "shingle/shinglelaw09.WaveTurns", spec := "waveTurns", unfollowed := true, recurses := true, apart := false, narrowed := true }
def WaveTurnsUptoSaid : Prop := waveTurnsUptoRow.holds Try.pinned (OpenSpec.upto waveTurnsSpec)

/-- 'shinglelaw09.WavePads', WHERE WHAT IT READS IS OF BULK AT MOST 1048576: true; the input reads as it did. -/
def wavePadsUptoRow : OpenClaim := { program := "ytonalomagfekaaa", sum := "10077099d7ab5f443bd34ce2252cb8328bf793fbc05b8dca58682c873b46ab1d", func := "shingle/shinglelaw09.WavePads", spec := "wavePads", unfollowed := true, recurses := true, apart := false, narrowed := true }
def WavePadsUptoSaid : Prop := wavePadsUptoRow.holds Try.pinned (OpenSpec.upto wavePadsSpec)

/-- 'shinglelaw09.WaveBack', WHERE WHAT IT READS IS OF BULK AT MOST 1048576: true; the input reads as it did. -/
def waveBackUptoRow : OpenClaim := { program := "ytonalomagfekaaa", sum := "10077099d7ab5f443bd34ce2252cb8328bf793fbc05b8dca58682c873b46ab1d", func := "shingle/shinglelaw09.WaveBack", spec := "waveBack", unfollowed := true, recurses := true, apart := false, narrowed := true }
def WaveBackUptoSaid : Prop := waveBackUptoRow.holds Try.pinned (OpenSpec.upto waveBackSpec)

/-- 'shinglelaw09.WaveRaised', WHERE WHAT IT READS IS OF BULK AT MOST 1048576: true; the input reads as it did. -/
def waveRaisedUptoRow : OpenClaim := { program := "ytonalomagfekaaa", sum := "10077099d7ab5f443bd34ce2252cb8328bf793fbc05b8dca58682c873b46ab1d", func := "shingle/shinglelaw09.WaveRaised", spec := "waveRaised", unfollowed := true, recurses := true, apart := false, narrowed := true }
def WaveRaisedUptoSaid : Prop := waveRaisedUptoRow.holds Try.pinned (OpenSpec.upto waveRaisedSpec)

end Rows
end Go.Proofs.Ytonalomagfekaaa
