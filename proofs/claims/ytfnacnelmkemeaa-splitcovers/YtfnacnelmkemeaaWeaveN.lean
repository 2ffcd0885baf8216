/-
  A region that draws its order, inside a loop over a function: by what each operation gives.
-/
import Derived.Test.YtfnacnelmkemeaaWeaveT
namespace Go.Proofs.Ytfnacnelmkemeaa
open Go.RowKit

/-- A list that was just written down. -/
def StayP.lit (cs : Array Value) (t : TypeId) (n : Nat) : StayP := ⟨fun v w => ∃ g, v = .slice (some ⟨g, 0, none⟩) n n ∧ Blk w g cs t, fun ⟨g, e, b⟩ f => ⟨g, e, b.fr f (fun h => h)⟩⟩
theorem weaveSTI {P : Program} {m id : Nat} {Q : Exit → Act → World → Prop} {A : Act} {w : World} {l : List Oper} (n : Nat) (ps : List StayP) (hm : P.follows .mixedOrders = true) (hB : weaveBT l n A.tmps.size = true)
    (hO : Obls P l.toArray (fillA A (l.take n)) (Fr (fun _ => False)) w.drew (phiOf ps) 0 (l.take n)) (hT : ∀ vals w', Fr (fun _ => False) w.drew w' → (∀ j, j < n → phiOf ps j (vals j) w') → wpListIn Fence.wide m P l.toArray Q (l.drop n) (fillA A (l.take n) vals) w') : (Code.region id l.toArray true).wpIn Fence.wide m P Q A w :=
  weaveInT (open_wide P) n hm hB (Fr (fun _ => False)) (Fr.refl _) Fr.trans' (phiOf ps) (fun j _ _ _ h f => (ps.getD j StayP.any).st h f) hO hT
end Go.Proofs.Ytfnacnelmkemeaa
