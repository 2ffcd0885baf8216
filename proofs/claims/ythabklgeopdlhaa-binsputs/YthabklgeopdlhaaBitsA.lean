/-
  Package bits: the small functions (mask, width), and the writer in memory.
-/
import Derived.Test.YthabklgeopdlhaaProg
import Derived.Test.YthabklgeopdlhaaFrame
import Derived.Test.YthabklgeopdlhaaBits
import Derived.Test.YthabklgeopdlhaaMem
import Derived.WalkKit
import Derived.WalkSpells
import Derived.WalkLawsBesides
import Derived.Outline
namespace Go.Proofs.Ythabklgeopdlhaa
open Go.RowKit

theorem mask_eq (n : Int) (h0 : 0 ≤ n) : (128 : Int) / 2 ^ (n % 8).toNat = ((2 ^ (7 - n.toNat % 8) : Nat) : Int) := by
  obtain ⟨m, rfl⟩ := Int.eq_ofNat_of_zero_le h0
  have e : ((m : Int) % 8).toNat = m % 8 := by omega
  rw [e, Int.toNat_natCast]
  have h : m % 8 < 8 := Nat.mod_lt _ (by decide)
  generalize m % 8 = r at h
  match r, h with
  | 0, _ => rfl
  | 1, _ => rfl
  | 2, _ => rfl
  | 3, _ => rfl
  | 4, _ => rfl
  | 5, _ => rfl
  | 6, _ => rfl
  | 7, _ => rfl

set_option maxHeartbeats 400000 in
theorem mask_any (n : Int) (w : World) (h0 : 0 ≤ n) (_h1 : n ≤ 4611686018427387904) :
    Calls Try.prog 71 #[.int .i64 n] w fun e w' => e = .returned (.int .u8 ((2 ^ (7 - n.toNat % 8) : Nat) : Int)) ∧ w' = w := by
  have hm := mask_eq n h0
  have HM : Hid ((128 : Int) / 2 ^ (n % 8).toNat = ((2 ^ (7 - n.toNat % 8) : Nat) : Int)) := hm
  clear hm
  go_enter Try.func71, Try.ntmps71
  go_wp2
  go_ret
  exact ⟨ret_int HM.out, rfl⟩

set_option maxHeartbeats 400000 in
theorem width_any (n : Int) (w : World) :
    Calls Try.prog 70 #[.int .i64 n] w fun e w' => e = .returned (.int .i64 (max 0 (min n 64))) ∧ w' = w := by
  go_enter Try.func70, Try.ntmps70
  go_wp2
  all_goals go_ret
  all_goals exact ⟨ret_int (by omega), rfl⟩

/-- A writer lies in block p: its bytes (the value v) hold zs, and these the bits s. -/
structure Wr (w : World) (p : Nat) (v : Value) (zs : List Nat) (s : List Bool) : Prop where
  blk : Blk w p #[v, .int .i64 (s.length : Int)] 63
  own : w.ownsRow (p + 1) 5 1 v zs.length (rowOf zs)
  packs : Packs zs s

theorem Wr.fr {w w' : World} {p : Nat} {v : Value} {zs : List Nat} {s : List Bool} {S : Nat → Prop} (h : Wr w p v zs s) (f : Fr S w w') (hp : ¬ S p) (hv : ∀ k, v.ownBlock = some k → ¬ S k) : Wr w' p v zs s :=
  ⟨h.blk.fr f hp, ownsRow_fr h.own f hv, h.packs⟩

theorem Wr.new (w : World) : Wr (w.alloc (.cells #[.slice none 0 0, .int .i64 0] 63)) w.heap.size (.slice none 0 0) [] [] :=
  ⟨Blk.new _ _ _, World.ownsRow_nil _ _ _ _, Packs.nil⟩

end Go.Proofs.Ythabklgeopdlhaa
