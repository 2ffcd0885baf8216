/-
  Package bits: the small functions (mask, width), and the writer in memory.
-/
import Derived.Test.YtjjcekmmdngekaaProg
import Derived.Test.YtjjcekmmdngekaaFrame
import Derived.Test.YtjjcekmmdngekaaBits
import Derived.WalkKit
import Derived.WalkSpells
import Derived.WalkLawsBesides
import Derived.Outline
namespace Go.Proofs.Ytjjcekmmdngekaa
open Go.RowKit

theorem ret_int {k : IntKind} {a b : Int} (h : a = b) : Ending.returned (.int k a) = .returned (.int k b) := by rw [h]
theorem ret_bool {a b : Bool} (h : a = b) : Ending.returned (.bool a) = .returned (.bool b) := by rw [h]

theorem mask_eq (n : Int) (h0 : 0 ≤ n) : (128 : Int) / 2 ^ (n % 8).toNat = ((2 ^ (7 - n.toNat % 8) : Nat) : Int) := by
  obtain ⟨m, rfl⟩ := Int.eq_ofNat_of_zero_le h0
  have e : ((m : Int) % 8).toNat = m % 8 := by omega
  rw [e, Int.toNat_natCast]
  have h : m % 8 < 8 := Nat.mod_lt _ (by decide)
  generalize m % 8 = r at h
  match r, h with
  | 0, _ => rfl
  | 1, _ => rfl
  | 2, _ => rfl
  | 3, _ => rfl
  | 4, _ => rfl
  | 5, _ => rfl
  | 6, _ => rfl
  | 7, _ => rfl

set_option maxHeartbeats 400000 in
theorem mask_any (n : Int) (w : World) (h0 : 0 ≤ n) (_h1 : n ≤ 4611686018427387904) :
    Calls Try.prog 35 #[.int .i64 n] w fun e w' => e = .returned (.int .u8 ((2 ^ (7 - n.toNat % 8) : Nat) : Int)) ∧ w' = w := by
  have hm := mask_eq n h0
  have HM : Hid ((128 : Int) / 2 ^ (n % 8).toNat = ((2 ^ (7 - n.toNat % 8) : Nat) : Int)) := hm
  clear hm
  go_enter Try.func35, Try.ntmps35
  go_wp2
  go_ret
  exact ⟨ret_int HM.out, rfl⟩

/-- A writer lies in block p: its bytes (the value v) hold zs, and these the bits s. -/
structure Wr (w : World) (p : Nat) (v : Value) (zs : List Nat) (s : List Bool) : Prop where
  blk : Blk w p #[v, .int .i64 (s.length : Int)] 26
  own : w.ownsRow (p + 1) 5 1 v zs.length (rowOf zs)
  packs : Packs zs s

/-- What a call on a writer leaves as it was, and where its bytes lie behind it. -/
structure WrStep (p : Nat) (v v' : Value) (w w' : World) : Prop where
  fr : Fr (fun k => k = p ∨ v.ownBlock = some k) w w'
  at' : v'.ownBlock = v.ownBlock ∨ ∀ k, v'.ownBlock = some k → w.heap.size ≤ k

theorem WrStep.refl (p : Nat) (v : Value) (w : World) : WrStep p v v w w := ⟨Fr.refl _ _, .inl rfl⟩
theorem WrStep.trans {p : Nat} {v v' v'' : Value} {w w' w'' : World} (h : WrStep p v v' w w') (k : WrStep p v' v'' w' w'') : WrStep p v v'' w w'' := by
  refine ⟨h.fr.trans k.fr ?_, ?_⟩
  · intro i hi hk
    rcases hk with hk | hk
    · exact .inl hk
    · rcases h.at' with e | e
      · exact .inr (e ▸ hk)
      · have := e i hk; omega
  · rcases k.at' with e | e
    · rw [e]; exact h.at'
    · exact .inr fun i hi => Nat.le_trans h.fr.size (e i hi)

theorem Wr.fr {w w' : World} {p : Nat} {v : Value} {zs : List Nat} {s : List Bool} {S : Nat → Prop} (h : Wr w p v zs s) (f : Fr S w w') (hp : ¬ S p) (hv : ∀ k, v.ownBlock = some k → ¬ S k) : Wr w' p v zs s :=
  ⟨h.blk.fr f hp, ownsRow_fr h.own f hv, h.packs⟩

theorem Wr.new (w : World) : Wr (w.alloc (.cells #[.slice none 0 0, .int .i64 0] 26)) w.heap.size (.slice none 0 0) [] [] :=
  ⟨Blk.new _ _ _, World.ownsRow_nil _ _ _ _, Packs.nil⟩

theorem Try.info_u8 : (Try.prog.info? 5).map (fun i => (i.zero, i.size, i.bytes)) = some (some (.int .u8 0), 1, 1) := by kernel_rfl

end Go.Proofs.Ytjjcekmmdngekaa
