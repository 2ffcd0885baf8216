/-
  Memory that every walk speaks of: a slice that reads as cells (Reads), rows that are owned, a step of something that holds an owned row (WrStep), copies, bytes as a string.
-/
import Derived.Test.YtkndnibmgohcaaaProg
import Derived.Test.YtkndnibmgohcaaaFrame
import Derived.Test.YtkndnibmgohcaaaBits
import Derived.WalkKit
import Derived.WalkSpells
import Derived.WalkLawsBesides
import Derived.Outline
import Derived.Laws.CopyOwn
import Derived.Deep.OwnRows
import Derived.Laws.BytesArg
import Derived.Laws.AppendOwnNone
namespace Go.Proofs.Ytkndnibmgohcaaa
open Go.RowKit

/-- Laid aside. -/
theorem hid {p : Prop} (h : p) : Hid p := h
theorem ret_int {k : IntKind} {a b : Int} (h : a = b) : Ending.returned (.int k a) = .returned (.int k b) := by rw [h]

theorem ret_bool {a b : Bool} (h : a = b) : Ending.returned (.bool a) = .returned (.bool b) := by rw [h]

/-- What a call on a writer leaves as it was, and where its bytes lie behind it. -/
structure WrStep (p : Nat) (v v' : Value) (w w' : World) : Prop where
  fr : Fr (fun k => k = p ∨ v.ownBlock = some k) w w'
  at' : v'.ownBlock = v.ownBlock ∨ ∀ k, v'.ownBlock = some k → w.heap.size ≤ k

theorem WrStep.refl (p : Nat) (v : Value) (w : World) : WrStep p v v w w := ⟨Fr.refl _ _, .inl rfl⟩

theorem WrStep.trans {p : Nat} {v v' v'' : Value} {w w' w'' : World} (h : WrStep p v v' w w') (k : WrStep p v' v'' w' w'') : WrStep p v v'' w w'' := by
  refine ⟨h.fr.trans k.fr ?_, ?_⟩
  · intro i hi hk
    rcases hk with hk | hk
    · exact .inl hk
    · rcases h.at' with e | e
      · exact .inr (e ▸ hk)
      · have := e i hk; omega
  · rcases k.at' with e | e
    · rw [e]; exact h.at'
    · exact .inr fun i hi => Nat.le_trans h.fr.size (e i hi)

theorem Try.info_u8 : (Try.prog.info? 5).map (fun i => (i.zero, i.size, i.bytes)) = some (some (.int .u8 0), 1, 1) := by kernel_rfl

/-- One world is the other: behind a name, so that the walk leaves it standing. -/
def SameW (a b : World) : Prop := a = b

theorem SameW.rfl {a : World} : SameW a a := Eq.refl a

/-- A slice value that reads as the cells cs. -/
def Reads (w : World) (v : Value) (cs : List Value) : Prop :=
  ∃ a cap, v = .slice a cs.length cap ∧ (0 < cs.length → ∃ ad, a = some ad ∧ ∀ j u, cs[j]? = some u → w.cell? (ad.add j) = some u)

theorem Reads.of_owns {w : World} {base : Nat} {e : TypeId} {v : Value} {xs : List Value} (h : w.ownsRow base e 1 v xs.length xs) : Reads w v xs := by
  rcases h.2 with ⟨rfl, h0⟩ | ⟨g, cap, cur, rfl, _⟩
  · exact ⟨none, 0, by rw [h0], fun hp => by omega⟩
  · exact ⟨_, cap, rfl, fun _ => ⟨_, rfl, fun j u hu => h.cells (g := g) rfl j u hu⟩⟩

theorem splice_all {α : Type} (L cs : List α) (h : cs.length = L.length) : splice L 0 cs = cs := by
  simp [splice, h]

theorem rowOf_one (zs : List Nat) : ∀ u ∈ rowOf zs, u.oneCell' = true := by
  intro u hu
  simp [rowOf] at hu
  obtain ⟨z, _, rfl⟩ := hu
  rfl

theorem drewN_drewN (w : World) (a b : Nat) : (w.drewN a).drewN b = w.drewN (a + b) := by simp [World.drewN, Nat.add_assoc]

theorem WrStep.outer {w w0 w' : World} {p : Nat} {v v' : Value} (st : WrStep p v v' w0 w') (f : Fr (fun _ => False) w w0) (hp : w.heap.size ≤ p) (hv : ∀ k, v.ownBlock = some k → w.heap.size ≤ k) :
    Fr (fun _ => False) w w' ∧ ∀ k, v'.ownBlock = some k → w.heap.size ≤ k := by
  constructor
  · refine f.trans st.fr ?_
    intro i hi hk
    rcases hk with rfl | hk
    · omega
    · have := hv i hk; omega
  · rcases st.at' with e | e
    · rw [e]; exact hv
    · intro k hk; exact Nat.le_trans f.size (e k hk)

theorem Reads.new (w : World) (zs : List Nat) (t : TypeId) (n : Nat) (hn : n = zs.length) : Reads (w.alloc (.cells (rowOf zs).toArray t)) (.slice (some ⟨w.heap.size, 0, none⟩) n n) (rowOf zs) := by
  subst hn
  refine ⟨_, _, by rw [rowOf_length], fun _ => ⟨_, rfl, fun j u hu => ?_⟩⟩
  exact World.news_of_block (heap_alloc_new w _) j u hu

/-- Bytes as a string. -/
def strOf (zs : List Nat) : ByteArray := strOfNums (zs.map fun (z : Nat) => (z : Int))

theorem strOf_size (zs : List Nat) : (strOf zs).size = zs.length := by simp [strOf, strOfNums_size]
theorem strOf_append (a b : List Nat) : strOf a ++ strOf b = strOf (a ++ b) := by
  apply ByteArray.ext
  simp [strOf, strOfNums, ByteArray.data_append]
theorem strOf_extract (L : List Nat) (a b : Nat) : (strOf L).extract a b = strOf ((L.drop a).take (b - a)) := by
  apply ByteArray.ext
  simp [strOf, strOfNums, ByteArray.data_extract, List.map_drop, List.map_take]
theorem strOf_get (l : List Nat) (hs : ∀ z ∈ l, z < 256) (i : Nat) (h : i < (strOf l).size) : ((strOf l)[i]'h).toNat = l.getD i 0 := by
  have h2 : i < l.length := by rwa [strOf_size] at h
  have h3 : l[i] < 256 := hs _ (List.getElem_mem h2)
  have e : (strOf l)[i]'h = UInt8.ofNat l[i] := by
    show (strOf l).data[i] = _
    simp [strOf, strOfNums]
  rw [e]
  simp [List.getD, h2]
  omega
theorem rowOf_append (a b : List Nat) : rowOf (a ++ b) = rowOf a ++ rowOf b := by simp [rowOf]

theorem held_on {w w8 : World} {p B i : Nat} {v : Value} (f8 : Fr (fun j => j = p) w w8) (hne : ¬ B = p) (d : w.cell? ⟨B, i, none⟩ = some v) : w8.cell? ⟨B, i, none⟩ = some v :=
  (f8.cell (p := ⟨B, i, none⟩) (cell_lt d) hne).trans d

theorem held_over {w w8 : World} {p B i : Nat} {v : Value} (f8 : Fr (fun j => j = p) w.drew w8) (_hB : B < w.heap.size) (hne : ¬ B = p) (d : w.cell? ⟨B, i, none⟩ = some v) : w8.cell? ⟨B, i, none⟩ = some v :=
  held_on f8 hne d

/-- A copy of bytes that came in: 'append([]byte{}, b...)'. -/
theorem empty_own (w : World) (base : Nat) (hb : base ≤ w.heap.size) : (w.alloc (.cells #[] 5)).ownsRow base 5 1 (.slice (some ⟨w.heap.size, 0, none⟩) 0 0) 0 [] :=
  World.ownsRow_made w #[] 0 hb (by unfold maxLen; omega) rfl

theorem Try.info_int : (Try.prog.info? 3).map (fun i => (i.zero, i.size, i.bytes)) = some (some (.int .i64 0), 1, 8) := by kernel_rfl

/-- Numbers as the cells of a row. -/
def intRow (l : List Int) : List Value := l.map (Value.int .i64)

theorem intRow_length (l : List Int) : (intRow l).length = l.length := by simp [intRow]

theorem intRow_snoc (l : List Int) (z : Int) : intRow (l ++ [z]) = intRow l ++ [.int .i64 z] := by simp [intRow]

theorem intRow_get (l : List Int) (i : Nat) (h : i < l.length) : (intRow l)[i]? = some (.int .i64 (l.getD i 0)) := by simp [intRow, h, List.getD]

theorem ownsRow_zero {w : World} {base : Nat} {e : TypeId} {size : Nat} {v : Value} {n : Nat} {xs : List Value} (h : w.ownsRow base e size v n xs) : w.ownsRow 0 e size v n xs := by
  refine ⟨h.1, ?_⟩
  rcases h.2 with h2 | ⟨g, cap, cur, e1, _, r⟩
  · exact .inl h2
  · exact .inr ⟨g, cap, cur, e1, Nat.zero_le _, r⟩
theorem ownsRow_form {w : World} {base : Nat} {e : TypeId} {v : Value} {n : Nat} {xs : List Value} (h : w.ownsRow base e 1 v n xs) : ∃ a cap, v = .slice a n cap ∧ (0 < n → ∃ g, a = some ⟨g, 0, none⟩ ∧ v.ownBlock = some g) := by
  rcases h.2 with ⟨rfl, h0⟩ | ⟨g, cap, cur, rfl, _⟩
  · exact ⟨none, 0, by rw [h0], fun hp => by omega⟩
  · exact ⟨_, cap, rfl, fun _ => ⟨g, rfl, rfl⟩⟩
theorem Fr.setNew {a w : World} (h : Fr (fun _ => False) a w) {p : Addr} (hp : a.heap.size ≤ p.block) (u : Value) : Fr (fun _ => False) a (w.setCell p u) := h.setCell (fun hl => absurd hl (by omega)) u
end Go.Proofs.Ytkndnibmgohcaaa
