/-
  Memory that every walk speaks of: a slice that reads as cells (Reads), rows that are owned, a step of something that holds an owned row (WrStep), copies, bytes as a string.
-/
import Derived.Test.YthabklgeopdlhaaProg
import Derived.Test.YthabklgeopdlhaaFrame
import Derived.Test.YthabklgeopdlhaaBits
import Derived.WalkKit
import Derived.WalkSpells
import Derived.WalkLawsBesides
import Derived.Outline
import Derived.Laws.CopyOwn
import Derived.Deep.OwnRows
import Derived.Laws.BytesArg
import Derived.Laws.AppendOwnNone
namespace Go.Proofs.Ythabklgeopdlhaa
open Go.RowKit

/-- Laid aside. -/
theorem hid {p : Prop} (h : p) : Hid p := h
theorem ret_int {k : IntKind} {a b : Int} (h : a = b) : Ending.returned (.int k a) = .returned (.int k b) := by rw [h]

theorem ret_bool {a b : Bool} (h : a = b) : Ending.returned (.bool a) = .returned (.bool b) := by rw [h]

/-- What a call on a writer leaves as it was, and where its bytes lie behind it. -/
structure WrStep (p : Nat) (v v' : Value) (w w' : World) : Prop where
  fr : Fr (fun k => k = p ∨ v.ownBlock = some k) w w'
  at' : v'.ownBlock = v.ownBlock ∨ ∀ k, v'.ownBlock = some k → w.heap.size ≤ k

theorem WrStep.refl (p : Nat) (v : Value) (w : World) : WrStep p v v w w := ⟨Fr.refl _ _, .inl rfl⟩

theorem WrStep.trans {p : Nat} {v v' v'' : Value} {w w' w'' : World} (h : WrStep p v v' w w') (k : WrStep p v' v'' w' w'') : WrStep p v v'' w w'' := by
  refine ⟨h.fr.trans k.fr ?_, ?_⟩
  · intro i hi hk
    rcases hk with hk | hk
    · exact .inl hk
    · rcases h.at' with e | e
      · exact .inr (e ▸ hk)
      · have := e i hk; omega
  · rcases k.at' with e | e
    · rw [e]; exact h.at'
    · exact .inr fun i hi => Nat.le_trans h.fr.size (e i hi)

theorem Try.info_u8 : (Try.prog.info? 5).map (fun i => (i.zero, i.size, i.bytes)) = some (some (.int .u8 0), 1, 1) := by kernel_rfl

/-- One world is the other: behind a name, so that the walk leaves it standing. -/
def SameW (a b : World) : Prop := a = b

theorem SameW.rfl {a : World} : SameW a a := Eq.refl a

/-- A slice value that reads as the cells cs. -/
def Reads (w : World) (v : Value) (cs : List Value) : Prop :=
  ∃ a cap, v = .slice a cs.length cap ∧ (0 < cs.length → ∃ ad, a = some ad ∧ ∀ j u, cs[j]? = some u → w.cell? (ad.add j) = some u)

theorem Reads.of_owns {w : World} {base : Nat} {e : TypeId} {v : Value} {xs : List Value} (h : w.ownsRow base e 1 v xs.length xs) : Reads w v xs := by
  rcases h.2 with ⟨rfl, h0⟩ | ⟨g, cap, cur, rfl, _⟩
  · exact ⟨none, 0, by rw [h0], fun hp => by omega⟩
  · exact ⟨_, cap, rfl, fun _ => ⟨_, rfl, fun j u hu => h.cells (g := g) rfl j u hu⟩⟩

theorem splice_all {α : Type} (L cs : List α) (h : cs.length = L.length) : splice L 0 cs = cs := by
  simp [splice, h]

theorem rowOf_one (zs : List Nat) : ∀ u ∈ rowOf zs, u.oneCell' = true := by
  intro u hu
  simp [rowOf] at hu
  obtain ⟨z, _, rfl⟩ := hu
  rfl

/-- What copy leaves where all of a new row is filled. -/
theorem copy_fresh (w : World) (a : Option Addr) (cap : Nat) (zs : List Nat) (hc : 0 < zs.length → ∃ ad, a = some ad ∧ ∀ (j : Nat) (u : Value), (rowOf zs)[j]? = some u → w.cell? (ad.add j) = some u) (t u : TypeId) :
    ∃ w', (Builtin.copy_ #[40, 40] t #[.slice (some ⟨w.heap.size, 0, none⟩) zs.length zs.length, .slice a zs.length cap]).run Try.prog (w.alloc (.cells (madeCells #[.int .u8 0] zs.length) u)) = .ok (.int .i64 (zs.length : Int)) w' ∧
      Blk w' w.heap.size (rowOf zs).toArray u ∧ w'.heap.size = w.heap.size + 1 ∧ Fr (fun _ => False) w w' := by
  have hsz : (Try.prog.info? 5).map (·.size) = some 1 := by
    obtain ⟨i0, hi, _, hz1, _⟩ := info_parts Try.info_u8
    rw [hi]; simp [hz1]
  by_cases h0 : zs.length = 0
  · refine ⟨w.alloc (.cells (madeCells #[.int .u8 0] zs.length) u), ?_, ?_, ?_, (Fr.refl _ w).alloc _⟩
    · have := run_copy_none (P := Try.prog) (w.alloc (.cells (madeCells #[.int .u8 0] zs.length) u)) 40 40 t 5 (some ⟨w.heap.size, 0, none⟩) a zs.length zs.length zs.length cap Try.underlying40 hsz (by simp [h0])
      rw [this, h0]; rfl
    · obtain rfl : zs = [] := List.eq_nil_of_length_eq_zero h0
      have e : madeCells #[Value.int .u8 0] 0 = #[] := by simp [madeCells]
      simpa [rowOf, e] using Blk.new w #[] u
    · simp
  · obtain ⟨ad, rfl, hcell⟩ := hc (by omega)
    have hlt : ∀ j v, (rowOf zs)[j]? = some v → (w.alloc (.cells (madeCells #[.int .u8 0] zs.length) u)).cell? (ad.add j) = some v := by
      intro j v hv
      have h1 := hcell j v hv
      rw [World.cell?_of_block (w := w) (Below.heap_alloc _ _ _ (cell_lt h1))]
      exact h1
    have := run_copy_row (P := Try.prog) (w.alloc (.cells (madeCells #[.int .u8 0] zs.length) u)) 40 40 t 5 w.heap.size 0 zs.length zs.length ad zs.length cap (madeCells #[.int .u8 0] zs.length) u (rowOf zs) Try.underlying40 hsz (heap_alloc_new w _) (by simp [rowOf_length]) hlt (by simp [rowOf_length, size_madeCells]) (rowOf_one zs)
    have e : ((madeCells #[.int .u8 0] zs.length).toList.take 0 ++ rowOf zs ++ (madeCells #[.int .u8 0] zs.length).toList.drop (0 + (rowOf zs).length)) = rowOf zs := by
      simp [toList_madeCells_one, rowOf_length]
    rw [e, rowOf_length] at this
    refine ⟨_, this, ?_, ?_, ?_⟩
    · exact setRow_heap (w.alloc (.cells (madeCells #[.int .u8 0] zs.length) u)) w.heap.size (madeCells #[.int .u8 0] zs.length) (rowOf zs).toArray u (0, 0) (heap_alloc_new w _)
    · simp [World.setRow]
    · exact ((Fr.refl _ w).alloc _).setRow (fun hlt => absurd hlt (by simp)) _

theorem drewN_drewN (w : World) (a b : Nat) : (w.drewN a).drewN b = w.drewN (a + b) := by simp [World.drewN, Nat.add_assoc]

theorem WrStep.outer {w w0 w' : World} {p : Nat} {v v' : Value} (st : WrStep p v v' w0 w') (f : Fr (fun _ => False) w w0) (hp : w.heap.size ≤ p) (hv : ∀ k, v.ownBlock = some k → w.heap.size ≤ k) :
    Fr (fun _ => False) w w' ∧ ∀ k, v'.ownBlock = some k → w.heap.size ≤ k := by
  constructor
  · refine f.trans st.fr ?_
    intro i hi hk
    rcases hk with rfl | hk
    · omega
    · have := hv i hk; omega
  · rcases st.at' with e | e
    · rw [e]; exact hv
    · intro k hk; exact Nat.le_trans f.size (e k hk)

theorem Reads.new (w : World) (zs : List Nat) (t : TypeId) (n : Nat) (hn : n = zs.length) : Reads (w.alloc (.cells (rowOf zs).toArray t)) (.slice (some ⟨w.heap.size, 0, none⟩) n n) (rowOf zs) := by
  subst hn
  refine ⟨_, _, by rw [rowOf_length], fun _ => ⟨_, rfl, fun j u hu => ?_⟩⟩
  exact World.news_of_block (heap_alloc_new w _) j u hu

/-- Bytes as a string. -/
def strOf (zs : List Nat) : ByteArray := strOfNums (zs.map fun (z : Nat) => (z : Int))

theorem conv_bytes (w : World) (q : Nat) (zs : List Nat) (cap : Nat) (t : TypeId) (h : Blk w q (rowOf zs).toArray t) :
    (convert 40 9 (.slice (some ⟨q, 0, none⟩) zs.length cap)).run Try.prog w = .ok (.string (strOf zs)) w := by
  refine run_convert_bytes_arg (P := Try.prog) w 40 5 Try.underlying40 Try.underlying5 q 0 zs.length cap (zs.map fun (z : Nat) => (z : Int)) (by simp) ?_ 9 Try.underlying9
  intro i hi
  rw [Nat.zero_add, h.cell i, List.getElem?_toArray, rowOf_get zs i hi]
  simp [List.getD, hi]

theorem strOf_size (zs : List Nat) : (strOf zs).size = zs.length := by simp [strOf, strOfNums_size]
theorem strOf_append (a b : List Nat) : strOf a ++ strOf b = strOf (a ++ b) := by
  apply ByteArray.ext
  simp [strOf, strOfNums, ByteArray.data_append]
theorem strOf_extract (L : List Nat) (a b : Nat) : (strOf L).extract a b = strOf ((L.drop a).take (b - a)) := by
  apply ByteArray.ext
  simp [strOf, strOfNums, ByteArray.data_extract, List.map_drop, List.map_take]
theorem strOf_get (l : List Nat) (hs : ∀ z ∈ l, z < 256) (i : Nat) (h : i < (strOf l).size) : ((strOf l)[i]'h).toNat = l.getD i 0 := by
  have h2 : i < l.length := by rwa [strOf_size] at h
  have h3 : l[i] < 256 := hs _ (List.getElem_mem h2)
  have e : (strOf l)[i]'h = UInt8.ofNat l[i] := by
    show (strOf l).data[i] = _
    simp [strOf, strOfNums]
  rw [e]
  simp [List.getD, h2]
  omega
theorem rowOf_append (a b : List Nat) : rowOf (a ++ b) = rowOf a ++ rowOf b := by simp [rowOf]

theorem conv_owned (w : World) (base : Nat) (v : Value) (zs : List Nat) (h : w.ownsRow base 5 1 v zs.length (rowOf zs)) :
    (convert 40 9 v).run Try.prog w = .ok (.string (strOf zs)) w := by
  rcases h.2 with ⟨rfl, h0⟩ | ⟨g, cap, cur, rfl, _⟩
  · obtain rfl : zs = [] := List.eq_nil_of_length_eq_zero h0
    exact run_convert_bytes_nil (P := Try.prog) w 40 5 Try.underlying40 Try.underlying5 0 0 9 Try.underlying9
  · refine run_convert_bytes_arg (P := Try.prog) w 40 5 Try.underlying40 Try.underlying5 g 0 zs.length cap (zs.map fun (z : Nat) => (z : Int)) (by simp) ?_ 9 Try.underlying9
    intro i hi
    rw [Nat.zero_add, ownsRow_cell h i _ (rowOf_get zs i hi)]
    simp [List.getD, hi]

theorem held_on {w w8 : World} {p B i : Nat} {v : Value} (f8 : Fr (fun j => j = p) w w8) (hne : ¬ B = p) (d : w.cell? ⟨B, i, none⟩ = some v) : w8.cell? ⟨B, i, none⟩ = some v :=
  (f8.cell (p := ⟨B, i, none⟩) (cell_lt d) hne).trans d

theorem held_over {w w8 : World} {p B i : Nat} {v : Value} (f8 : Fr (fun j => j = p) w.drew w8) (_hB : B < w.heap.size) (hne : ¬ B = p) (d : w.cell? ⟨B, i, none⟩ = some v) : w8.cell? ⟨B, i, none⟩ = some v :=
  held_on f8 hne d

/-- A copy of bytes that came in: 'append([]byte{}, b...)'. -/
theorem empty_own (w : World) (base : Nat) (hb : base ≤ w.heap.size) : (w.alloc (.cells #[] 5)).ownsRow base 5 1 (.slice (some ⟨w.heap.size, 0, none⟩) 0 0) 0 [] :=
  World.ownsRow_made w #[] 0 hb (by unfold maxLen; omega) rfl

theorem wpList_append_any {w : World} {ops : Array Oper} {rest : List Oper} {o : Oper} {a : Act} {Q : Exit → Act → World → Prop} (hgd : o.guard = none) (s x : Operand)
    (ho : o.op = .call { callee := .builtin .append, args := #[s, x], argTypes := #[40, 40] })
    (base : Nat) (v : Value) (n : Nat) (xs : List Value) (hs : a.eval s = v) (hown : w.ownsRow base 5 1 v n xs)
    (ad : Option Addr) (m c : Nat) (news : List Value) (hx : a.eval x = .slice ad m c) (hl : news.length = m) (hsrc : (ad = none ∧ m = 0 ∧ c = 0) ∨ ∃ q, ad = some q ∧ ∀ j u, news[j]? = some u → w.cell? (q.add j) = some u) (h1 : ∀ u ∈ news, u.oneCell' = true)
    (hbytes : n + m ≤ 100000000) (hbase : base ≤ w.heap.size)
    (h : ∀ v' w', w'.ownsRow base 5 1 v' (n + m) (xs ++ news) → w.grownBy w' v.ownBlock → wpList Try.prog ops Q rest (a.put o.dst v') w') : wpList Try.prog ops Q (o :: rest) a w := by
  obtain ⟨i0, hi, hz0, hz1, hz2⟩ := info_parts Try.info_u8
  rcases hsrc with ⟨rfl, rfl, rfl⟩ | ⟨q, rfl, hcell⟩
  · obtain rfl : news = [] := List.eq_nil_of_length_eq_zero hl
    refine wpList_append_own_none hgd s x 40 ho base 5 i0 1 Try.underlying40 hi v n xs hs hown hx ?_
    exact h v w (by simpa using hown) ⟨rfl, rfl, rfl, Nat.le_refl _, fun _ _ _ => rfl⟩
  · exact wpList_append_own w hgd s x 40 ho base 5 i0 (.int .u8 0) 1 1 Try.underlying40 hi hz0 hz1 hz2 rfl (by decide) v n xs hs hown q m c news hx (by simpa using hl) hcell h1 (by unfold maxLen; omega) (by omega) hbase (fun v' w' h2 h3 _ => h v' w' h2 h3)

theorem Try.info_int : (Try.prog.info? 3).map (fun i => (i.zero, i.size, i.bytes)) = some (some (.int .i64 0), 1, 8) := by kernel_rfl

/-- Numbers as the cells of a row. -/
def intRow (l : List Int) : List Value := l.map (Value.int .i64)

theorem intRow_length (l : List Int) : (intRow l).length = l.length := by simp [intRow]

theorem intRow_snoc (l : List Int) (z : Int) : intRow (l ++ [z]) = intRow l ++ [.int .i64 z] := by simp [intRow]

theorem intRow_get (l : List Int) (i : Nat) (h : i < l.length) : (intRow l)[i]? = some (.int .i64 (l.getD i 0)) := by simp [intRow, h, List.getD]

theorem ownsRow_zero {w : World} {base : Nat} {e : TypeId} {size : Nat} {v : Value} {n : Nat} {xs : List Value} (h : w.ownsRow base e size v n xs) : w.ownsRow 0 e size v n xs := by
  refine ⟨h.1, ?_⟩
  rcases h.2 with h2 | ⟨g, cap, cur, e1, _, r⟩
  · exact .inl h2
  · exact .inr ⟨g, cap, cur, e1, Nat.zero_le _, r⟩
theorem ownsRow_form {w : World} {base : Nat} {e : TypeId} {v : Value} {n : Nat} {xs : List Value} (h : w.ownsRow base e 1 v n xs) : ∃ a cap, v = .slice a n cap ∧ (0 < n → ∃ g, a = some ⟨g, 0, none⟩ ∧ v.ownBlock = some g) := by
  rcases h.2 with ⟨rfl, h0⟩ | ⟨g, cap, cur, rfl, _⟩
  · exact ⟨none, 0, by rw [h0], fun hp => by omega⟩
  · exact ⟨_, cap, rfl, fun _ => ⟨g, rfl, rfl⟩⟩
end Go.Proofs.Ythabklgeopdlhaa
