/-
  Package bits: the other calls of a writer.
-/
import Derived.Test.YtjjcekmmdngekaaBitsW
import Derived.Laws.CopyOwn
import Derived.Deep.OwnRows
import Derived.Laws.Bits64b
namespace Go.Proofs.Ytjjcekmmdngekaa
open Go.RowKit

theorem shr_and (x : Int) (k : Nat) (hx : 0 ≤ x) (hx2 : x < 18446744073709551616) : (Go.bits .and .u64 (x / 2 ^ k) 1 == 1) = x.toNat.testBit k := by
  obtain ⟨y, rfl⟩ := Int.eq_ofNat_of_zero_le hx
  have h1 : ((y : Int) / 2 ^ k) = ((y / 2 ^ k : Nat) : Int) := by simp
  have hle : y / 2 ^ k ≤ y := Nat.div_le_self _ _
  have h2 : Go.bits .and .u64 ((y / 2 ^ k : Nat) : Int) 1 = ((y / 2 ^ k &&& 1 : Nat) : Int) := u64_and_nat (y / 2 ^ k) 1 (by omega) (by decide)
  rw [h1, h2, Nat.and_one_is_mod, Int.toNat_natCast, Nat.testBit_eq_decide_div_mod_eq]
  rw [Bool.eq_iff_iff]
  simp
  omega

/-- One world is the other: behind a name, so that the walk leaves it standing. -/
def SameW (a b : World) : Prop := a = b
theorem SameW.rfl {a : World} : SameW a a := Eq.refl a

/-- Len. -/
theorem len_any (w : World) (p : Nat) (v : Value) (zs : List Nat) (s : List Bool) (h : Wr w p v zs s) :
    Calls Try.prog 11 #[.pointer (some ⟨p, 0, none⟩)] w fun e w' => e = .returned (.int .i64 (s.length : Int)) ∧ w' = w := by
  have hc1 := h.blk.cell 1
  simp at hc1
  go_enter Try.func11, Try.ntmps11
  go_wp2
  go_ret
  exact ⟨rfl, rfl⟩

theorem len_nil (w : World) : Calls Try.prog 11 #[.pointer none] w fun e w' => e = .returned (.int .i64 0) ∧ w' = w := by
  go_enter Try.func11, Try.ntmps11
  go_wp2
  go_ret
  exact ⟨rfl, rfl⟩

/-- A slice value that reads as the cells cs. -/
def Reads (w : World) (v : Value) (cs : List Value) : Prop :=
  ∃ a cap, v = .slice a cs.length cap ∧ (0 < cs.length → ∃ ad, a = some ad ∧ ∀ j u, cs[j]? = some u → w.cell? (ad.add j) = some u)

theorem Reads.of_owns {w : World} {base : Nat} {e : TypeId} {v : Value} {xs : List Value} (h : w.ownsRow base e 1 v xs.length xs) : Reads w v xs := by
  rcases h.2 with ⟨rfl, h0⟩ | ⟨g, cap, cur, rfl, _⟩
  · exact ⟨none, 0, by rw [h0], fun hp => by omega⟩
  · exact ⟨_, cap, rfl, fun _ => ⟨_, rfl, fun j u hu => h.cells (g := g) rfl j u hu⟩⟩

theorem splice_all {α : Type} (L cs : List α) (h : cs.length = L.length) : splice L 0 cs = cs := by
  simp [splice, h]

theorem rowOf_one (zs : List Nat) : ∀ u ∈ rowOf zs, u.oneCell' = true := by
  intro u hu
  simp [rowOf] at hu
  obtain ⟨z, _, rfl⟩ := hu
  rfl

/-- What copy leaves where all of a new row is filled. -/
theorem copy_fresh (w : World) (a : Option Addr) (cap : Nat) (zs : List Nat) (hc : 0 < zs.length → ∃ ad, a = some ad ∧ ∀ (j : Nat) (u : Value), (rowOf zs)[j]? = some u → w.cell? (ad.add j) = some u) (t u : TypeId) :
    ∃ w', (Builtin.copy_ #[24, 24] t #[.slice (some ⟨w.heap.size, 0, none⟩) zs.length zs.length, .slice a zs.length cap]).run Try.prog (w.alloc (.cells (madeCells #[.int .u8 0] zs.length) u)) = .ok (.int .i64 (zs.length : Int)) w' ∧
      Blk w' w.heap.size (rowOf zs).toArray u ∧ w'.heap.size = w.heap.size + 1 ∧ Fr (fun _ => False) w w' := by
  have hsz : (Try.prog.info? 5).map (·.size) = some 1 := by
    obtain ⟨i0, hi, _, hz1, _⟩ := info_parts Try.info_u8
    rw [hi]; simp [hz1]
  by_cases h0 : zs.length = 0
  · refine ⟨w.alloc (.cells (madeCells #[.int .u8 0] zs.length) u), ?_, ?_, ?_, (Fr.refl _ w).alloc _⟩
    · have := run_copy_none (P := Try.prog) (w.alloc (.cells (madeCells #[.int .u8 0] zs.length) u)) 24 24 t 5 (some ⟨w.heap.size, 0, none⟩) a zs.length zs.length zs.length cap Try.underlying24 hsz (by simp [h0])
      rw [this, h0]; rfl
    · obtain rfl : zs = [] := List.eq_nil_of_length_eq_zero h0
      have e : madeCells #[Value.int .u8 0] 0 = #[] := by simp [madeCells]
      simpa [rowOf, e] using Blk.new w #[] u
    · simp
  · obtain ⟨ad, rfl, hcell⟩ := hc (by omega)
    have hlt : ∀ j v, (rowOf zs)[j]? = some v → (w.alloc (.cells (madeCells #[.int .u8 0] zs.length) u)).cell? (ad.add j) = some v := by
      intro j v hv
      have h1 := hcell j v hv
      rw [World.cell?_of_block (w := w) (Below.heap_alloc _ _ _ (cell_lt h1))]
      exact h1
    have := run_copy_row (P := Try.prog) (w.alloc (.cells (madeCells #[.int .u8 0] zs.length) u)) 24 24 t 5 w.heap.size 0 zs.length zs.length ad zs.length cap (madeCells #[.int .u8 0] zs.length) u (rowOf zs) Try.underlying24 hsz (heap_alloc_new w _) (by simp [rowOf_length]) hlt (by simp [rowOf_length, size_madeCells]) (rowOf_one zs)
    have e : ((madeCells #[.int .u8 0] zs.length).toList.take 0 ++ rowOf zs ++ (madeCells #[.int .u8 0] zs.length).toList.drop (0 + (rowOf zs).length)) = rowOf zs := by
      simp [toList_madeCells_one, rowOf_length]
    rw [e, rowOf_length] at this
    refine ⟨_, this, ?_, ?_, ?_⟩
    · exact setRow_heap (w.alloc (.cells (madeCells #[.int .u8 0] zs.length) u)) w.heap.size (madeCells #[.int .u8 0] zs.length) (rowOf zs).toArray u (0, 0) (heap_alloc_new w _)
    · simp [World.setRow]
    · exact ((Fr.refl _ w).alloc _).setRow (fun hlt => absurd hlt (by simp)) _

/-- A fresh copy. -/
theorem fresh_any (w : World) (v : Value) (zs : List Nat) (h : Reads w v (rowOf zs)) (hn : zs.length ≤ 100000000000000) :
    Calls Try.prog 29 #[v] w fun e w' => ∃ q, e = .returned (.slice (some ⟨q, 0, none⟩) zs.length zs.length) ∧ Blk w' q (rowOf zs).toArray 5 ∧ w.heap.size ≤ q ∧ Fr (fun _ => False) w w' := by
  obtain ⟨a, cap, rfl, hc⟩ := h
  rw [rowOf_length] at hc ⊢
  have hmk := run_make_row' (P := Try.prog) 24 5 (.int .u8 0) 1 Try.underlying24 Try.info_u8 rfl .i64 .i64 zs.length (by omega) (by omega)
  obtain ⟨w1, hrun, b1, b2, b3⟩ := copy_fresh w a cap zs hc 3 5
  clear b2 hc
  go_enter Try.func29, Try.ntmps29
  go_wp2
  go_ret
  exact ⟨_, rfl, b1, Nat.le_refl _, b3⟩

/-- Bytes. -/
theorem bytes_any (w : World) (p : Nat) (v : Value) (zs : List Nat) (s : List Bool) (h : Wr w p v zs s) (hn : s.length ≤ 1000000000000) :
    Calls Try.prog 14 #[.pointer (some ⟨p, 0, none⟩)] w fun e w' => ∃ q, e = .returned (.slice (some ⟨q, 0, none⟩) zs.length zs.length) ∧ Blk w' q (rowOf zs).toArray 5 ∧ w.heap.size ≤ q ∧ Fr (fun _ => False) w w' := by
  have hl := h.packs.len
  have hz : zs.length ≤ 100000000000000 := by omega
  have hc0 := h.blk.cell 0
  simp at hc0
  have HR : Hid (Reads w v (rowOf zs)) := Reads.of_owns (by rw [rowOf_length]; exact h.own)
  clear hl
  go_enter Try.func14, Try.ntmps14
  go_wp2_with (go_at_call 29; refine (fresh_any w v zs HR.out hz).mono ?_; rintro e w' ⟨q, rfl, b1, b2, b3⟩)
  go_ret
  exact ⟨q, rfl, b1, b2, b3⟩

theorem bytes_nil (w : World) : Calls Try.prog 14 #[.pointer none] w fun e w' => e = .returned (.slice none 0 0) ∧ w' = w := by
  go_enter Try.func14, Try.ntmps14
  go_wp2
  go_ret
  exact ⟨rfl, rfl⟩
end Go.Proofs.Ytjjcekmmdngekaa
