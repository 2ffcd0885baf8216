/-
  Package bits: one bit more.
-/
import Derived.Test.YthabklgeopdlhaaBitsA
import Derived.Laws.BitsAllLaws
import Derived.StillTailTactics
namespace Go.Proofs.Ythabklgeopdlhaa
open Go.RowKit

/-- A bit more that is nought, where the last byte has room. -/
theorem bit_in_false (w : World) (p : Nat) (v : Value) (zs : List Nat) (s : List Bool) (h : Wr w p v zs s) (hn : s.length ≤ 1000000000000) (hr : s.length % 8 ≠ 0) :
    Calls Try.prog 45 #[.pointer (some ⟨p, 0, none⟩), .bool false] w fun e w' => e = .returned (.tuple #[]) ∧ ∃ v' zs', Wr w' p v' zs' (s ++ [false]) ∧ WrStep p v v' w w' := by
  have hc0 := h.blk.cell 0
  have hc1 := h.blk.cell 1
  have hf := h.blk.thaw
  simp at hc0 hc1
  have hr' : (((s.length : Int) % 8) == 0) = false := by simp; omega
  have P := h.packs.bit_in false hr
  have HS : Hid (Wr (w.setCell ⟨p, 1, none⟩ (.int .i64 ((s.length : Int) + 1))) p v zs (s ++ [false])) := ⟨by simpa using h.blk.set 1 _, ownsRow_fr h.own ((Fr.refl (fun k => k = p) w).setCell (fun _ => rfl) _) (fun k hk => by have := h.own.lt k hk; omega), by simpa using P⟩
  have HF : Hid (WrStep p v v w (w.setCell ⟨p, 1, none⟩ (.int .i64 ((s.length : Int) + 1)))) := ⟨(Fr.refl _ w).setCell (fun _ => .inl rfl) _, .inl rfl⟩
  clear P h
  go_enter Try.func45, Try.ntmps45
  go_wp2
  go_end0
  exact ⟨rfl, v, zs, HS.out, HF.out⟩

theorem byte_or (z k : Nat) (hz : z < 256) (hk : k < 8) : Go.bits .or .u8 (z : Int) ((2 ^ k : Nat) : Int) = ((z ||| 2 ^ k : Nat) : Int) :=
  u8_or_nat z (2 ^ k) hz (Nat.pow_lt_pow_right (a := 2) (m := k) (n := 8) (by decide) hk)

theorem div8 (n : Nat) : ((n : Int) / 8).toNat = n / 8 := by omega

theorem byte_or' (z r : Nat) (hz : z < 256) : Go.bits .or .u8 (z : Int) (2 ^ (7 - r)) = ((z ||| 2 ^ (7 - r) : Nat) : Int) := by
  have := byte_or z (7 - r) hz (by omega)
  simpa using this

theorem wr_or {w1 : World} {p g cap : Nat} {ys : List Nat} {s : List Bool} {k z : Nat} (hb : Blk w1 p #[.slice (some ⟨g, 0, none⟩) ys.length cap, .int .i64 (s.length : Int)] 63)
    (ho : w1.ownsRow (p + 1) 5 1 (.slice (some ⟨g, 0, none⟩) ys.length cap) ys.length (rowOf ys)) (hg : p + 1 ≤ g) (hz : z = ys.getD k 0) (hz2 : z < 256)
    (hP : Packs (ys.set k (ys.getD k 0 ||| 2 ^ (7 - s.length % 8))) (s ++ [true])) :
    Wr ((w1.setCell ⟨g, k, none⟩ (.int .u8 (Go.bits .or .u8 (z : Int) (2 ^ (7 - s.length % 8))))).setCell ⟨p, 1, none⟩ (.int .i64 ((s.length : Int) + 1))).drew p (.slice (some ⟨g, 0, none⟩) ys.length cap) (ys.set k (ys.getD k 0 ||| 2 ^ (7 - s.length % 8))) (s ++ [true]) := by
  rw [byte_or' z _ hz2]
  subst hz
  refine ⟨?_, ?_, hP⟩
  · have h1 := hb.setOther (a := ⟨g, k, none⟩) (show p ≠ g by omega) (.int .u8 ((ys.getD k 0 ||| 2 ^ (7 - s.length % 8) : Nat) : Int))
    simpa using (h1.set 1 (.int .i64 ((s.length : Int) + 1))).drew
  · have h1 := ownsRow_set ho k (.int .u8 ((ys.getD k 0 ||| 2 ^ (7 - s.length % 8) : Nat) : Int))
    rw [rowOf_set] at h1
    have h2 := ownsRow_fr h1 ((Fr.refl (fun j => j = p) _).setCell (p := ⟨p, 1, none⟩) (fun _ => rfl) (.int .i64 ((s.length : Int) + 1))) (fun j hj => by simp [Value.ownBlock] at hj; omega)
    simpa using ownsRow_drew h2

/-- A bit more that is 1, where the last byte has room. -/
theorem bit_in_true (w : World) (p : Nat) (v : Value) (zs : List Nat) (s : List Bool) (h : Wr w p v zs s) (hn : s.length ≤ 1000000000000) (hr : s.length % 8 ≠ 0) :
    Calls Try.prog 45 #[.pointer (some ⟨p, 0, none⟩), .bool true] w fun e w' => e = .returned (.tuple #[]) ∧ ∃ v' zs', Wr w' p v' zs' (s ++ [true]) ∧ WrStep p v v' w w' := by
  have hl := h.packs.len
  obtain ⟨g, cap, rfl, hg, hgl⟩ := h.own.form (by omega)
  have hc0 := h.blk.cell 0
  have hc1 := h.blk.cell 1
  have hf := h.blk.thaw
  simp at hc0 hc1
  have hr' : (((s.length : Int) % 8) == 0) = false := by simp; omega
  have hgp : ¬ p = g := by omega
  obtain ⟨k, hk⟩ : ∃ k, k = s.length / 8 := ⟨_, rfl⟩
  have hcg := ownsRow_cell h.own k _ (rowOf_get zs k (by omega))
  have hfg := ownsRow_thaw h.own
  have q1 : (s.length : Int).tdiv 8 = (k : Int) := by rw [Int.tdiv_eq_ediv_of_nonneg (by omega)]; omega
  have q2 : (s.length : Int) / 8 = (k : Int) := by omega
  have q3 : IntKind.i64.wrap (k : Int) = (k : Int) := by rw [IntKind.wrap_i64]; omega
  have b1 : (0 : Int) ≤ (k : Int) := by omega
  have b2 : (k : Int) < (zs.length : Int) := by omega
  have HK : Hid (k = s.length / 8) := hk
  clear hk
  obtain ⟨z, hz⟩ : ∃ z, z = zs.getD k 0 := ⟨_, rfl⟩
  rw [← hz] at hcg
  have HZ : Hid (z = zs.getD k 0) := hz
  have HL : Hid (zs.length = (s.length + 7) / 8) := hl
  clear hz hl
  go_enter Try.func45, Try.ntmps45
  go_wp2
  refine wp_region_still_tail 18 (by kernel_rfl) (by kernel_rfl) ?_
  show wpStill Try.prog _ w.drew (fun a' => wpList Try.prog _ _ _ a' w.drew) _ _
  simp only [List.take_succ_cons, List.take_zero, List.drop_succ_cons, List.drop_zero]
  repeat still_step
  still_call (mask_any _ _ (by omega) (by omega))
  repeat still_step
  refine wpStill_nil ?_
  go_wp2
  go_end0
  have hk := HK.out
  have hP := h.packs.bit_in true hr
  rw [← hk, if_pos rfl] at hP
  refine ⟨rfl, _, _, wr_or h.blk h.own hg HZ.out ?_ hP, ?_⟩
  · rw [HZ.out]; simpa [List.getD, show k < zs.length by omega] using h.packs.small _ (List.getElem_mem (show k < zs.length by omega))
  · exact ⟨(((Fr.refl _ w).setCell (fun _ => .inr rfl) _).setCell (fun _ => .inl rfl) _).drew, .inl rfl⟩

/-- Behind the append of a byte of noughts. -/
theorem room_facts {w w1 : World} {p : Nat} {v : Value} {zs : List Nat} {s : List Bool} {g cap : Nat} (h : Wr w p v zs s) (o : Obj)
    (hown : w1.ownsRow (p + 1) 5 1 (.slice (some ⟨g, 0, none⟩) (zs.length + 1) cap) (zs.length + 1) (rowOf zs ++ [.int .u8 0])) (hgrow : (w.alloc o).grownBy w1 v.ownBlock) (hat : v.ownBlock = some g ∨ g = w.heap.size + 1) :
    Blk w1 p #[v, .int .i64 (s.length : Int)] 63 ∧ p + 1 ≤ g ∧ Fr (fun k => k = p ∨ v.ownBlock = some k) w w1 ∧ w1.ownsRow (p + 1) 5 1 (.slice (some ⟨g, 0, none⟩) (zs ++ [0]).length cap) (zs ++ [0]).length (rowOf (zs ++ [0])) ∧
      ((Value.slice (some ⟨g, 0, none⟩) (zs.length + 1) cap).ownBlock = v.ownBlock ∨ ∀ k, (Value.slice (some ⟨g, 0, none⟩) (zs.length + 1) cap).ownBlock = some k → w.heap.size ≤ k) := by
  have hpg : p + 1 ≤ g := by
    rcases hat with e | e
    · exact (h.own.lt g e).1
    · have := h.blk.lt; omega
  refine ⟨?_, hpg, ?_, ?_, ?_⟩
  · refine (h.blk.alloc o).of_block (hgrow.block p ?_ ?_)
    · have := h.blk.lt; simp; omega
    · intro e; have := h.own.lt p e.symm; omega
  · exact ((Fr.refl _ w).alloc o).grown hgrow (fun k hk _ => .inr hk)
  · rw [rowOf_snoc]; simpa using hown
  · rcases hat with e | e
    · left; rw [e]; rfl
    · right; intro k hk; simp [Value.ownBlock] at hk; omega

/-- A bit more that is nought, where the last byte is full. -/
theorem bit_room_false (w : World) (p : Nat) (v : Value) (zs : List Nat) (s : List Bool) (h : Wr w p v zs s) (hn : s.length ≤ 1000000000000) (hr : s.length % 8 = 0) :
    Calls Try.prog 45 #[.pointer (some ⟨p, 0, none⟩), .bool false] w fun e w' => e = .returned (.tuple #[]) ∧ ∃ v' zs', Wr w' p v' zs' (s ++ [false]) ∧ WrStep p v v' w w' := by
  have hl := h.packs.len
  have hc0 := h.blk.cell 0
  have hc1 := h.blk.cell 1
  have hf := h.blk.thaw
  simp at hc0 hc1
  have hr' : (((s.length : Int) % 8) == 0) = true := by simp; omega
  have hz : zs.length ≤ 1000000000000 := by omega
  have HL : Hid (zs.length = (s.length + 7) / 8) := hl
  have HR : Hid (s.length % 8 = 0) := hr
  clear hl hr
  obtain ⟨i0, hi, hz0, hz1, hz2⟩ := info_parts Try.info_u8
  go_enter Try.func45, Try.ntmps45
  go_wp2_with (at_builtin; refine wpList_append_lies _ rfl _ _ 40 rfl (p + 1) 5 i0 (.int .u8 0) 1 1 Try.underlying40 hi hz0 hz1 hz2 rfl (by decide) v zs.length (rowOf zs) rfl (h.own.alloc _) ⟨w.heap.size, 0, none⟩ 1 1 [.int .u8 0] rfl rfl ?c1 ?c2 (by decide) ?c3 ?c4 ?c5 (w.heap.size + 1) (by simp) ?_)
  case c1 => exact World.news_of_block (heap_alloc_new _ _)
  case c2 => intro u hu; simp at hu; subst hu; rfl
  case c3 => unfold maxLen; omega
  case c4 => omega
  case c5 => have := h.blk.lt; simp; omega
  intro g cap w1 hown hgrow hat _
  obtain ⟨f1, f2, f3, f4, f5⟩ := room_facts h _ hown hgrow hat
  have d0 := f1.cell 0
  have d1 := f1.cell 1
  have df := f1.thaw
  simp at d0 d1
  clear hown hgrow hat hc0 hc1 hf
  go_wp2
  go_end0
  have hP := h.packs.room false HR.out
  simp only [Bool.false_eq_true, if_false] at hP
  refine ⟨rfl, _, zs ++ [0], ⟨?_, ?_, hP⟩, ⟨(f3.setCell (fun _ => .inl rfl) _).setCell (fun _ => .inl rfl) _, f5⟩⟩
  · simpa using (f1.set 0 (.slice (some ⟨g, 0, none⟩) (zs.length + 1) cap)).set 1 (.int .i64 ((s.length : Int) + 1))
  · have k2 := ownsRow_fr f4 (((Fr.refl (fun j => j = p) _).setCell (p := ⟨p, 0, none⟩) (fun _ => rfl) (.slice (some ⟨g, 0, none⟩) (zs.length + 1) cap)).setCell (p := ⟨p, 1, none⟩) (fun _ => rfl) (.int .i64 ((s.length : Int) + 1))) (fun j hj => by simp [Value.ownBlock] at hj; omega)
    simpa using k2

/-- A bit more that is 1, where the last byte is full. -/
theorem bit_room_true (w : World) (p : Nat) (v : Value) (zs : List Nat) (s : List Bool) (h : Wr w p v zs s) (hn : s.length ≤ 1000000000000) (hr : s.length % 8 = 0) :
    Calls Try.prog 45 #[.pointer (some ⟨p, 0, none⟩), .bool true] w fun e w' => e = .returned (.tuple #[]) ∧ ∃ v' zs', Wr w' p v' zs' (s ++ [true]) ∧ WrStep p v v' w w' := by
  have hl := h.packs.len
  have hc0 := h.blk.cell 0
  have hc1 := h.blk.cell 1
  have hf := h.blk.thaw
  simp at hc0 hc1
  have hr' : (((s.length : Int) % 8) == 0) = true := by simp; omega
  have hz : zs.length ≤ 1000000000000 := by omega
  obtain ⟨k, hk⟩ : ∃ k, k = s.length / 8 := ⟨_, rfl⟩
  have q1 : (s.length : Int).tdiv 8 = (k : Int) := by rw [Int.tdiv_eq_ediv_of_nonneg (by omega)]; omega
  have q2 : (s.length : Int) / 8 = (k : Int) := by omega
  have q3 : IntKind.i64.wrap (k : Int) = (k : Int) := by rw [IntKind.wrap_i64]; omega
  have b1 : (0 : Int) ≤ (k : Int) := by omega
  have b2 : (k : Int) < (zs.length : Int) + 1 := by omega
  have HK : Hid (k = zs.length) := show k = zs.length by omega
  have HL : Hid (zs.length = (s.length + 7) / 8) := hl
  have HR : Hid (s.length % 8 = 0) := hr
  have HK2 : Hid (k = s.length / 8) := hk
  clear hl hr hk
  obtain ⟨i0, hi, hz0, hz1, hz2⟩ := info_parts Try.info_u8
  go_enter Try.func45, Try.ntmps45
  go_wp2_with (at_builtin; refine wpList_append_lies _ rfl _ _ 40 rfl (p + 1) 5 i0 (.int .u8 0) 1 1 Try.underlying40 hi hz0 hz1 hz2 rfl (by decide) v zs.length (rowOf zs) rfl (h.own.alloc _) ⟨w.heap.size, 0, none⟩ 1 1 [.int .u8 0] rfl rfl ?c1 ?c2 (by decide) ?c3 ?c4 ?c5 (w.heap.size + 1) (by simp) ?_)
  case c1 => exact World.news_of_block (heap_alloc_new _ _)
  case c2 => intro u hu; simp at hu; subst hu; rfl
  case c3 => unfold maxLen; omega
  case c4 => omega
  case c5 => have := h.blk.lt; simp; omega
  intro g cap w1 hown hgrow hat _
  obtain ⟨f1, f2, f3, f4, f5⟩ := room_facts h _ hown hgrow hat
  have d0 := f1.cell 0
  have d1 := f1.cell 1
  have df := f1.thaw
  simp at d0 d1
  have hgp : ¬ p = g := by omega
  have hgp' : ¬ g = p := by omega
  have dg : w1.cell? ⟨g, k, none⟩ = some (.int .u8 0) := by
    have := ownsRow_cell f4 k (.int .u8 0) (by rw [HK.out, rowOf_snoc]; simp [rowOf_length])
    exact this
  have dfg := ownsRow_thaw f4
  clear hown hgrow hat hc0 hc1 hf
  go_wp2
  refine wp_region_still_tail 18 (by kernel_rfl) (by kernel_rfl) ?_
  show wpStill Try.prog _ (w1.setCell ⟨p, 0, none⟩ (.slice (some ⟨g, 0, none⟩) (zs.length + 1) cap)).drew (fun a' => wpList Try.prog _ _ _ a' (w1.setCell ⟨p, 0, none⟩ (.slice (some ⟨g, 0, none⟩) (zs.length + 1) cap)).drew) _ _
  simp only [List.take_succ_cons, List.take_zero, List.drop_succ_cons, List.drop_zero]
  repeat still_step
  still_call (mask_any _ _ (by omega) (by omega))
  repeat still_step
  refine wpStill_nil ?_
  go_wp2
  go_end0
  have hP := h.packs.room true HR.out
  rw [if_pos rfl, ← HK2.out] at hP
  have hb : Blk (w1.setCell ⟨p, 0, none⟩ (.slice (some ⟨g, 0, none⟩) (zs.length + 1) cap)) p #[.slice (some ⟨g, 0, none⟩) (zs ++ [0]).length cap, .int .i64 (s.length : Int)] 63 := by
    simpa using f1.set 0 (.slice (some ⟨g, 0, none⟩) (zs.length + 1) cap)
  have ho := ownsRow_fr f4 ((Fr.refl (fun j => j = p) _).setCell (p := ⟨p, 0, none⟩) (fun _ => rfl) (.slice (some ⟨g, 0, none⟩) (zs.length + 1) cap)) (fun j hj => by simp [Value.ownBlock] at hj; omega)
  refine ⟨rfl, _, _, wr_or (z := 0) hb ho f2 ?_ (by decide) hP, ?_⟩
  · rw [HK.out]; simp [List.getD]
  · have e1 : (zs ++ [0]).length = zs.length + 1 := by simp
    rw [e1]
    refine ⟨(((f3.setCell (fun _ => .inl rfl) _).setCell (fun hlt => ?_) _).setCell (fun _ => .inl rfl) _).drew, f5⟩
    rcases f5 with e | e
    · exact .inr e.symm
    · have := e g rfl; simp at hlt; omega

/-- The writer of block p (its bytes the value v, in w) has the bits s' in w', and nothing else has turned. -/
def WrGets (p : Nat) (v : Value) (w w' : World) (s' : List Bool) : Prop := ∃ v' zs', Wr w' p v' zs' s' ∧ WrStep p v v' w w'

/-- One bit more. -/
theorem bit_any (w : World) (p : Nat) (v : Value) (zs : List Nat) (s : List Bool) (b : Bool) (h : Wr w p v zs s) (hn : s.length ≤ 1000000000000) :
    Calls Try.prog 45 #[.pointer (some ⟨p, 0, none⟩), .bool b] w fun e w' => e = .returned (.tuple #[]) ∧ WrGets p v w w' (s ++ [b]) := by
  by_cases hr : s.length % 8 = 0
  · cases b
    · exact bit_room_false w p v zs s h hn hr
    · exact bit_room_true w p v zs s h hn hr
  · cases b
    · exact bit_in_false w p v zs s h hn hr
    · exact bit_in_true w p v zs s h hn hr

/-- A nil writer takes no bit. -/
theorem bit_nil (b : Bool) (w : World) : Calls Try.prog 45 #[.pointer none, .bool b] w fun e w' => e = .returned (.tuple #[]) ∧ w' = w := by
  go_enter Try.func45, Try.ntmps45
  go_wp2
  exact bodyPost_ret (results_none rfl _ _ _) rfl ⟨rfl, rfl⟩
end Go.Proofs.Ythabklgeopdlhaa
