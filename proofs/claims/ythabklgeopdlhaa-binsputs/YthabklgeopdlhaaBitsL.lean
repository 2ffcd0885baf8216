/-
  Package bits: a writer that lies inside a block (at cells o and o + 1 of it): its calls.
-/
import Derived.Test.YthabklgeopdlhaaBitsP
namespace Go.Proofs.Ythabklgeopdlhaa
open Go.RowKit

/-- A block's cells as a function of the cells o and o + 1. -/
structure Lens (o : Nat) (F : Value → Value → Array Value) : Prop where
  get0 : ∀ v n, (F v n)[o]? = some v
  get1 : ∀ v n, (F v n)[o + 1]? = some n
  set0 : ∀ v n v', (F v n).setIfInBounds o v' = F v' n
  set1 : ∀ v n n', (F v n).setIfInBounds (o + 1) n' = F v n'

/-- A writer lies in block p at cell o: its bytes (the value v) hold zs, and these the bits s. -/
structure WrL (w : World) (p o : Nat) (F : Value → Value → Array Value) (t : TypeId) (v : Value) (zs : List Nat) (s : List Bool) : Prop where
  lens : Lens o F
  blk : Blk w p (F v (.int .i64 (s.length : Int))) t
  own : w.ownsRow (p + 1) 5 1 v zs.length (rowOf zs)
  packs : Packs zs s

theorem WrL.fr {w w' : World} {p o : Nat} {F : Value → Value → Array Value} {t : TypeId} {v : Value} {zs : List Nat} {s : List Bool} {S : Nat → Prop} (h : WrL w p o F t v zs s) (f : Fr S w w') (hp : ¬ S p) (hv : ∀ k, v.ownBlock = some k → ¬ S k) : WrL w' p o F t v zs s :=
  ⟨h.lens, h.blk.fr f hp, ownsRow_fr h.own f hv, h.packs⟩

theorem WrL.cell0 {w : World} {p o : Nat} {F : Value → Value → Array Value} {t : TypeId} {v : Value} {zs : List Nat} {s : List Bool} (h : WrL w p o F t v zs s) : w.cell? ⟨p, o, none⟩ = some v := by
  rw [h.blk.cell, h.lens.get0]
theorem WrL.cell1 {w : World} {p o : Nat} {F : Value → Value → Array Value} {t : TypeId} {v : Value} {zs : List Nat} {s : List Bool} (h : WrL w p o F t v zs s) : w.cell? ⟨p, o + 1, none⟩ = some (.int .i64 (s.length : Int)) := by
  rw [h.blk.cell, h.lens.get1]

theorem lens_own : Lens 0 (fun v n => #[v, n]) := ⟨fun _ _ => rfl, fun _ _ => rfl, fun _ _ _ => rfl, fun _ _ _ => rfl⟩

theorem WrL.new (w : World) : WrL (w.alloc (.cells #[.slice none 0 0, .int .i64 0] 63)) w.heap.size 0 (fun v n => #[v, n]) 63 (.slice none 0 0) [] [] :=
  ⟨lens_own, Blk.new _ _ _, World.ownsRow_nil _ _ _ _, Packs.nil⟩

/-- A bit more that is nought, where the last byte has room. -/
theorem lbit_in_false (w : World) (p o : Nat) (F : Value → Value → Array Value) (t : TypeId) (v : Value) (zs : List Nat) (s : List Bool) (h : WrL w p o F t v zs s) (hn : s.length ≤ 1000000000000) (hr : s.length % 8 ≠ 0) :
    Calls Try.prog 45 #[.pointer (some ⟨p, o, none⟩), .bool false] w fun e w' => e = .returned (.tuple #[]) ∧ ∃ v' zs', WrL w' p o F t v' zs' (s ++ [false]) ∧ WrStep p v v' w w' := by
  have hc0 := h.cell0
  have hc1 := h.cell1
  have hf := h.blk.thaw
  have hr' : (((s.length : Int) % 8) == 0) = false := by simp; omega
  have P := h.packs.bit_in false hr
  have HS : Hid (WrL (w.setCell ⟨p, o + 1, none⟩ (.int .i64 ((s.length : Int) + 1))) p o F t v zs (s ++ [false])) := ⟨h.lens, by have := h.blk.set (o + 1) (.int .i64 ((s.length : Int) + 1)); rw [h.lens.set1] at this; simpa using this, ownsRow_fr h.own ((Fr.refl (fun k => k = p) w).setCell (fun _ => rfl) _) (fun k hk => by have := h.own.lt k hk; omega), by simpa using P⟩
  have HF : Hid (WrStep p v v w (w.setCell ⟨p, o + 1, none⟩ (.int .i64 ((s.length : Int) + 1)))) := ⟨(Fr.refl _ w).setCell (fun _ => .inl rfl) _, .inl rfl⟩
  clear P h
  go_enter Try.func45, Try.ntmps45
  go_wp2
  go_end0
  exact ⟨rfl, v, zs, HS.out, HF.out⟩

theorem wrl_or {w1 : World} {p o g cap : Nat} {F : Value → Value → Array Value} {t : TypeId} {ys : List Nat} {s : List Bool} {k z : Nat} (hL : Lens o F) (hb : Blk w1 p (F (.slice (some ⟨g, 0, none⟩) ys.length cap) (.int .i64 (s.length : Int))) t)
    (ho : w1.ownsRow (p + 1) 5 1 (.slice (some ⟨g, 0, none⟩) ys.length cap) ys.length (rowOf ys)) (hg : p + 1 ≤ g) (hz : z = ys.getD k 0) (hz2 : z < 256)
    (hP : Packs (ys.set k (ys.getD k 0 ||| 2 ^ (7 - s.length % 8))) (s ++ [true])) :
    WrL ((w1.setCell ⟨g, k, none⟩ (.int .u8 (Go.bits .or .u8 (z : Int) (2 ^ (7 - s.length % 8))))).setCell ⟨p, o + 1, none⟩ (.int .i64 ((s.length : Int) + 1))).drew p o F t (.slice (some ⟨g, 0, none⟩) ys.length cap) (ys.set k (ys.getD k 0 ||| 2 ^ (7 - s.length % 8))) (s ++ [true]) := by
  rw [byte_or' z _ hz2]
  subst hz
  refine ⟨hL, ?_, ?_, hP⟩
  · have h1 := hb.setOther (a := ⟨g, k, none⟩) (show p ≠ g by omega) (.int .u8 ((ys.getD k 0 ||| 2 ^ (7 - s.length % 8) : Nat) : Int))
    have h2 := (h1.set (o + 1) (.int .i64 ((s.length : Int) + 1))).drew
    rw [hL.set1] at h2
    simpa using h2
  · have h1 := ownsRow_set ho k (.int .u8 ((ys.getD k 0 ||| 2 ^ (7 - s.length % 8) : Nat) : Int))
    rw [rowOf_set] at h1
    have h2 := ownsRow_fr h1 ((Fr.refl (fun j => j = p) _).setCell (p := ⟨p, o + 1, none⟩) (fun _ => rfl) (.int .i64 ((s.length : Int) + 1))) (fun j hj => by simp [Value.ownBlock] at hj; omega)
    simpa using ownsRow_drew h2

/-- A bit more that is 1, where the last byte has room. -/
theorem lbit_in_true (w : World) (p o : Nat) (F : Value → Value → Array Value) (t : TypeId) (v : Value) (zs : List Nat) (s : List Bool) (h : WrL w p o F t v zs s) (hn : s.length ≤ 1000000000000) (hr : s.length % 8 ≠ 0) :
    Calls Try.prog 45 #[.pointer (some ⟨p, o, none⟩), .bool true] w fun e w' => e = .returned (.tuple #[]) ∧ ∃ v' zs', WrL w' p o F t v' zs' (s ++ [true]) ∧ WrStep p v v' w w' := by
  have hl := h.packs.len
  obtain ⟨g, cap, rfl, hg, hgl⟩ := h.own.form (by omega)
  have hc0 := h.cell0
  have hc1 := h.cell1
  have hf := h.blk.thaw
  have hr' : (((s.length : Int) % 8) == 0) = false := by simp; omega
  have hgp : ¬ p = g := by omega
  obtain ⟨k, hk⟩ : ∃ k, k = s.length / 8 := ⟨_, rfl⟩
  have hcg := ownsRow_cell h.own k _ (rowOf_get zs k (by omega))
  have hfg := ownsRow_thaw h.own
  have q1 : (s.length : Int).tdiv 8 = (k : Int) := by rw [Int.tdiv_eq_ediv_of_nonneg (by omega)]; omega
  have q2 : (s.length : Int) / 8 = (k : Int) := by omega
  have q3 : IntKind.i64.wrap (k : Int) = (k : Int) := by rw [IntKind.wrap_i64]; omega
  have b1 : (0 : Int) ≤ (k : Int) := by omega
  have b2 : (k : Int) < (zs.length : Int) := by omega
  have HK : Hid (k = s.length / 8) := hk
  clear hk
  obtain ⟨z, hz⟩ : ∃ z, z = zs.getD k 0 := ⟨_, rfl⟩
  rw [← hz] at hcg
  have HZ : Hid (z = zs.getD k 0) := hz
  have HL : Hid (zs.length = (s.length + 7) / 8) := hl
  clear hz hl
  go_enter Try.func45, Try.ntmps45
  go_wp2
  refine wp_region_still_tail 18 (by kernel_rfl) (by kernel_rfl) ?_
  show wpStill Try.prog _ w.drew (fun a' => wpList Try.prog _ _ _ a' w.drew) _ _
  simp only [List.take_succ_cons, List.take_zero, List.drop_succ_cons, List.drop_zero]
  repeat still_step
  still_call (mask_any _ _ (by omega) (by omega))
  repeat still_step
  refine wpStill_nil ?_
  go_wp2
  go_end0
  have hk := HK.out
  have hP := h.packs.bit_in true hr
  rw [← hk, if_pos rfl] at hP
  refine ⟨rfl, _, _, wrl_or h.lens h.blk h.own hg HZ.out ?_ hP, ?_⟩
  · rw [HZ.out]; simpa [List.getD, show k < zs.length by omega] using h.packs.small _ (List.getElem_mem (show k < zs.length by omega))
  · exact ⟨(((Fr.refl _ w).setCell (fun _ => .inr rfl) _).setCell (fun _ => .inl rfl) _).drew, .inl rfl⟩

/-- Behind the append of a byte of noughts. -/
theorem lroom_facts {w w1 : World} {p o : Nat} {F : Value → Value → Array Value} {t : TypeId} {v : Value} {zs : List Nat} {s : List Bool} {g cap : Nat} (h : WrL w p o F t v zs s) (ob : Obj)
    (hown : w1.ownsRow (p + 1) 5 1 (.slice (some ⟨g, 0, none⟩) (zs.length + 1) cap) (zs.length + 1) (rowOf zs ++ [.int .u8 0])) (hgrow : (w.alloc ob).grownBy w1 v.ownBlock) (hat : v.ownBlock = some g ∨ g = w.heap.size + 1) :
    Blk w1 p (F v (.int .i64 (s.length : Int))) t ∧ p + 1 ≤ g ∧ Fr (fun k => k = p ∨ v.ownBlock = some k) w w1 ∧ w1.ownsRow (p + 1) 5 1 (.slice (some ⟨g, 0, none⟩) (zs ++ [0]).length cap) (zs ++ [0]).length (rowOf (zs ++ [0])) ∧
      ((Value.slice (some ⟨g, 0, none⟩) (zs.length + 1) cap).ownBlock = v.ownBlock ∨ ∀ k, (Value.slice (some ⟨g, 0, none⟩) (zs.length + 1) cap).ownBlock = some k → w.heap.size ≤ k) := by
  have hpg : p + 1 ≤ g := by
    rcases hat with e | e
    · exact (h.own.lt g e).1
    · have := h.blk.lt; omega
  refine ⟨?_, hpg, ?_, ?_, ?_⟩
  · refine (h.blk.alloc ob).of_block (hgrow.block p ?_ ?_)
    · have := h.blk.lt; simp; omega
    · intro e; have := h.own.lt p e.symm; omega
  · exact ((Fr.refl _ w).alloc ob).grown hgrow (fun k hk _ => .inr hk)
  · rw [rowOf_snoc]; simpa using hown
  · rcases hat with e | e
    · left; rw [e]; rfl
    · right; intro k hk; simp [Value.ownBlock] at hk; omega

/-- A bit more that is nought, where the last byte is full. -/
theorem lbit_room_false (w : World) (p o : Nat) (F : Value → Value → Array Value) (t : TypeId) (v : Value) (zs : List Nat) (s : List Bool) (h : WrL w p o F t v zs s) (hn : s.length ≤ 1000000000000) (hr : s.length % 8 = 0) :
    Calls Try.prog 45 #[.pointer (some ⟨p, o, none⟩), .bool false] w fun e w' => e = .returned (.tuple #[]) ∧ ∃ v' zs', WrL w' p o F t v' zs' (s ++ [false]) ∧ WrStep p v v' w w' := by
  have hl := h.packs.len
  have hc0 := h.cell0
  have hc1 := h.cell1
  have hf := h.blk.thaw
  have hr' : (((s.length : Int) % 8) == 0) = true := by simp; omega
  have hz : zs.length ≤ 1000000000000 := by omega
  have HL : Hid (zs.length = (s.length + 7) / 8) := hl
  have HR : Hid (s.length % 8 = 0) := hr
  clear hl hr
  obtain ⟨i0, hi, hz0, hz1, hz2⟩ := info_parts Try.info_u8
  go_enter Try.func45, Try.ntmps45
  go_wp2_with (at_builtin; refine wpList_append_lies _ rfl _ _ 40 rfl (p + 1) 5 i0 (.int .u8 0) 1 1 Try.underlying40 hi hz0 hz1 hz2 rfl (by decide) v zs.length (rowOf zs) rfl (h.own.alloc _) ⟨w.heap.size, 0, none⟩ 1 1 [.int .u8 0] rfl rfl ?c1 ?c2 (by decide) ?c3 ?c4 ?c5 (w.heap.size + 1) (by simp) ?_)
  case c1 => exact World.news_of_block (heap_alloc_new _ _)
  case c2 => intro u hu; simp at hu; subst hu; rfl
  case c3 => unfold maxLen; omega
  case c4 => omega
  case c5 => have := h.blk.lt; simp; omega
  intro g cap w1 hown hgrow hat _
  obtain ⟨f1, f2, f3, f4, f5⟩ := lroom_facts h _ hown hgrow hat
  have d0 : w1.cell? ⟨p, o, none⟩ = some v := by rw [f1.cell, h.lens.get0]
  have d1 : w1.cell? ⟨p, o + 1, none⟩ = some (.int .i64 (s.length : Int)) := by rw [f1.cell, h.lens.get1]
  have df := f1.thaw
  clear hown hgrow hat hc0 hc1 hf
  go_wp2
  go_end0
  have hP := h.packs.room false HR.out
  simp only [Bool.false_eq_true, if_false] at hP
  refine ⟨rfl, _, zs ++ [0], ⟨h.lens, ?_, ?_, hP⟩, ⟨(f3.setCell (fun _ => .inl rfl) _).setCell (fun _ => .inl rfl) _, f5⟩⟩
  · have := (f1.set o (.slice (some ⟨g, 0, none⟩) (zs.length + 1) cap)).set (o + 1) (.int .i64 ((s.length : Int) + 1))
    rw [h.lens.set0, h.lens.set1] at this
    simpa using this
  · have k2 := ownsRow_fr f4 (((Fr.refl (fun j => j = p) _).setCell (p := ⟨p, o, none⟩) (fun _ => rfl) (.slice (some ⟨g, 0, none⟩) (zs.length + 1) cap)).setCell (p := ⟨p, o + 1, none⟩) (fun _ => rfl) (.int .i64 ((s.length : Int) + 1))) (fun j hj => by simp [Value.ownBlock] at hj; omega)
    simpa using k2

/-- A bit more that is 1, where the last byte is full. -/
theorem lbit_room_true (w : World) (p o : Nat) (F : Value → Value → Array Value) (t : TypeId) (v : Value) (zs : List Nat) (s : List Bool) (h : WrL w p o F t v zs s) (hn : s.length ≤ 1000000000000) (hr : s.length % 8 = 0) :
    Calls Try.prog 45 #[.pointer (some ⟨p, o, none⟩), .bool true] w fun e w' => e = .returned (.tuple #[]) ∧ ∃ v' zs', WrL w' p o F t v' zs' (s ++ [true]) ∧ WrStep p v v' w w' := by
  have hl := h.packs.len
  have hc0 := h.cell0
  have hc1 := h.cell1
  have hf := h.blk.thaw
  have hr' : (((s.length : Int) % 8) == 0) = true := by simp; omega
  have hz : zs.length ≤ 1000000000000 := by omega
  obtain ⟨k, hk⟩ : ∃ k, k = s.length / 8 := ⟨_, rfl⟩
  have q1 : (s.length : Int).tdiv 8 = (k : Int) := by rw [Int.tdiv_eq_ediv_of_nonneg (by omega)]; omega
  have q2 : (s.length : Int) / 8 = (k : Int) := by omega
  have q3 : IntKind.i64.wrap (k : Int) = (k : Int) := by rw [IntKind.wrap_i64]; omega
  have b1 : (0 : Int) ≤ (k : Int) := by omega
  have b2 : (k : Int) < (zs.length : Int) + 1 := by omega
  have HK : Hid (k = zs.length) := show k = zs.length by omega
  have HL : Hid (zs.length = (s.length + 7) / 8) := hl
  have HR : Hid (s.length % 8 = 0) := hr
  have HK2 : Hid (k = s.length / 8) := hk
  clear hl hr hk
  obtain ⟨i0, hi, hz0, hz1, hz2⟩ := info_parts Try.info_u8
  go_enter Try.func45, Try.ntmps45
  go_wp2_with (at_builtin; refine wpList_append_lies _ rfl _ _ 40 rfl (p + 1) 5 i0 (.int .u8 0) 1 1 Try.underlying40 hi hz0 hz1 hz2 rfl (by decide) v zs.length (rowOf zs) rfl (h.own.alloc _) ⟨w.heap.size, 0, none⟩ 1 1 [.int .u8 0] rfl rfl ?c1 ?c2 (by decide) ?c3 ?c4 ?c5 (w.heap.size + 1) (by simp) ?_)
  case c1 => exact World.news_of_block (heap_alloc_new _ _)
  case c2 => intro u hu; simp at hu; subst hu; rfl
  case c3 => unfold maxLen; omega
  case c4 => omega
  case c5 => have := h.blk.lt; simp; omega
  intro g cap w1 hown hgrow hat _
  obtain ⟨f1, f2, f3, f4, f5⟩ := lroom_facts h _ hown hgrow hat
  have d0 : w1.cell? ⟨p, o, none⟩ = some v := by rw [f1.cell, h.lens.get0]
  have d1 : w1.cell? ⟨p, o + 1, none⟩ = some (.int .i64 (s.length : Int)) := by rw [f1.cell, h.lens.get1]
  have df := f1.thaw
  have hgp : ¬ p = g := by omega
  have hgp' : ¬ g = p := by omega
  have dg : w1.cell? ⟨g, k, none⟩ = some (.int .u8 0) := by
    have := ownsRow_cell f4 k (.int .u8 0) (by rw [HK.out, rowOf_snoc]; simp [rowOf_length])
    exact this
  have dfg := ownsRow_thaw f4
  clear hown hgrow hat hc0 hc1 hf
  go_wp2
  refine wp_region_still_tail 18 (by kernel_rfl) (by kernel_rfl) ?_
  show wpStill Try.prog _ (w1.setCell ⟨p, o, none⟩ (.slice (some ⟨g, 0, none⟩) (zs.length + 1) cap)).drew (fun a' => wpList Try.prog _ _ _ a' (w1.setCell ⟨p, o, none⟩ (.slice (some ⟨g, 0, none⟩) (zs.length + 1) cap)).drew) _ _
  simp only [List.take_succ_cons, List.take_zero, List.drop_succ_cons, List.drop_zero]
  repeat still_step
  still_call (mask_any _ _ (by omega) (by omega))
  repeat still_step
  refine wpStill_nil ?_
  go_wp2
  go_end0
  have hP := h.packs.room true HR.out
  rw [if_pos rfl, ← HK2.out] at hP
  have hb : Blk (w1.setCell ⟨p, o, none⟩ (.slice (some ⟨g, 0, none⟩) (zs.length + 1) cap)) p (F (.slice (some ⟨g, 0, none⟩) (zs ++ [0]).length cap) (.int .i64 (s.length : Int))) t := by
    have := f1.set o (.slice (some ⟨g, 0, none⟩) (zs.length + 1) cap)
    rw [h.lens.set0] at this
    simpa using this
  have ho := ownsRow_fr f4 ((Fr.refl (fun j => j = p) _).setCell (p := ⟨p, o, none⟩) (fun _ => rfl) (.slice (some ⟨g, 0, none⟩) (zs.length + 1) cap)) (fun j hj => by simp [Value.ownBlock] at hj; omega)
  refine ⟨rfl, _, _, wrl_or (z := 0) h.lens hb ho f2 ?_ (by decide) hP, ?_⟩
  · rw [HK.out]; simp [List.getD]
  · have e1 : (zs ++ [0]).length = zs.length + 1 := by simp
    rw [e1]
    refine ⟨(((f3.setCell (fun _ => .inl rfl) _).setCell (fun hlt => ?_) _).setCell (fun _ => .inl rfl) _).drew, f5⟩
    rcases f5 with e | e
    · exact .inr e.symm
    · have := e g rfl; simp at hlt; omega

/-- The writer of block p at cell o (its bytes the value v, in w) has the bits s' in w', and nothing else has turned. -/
def WrLGets (p o : Nat) (F : Value → Value → Array Value) (t : TypeId) (v : Value) (w w' : World) (s' : List Bool) : Prop := ∃ v' zs', WrL w' p o F t v' zs' s' ∧ WrStep p v v' w w'

/-- One bit more. -/
theorem lbit_any (w : World) (p o : Nat) (F : Value → Value → Array Value) (t : TypeId) (v : Value) (zs : List Nat) (s : List Bool) (b : Bool) (h : WrL w p o F t v zs s) (hn : s.length ≤ 1000000000000) :
    Calls Try.prog 45 #[.pointer (some ⟨p, o, none⟩), .bool b] w fun e w' => e = .returned (.tuple #[]) ∧ WrLGets p o F t v w w' (s ++ [b]) := by
  by_cases hr : s.length % 8 = 0
  · cases b
    · exact lbit_room_false w p o F t v zs s h hn hr
    · exact lbit_room_true w p o F t v zs s h hn hr
  · cases b
    · exact lbit_in_false w p o F t v zs s h hn hr
    · exact lbit_in_true w p o F t v zs s h hn hr

/-- Put. -/
theorem lput_any (w : World) (p o : Nat) (F : Value → Value → Array Value) (t : TypeId) (v : Value) (zs : List Nat) (s : List Bool) (x n : Int) (h : WrL w p o F t v zs s) (hn : s.length ≤ 900000000000) (hx : 0 ≤ x) (hx2 : x < 18446744073709551616) :
    Calls Try.prog 43 #[.pointer (some ⟨p, o, none⟩), .int .u64 x, .int .i64 n] w fun e w' => e = .returned (.tuple #[]) ∧ WrLGets p o F t v w w' (s ++ bitsOf x.toNat (max 0 (min n 64)).toNat) := by
  obtain ⟨m, hm⟩ : ∃ m : Nat, (m : Int) = max 0 (min n 64) := ⟨(max 0 (min n 64)).toNat, by omega⟩
  have hm2 : m ≤ 64 := by omega
  have e1 : (max 0 (min n 64)).toNat = m := by omega
  rw [e1]
  have HM : Hid ((m : Int) = max 0 (min n 64)) := hm
  clear hm e1
  go_enter Try.func43, Try.ntmps43
  go_wp2_with (go_at_call 70; refine (width_any _ _).mono ?_; rintro e w' ⟨rfl, rfl⟩; rw [← HM.out])
  go_loopw [6] (fun i wr => ∃ j : Nat, j ≤ m ∧ i = .int .i64 ((m : Int) - 1 - (j : Int)) ∧ WrLGets p o F t v w' wr (s ++ (bitsOf x.toNat m).take j)) (fun i _ => (intOf i + 1).toNat)
  case atStart => exact ⟨0, Nat.zero_le _, by simp, v, zs, by simpa using h, WrStep.refl _ _ _⟩
  case round =>
    obtain ⟨j, hj, rfl, v1, zs1, h1, st⟩ := hrel
    by_cases hlt : j < m
    · have hpos : (0 : Int) ≤ (m : Int) - 1 - (j : Int) := by omega
      have hlen : (s ++ List.take j (bitsOf x.toNat m)).length ≤ 1000000000000 := by simp [bitsOf_length]; omega
      have HB := shr_and x (m - 1 - j) hx hx2
      have HT := bitsOf_take_succ x.toNat m j hlt
      have HB' : Hid ((Go.bits .and .u64 (x / 2 ^ (m - 1 - j)) 1 == 1) = x.toNat.testBit (m - 1 - j)) := HB
      have HT' : Hid ((bitsOf x.toNat m).take (j + 1) = (bitsOf x.toNat m).take j ++ [x.toNat.testBit (m - 1 - j)]) := HT
      clear HB HT
      go_wp2_with fail
      rw [HB'.out]
      refine (lbit_any wr p o F t v1 zs1 _ _ h1 hlen).mono ?_
      rintro e w2 ⟨rfl, v2, zs2, h2, st2⟩
      go_wp2
      go_roundw
      case rel => exact ⟨j + 1, by omega, by simp; omega, v2, zs2, by rw [HT'.out, ← List.append_assoc]; exact h2, st.trans st2⟩
      case measure => simp [intOf]; omega
    · have hge : ¬ (0 : Int) ≤ (m : Int) - 1 - (j : Int) := by omega
      go_wp2
      go_end0
      have : (bitsOf x.toNat m).take j = bitsOf x.toNat m := List.take_of_length_le (by rw [bitsOf_length]; omega)
      rw [this] at h1
      exact ⟨rfl, v1, zs1, h1, st⟩

/-- Len. -/
theorem llen_any (w : World) (p o : Nat) (F : Value → Value → Array Value) (t : TypeId) (v : Value) (zs : List Nat) (s : List Bool) (h : WrL w p o F t v zs s) :
    Calls Try.prog 42 #[.pointer (some ⟨p, o, none⟩)] w fun e w' => e = .returned (.int .i64 (s.length : Int)) ∧ w' = w := by
  have hc1 := h.cell1
  go_enter Try.func42, Try.ntmps42
  go_wp2
  go_ret
  exact ⟨rfl, rfl⟩

/-- Bytes. -/
theorem lbytes_any (w : World) (p o : Nat) (F : Value → Value → Array Value) (t : TypeId) (v : Value) (zs : List Nat) (s : List Bool) (h : WrL w p o F t v zs s) (hn : s.length ≤ 1000000000000) :
    Calls Try.prog 41 #[.pointer (some ⟨p, o, none⟩)] w fun e w' => ∃ q, e = .returned (.slice (some ⟨q, 0, none⟩) zs.length zs.length) ∧ Blk w' q (rowOf zs).toArray 5 ∧ w.heap.size ≤ q ∧ Fr (fun _ => False) w w' := by
  have hl := h.packs.len
  have hz : zs.length ≤ 100000000000000 := by omega
  have hc0 := h.cell0
  have HR : Hid (Reads w v (rowOf zs)) := Reads.of_owns (by rw [rowOf_length]; exact h.own)
  clear hl
  go_enter Try.func41, Try.ntmps41
  go_wp2_with (go_at_call 69; refine (fresh_any w v zs HR.out hz).mono ?_; rintro e w' ⟨q, rfl, b1, b2, b3⟩)
  go_ret
  exact ⟨q, rfl, b1, b2, b3⟩
end Go.Proofs.Ythabklgeopdlhaa
