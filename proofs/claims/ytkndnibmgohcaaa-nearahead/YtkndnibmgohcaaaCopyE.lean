/-
  A list of numbers copied onto a new empty one, where other operations may come between: what is old stays as it is.
-/
import Derived.Deep.Upon
import Derived.Test.YtkndnibmgohcaaaRowC
import Derived.Test.YtkndnibmgohcaaaWeaveP
namespace Go.Proofs.Ytkndnibmgohcaaa
open Go.RowKit

theorem OwnL.quiet {w w' : World} {base : Nat} {a : Option Addr} {n cap : Nat} {V : Nat → Int} {b : Nat} (h : OwnL w base a n cap V b) (f : Fr (fun _ => False) w w') : OwnL w' base a n cap V b :=
  ⟨h.nums.quiet f, h.nil, fun hn => ⟨(h.row hn).1, (h.row hn).2.1.quiet f, (h.row hn).2.2⟩⟩
theorem OwnL.fr {w w' : World} {base : Nat} {a : Option Addr} {n cap : Nat} {V : Nat → Int} {b : Nat} {S : Nat → Prop} (h : OwnL w base a n cap V b) (f : Fr S w w') (hb : 0 < n → ¬ S b) : OwnL w' base a n cap V b :=
  ⟨h.nums.fr f hb, h.nil, fun hn => ⟨(h.row hn).1, (h.row hn).2.1.fr f (hb hn), (h.row hn).2.2⟩⟩
/-- An empty list that was made. -/
def EmpAt (w : World) (v : Value) (B : Nat) : Prop := ∃ z, v = .slice (some ⟨z, 0, none⟩) 0 0 ∧ Blk w z #[] 3 ∧ B ≤ z
theorem EmpAt.quiet {w w' : World} {v : Value} {B : Nat} (h : EmpAt w v B) (f : Fr (fun _ => False) w w') : EmpAt w' v B := by
  obtain ⟨z, e, r, hb⟩ := h
  exact ⟨z, e, r.fr f (fun h => h), hb⟩
def StayP.emp (B : Nat) : StayP := ⟨fun v w => EmpAt w v B, fun h f => h.quiet f⟩
def OwnAt (w : World) (v : Value) (base n : Nat) (V : Nat → Int) : Prop := ∃ a cap b, v = .slice a n cap ∧ OwnL w base a n cap V b
theorem OwnAt.quiet {w w' : World} {v : Value} {base n : Nat} {V : Nat → Int} (h : OwnAt w v base n V) (f : Fr (fun _ => False) w w') : OwnAt w' v base n V := by
  obtain ⟨a, cap, b, e, hB⟩ := h
  exact ⟨a, cap, b, e, hB.quiet f⟩
def StayP.own (base n : Nat) (V : Nat → Int) : StayP := ⟨fun v w => OwnAt w v base n V, fun h f => h.quiet f⟩
/-- A plane whose numbers are a list of one's own. -/
def OwnP (w : World) (v : Value) (X Y : Int) (base n : Nat) (V : Nat → Int) : Prop := ∃ a cap b, v = .agg #[.int .i64 X, .int .i64 Y, .slice a n cap] ∧ OwnL w base a n cap V b
theorem OwnP.quiet {w w' : World} {v : Value} {X Y : Int} {base n : Nat} {V : Nat → Int} (h : OwnP w v X Y base n V) (f : Fr (fun _ => False) w w') : OwnP w' v X Y base n V := by
  obtain ⟨a, cap, b, e, hB⟩ := h
  exact ⟨a, cap, b, e, hB.quiet f⟩
def StayP.ownP (X Y : Int) (base n : Nat) (V : Nat → Int) : StayP := ⟨fun v w => OwnP w v X Y base n V, fun h f => h.quiet f⟩

theorem run_copyE {w : World} {z base : Nat} (hb : Blk w z #[] 3) (hz : base ≤ z) {a : Option Addr} {n cap : Nat} {V : Nat → Int} {b : Nat} (hN : Nums w a n cap V b) (hf : a = none → n = 0 ∧ cap = 0) (hn : n ≤ 10000000) (ty : TypeId) :
    ∃ a' cap' b' w', (Builtin.append_ #[24, 24] ty #[.slice (some ⟨z, 0, none⟩) 0 0, .slice a n cap]).run Try.prog w = .ok (.slice a' n cap') w' ∧ OwnL w' base a' n cap' V b' ∧ Fr (fun _ => False) w w' := by
  obtain ⟨i0, hi, hz0, hz1, hz2⟩ := info_parts Try.info_int
  by_cases h0 : n = 0
  · subst h0
    have hsrc : Src Try.prog i0.size 24 (.slice a 0 cap) 0 [] w := by
      cases a with
      | none => exact Src.ofNil w Try.underlying24 cap
      | some q => exact Src.ofSlice w Try.underlying24 q 0 cap [] (by simp) (by simp) (by simp)
    exact ⟨some ⟨z, 0, none⟩, 0, z, w, run_append_nothing w 24 24 ty 3 i0 Try.underlying24 hi (some ⟨z, 0, none⟩) 0 0 (Nat.le_refl _) _ hsrc, ⟨⟨Nat.le_refl _, Nat.zero_le _, fun h => absurd h (by omega)⟩, (by intro h; cases h), fun h => absurd h (by omega)⟩, Fr.refl _ _⟩
  · have hlt := hb.lt
    obtain ⟨off, rfl, hc⟩ := hN.at' (by omega)
    have hown : w.ownsRow base 3 1 (.slice (some ⟨z, 0, none⟩) 0 0) 0 [] := ⟨rfl, .inr ⟨z, 0, #[], rfl, hz, hb, Nat.le_refl _, Nat.zero_le _, rfl, rfl⟩⟩
    have hsrc : ∀ j u, (mapV n V)[j]? = some u → w.cell? ((⟨b, off, none⟩ : Addr).add j) = some u := by
      intro j u hu
      have hj : j < n := by
        have := (List.getElem?_eq_some_iff.1 hu).1
        rwa [mapV_length] at this
      rw [addr_add, hc j hj, ← hu, mapV_get hj]
    obtain ⟨v', w', hr, h2, _, _⟩ := run_append_own (P := Try.prog) w base 24 ty 3 i0 (.int .i64 0) 1 8 Try.underlying24 hi hz0 hz1 hz2 rfl (by decide) _ 0 [] hown ⟨b, off, none⟩ n cap (mapV n V) (by rw [mapV_length]; omega) hsrc (mapV_one n V) (by unfold maxLen; omega) (by omega) (by omega)
    have hg := run_append_grow (P := Try.prog) (w := w) 24 ty 3 i0 (.int .i64 0) Try.underlying24 hi hz0 ⟨z, 0, none⟩ 0 0 [] (by simp) (by simp) ⟨b, off, none⟩ n cap (mapV n V) (by rw [mapV_length, hz1]; omega) hsrc (by omega) (by omega) (by rw [Nat.zero_add, nextslicecap_zero (by omega), hz2]; omega)
    rw [hr] at hg
    injection hg with e1 e2
    rw [List.nil_append, Nat.zero_add] at h2
    obtain ⟨a', cap', b', rfl, ol⟩ := OwnL.of_owns h2
    refine ⟨a', cap', b', w', hr, ol, ?_⟩
    rw [e2]
    exact ((Fr.refl _ w).drew).alloc _
theorem wpList_copyE {w : World} {ops : Array Oper} {rest : List Oper} {o : Oper} {A : Act} {Q : Exit → Act → World → Prop} (hgd : o.guard = none) (s x : Operand) (ho : o.op = .call { callee := .builtin .append, args := #[s, x], argTypes := #[24, 24] })
    (z base : Nat) (hs : A.eval s = .slice (some ⟨z, 0, none⟩) 0 0) (hb : Blk w z #[] 3) (hz : base ≤ z) (a : Option Addr) (n cap : Nat) (V : Nat → Int) (b : Nat) (hx : A.eval x = .slice a n cap) (hN : Nums w a n cap V b) (hf : a = none → n = 0 ∧ cap = 0) (hn : n ≤ 10000000)
    (h : ∀ a' cap' b' w', OwnL w' base a' n cap' V b' → Fr (fun _ => False) w w' → wpList Try.prog ops Q rest (A.put o.dst (.slice a' n cap')) w') : wpList Try.prog ops Q (o :: rest) A w := by
  obtain ⟨a', cap', b', w', hr, ol, f⟩ := run_copyE hb hz hN hf hn o.type
  refine wpList_plain hgd fun _ hK => ?_
  unfold Oper.wp execOp
  simp only [ho, resolve, invoke, builtin, Sem.run_bind, Sem.run_pure, Result.andThen_ok, List.map_toArray, List.map_cons, List.map_nil, hs, hx, hr]
  exact hK _ _ (h _ _ _ _ ol f)
end Go.Proofs.Ytkndnibmgohcaaa
