/-
  A region that draws its order and stores into blocks that it makes itself: a fact of each value, one more behind the store; the blocks are told apart.
-/
import Derived.Test.YtfnacnelmkemeaaWeaveI
import Derived.Test.YtfnacnelmkemeaaWeaveP
namespace Go.Proofs.Ytfnacnelmkemeaa
open Go.RowKit

/-- A fact of what operation j gave, which hangs on no block but the one that its value points to, or on none; dp: the other values that it names. -/
structure LocP where
  P : Nat → (Nat → Value) → World → Prop
  dp : List Nat
  fix : Bool
  ext : ∀ {j vals vals' w}, P j vals w → vals' j = vals j → (∀ d ∈ dp, vals' d = vals d) → P j vals' w
  fx : fix = true → ∀ {j vals w w'}, P j vals w → P j vals w'
  st : ∀ {S : Nat → Prop} {j vals w w'}, P j vals w → Fr S w w' → (∀ b, atBlock (vals j) = some b → ¬ S b) → P j vals w'
def LocP.any : LocP := ⟨fun _ _ _ => True, [], true, (fun _ _ _ => trivial), (fun _ _ _ _ _ _ => trivial), (fun _ _ _ => trivial)⟩
def LocP.eq (u : Value) : LocP := ⟨fun j vals _ => vals j = u, [], true, (fun h e _ => e.trans h), (fun _ _ _ _ _ h => h), (fun h _ _ => h)⟩
theorem BoxAt.loc {S : Nat → Prop} {w w' : World} {v : Value} {B : Nat} {cs : Array Value} {t : TypeId} (h : BoxAt w v B cs t) (f : Fr S w w') (hb : ∀ b, atBlock v = some b → ¬ S b) : BoxAt w' v B cs t := by
  obtain ⟨b, rfl, r, hl⟩ := h
  exact ⟨b, rfl, r.fr f (hb b rfl), hl⟩
def LocP.box (B : Nat) (cs : Array Value) (t : TypeId) : LocP := ⟨fun j vals w => BoxAt w (vals j) B cs t, [], false, (fun h e _ => by rw [e]; exact h), (fun h => by cases h), (fun h f hb => h.loc f hb)⟩
/-- A box that holds what operation i gave. -/
def LocP.boxOf (i B : Nat) (t : TypeId) : LocP := ⟨fun j vals w => BoxAt w (vals j) B #[vals i] t, [i], false, (fun h e d => by rw [e, d i (List.mem_singleton.2 rfl)]; exact h), (fun h => by cases h), (fun h f hb => h.loc f hb)⟩
def RowAtB (w : World) (v : Value) (B n : Nat) (V : Nat → Int) : Prop := ∃ g, v = .slice (some ⟨g, 0, none⟩) n n ∧ Row w g n V ∧ B ≤ g
theorem RowAtB.loc {S : Nat → Prop} {w w' : World} {v : Value} {B n : Nat} {V : Nat → Int} (h : RowAtB w v B n V) (f : Fr S w w') (hb : ∀ b, atBlock v = some b → ¬ S b) : RowAtB w' v B n V := by
  obtain ⟨g, rfl, r, hl⟩ := h
  exact ⟨g, rfl, r.fr f (hb g rfl), hl⟩
def LocP.rowB (B n : Nat) (V : Nat → Int) : LocP := ⟨fun j vals w => RowAtB w (vals j) B n V, [], false, (fun h e _ => by rw [e]; exact h), (fun h => by cases h), (fun h f hb => h.loc f hb)⟩
theorem LocP.via {p q : LocP} {j : Nat} {vals : Nat → Value} {w : World} (h : p.P j vals w) (e : p = q) : q.P j vals w := e ▸ h

/-- The fact of operation j, where D is done. -/
def sfact (ps : List LocP) (st : List (Nat × Nat × LocP)) (D : Nat → Bool) (j : Nat) : LocP :=
  match st.find? (fun s => s.2.1 == j) with
  | some s => if D s.1 then s.2.2 else ps.getD j .any
  | none => ps.getD j .any
/-- What is asked of the stores. -/
def cohB (l : List Oper) (n : Nat) (ps : List LocP) (st : List (Nat × Nat × LocP)) (S : List Nat) : Bool :=
  ((List.range l.length).all fun i => match l[i]? with
    | none => true
    | some o => (st.all fun s => !behind o s.2.1 || behind o s.1 || s.1 == i || (match l[s.1]? with | some o' => behind o' i | none => false)) &&
        (match st.find? (fun s => s.1 == i) with | some _ => o.dst.isNone | none => o.dst.isSome && decide (i < n))) &&
  (st.all fun s => (match l[s.1]? with | some o' => behind o' s.2.1 | none => false) && S.contains s.2.1 && decide (n ≤ s.1) && (match st.find? (fun s' => s'.2.1 == s.2.1) with | some s' => s'.1 == s.1 | none => false) && (match st.find? (fun s' => s'.1 == s.1) with | some s' => s'.2.1 == s.2.1 | none => false) && (match l[s.1]? with | some o' => s.2.2.dp.all (fun d => behind o' d) | none => false)) &&
  ((List.range ps.length).all fun j => (S.contains j || (ps.getD j .any).fix) && (ps.getD j .any).dp.isEmpty) && (S.all fun j => decide (j < n)) && decide (ps.length = n)

structure Coh (l : List Oper) (n : Nat) (ps : List LocP) (st : List (Nat × Nat × LocP)) (S : List Nat) : Prop where
  deps : ∀ {i : Nat} {o : Oper}, l[i]? = some o → ∀ s ∈ st, behind o s.2.1 = true → behind o s.1 = true ∨ s.1 = i ∨ ∃ o', l[s.1]? = some o' ∧ behind o' i = true
  dst : ∀ {i : Nat} {o : Oper}, l[i]? = some o → (∃ s, st.find? (fun s => s.1 == i) = some s ∧ o.dst = none) ∨ (st.find? (fun s => s.1 == i) = none ∧ (∃ d, o.dst = some d) ∧ i < n)
  tgt : ∀ s ∈ st, (∃ o', l[s.1]? = some o' ∧ behind o' s.2.1 = true) ∧ S.contains s.2.1 = true ∧ n ≤ s.1 ∧ (∃ s', st.find? (fun s' => s'.2.1 == s.2.1) = some s' ∧ s'.1 = s.1) ∧ (∃ s', st.find? (fun s' => s'.1 == s.1) = some s' ∧ s'.2.1 = s.2.1) ∧ ∃ o', l[s.1]? = some o' ∧ ∀ d ∈ s.2.2.dp, behind o' d = true
  fix : ∀ j, S.contains j = false → (ps.getD j .any).fix = true
  nodp : ∀ j, (ps.getD j .any).dp = []
  own : ∀ j, S.contains j = true → j < n
  len : ps.length = n
theorem coh_of {l : List Oper} {n : Nat} {ps : List LocP} {st : List (Nat × Nat × LocP)} {S : List Nat} (h : cohB l n ps st S = true) : Coh l n ps st S := by
  simp only [cohB, Bool.and_eq_true, List.all_eq_true, List.mem_range, decide_eq_true_eq] at h
  obtain ⟨⟨⟨⟨h1, h2⟩, h3⟩, h4⟩, h5⟩ := h
  refine ⟨?_, ?_, ?_, ?_, ?_, ?_, h5⟩
  · intro i o ho s hs hb
    have := h1 i (List.getElem?_eq_some_iff.1 ho).1
    rw [ho] at this
    simp only [Bool.and_eq_true, List.all_eq_true, Bool.or_eq_true, beq_iff_eq] at this
    rcases this.1 s hs with ((e | e) | e) | e
    · rw [hb] at e; simp at e
    · exact .inl e
    · exact .inr (.inl e)
    · cases hl : l[s.1]? with
      | none => rw [hl] at e; simp at e
      | some o' => rw [hl] at e; exact .inr (.inr ⟨o', rfl, e⟩)
  · intro i o ho
    have := h1 i (List.getElem?_eq_some_iff.1 ho).1
    rw [ho] at this
    simp only [Bool.and_eq_true] at this
    have h6 := this.2
    cases hf : st.find? (fun s => s.1 == i) with
    | some s => rw [hf] at h6; exact .inl ⟨s, rfl, by simpa using h6⟩
    | none =>
      rw [hf] at h6
      simp only [Bool.and_eq_true, decide_eq_true_eq] at h6
      exact .inr ⟨rfl, Option.isSome_iff_exists.1 h6.1, h6.2⟩
  · intro s hs
    have := h2 s hs
    obtain ⟨⟨⟨⟨⟨e1, e2⟩, e3⟩, e4⟩, e5⟩, e6⟩ := this
    refine ⟨?_, e2, e3, ?_, ?_, ?_⟩
    · cases hl : l[s.1]? with
      | none => rw [hl] at e1; simp at e1
      | some o' => rw [hl] at e1; exact ⟨o', rfl, e1⟩
    · cases hf : st.find? (fun s' => s'.2.1 == s.2.1) with
      | none => rw [hf] at e4; simp at e4
      | some s' => rw [hf] at e4; exact ⟨s', rfl, by simpa using e4⟩
    · cases hf : st.find? (fun s' => s'.1 == s.1) with
      | none => rw [hf] at e5; simp at e5
      | some s' => rw [hf] at e5; exact ⟨s', rfl, by simpa using e5⟩
    · cases hl : l[s.1]? with
      | none => rw [hl] at e6; simp at e6
      | some o' => rw [hl] at e6; exact ⟨o', rfl, by simpa using e6⟩
  · intro j hj
    by_cases hjl : j < ps.length
    · have := h3 j hjl
      simp only [Bool.or_eq_true] at this
      rcases this.1 with e | e
      · rw [hj] at e; cases e
      · exact e
    · rw [List.getD_eq_getElem?_getD, List.getElem?_eq_none (by omega)]; rfl
  · intro j
    by_cases hjl : j < ps.length
    · exact List.isEmpty_iff.1 (h3 j hjl).2
    · rw [List.getD_eq_getElem?_getD, List.getElem?_eq_none (by omega)]; rfl
  · intro j hj
    exact h4 j (List.contains_iff_mem.1 hj)

theorem sfact_congr {ps : List LocP} {st : List (Nat × Nat × LocP)} {D D' : Nat → Bool} {j : Nat} (h : ∀ s, st.find? (fun s => s.2.1 == j) = some s → D s.1 = D' s.1) : sfact ps st D j = sfact ps st D' j := by
  unfold sfact
  cases hf : st.find? (fun s => s.2.1 == j) with
  | none => rfl
  | some s => simp only [h s hf]

def InvL (w0 : World) (ps : List LocP) (st : List (Nat × Nat × LocP)) (S : List Nat) (L : Nat → Bool) (vals : Nat → Value) (w : World) : Prop :=
  Fr (fun _ => False) w0 w ∧ (∀ j, L j = true → (sfact ps st L j).P j vals w) ∧ (∀ j, L j = true → S.contains j = true → ∃ b, atBlock (vals j) = some b ∧ w0.heap.size ≤ b ∧ b < w.heap.size) ∧
    (∀ i j, L i = true → L j = true → S.contains i = true → S.contains j = true → i ≠ j → atBlock (vals i) ≠ atBlock (vals j))

/-- What is owed for operation i. -/
def OblL (P : Program) (l : List Oper) (U : (Nat → Value) → Act) (w0 : World) (ps : List LocP) (st : List (Nat × Nat × LocP)) (S : List Nat) (i : Nat) (o : Oper) : Prop :=
  ∀ vals w, Fr (fun _ => False) w0 w → (∀ j, behind o j = true → (sfact ps st (behind o) j).P j vals w) →
    match st.find? (fun s => s.1 == i) with
    | none => wpList P l.toArray (Out (o.dst.getD 0) (U vals).defers (fun v w' => Fr (fun _ => False) w w' ∧ (ps.getD i .any).P i (fun _ => v) w' ∧ NewB (fun i => S.contains i) i v w w')) [o] (U vals) w
    | some s => wpList P l.toArray (OutN (U vals).defers (fun w' => Fr (fun b => atBlock (vals s.2.1) = some b) w w' ∧ (sfact ps st (fun _ => true) s.2.1).P s.2.1 vals w')) [o] (U vals) w
def OblsL (P : Program) (l : List Oper) (U : (Nat → Value) → Act) (w0 : World) (ps : List LocP) (st : List (Nat × Nat × LocP)) (S : List Nat) : Nat → List Oper → Prop
  | _, [] => True
  | i, o :: r => OblL P l U w0 ps st S i o ∧ OblsL P l U w0 ps st S (i + 1) r
theorem OblsL.at {P : Program} {l : List Oper} {U : (Nat → Value) → Act} {w0 : World} {ps : List LocP} {st : List (Nat × Nat × LocP)} {S : List Nat} : ∀ {r : List Oper} {i j : Nat} {o : Oper}, OblsL P l U w0 ps st S i r → r[j]? = some o → OblL P l U w0 ps st S (i + j) o
  | [], _, _, _, _, h => by simp at h
  | _ :: _, _, 0, _, h, e => by
    obtain rfl := Option.some.inj (by simpa using e)
    exact h.1
  | _ :: _, i, j + 1, _, h, e => by
    have := OblsL.at (j := j) h.2 (by simpa using e)
    rwa [show i + 1 + j = i + (j + 1) by omega] at this

theorem Gives.mono {P : Program} {o : Oper} {ρ : Operand → Value} {w : World} {X Y : Value → World → Prop} (h : Gives P o ρ w X) (hx : ∀ v w', X v w' → Y v w') : Gives P o ρ w Y := by
  unfold Gives at *
  generalize (execOp ρ o).run P w = r at *
  cases r with
  | ok x w' =>
    cases x <;> simp only at h ⊢
    case value v => exact hx _ _ h
    case skip => exact hx _ _ h
    case enter f args => exact h.mono fun e w'' ⟨v, e1, e2⟩ => ⟨v, e1, hx _ _ e2⟩
    case row row args => exact h.mono fun v w'' e => hx _ _ e
  | halt x w' => exact h
theorem StepG.mono {P : Program} {ops : Array Oper} {o : Oper} {a : Act} {w : World} {X Y : Value → World → Prop} (h : StepG P ops o a w X) (hx : ∀ v w', X v w' → Y v w') : StepG P ops o a w Y := by
  unfold StepG at *
  split
  · rename_i hw; rw [if_pos hw] at h; exact h.mono hx
  · rename_i hw; rw [if_neg hw] at h; exact hx _ _ h

theorem oblI_of {P : Program} {l : List Oper} {A : Act} {w0 : World} {n : Nat} {ps : List LocP} {st : List (Nat × Nat × LocP)} {S : List Nat} (hW : Weaves2 l A.tmps.size) (hC : Coh l n ps st S) {i : Nat} {o : Oper} (ho : l[i]? = some o) (h : OblL P l (fillA A l) w0 ps st S i o) : OblI P l (fillA A l) (InvL w0 ps st S) i o := by
  intro L vals w ⟨hF, hP, hB, hD⟩ hLi hdep hcl
  have hag : ∀ j, behind o j = true → sfact ps st L j = sfact ps st (behind o) j := fun j hj => sfact_congr fun s hs => by
    have hsm := List.mem_of_find?_eq_some hs
    have hsj : s.2.1 = j := by simpa using List.find?_some hs
    cases hb : behind o s.1 with
    | true => exact hdep _ hb
    | false =>
      cases hL : L s.1 with
      | false => rfl
      | true =>
        rcases hC.deps ho s hsm (by rw [hsj]; exact hj) with e | e | ⟨o', e1, e2⟩
        · rw [hb] at e; cases e
        · rw [e, hLi] at hL; cases hL
        · have := hcl _ _ e1 hL i e2
          rw [hLi] at this; cases this
  have hob := h vals w hF (fun j hj => by rw [← hag j hj]; exact hP j (hdep j hj))
  have hex : ∀ j v w', j ≠ i → (sfact ps st L j).P j vals w' → (sfact ps st L j).P j (fun k => if k = i then v else vals k) w' := fun j v w' hji hp => by
    refine (sfact ps st L j).ext hp (if_neg hji) fun d hd => ?_
    have hdi : d ≠ i := fun e => by
      unfold sfact at hd
      cases hf : st.find? (fun s => s.2.1 == j) with
      | none => rw [hf] at hd; simp only [hC.nodp] at hd; cases hd
      | some t =>
        rw [hf] at hd
        cases hL : L t.1 with
        | false => simp only [hL] at hd; rw [if_neg (by simp), hC.nodp] at hd; cases hd
        | true =>
          simp only [hL, if_true] at hd
          obtain ⟨_, _, _, _, _, o', h1, h2⟩ := hC.tgt t (List.mem_of_find?_eq_some hf)
          have := hcl _ _ h1 hL d (h2 d hd)
          rw [e, hLi] at this; cases this
    exact if_neg hdi
  rcases hC.dst ho with ⟨s, hs, hd⟩ | ⟨hs, ⟨d, hd⟩, hin⟩
  · rw [hs] at hob
    have hsm := List.mem_of_find?_eq_some hs
    have hsi : s.1 = i := by simpa using List.find?_some hs
    obtain ⟨⟨o', ho', hbt⟩, hSt, hns, ⟨s', hs', hss⟩, _, _⟩ := hC.tgt s hsm
    rw [hsi, ho] at ho'
    cases ho'
    have hLt := hdep _ hbt
    obtain ⟨bt, et, hnew, hbl⟩ := hB _ hLt hSt
    have hti : s.2.1 ≠ i := by have := hC.own _ hSt; omega
    refine (step_of_listN hd hob).mono ?_
    rintro v w' ⟨f, hq⟩
    have hSi : S.contains i = false := by
      cases e : S.contains i with
      | false => rfl
      | true => have := hC.own _ e; omega
    refine ⟨hF.trans f (fun b hb e => by rw [et] at e; cases e; omega), ?_, ?_, ?_⟩
    · intro j hj
      by_cases e : j = i
      · subst e
        have hnone : st.find? (fun s => s.2.1 == j) = none := by
          cases hf : st.find? (fun s => s.2.1 == j) with
          | none => rfl
          | some t =>
            have h1 : t.2.1 = j := by simpa using List.find?_some hf
            have := (hC.tgt t (List.mem_of_find?_eq_some hf)).2.1
            rw [h1, hSi] at this; cases this
        have hany : ∀ D, sfact ps st D j = LocP.any := fun D => by
          unfold sfact
          rw [hnone]
          show ps.getD j LocP.any = LocP.any
          rw [List.getD_eq_getElem?_getD, List.getElem?_eq_none (by have := hC.len; omega)]; rfl
        rw [hany]
        trivial
      · simp only [if_neg e] at hj ⊢
        by_cases et' : j = s.2.1
        · subst et'
          have : sfact ps st (fun j => if j = i then true else L j) s.2.1 = sfact ps st (fun _ => true) s.2.1 := sfact_congr fun t ht => by
            rw [hs'] at ht
            cases ht
            rw [hss, hsi, if_pos rfl]
          rw [this]
          refine (sfact ps st (fun _ => true) s.2.1).ext hq (if_neg e) fun d hd => if_neg fun e2 => ?_
          unfold sfact at hd
          rw [hs'] at hd
          simp only [if_true] at hd
          obtain ⟨_, _, _, _, _, o', h1, h2⟩ := hC.tgt s' (List.mem_of_find?_eq_some hs')
          rw [hss, hsi, ho] at h1
          cases h1
          have := hdep d (h2 d hd)
          rw [e2, hLi] at this; cases this
        · have hsame : sfact ps st (fun j => if j = i then true else L j) j = sfact ps st L j := sfact_congr fun t ht => by
            have htj : t.2.1 = j := by simpa using List.find?_some ht
            have hne : t.1 ≠ i := fun e1 => by
              obtain ⟨_, _, _, _, ⟨s2, h1, h2⟩, _⟩ := hC.tgt t (List.mem_of_find?_eq_some ht)
              rw [e1, hs] at h1
              cases h1
              exact et' (by rw [h2, htj])
            rw [if_neg hne]
          rw [hsame]
          refine hex j v w' e ?_
          cases hSj : S.contains j with
          | true => exact (sfact ps st L j).st (hP j hj) f (fun b e1 e2 => hD j s.2.1 hj hLt hSj hSt et' (by rw [e1, e2]))
          | false =>
            have hps : sfact ps st L j = ps.getD j LocP.any := by
              unfold sfact
              cases hf : st.find? (fun s => s.2.1 == j) with
              | none => rfl
              | some t =>
                have h1 : t.2.1 = j := by simpa using List.find?_some hf
                have := (hC.tgt t (List.mem_of_find?_eq_some hf)).2.1
                rw [h1, hSj] at this; cases this
            have h3 := hP j hj
            rw [hps] at h3 ⊢
            exact (ps.getD j LocP.any).fx (hC.fix j hSj) h3
    · intro j hj hSj
      have e : j ≠ i := fun e => by rw [e, hSi] at hSj; cases hSj
      simp only [if_neg e] at hj ⊢
      obtain ⟨b, e1, e2, e3⟩ := hB j hj hSj
      exact ⟨b, e1, e2, Nat.lt_of_lt_of_le e3 f.size⟩
    · intro j j' hj hj' hSj hSj' hne
      have e : j ≠ i := fun e => by rw [e, hSi] at hSj; cases hSj
      have e' : j' ≠ i := fun e => by rw [e, hSi] at hSj'; cases hSj'
      simp only [if_neg e, if_neg e'] at hj hj' ⊢
      exact hD j j' hj hj' hSj hSj' hne
  · rw [hs] at hob
    have hsU : d < (fillA A l vals).tmps.size := by simp only [fillA]; rw [fillT_size]; exact (hW.dst ho hd).1
    rw [hd] at hob
    refine (step_of_list hd hsU hob).mono ?_
    rintro v w' ⟨f, hq, hnb⟩
    have hns : ∀ {j t}, st.find? (fun s => s.2.1 == j) = some t → n ≤ t.1 := fun {j t} ht => (hC.tgt t (List.mem_of_find?_eq_some ht)).2.2.1
    refine ⟨hF.trans' f, ?_, ?_, ?_⟩
    · intro j hj
      by_cases e : j = i
      · subst e
        have : sfact ps st (fun k => if k = j then true else L k) j = ps.getD j LocP.any := by
          unfold sfact
          cases hf : st.find? (fun s => s.2.1 == j) with
          | none => rfl
          | some t =>
            have h1 : t.2.1 = j := by simpa using List.find?_some hf
            have h2 := hns hf
            obtain ⟨⟨o', h3, h4⟩, _⟩ := hC.tgt t (List.mem_of_find?_eq_some hf)
            have h5 : L t.1 = false := by
              cases hL : L t.1 with
              | false => rfl
              | true => have := hcl _ _ h3 hL j (by rw [← h1]; exact h4); rw [hLi] at this; cases this
            simp only [if_neg (show t.1 ≠ j by omega), h5]
            rfl
        rw [this]
        exact (ps.getD j LocP.any).ext hq (if_pos rfl) (fun d hd => by rw [hC.nodp] at hd; cases hd)
      · simp only [if_neg e] at hj ⊢
        have hsame : sfact ps st (fun j => if j = i then true else L j) j = sfact ps st L j := sfact_congr fun t ht => by
          have := hns ht
          rw [if_neg (by omega)]
        rw [hsame]
        exact hex j v w' e ((sfact ps st L j).st (hP j hj) f (fun _ _ h => h))
    · intro j hj hSj
      by_cases e : j = i
      · subst e
        simp only [if_true]
        obtain ⟨b, e1, e2, e3⟩ := hnb hSj
        exact ⟨b, e1, Nat.le_trans hF.size e2, e3⟩
      · simp only [if_neg e] at hj ⊢
        obtain ⟨b, e1, e2, e3⟩ := hB j hj hSj
        exact ⟨b, e1, e2, Nat.lt_of_lt_of_le e3 f.size⟩
    · intro j j' hj hj' hSj hSj' hne
      by_cases e : j = i
      · subst e
        have e' : j' ≠ j := fun h => hne h.symm
        simp only [if_neg e'] at hj'
        simp only [if_true, if_neg e']
        obtain ⟨b, e1, e2, _⟩ := hnb hSj
        obtain ⟨b', e3, _, e4⟩ := hB j' hj' hSj'
        rw [e1, e3]
        intro h
        cases h
        omega
      · simp only [if_neg e] at hj
        by_cases e' : j' = i
        · subst e'
          simp only [if_true, if_neg e]
          obtain ⟨b, e1, e2, _⟩ := hnb hSj'
          obtain ⟨b', e3, _, e4⟩ := hB j hj hSj
          rw [e1, e3]
          intro h
          cases h
          omega
        · simp only [if_neg e'] at hj'
          simp only [if_neg e, if_neg e']
          exact hD j j' hj hj' hSj hSj' hne

/-- The law. -/
theorem weaveL {P : Program} {id : Nat} {Q : Exit → Act → World → Prop} {A : Act} {w : World} {l : List Oper} (n : Nat) (ps : List LocP) (st : List (Nat × Nat × LocP)) (S : List Nat) (hm : P.follows .mixedOrders = true) (hB : weaveB2 l A.tmps.size = true) (hC : cohB l n ps st S = true) (hn : n ≤ l.length)
    (hO : OblsL P l (fillA A l) w.drew ps st S 0 l)
    (hT : ∀ vals w', Fr (fun _ => False) w.drew w' → (∀ j, j < n → (sfact ps st (fun j => decide (j < l.length)) j).P j vals w') → Apart (fun i => S.contains i) n vals → Q .normal (fillA A l vals) w') : (Code.region id l.toArray true).wp P Q A w := by
  have hCo := coh_of hC
  refine weaveI hm hB (InvL w.drew ps st S) ⟨Fr.refl _ _, (fun _ h => by cases h), (fun _ h => by cases h), (fun _ _ h => by cases h)⟩ (fun i o ho => ?_) (fun vals w' ⟨h1, h2, h3, h4⟩ => ?_)
  · have := hO.at ho
    rw [Nat.zero_add] at this
    exact oblI_of (weaves2_of hB) hCo ho this
  · exact hT vals w' h1 (fun j hj => h2 j (decide_eq_true (by omega))) (fun i j hi hj hSi hSj hne => h4 i j (decide_eq_true (by omega)) (decide_eq_true (by omega)) hSi hSj hne)
end Go.Proofs.Ytfnacnelmkemeaa
