/-
  A region that draws its order, by an invariant over what is done, the values that were given, and the world; operations that store are told like any other.
-/
import Derived.Test.YtfnacnelmkemeaaWeaveQ
namespace Go.Proofs.Ytfnacnelmkemeaa
open Go.RowKit

/-- Nothing is given, the world is changed. -/
def OutN (D : List Deferred) (X : World → Prop) : Exit → Act → World → Prop := fun e a w => e = .normal ∧ a.defers = D ∧ X w
theorem gives_of_wpN {P : Program} {o : Oper} {a : Act} {w : World} {X : World → Prop} (hd : o.dst = none) (h : o.wp P a w (fun a' w' => OutN a.defers X .normal a' w') (OutN a.defers X)) : Gives P o a.eval w (fun _ w' => X w') := by
  unfold Oper.wp at h
  unfold Gives
  generalize (execOp a.eval o).run P w = r at *
  cases r with
  | ok x w' =>
    cases x <;> simp only [Oper.upon] at h ⊢
    case value v => exact h.2.2
    case skip => exact h.2.2
    case defer dd =>
      have := h.2.1
      rw [hd] at this
      exact absurd (congrArg List.length this) (by simp [Act.put])
    case enter f args =>
      refine h.mono ?_
      intro e w'' he
      cases e with
      | returned v => exact ⟨v, rfl, he.2.2⟩
      | panicked c => exact absurd he.1 (by simp)
      | outgrown => obtain ⟨_, _, he, _⟩ := he; exact absurd he (by simp)
    case row row args => exact h.mono fun v w'' he => he.2.2
  | halt x w' =>
    cases x <;> simp only [Oper.upon] at h ⊢
    case panic v => exact absurd h.1 (by simp)
theorem step_of_listN {P : Program} {ops : Array Oper} {o : Oper} {a : Act} {w : World} {X : World → Prop} (hd : o.dst = none) (h : wpList P ops (OutN a.defers X) [o] a w) : StepG P ops o a w (fun _ w' => X w') := by
  unfold StepG
  unfold wpList at h
  split
  · rename_i hw
    simp only [hw, if_true] at h
    rcases h with h | ⟨_, _, _, he, _⟩
    · exact gives_of_wpN hd h
    · exact absurd he (by simp)
  · rename_i hw
    rw [if_neg hw] at h
    exact h.2.2

/-- What is asked of a region: who binds comes ahead; slots of their own; they look at none that an operation gives which is not ahead of them. -/
def weaveB2 (l : List Oper) (s : Nat) : Bool :=
  (List.range l.length).all fun i => match l[i]? with
    | none => false
    | some o => (o.after.all fun e => !Region.binds .any e || decide (e.on < i)) && (match o.dst with
        | none => true
        | some d => decide (d < s) && (List.range l.length).all fun j => j == i || (l[j]?.bind (·.dst)) != some d) && opPlain o &&
      (o.looksAt l.toArray).all fun d => (List.range l.length).all fun j => (l[j]?.bind (·.dst)) != some d || behind o j
structure Weaves2 (l : List Oper) (s : Nat) : Prop where
  low : ∀ {i : Nat} {o : Oper}, l[i]? = some o → ∀ e ∈ o.after, Region.binds .any e = true → e.on < i
  dst : ∀ {i : Nat} {o : Oper} {d : Nat}, l[i]? = some o → o.dst = some d → d < s ∧ ∀ (j : Nat) (o' : Oper), l[j]? = some o' → o'.dst = some d → j = i
  plain : ∀ {i : Nat} {o : Oper}, l[i]? = some o → opPlain o = true
  looks : ∀ {i : Nat} {o : Oper}, l[i]? = some o → ∀ d ∈ o.looksAt l.toArray, ∀ j o', l[j]? = some o' → o'.dst = some d → behind o j = true
theorem weaves2_of {l : List Oper} {s : Nat} (h : weaveB2 l s = true) : Weaves2 l s := by
  simp only [weaveB2, List.all_eq_true, List.mem_range] at h
  have hh := fun {i : Nat} {o : Oper} (ho : l[i]? = some o) => h i (List.getElem?_eq_some_iff.1 ho).1
  refine ⟨?_, ?_, ?_, ?_⟩
  · intro i o ho e he hb
    have := hh ho
    rw [ho] at this
    simp only [Bool.and_eq_true, Array.all_eq_true_iff_forall_mem, Bool.or_eq_true, decide_eq_true_eq] at this
    rcases this.1.1.1 e he with h1 | h1
    · rw [hb] at h1; simp at h1
    · exact h1
  · intro i o d ho hd
    have := hh ho
    rw [ho] at this
    simp only [Bool.and_eq_true] at this
    obtain ⟨⟨⟨_, h1⟩, _⟩, _⟩ := this
    rw [hd] at h1
    simp only [Bool.and_eq_true, decide_eq_true_eq, List.all_eq_true, List.mem_range, Bool.or_eq_true, beq_iff_eq, bne_iff_ne] at h1
    refine ⟨h1.1, fun j o' hj hd' => ?_⟩
    have hjl : j < l.length := (List.getElem?_eq_some_iff.1 hj).1
    rcases h1.2 j hjl with e | e
    · exact e
    · rw [hj] at e; exact absurd hd' e
  · intro i o ho
    have := hh ho
    rw [ho] at this
    simp only [Bool.and_eq_true] at this
    exact this.1.2
  · intro i o ho d hd j o' hj hd'
    have := hh ho
    rw [ho] at this
    simp only [Bool.and_eq_true, List.all_eq_true, List.mem_range, Bool.or_eq_true, bne_iff_ne] at this
    have hjl : j < l.length := (List.getElem?_eq_some_iff.1 hj).1
    rcases this.2 d hd j hjl with e | e
    · rw [hj] at e; exact absurd hd' e
    · exact e

/-- What is owed for operation i, where L is done. -/
def OblI (P : Program) (l : List Oper) (U : (Nat → Value) → Act) (Inv : (Nat → Bool) → (Nat → Value) → World → Prop) (i : Nat) (o : Oper) : Prop :=
  ∀ L vals w, Inv L vals w → L i = false → (∀ j, behind o j = true → L j = true) → (∀ k o', l[k]? = some o' → L k = true → ∀ j, behind o' j = true → L j = true) →
    StepG P l.toArray o (U vals) w (fun v w' => Inv (fun j => if j = i then true else L j) (fun k => if k = i then v else vals k) w')

theorem weaveI_any {F : Fence} {m : Nat} {P : Program} (hF : Open F P) {Q : Exit → Act → World → Prop} {A : Act} {l : List Oper} (hW : Weaves2 l A.tmps.size) (Inv : (Nat → Bool) → (Nat → Value) → World → Prop)
    (hO : ∀ i o, l[i]? = some o → OblI P l (fillA A l) Inv i o) (hT : ∀ vals w, Inv (fun j => decide (j < l.length)) vals w → Q .normal (fillA A l vals) w) :
    ∀ (fuel : Nat) (listed : Array Bool) (a : Act) (w : World) (vals : Nat → Value), listed.size = l.length → (∀ k o', l[k]? = some o' → listed.getD k false = true → ∀ j, behind o' j = true → listed.getD j false = true) → a.defers = A.defers → a.tmps.size = A.tmps.size →
      (∀ j o d, l[j]? = some o → listed.getD j false = true → o.dst = some d → a.tmps[d]? = some (vals j)) →
      (∀ d, (∀ j o, l[j]? = some o → o.dst = some d → listed.getD j false = false) → a.tmps[d]? = A.tmps[d]?) →
      Inv (fun j => listed.getD j false) vals w → listed.toList.count false ≤ fuel → wpAnyIn F m P .any l.toArray Q fuel listed a w := by
  have hat : ∀ (vals : Nat → Value) {j : Nat} {o : Oper} {d : Nat}, l[j]? = some o → o.dst = some d → (fillA A l vals).tmps[d]? = some (vals j) := by
    intro vals j o d ho hd
    obtain ⟨hs, hu⟩ := hW.dst ho hd
    have := fillT_at vals d l 0 j A.tmps o ho hd hs hu
    rw [Nat.zero_add] at this
    exact this
  have hoth : ∀ (vals : Nat → Value) (d : Nat), (∀ (j : Nat) (o : Oper), l[j]? = some o → o.dst ≠ some d) → (fillA A l vals).tmps[d]? = A.tmps[d]? := by
    intro vals d h
    refine fillT_other vals d _ _ _ (fun o ho => ?_)
    obtain ⟨k, hk⟩ := List.mem_iff_getElem?.1 ho
    exact h k o hk
  have hend : ∀ (listed : Array Bool) (a : Act) (w : World) (vals : Nat → Value), listed.size = l.length → a.defers = A.defers →
      (∀ j o d, l[j]? = some o → listed.getD j false = true → o.dst = some d → a.tmps[d]? = some (vals j)) →
      (∀ d, (∀ j o, l[j]? = some o → o.dst = some d → listed.getD j false = false) → a.tmps[d]? = A.tmps[d]?) →
      Inv (fun j => listed.getD j false) vals w → (∀ j, j < l.length → listed.getD j false = true) → Q .normal a w ∧ Region.ready .any l.toArray listed = [] := by
    intro listed a w vals hsz hdf h1 h2 hI hall
    constructor
    · have ha : a = fillA A l vals := by
        have : a.tmps = (fillA A l vals).tmps := by
          apply Array.ext_getElem?
          intro d
          by_cases hx : ∃ (j : Nat) (o : Oper), l[j]? = some o ∧ o.dst = some d
          · obtain ⟨j, o, ho, hd⟩ := hx
            rw [h1 j o d ho (hall j (List.getElem?_eq_some_iff.1 ho).1) hd, hat vals ho hd]
          · rw [h2 d (fun j o ho hd => absurd ⟨j, o, ho, hd⟩ hx), hoth vals d (fun j o ho hd => hx ⟨j, o, ho, hd⟩)]
        cases a
        simp only [fillA] at *
        subst hdf
        rw [this]
      have hL : (fun j => listed.getD j false) = (fun j => decide (j < l.length)) := by
        funext j
        by_cases hj : j < l.length
        · rw [hall j hj, decide_eq_true hj]
        · rw [decide_eq_false hj, Array.getD_eq_getD_getElem?, Array.getElem?_eq_none (by omega)]; rfl
      rw [hL] at hI
      rw [ha]
      exact hT vals w hI
    · refine List.eq_nil_iff_forall_not_mem.2 fun i hi => ?_
      obtain ⟨hiu, o, ho, _⟩ := mem_ready.1 hi
      have ho' : l[i]? = some o := by simpa using ho
      have hil : i < l.length := (List.getElem?_eq_some_iff.1 ho').1
      have := hall i hil
      have hi' : i < listed.size := by omega
      simp only [Array.getD_eq_getD_getElem?, Array.getElem?_eq_getElem hi', Option.getD_some] at hiu this
      rw [this] at hiu
      cases hiu
  intro fuel
  induction fuel with
  | zero =>
    intro listed a w vals hsz hcl hdf hts h1 h2 hI hc
    have hnone : ∀ j, j < l.length → listed.getD j false = true := by
      intro j hj
      have hmem : listed[j]'(by omega) ≠ false := fun e => by
        have : false ∈ listed.toList := by rw [← e]; exact Array.getElem_mem_toList (by omega)
        have := List.count_pos_iff.2 this
        omega
      have hj' : j < listed.size := by omega
      simp only [Array.getD_eq_getD_getElem?, Array.getElem?_eq_getElem hj', Option.getD_some]
      simpa using hmem
    have := hend listed a w vals hsz hdf h1 h2 hI hnone
    exact ⟨this.2, this.1⟩
  | succ fuel ih =>
    intro listed a w vals hsz hcl hdf hts h1 h2 hI hc
    by_cases hall : ∀ j, j < l.length → listed.getD j false = true
    · have := hend listed a w vals hsz hdf h1 h2 hI hall
      exact ⟨fun _ => this.1, fun i hi => by rw [this.2] at hi; simp at hi⟩
    · have hun : ∃ j, j < l.length ∧ listed.getD j false = false ∧ ∀ k, k < j → listed.getD k false = true := by
        have : ∃ j, j < l.length ∧ listed.getD j false = false := by
          apply Classical.byContradiction
          intro hno
          exact hall fun j hj => by
            cases hb : listed.getD j false with
            | true => rfl
            | false => exact absurd ⟨j, hj, hb⟩ hno
        obtain ⟨j, hj, hb⟩ := this
        induction j using Nat.strongRecOn with
        | ind j ihj =>
          by_cases hk : ∀ k, k < j → listed.getD k false = true
          · exact ⟨j, hj, hb, hk⟩
          · have : ∃ k, k < j ∧ listed.getD k false = false := by
              apply Classical.byContradiction
              intro hno
              exact hk fun k hkj => by
                cases hb' : listed.getD k false with
                | true => rfl
                | false => exact absurd ⟨k, hkj, hb'⟩ hno
            obtain ⟨k, hkj, hkb⟩ := this
            exact ihj k hkj (by omega) hkb
      obtain ⟨j0, hj0l, hb0, hlow⟩ := hun
      have hr0 : j0 ∈ Region.ready .any l.toArray listed := by
        refine mem_ready.2 ⟨?_, l[j0], by simp [hj0l], fun e he hb => hlow _ (hW.low (List.getElem?_eq_getElem hj0l) e he hb)⟩
        have hj' : j0 < listed.size := by omega
        simp only [Array.getD_eq_getD_getElem?, Array.getElem?_eq_getElem hj', Option.getD_some] at hb0 ⊢
        exact hb0
      refine ⟨fun hr => (by rw [hr] at hr0; simp at hr0), fun i hi => ?_⟩
      obtain ⟨hiu, o, ho, _⟩ := mem_ready.1 hi
      have ho' : l[i]? = some o := by simpa using ho
      have hil : i < l.length := (List.getElem?_eq_some_iff.1 ho').1
      have hpl := hW.plain ho'
      have hil' : i < listed.size := by omega
      have hib : listed.getD i false = false := by
        simp only [Array.getD_eq_getD_getElem?, Array.getElem?_eq_getElem hil', Option.getD_some] at hiu ⊢
        exact hiu
      have hob := hO i o ho' (fun j => listed.getD j false) vals w hI hib (fun j hj => behind_ready hi ho hj) hcl
      have hst := step_congr (b := a) (opPlain_sel hpl) (fun d' hd' => by
        by_cases hx : ∃ (j : Nat) (o' : Oper), l[j]? = some o' ∧ o'.dst = some d'
        · obtain ⟨j, o', hjo, hjd⟩ := hx
          rw [hat vals hjo hjd, h1 j o' d' hjo (behind_ready hi ho (hW.looks ho' d' hd' j o' hjo hjd)) hjd]
        · rw [hoth vals d' (fun j o ho hd => hx ⟨j, o, ho, hd⟩), h2 d' (fun j o ho hd => absurd ⟨j, o, ho, hd⟩ hx)]) hob
      refine wpOpIn_of_step hF ho (opPlain_def hpl) hst ?_
      intro v w' hinv
      have hset : ∀ j, (listed.setIfInBounds i true).getD j false = if j = i then true else listed.getD j false := by
        intro j
        by_cases e : j = i
        · subst e; simp [hil']
        · rw [if_neg e, getD_set_ne false (fun h => e h.symm)]
      refine ih _ _ _ (fun k => if k = i then v else vals k) (by simpa using hsz) ?_ (by cases o.dst <;> exact hdf) (by cases o.dst <;> simp [Act.put, hts]) ?_ ?_ ?_ ?_
      · intro k o' hk hkl j hj
        rw [hset] at hkl ⊢
        by_cases e : j = i
        · rw [if_pos e]
        · rw [if_neg e]
          by_cases e' : k = i
          · subst e'
            rw [ho'] at hk
            cases hk
            exact behind_ready hi ho hj
          · rw [if_neg e'] at hkl
            exact hcl k o' hk hkl j hj
      · intro j o' d' hjo hjl hjd
        rw [hset] at hjl
        by_cases e : j = i
        · subst e
          rw [ho'] at hjo
          cases hjo
          rw [hjd]
          simp only [Act.put, if_true]
          rw [Array.getElem?_setIfInBounds_self_of_lt (by rw [hts]; exact (hW.dst ho' hjd).1)]
        · rw [if_neg e] at hjl
          simp only [if_neg e]
          cases hd : o.dst with
          | none => exact h1 j o' d' hjo hjl hjd
          | some d =>
            have hne : d ≠ d' := fun h => e ((hW.dst ho' hd).2 j o' hjo (by rw [h]; exact hjd))
            simp only [Act.put]
            rw [Array.getElem?_setIfInBounds_ne hne]
            exact h1 j o' d' hjo hjl hjd
      · intro d' hx
        have hx' : ∀ j o, l[j]? = some o → o.dst = some d' → listed.getD j false = false := fun j o' hjo hjd => by
          have := hx j o' hjo hjd
          rw [hset] at this
          split at this
          · cases this
          · exact this
        cases hd : o.dst with
        | none => exact h2 d' hx'
        | some d =>
          have hne : d ≠ d' := fun h => by
            have := hx i o ho' (by rw [hd, h])
            rw [hset, if_pos rfl] at this
            cases this
          simp only [Act.put]
          rw [Array.getElem?_setIfInBounds_ne hne]
          exact h2 d' hx'
      · have hL : (fun j => (listed.setIfInBounds i true).getD j false) = (fun j => if j = i then true else listed.getD j false) := funext hset
        rw [hL]
        exact hinv
      · have hcs : (listed.setIfInBounds i true).toList.count false + 1 = listed.toList.count false := by
          rw [Array.toList_setIfInBounds, List.count_set (by simpa using hil')]
          have hmem : listed.toList[i]'(by simpa using hil') = false := by
            simp only [Array.getD_eq_getD_getElem?, Array.getElem?_eq_getElem hil', Option.getD_some] at hib
            simpa using hib
          have hpos : 0 < listed.toList.count false := List.count_pos_iff.2 (by rw [← hmem]; exact List.getElem_mem _)
          rw [hmem, if_pos (by decide), if_neg (by decide)]
          omega
        omega

theorem weaveI {P : Program} {id : Nat} {Q : Exit → Act → World → Prop} {A : Act} {w : World} {l : List Oper} (hm : P.follows .mixedOrders = true) (hB : weaveB2 l A.tmps.size = true) (Inv : (Nat → Bool) → (Nat → Value) → World → Prop) (h0 : Inv (fun _ => false) (fun _ => undef) w.drew)
    (hO : ∀ i o, l[i]? = some o → OblI P l (fillA A l) Inv i o) (hT : ∀ vals w, Inv (fun j => decide (j < l.length)) vals w → Q .normal (fillA A l vals) w) : (Code.region id l.toArray true).wp P Q A w := by
  refine wpIn_wide.1 (wpIn_region_any (F := Fence.wide) (n := 0) hm ?_)
  have hz : ∀ j, (Array.replicate l.length false).getD j false = false := by
    intro j
    rw [Array.getD_eq_getD_getElem?, Array.getElem?_replicate]
    split <;> rfl
  refine weaveI_any (open_wide P) (weaves2_of hB) Inv hO hT _ _ _ _ (fun _ => undef) (by simp) (fun k o' _ h => ?_) rfl rfl (fun j o d _ h => ?_) (fun _ _ => rfl) ?_ ?_
  · simp only [List.size_toArray] at h; rw [hz] at h; cases h
  · simp only [List.size_toArray] at h; rw [hz] at h; cases h
  · have : (fun j => (Array.replicate l.toArray.size false).getD j false) = (fun _ => false) := funext fun j => by simp only [List.size_toArray]; exact hz j
    rw [this]
    exact h0
  · simp
end Go.Proofs.Ytfnacnelmkemeaa
