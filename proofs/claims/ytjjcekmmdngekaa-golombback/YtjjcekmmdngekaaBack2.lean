/-
  Law package 2: numbers that are written one behind the other are read so (GolombBack): the walk.
-/
import Derived.Test.YtjjcekmmdngekaaFirst2
import Derived.Test.YtjjcekmmdngekaaArgs
namespace Go.Proofs.Ytjjcekmmdngekaa
open Go.RowKit

theorem Try.info_int : (Try.prog.info? 3).map (fun i => (i.zero, i.size, i.bytes)) = some (some (.int .i64 0), 1, 8) := by kernel_rfl

/-- Numbers as the cells of a row. -/
def intRow (l : List Int) : List Value := l.map (Value.int .i64)
theorem intRow_length (l : List Int) : (intRow l).length = l.length := by simp [intRow]
theorem intRow_snoc (l : List Int) (z : Int) : intRow (l ++ [z]) = intRow l ++ [.int .i64 z] := by simp [intRow]
theorem intRow_get (l : List Int) (i : Nat) (h : i < l.length) : (intRow l)[i]? = some (.int .i64 (l.getD i 0)) := by simp [intRow, h, List.getD]

/-- Which of the first k numbers were written. -/
def hadTo (V : Nat → Int) : Nat → List Int
  | 0 => []
  | k + 1 => if k < 60 ∧ hasS (V k) = true then hadTo V k ++ [V k] else hadTo V k
theorem hadTo_yes (V : Nat → Int) (k : Nat) (h : k < 60) (hs : hasS (V k) = true) : hadTo V (k + 1) = hadTo V k ++ [V k] := by rw [hadTo, if_pos ⟨h, hs⟩]
theorem hadTo_no (V : Nat → Int) (k : Nat) (h : ¬ (k < 60 ∧ hasS (V k) = true)) : hadTo V (k + 1) = hadTo V k := by rw [hadTo, if_neg h]
theorem hadTo_len (V : Nat → Int) (k : Nat) : (hadTo V k).length ≤ min k 60 := by
  induction k with
  | zero => simp [hadTo]
  | succ k ih =>
    rw [hadTo]
    split
    · simp; omega
    · omega
theorem hadTo_all (V : Nat → Int) (k : Nat) : ∀ z ∈ hadTo V k, hasS z = true := by
  induction k with
  | zero => simp [hadTo]
  | succ k ih =>
    rw [hadTo]
    split
    · rename_i h
      intro z hz
      simp at hz
      rcases hz with hz | rfl
      · exact ih z hz
      · exact h.2
    · exact ih

/-- The bits of numbers one behind the other. -/
def codes (l : List Int) : List Bool := l.flatMap codeS
theorem codes_snoc (l : List Int) (z : Int) : codes (l ++ [z]) = codes l ++ codeS z := by simp [codes]
theorem codes_len (l : List Int) : (codes l).length ≤ 64 * l.length := by
  induction l with
  | nil => simp [codes]
  | cons z l ih =>
    have := codeS_len z
    simp [codes] at *
    omega
theorem take_succ_int (l : List Int) (j : Nat) (h : j < l.length) : l.take (j + 1) = l.take j ++ [l.getD j 0] := by
  rw [List.take_succ_eq_append_getElem h]
  simp [List.getD, h]
theorem codes_part (l : List Int) (j : Nat) (h : j < l.length) : ∃ t, codes l = codes (l.take j) ++ codeS (l.getD j 0) ++ t := by
  refine ⟨codes (l.drop (j + 1)), ?_⟩
  rw [← codes_snoc, ← take_succ_int l j h]
  simp only [codes, ← List.flatMap_append, List.take_append_drop]

/-- The j-th number is read. -/
theorem read_part {zs : List Nat} (l : List Int) (hP : Packs zs (codes l)) (j : Nat) (h : j < l.length) (hs : hasS (l.getD j 0) = true) :
    sget (bitAt zs) (codes (l.take j)).length = (l.getD j 0, true, (codes (l.take (j + 1))).length) ∧ (codes (l.take (j + 1))).length ≤ 8 * zs.length := by
  obtain ⟨t, ht⟩ := codes_part l j h
  have e : codeS (l.getD j 0) = gsigned (l.getD j 0) := by rw [codeS, hs, if_pos rfl]
  have hlen : (codes (l.take (j + 1))).length = (codes (l.take j)).length + (gsigned (l.getD j 0)).length := by
    rw [take_succ_int l j h, codes_snoc, e, List.length_append]
  have hb := hasS_true hs
  generalize l.getD j 0 = z at *
  refine ⟨?_, ?_⟩
  · rw [sget_code (bitAt zs) z _ hb.1 hb.2, hlen]
    intro i hi
    rw [hP.bit, ht, e, List.append_assoc]
    simp only [List.getD]
    rw [List.getElem?_append_right (by omega), List.getElem?_append_left (by omega), show (codes (l.take j)).length + i - (codes (l.take j)).length = i by omega]
  · have h2 := hP.len
    have h3 : (codes l).length = (codes (l.take j)).length + (gsigned z).length + t.length := by rw [ht, e, List.length_append, List.length_append]
    omega

/-- The writer, what was written, and that they lie apart. -/
structure Had (w0 u : World) (p base : Nat) (v hv : Value) (zs : List Nat) (l : List Int) : Prop where
  wr : Wr u p v zs (codes l)
  row : u.ownsRow base 3 1 hv l.length (intRow l)
  ap : ∀ g, hv.ownBlock = some g → g ≠ p ∧ v.ownBlock ≠ some g
  new : ∀ g, v.ownBlock = some g → base ≤ g
  fr : Fr (fun _ => False) w0 u

theorem Had.step {w0 w1 w2 : World} {p base : Nat} {v v' hv : Value} {zs zs' : List Nat} {l : List Int} {s : List Bool} (h : Had w0 w1 p base v hv zs l) (hb : w0.heap.size ≤ base) (hp : w0.heap.size ≤ p) (hbs : base ≤ w1.heap.size) (h2 : Wr w2 p v' zs' s) (st : WrStep p v v' w1 w2) :
    w2.ownsRow base 3 1 hv l.length (intRow l) ∧ (∀ g, hv.ownBlock = some g → g ≠ p ∧ v'.ownBlock ≠ some g) ∧ (∀ g, v'.ownBlock = some g → base ≤ g) ∧ Fr (fun _ => False) w0 w2 := by
  refine ⟨ownsRow_fr h.row st.fr ?_, ?_, ?_, ?_⟩
  · intro g hg hk
    rcases hk with e | e
    · exact (h.ap g hg).1 e
    · exact (h.ap g hg).2 e
  · intro g hg
    refine ⟨(h.ap g hg).1, ?_⟩
    rcases st.at' with e | e
    · rw [e]; exact (h.ap g hg).2
    · intro hk
      have := e g hk
      have := h.row.lt g hg
      omega
  · rcases st.at' with e | e
    · rw [e]; exact h.new
    · intro g hg; have := e g hg; omega
  · refine h.fr.trans st.fr ?_
    intro i hi hk
    rcases hk with rfl | hk
    · omega
    · have := h.new i hk; omega

theorem ownsRow_form {w : World} {base : Nat} {e : TypeId} {v : Value} {n : Nat} {xs : List Value} (h : w.ownsRow base e 1 v n xs) : ∃ a cap, v = .slice a n cap ∧ (0 < n → ∃ g, a = some ⟨g, 0, none⟩ ∧ v.ownBlock = some g) := by
  rcases h.2 with ⟨rfl, h0⟩ | ⟨g, cap, cur, rfl, _⟩
  · exact ⟨none, 0, by rw [h0], fun hp => by omega⟩
  · exact ⟨_, cap, rfl, fun _ => ⟨g, rfl, rfl⟩⟩

set_option maxHeartbeats 2000000 in
theorem back_walk (a : Option Addr) (len cap : Nat) (V : Nat → Int) (w : World) (h0 : CellsIn w a len cap (fun i => .int .i64 (V i))) (hV : ∀ i, -9223372036854775808 ≤ V i ∧ V i ≤ 9223372036854775807) :
    Calls Try.prog 5 #[.slice a len cap] w fun e w' => e = .returned (.bool true) ∧ Below w.heap.size w w' := by
  have hlen : (len : Int) ≤ 9223372036854775807 := by have := h0.1; have := h0.2.1; unfold maxLen at *; omega
  have H0 : Hid (CellsIn w a len cap (fun i => .int .i64 (V i))) := h0
  have HV : Hid (∀ i, -9223372036854775808 ≤ V i ∧ V i ≤ 9223372036854775807) := hV
  clear h0 hV
  obtain ⟨i0, hi, hz0, hz1, hz2⟩ := info_parts Try.info_int
  go_enter Try.func5, Try.ntmps5
  go_wp2_with fail
  refine (first_any _).mono ?_
  rintro e w1 ⟨rfl, F1⟩
  go_wp2_with fail
  have hW := Wr.new w1
  have hs1 := F1.size
  go_loopw [4, 5, 19] (fun n hv i wr => ∃ k : Nat, k ≤ len ∧ i = .int .i64 (k : Int) ∧ n = .int .i64 ((codes (hadTo V k)).length : Int) ∧ ∃ v zs, Had w wr w1.heap.size (w1.heap.size + 1) v hv zs (hadTo V k)) (fun _ _ i _ => len - (intOf i).toNat)
  case atStart =>
    refine ⟨0, Nat.zero_le _, rfl, rfl, _, _, ⟨hW, World.ownsRow_nil _ _ _ _, ?_, ?_, F1.alloc _⟩⟩
    · intro g hg; cases hg
    · intro g hg; cases hg
  case round =>
    obtain ⟨k, hk, rfl, rfl, v1, zs1, H1⟩ := hrel
    have hcl := codes_len (hadTo V k)
    have hhl := hadTo_len V k
    have hbs : w1.heap.size + 1 ≤ wr.heap.size := H1.wr.blk.lt
    by_cases hlt : k < len
    · obtain ⟨b, off, rfl, hall⟩ := H0.out.at hlt
      have c0 := hall k hlt
      have c0' := (H1.fr.cell (p := ⟨b, off + k, none⟩) (cell_lt c0) (fun h => h)).trans c0
      obtain ⟨r1, r2⟩ := HV.out k
      have hki : (k : Int) < (len : Int) := by omega
      clear c0 hall
      obtain ⟨z, hz⟩ : ∃ z, z = V k := ⟨_, rfl⟩
      rw [← hz] at r1 r2 c0'
      have HZ : Hid (z = V k) := hz
      clear hz
      by_cases h60 : k < 60
      · have h60' : (k : Int) < 60 := by omega
        go_wp2_with fail
        refine (gputs_any wr w1.heap.size v1 zs1 _ z H1.wr (by omega) r1 r2).mono ?_
        rintro e w2 ⟨rfl, v2, zs2, h2, st2⟩
        obtain ⟨o2, ap2, nw2, F2⟩ := H1.step (by omega) (by omega) hbs h2 st2
        have hsz2 := st2.fr.size
        cases hsz : hasS z with
        | false =>
          have HB : Hid (hadTo V (k + 1) = hadTo V k) := hadTo_no V k (by rw [← HZ.out, hsz]; simp)
          have HC : Hid (codeS z = []) := by show _ = _; rw [codeS, hsz]; rfl
          clear c0' st2
          go_wp2
          go_roundw
          case rel => exact ⟨k + 1, by omega, by go_num, by rw [HB.out], v2, zs2, by rw [HB.out]; exact ⟨by have h3 := h2; rw [HC.out, List.append_nil] at h3; exact h3, o2, ap2, nw2, F2⟩⟩
          case measure => simp [intOf]; omega
        | true =>
          have HB : Hid (hadTo V (k + 1) = hadTo V k ++ [z]) := by show _ = _; rw [HZ.out]; exact hadTo_yes V k h60 (by rw [← HZ.out]; exact hsz)
          have hol := o2.lt
          have hcs := codeS_len z
          have h2l : w1.heap.size < w2.heap.size := h2.blk.lt
          clear c0' st2
          go_wp2_with (at_builtin; refine wpList_append_lies _ rfl _ _ 45 rfl (w1.heap.size + 1) 3 i0 (.int .i64 0) 1 8 Try.underlying45 hi hz0 hz1 hz2 rfl (by decide) _ _ _ rfl (o2.alloc _) ⟨w2.heap.size, 0, none⟩ 1 1 [.int .i64 z] rfl rfl ?c1 ?c2 (by decide) ?c3 ?c4 ?c5 (w2.heap.size + 1) (by simp) ?_)
          case c1 => exact World.news_of_block (heap_alloc_new _ _)
          case c2 => intro u hu; simp at hu; subst hu; rfl
          case c3 => unfold maxLen; omega
          case c4 => omega
          case c5 => simp; omega
          intro g cap' w3 hown hgrow hat _
          have F3 : Fr (fun j => u5.ownBlock = some j) w2 w3 := ((Fr.refl _ w2).alloc _).grown hgrow (fun j hj _ => hj)
          have h3 := h2.fr F3 (fun e => (ap2 _ e).1 rfl) (fun j hj e => (ap2 j e).2 hj)
          have Fw : Fr (fun _ => False) w w3 := F2.trans F3 (by intro j hj e; have := hol j e; omega)
          have R : w3.ownsRow (w1.heap.size + 1) 3 1 (.slice (some ⟨g, 0, none⟩) ((hadTo V k).length + 1) cap') (hadTo V k ++ [z]).length (intRow (hadTo V k ++ [z])) := by
            rw [intRow_snoc]; simpa using hown
          have AP : ∀ j, (Value.slice (some ⟨g, 0, none⟩) ((hadTo V k).length + 1) cap').ownBlock = some j → j ≠ w1.heap.size ∧ v2.ownBlock ≠ some j := by
            intro j hj
            simp [Value.ownBlock] at hj
            subst hj
            rcases hat with e | e
            · exact ap2 g e
            · refine ⟨by omega, fun e2 => ?_⟩
              have := h2.own.lt g e2
              omega
          clear hown hgrow hat
          go_wp2_with fail
          refine (gsizes_any _ z r1 r2).mono ?_
          rintro e w4 ⟨rfl, rfl⟩
          go_wp2
          go_roundw
          case rel => exact ⟨k + 1, by omega, by go_num, congrArg (Value.int .i64) (by rw [HB.out, codes_snoc, List.length_append]; omega), v2, zs2, by rw [HB.out]; exact ⟨by rw [codes_snoc]; exact h3, R, AP, nw2, Fw⟩⟩
          case measure => simp [intOf]; omega
      · have h60' : ¬ (k : Int) < 60 := by omega
        have h60'' : decide ((k : Int) < 60) = false := by simp; omega
        have HB : Hid (hadTo V (k + 1) = hadTo V k) := hadTo_no V k (fun h => h60 h.1)
        go_wp2
        go_roundw
        case rel => exact ⟨k + 1, by omega, by go_num, by rw [HB.out], v1, zs1, by rw [HB.out]; exact H1⟩
        case measure => simp [intOf]; omega
    · have hki : ¬ (k : Int) < (len : Int) := by omega
      have hall := hadTo_all V k
      generalize hadTo V k = l at H1 hcl hhl hall
      obtain ⟨ah, caph, rfl, hform⟩ := ownsRow_form H1.row
      have HA : Hid (∀ z ∈ l, hasS z = true) := hall
      have HF : Hid (0 < l.length → ∃ g, ah = some ⟨g, 0, none⟩ ∧ (Value.slice ah l.length caph).ownBlock = some g) := hform
      clear hall hform
      go_wp2_with fail
      refine (bytes_any _ _ _ _ _ H1.wr (by omega)).mono ?_
      rintro e w2 ⟨q2, rfl, b2, hq2, f2⟩
      have h2 := H1.wr.fr f2 (fun h => h) (fun _ _ h => h)
      have o2 := ownsRow_fr H1.row f2 (fun _ _ h => h)
      have F2 := H1.fr.trans' f2
      have hz1 : zs1.length ≤ 100000000000000 := by have := H1.wr.packs.len; omega
      have HR : Hid (Reads w2 (.slice (some ⟨q2, 0, none⟩) zs1.length zs1.length) (rowOf zs1)) := ⟨_, _, by rw [rowOf_length], fun _ => ⟨_, rfl, fun j u hu => World.news_of_block b2 j u hu⟩⟩
      go_wp2_with fail
      refine (new_any _ _ zs1 HR.out hz1 H1.wr.packs.small).mono ?_
      rintro e w3 ⟨p3, q3, rfl, r3, hp3, hq3, f3⟩
      have h3 := h2.fr f3 (fun h => h) (fun _ _ h => h)
      have o3 := ownsRow_fr o2 f3 (fun _ _ h => h)
      have F3 : Fr (fun _ => False) w w3 := F2.trans' f3
      have n1 : w1.heap.size < p3 := by have := h2.blk.lt; omega
      have n2 : ∀ j, v1.ownBlock = some j → j < p3 := by intro j hj; have := h2.own.lt j hj; omega
      have n3 : ∀ j, (Value.slice ah l.length caph).ownBlock = some j → j < p3 := by intro j hj; have := o2.lt j hj; omega
      have n4 : w.heap.size ≤ p3 := by omega
      have hP := H1.wr.packs
      have HP : Hid (Packs zs1 (codes l)) := hP
      clear hW H1 h2 HR b2 f2 f3 hq2 hp3 hq3 o2 F2 hP
      go_wp2_with fail
      go_loopw [45] (fun i wr => ∃ j : Nat, j ≤ l.length ∧ i = .int .i64 (j : Int) ∧ Rd wr p3 q3 zs1 (codes (l.take j)).length 0 ∧ Wr wr w1.heap.size v1 zs1 (codes l) ∧ wr.ownsRow (w1.heap.size + 1) 3 1 (.slice ah l.length caph) l.length (intRow l) ∧ Fr (fun _ => False) w wr) (fun i _ => l.length - (intOf i).toNat)
      case atStart => exact ⟨0, Nat.zero_le _, rfl, by simpa [codes] using r3, h3, o3, F3⟩
      case round =>
        obtain ⟨j, hj, rfl, r4, h4, o4, F4⟩ := hrel
        have hcj := codes_len (l.take j)
        have hlj : (l.take j).length ≤ j := List.length_take_le _ _
        by_cases hlt2 : j < l.length
        · obtain ⟨g, rfl, hgb⟩ := HF.out (by omega)
          have cg := ownsRow_cell o4 j _ (intRow_get l j hlt2)
          have hji : (j : Int) < (l.length : Int) := by omega
          have hsj : hasS (l.getD j 0) = true := HA.out _ (by simp [List.getD, hlt2])
          obtain ⟨rd, rl⟩ := read_part l HP.out j hlt2 hsj
          have hbz := hasS_true hsj
          obtain ⟨z, hz⟩ : ∃ z, z = l.getD j 0 := ⟨_, rfl⟩
          rw [← hz] at cg rd hbz
          have HRD : Hid (sget (bitAt zs1) (codes (l.take j)).length = (z, true, (codes (l.take (j + 1))).length)) := rd
          clear rd hsj hz
          go_wp2_with fail
          refine (sget_any _ p3 q3 _ _ _ r4 hz1 (by omega) (by omega)).mono ?_
          rintro e w5 ⟨x, ok, rfl, n, hg, r5, f5⟩
          rw [HRD.out] at hg
          simp only [Prod.mk.injEq] at hg
          obtain ⟨rfl, rfl, hn⟩ := hg
          have hpz : past (codes (l.take j)).length n (8 * zs1.length) = 0 := by unfold past; omega
          rw [hpz, ← hn] at r5
          have h5 := h4.fr f5 (by omega) (fun i hi h => by have := n2 i hi; omega)
          have o5 := ownsRow_fr o4 f5 (fun i hi h => by have := n3 i hi; omega)
          have F5 := F4.trans f5 (by intro i hi e; omega)
          have hxx : (z != z) = false := by simp
          clear r4 h4 o4 F4 f5 hn hpz cg
          go_wp2
          go_roundw
          case rel => exact ⟨j + 1, by omega, by go_num, r5, h5, o5, F5⟩
          case measure => simp [intOf]; omega
        · obtain rfl : j = l.length := by omega
          rw [List.take_length] at r4
          have hji : ¬ (l.length : Int) < (l.length : Int) := by omega
          go_wp2_with fail
          refine (len_any _ _ _ _ _ h4).mono ?_
          rintro e w6 ⟨rfl, rfl⟩
          go_wp2_with fail
          refine (rat_any _ _ _ _ _ _ r4).mono ?_
          rintro e w5 ⟨rfl, rfl⟩
          go_wp2
          go_ret
          exact ⟨rfl, F4.below (Nat.le_refl _) (fun _ _ h => h)⟩
end Go.Proofs.Ytjjcekmmdngekaa
