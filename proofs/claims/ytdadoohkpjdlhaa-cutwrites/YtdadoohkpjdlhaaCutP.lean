/-
  Package cut: the pen.
-/
import Derived.Test.YtdadoohkpjdlhaaCutC
import Derived.Deep.RegionLaw
import Derived.StillTailTactics
import Derived.Laws.ResultCell
namespace Go.Proofs.Ytdadoohkpjdlhaa
open Go.RowKit

theorem Try.info_word : (Try.prog.info? 63).map (·.size) = some 4 := by kernel_rfl

/-- word, of a number that has four bytes. -/
theorem word_ok (v : Nat) (w : World) (hv : v < 4294967296) :
    Calls Try.prog 26 #[.int .i64 (v : Int)] w fun e w' => ∃ b0 b1 b2 b3 : Nat, word4 v = [b0, b1, b2, b3] ∧ e = .returned (.tuple #[.agg #[.int .u8 (b0 : Int), .int .u8 (b1 : Int), .int .u8 (b2 : Int), .int .u8 (b3 : Int)], .bool true]) ∧ Fr (fun _ => False) w w' := by
  go_enter Try.func26, Try.ntmps26
  go_wp2
  refine bodyPost_ret (v := .tuple #[.agg #[.int .u8 ((v : Int) / 16777216), .int .u8 ((v : Int) / 65536 % 256), .int .u8 ((v : Int) / 256 % 256), .int .u8 ((v : Int) % 256)], .bool true]) ?_ rfl ⟨v / 16777216, v / 65536 % 256, v / 256 % 256, v % 256, ?_, rfl, (Fr.refl _ w).alloc _⟩
  · rw [results_cell_tmp rfl]
    go_simp
  · unfold word4
    rw [Nat.mod_eq_of_lt (show v / 16777216 < 256 by omega)]

theorem word_no (v : Int) (w : World) (hv : v < 0 ∨ 4294967295 < v) :
    Calls Try.prog 26 #[.int .i64 v] w fun e w' => e = .returned (.tuple #[.agg #[.int .u8 0, .int .u8 0, .int .u8 0, .int .u8 0], .bool false]) ∧ Fr (fun _ => False) w w' := by
  rcases hv with hv | hv
  · go_enter Try.func26, Try.ntmps26
    go_wp2
    refine bodyPost_ret (v := .tuple #[.agg #[.int .u8 0, .int .u8 0, .int .u8 0, .int .u8 0], .bool false]) ?_ rfl ⟨rfl, (Fr.refl _ w).alloc _⟩
    rw [results_cell_tmp rfl]
    go_simp
  · have : ¬ v < 0 := by omega
    go_enter Try.func26, Try.ntmps26
    go_wp2
    refine bodyPost_ret (v := .tuple #[.agg #[.int .u8 0, .int .u8 0, .int .u8 0, .int .u8 0], .bool false]) ?_ rfl ⟨rfl, (Fr.refl _ w).alloc _⟩
    rw [results_cell_tmp rfl]
    go_simp

/-- A pen lies in block p: its bytes (the value v) are zs. -/
structure Pn (w : World) (p : Nat) (v : Value) (zs : List Nat) : Prop where
  blk : Blk w p #[v] 47
  own : w.ownsRow (p + 1) 5 1 v zs.length (rowOf zs)
  small : ∀ z ∈ zs, z < 256

theorem Pn.fr {w w' : World} {p : Nat} {v : Value} {zs : List Nat} {S : Nat → Prop} (h : Pn w p v zs) (f : Fr S w w') (hp : ¬ S p) (hv : ∀ k, v.ownBlock = some k → ¬ S k) : Pn w' p v zs :=
  ⟨h.blk.fr f hp, ownsRow_fr h.own f hv, h.small⟩
theorem Pn.new (w : World) : Pn (w.alloc (.cells #[.slice none 0 0] 47)) w.heap.size (.slice none 0 0) [] :=
  ⟨Blk.new _ _ _, World.ownsRow_nil _ _ _ _, by simp⟩

/-- The pen of block p (its bytes the value v, in w) has the bytes zs' in w', and nothing else has turned. -/
def PnGets (p : Nat) (v : Value) (w w' : World) (zs' : List Nat) : Prop := ∃ v', Pn w' p v' zs' ∧ WrStep p v v' w w'

theorem PnGets.none {w w' : World} {p : Nat} {v : Value} {zs : List Nat} (h : Pn w p v zs) (f : Fr (fun _ => False) w w') : PnGets p v w w' zs :=
  ⟨v, h.fr f (fun h => h) (fun _ _ h => h), ⟨f.mono (fun _ _ h => h.elim), .inl rfl⟩⟩

/-- Behind an append, and the store of its answer. -/
theorem pn_append {w w0 w1 : World} {p : Nat} {v v' : Value} {zs ys : List Nat} (h : Pn w p v zs) (f0 : Fr (fun _ => False) w w0)
    (hown : w1.ownsRow (p + 1) 5 1 v' (zs ++ ys).length (rowOf (zs ++ ys))) (hgrow : w0.grownBy w1 v.ownBlock) (hat : v'.ownBlock = v.ownBlock ∨ ∀ k, v'.ownBlock = some k → w0.heap.size ≤ k) (hy : ∀ z ∈ ys, z < 256) :
    Blk w1 p #[v] 47 ∧ PnGets p v w (w1.setCell ⟨p, 0, none⟩ v') (zs ++ ys) := by
  have h0 := h.fr f0 (fun h => h) (fun _ _ h => h)
  have hb1 : Blk w1 p #[v] 47 := h0.blk.of_block (hgrow.block p h0.blk.lt (fun e => by have := h0.own.lt p e.symm; omega))
  refine ⟨hb1, v', ⟨?_, ?_, ?_⟩, ⟨?_, ?_⟩⟩
  · simpa using hb1.set 0 v'
  · exact ownsRow_fr hown ((Fr.refl (fun k => k = p) w1).setCell (fun _ => rfl) _) (fun k hk e => by have := hown.lt k hk; omega)
  · intro z hz
    rcases List.mem_append.1 hz with hz | hz
    · exact h.small z hz
    · exact hy z hz
  · have f1 : Fr (fun k => k = p ∨ v.ownBlock = some k) w w1 := (f0.mono (fun _ _ h => h.elim)).grown hgrow (fun k hk _ => .inr hk)
    exact f1.setCell (fun _ => .inl rfl) _
  · rcases hat with e | e
    · exact .inl e
    · exact .inr fun k hk => Nat.le_trans f0.size (e k hk)

theorem run_append_zero {w : World} (base : Nat) (t ty e : TypeId) (i : TypeInfo) (size : Nat) (ht : Try.prog.underlying t = some (.slice e)) (hi : Try.prog.info? e = some i)
    (v : Value) (n : Nat) (xs : List Value) (hown : w.ownsRow base e size v n xs) (q : Addr) (c : Nat) :
    (Builtin.append_ #[t, t] ty #[v, .slice (some q) 0 c]).run Try.prog w = .ok v w := by
  rcases hown.2 with ⟨rfl, rfl⟩ | ⟨g, cap, cur, rfl, _, _, hnc, _⟩
  · simp [Builtin.append_, run_underlying ht, sizeOf, typeInfo, hi, Builtin.lenOf, Builtin.firstCells, loadCells, loadCellsFrom]
  · simp [Builtin.append_, run_underlying ht, sizeOf, typeInfo, hi, Builtin.lenOf, Builtin.firstCells, hnc, storeCells, loadCells, loadCellsFrom]

/-- append of bytes that may be none, onto an owned row: where the row lies behind it. -/
theorem wpList_append_at {w : World} {ops : Array Oper} {rest : List Oper} {o : Oper} {a : Act} {Q : Exit → Act → World → Prop} (hgd : o.guard = none) (s x : Operand)
    (ho : o.op = .call { callee := .builtin .append, args := #[s, x], argTypes := #[22, 22] })
    (base : Nat) (v : Value) (n : Nat) (xs : List Value) (hs : a.eval s = v) (hown : w.ownsRow base 5 1 v n xs)
    (ad : Option Addr) (m c : Nat) (news : List Value) (hx : a.eval x = .slice ad m c) (hl : news.length = m) (hsrc : m = 0 ∨ ∃ q, ad = some q ∧ ∀ j u, news[j]? = some u → w.cell? (q.add j) = some u) (hc0 : ad = none → m = 0 ∧ c = 0) (h1 : ∀ u ∈ news, u.oneCell' = true)
    (hbytes : n + m ≤ 100000000) (hbase : base ≤ w.heap.size)
    (h : ∀ v' w', w'.ownsRow base 5 1 v' (n + m) (xs ++ news) → w.grownBy w' v.ownBlock → (v'.ownBlock = v.ownBlock ∨ ∀ k, v'.ownBlock = some k → w.heap.size ≤ k) → wpList Try.prog ops Q rest (a.put o.dst v') w') : wpList Try.prog ops Q (o :: rest) a w := by
  obtain ⟨i0, hi, hz0, hz1, hz2⟩ := info_parts Try.info_u8
  by_cases hm : m = 0
  · subst hm
    obtain rfl : news = [] := List.eq_nil_of_length_eq_zero hl
    cases ad with
    | none =>
      obtain ⟨_, rfl⟩ := hc0 rfl
      refine wpList_append_own_none hgd s x 22 ho base 5 i0 1 Try.underlying22 hi v n xs hs hown hx ?_
      exact h v w (by simpa using hown) ⟨rfl, rfl, rfl, Nat.le_refl _, fun _ _ _ => rfl⟩ (.inl rfl)
    | some q =>
      refine wpList_plain hgd fun K hK => ?_
      have hrun := run_append_zero (w := w) base 22 o.type 5 i0 1 Try.underlying22 hi v n xs hown q c
      unfold Oper.wp
      simp [execOp, ho, resolve, invoke, builtin, hs, hx, hrun, Result.andThen]
      exact hK _ _ (h v w (by simpa using hown) ⟨rfl, rfl, rfl, Nat.le_refl _, fun _ _ _ => rfl⟩ (.inl rfl))
  · rcases hsrc with h0 | ⟨q, rfl, hcell⟩
    · exact absurd h0 hm
    · refine wpList_append_lies w hgd s x 22 ho base 5 i0 (.int .u8 0) 1 1 Try.underlying22 hi hz0 hz1 hz2 rfl (by decide) v n xs hs hown q m c news hx (by simpa using hl) hcell h1 (by omega) (by unfold maxLen; omega) (by omega) hbase w.heap.size rfl ?_
      intro g cap w' h2 h3 h4 _
      refine h _ w' h2 h3 ?_
      rcases h4 with e | e
      · left; rw [e]; rfl
      · right; intro k hk; simp [Value.ownBlock] at hk; omega

/-- Has a number a byte, four bytes? -/
def hasB (x : Int) : Bool := decide (0 ≤ x ∧ x < 256)
def hasW (x : Int) : Bool := decide (0 ≤ x ∧ x < 4294967296)
def byteC (x : Int) : List Nat := if hasB x = true then [x.toNat] else []
def wordC (x : Int) : List Nat := if hasW x = true then word4 x.toNat else []

set_option maxHeartbeats 1000000 in
/-- Byte. -/
theorem pbyte_any (w : World) (p : Nat) (v : Value) (zs : List Nat) (x : Int) (h : Pn w p v zs) (hn : zs.length ≤ 1000000) :
    Calls Try.prog 16 #[.pointer (some ⟨p, 0, none⟩), .int .i64 x] w fun e w' => e = .returned (.bool (hasB x)) ∧ PnGets p v w w' (zs ++ byteC x) := by
  cases hb : hasB x with
  | true =>
    rw [show byteC x = [x.toNat] by unfold byteC; rw [hb]; rfl]
    have hx : 0 ≤ x ∧ x < 256 := by simpa [hasB] using hb
    have hx0 : ¬ x < 0 := by omega
    have hx1 : ¬ 255 < x := by omega
    have hx2 : x % 256 = x := by omega
    have hc0 := h.blk.cell 0
    have hlt := h.blk.lt
    simp at hc0
    obtain ⟨i0, hi, hz0, hz1, hz2⟩ := info_parts Try.info_u8
    clear hb
    go_enter Try.func16, Try.ntmps16
    go_wp2_with (at_builtin; refine wpList_append_lies _ rfl _ _ 22 rfl (p + 1) 5 i0 (.int .u8 0) 1 1 Try.underlying22 hi hz0 hz1 hz2 rfl (by decide) v zs.length (rowOf zs) rfl (h.own.alloc _) ⟨w.heap.size, 0, none⟩ 1 1 [.int .u8 x] rfl rfl (World.news_of_block (heap_alloc_new _ _)) (by intro u hu; simp at hu; subst hu; rfl) (by decide) (by unfold maxLen; omega) (by omega) (by simp; omega) (w.heap.size + 1) (by simp) ?_)
    intro g cap w1 hown hgrow hat _
    obtain ⟨B, G⟩ := pn_append (ys := [x.toNat]) h ((Fr.refl (fun _ => False) w).alloc _) (v' := .slice (some ⟨g, 0, none⟩) (zs.length + 1) cap) (by rw [rowOf_snoc, Int.toNat_of_nonneg hx.1]; simpa using hown) hgrow (by
      rcases hat with e | e
      · left; rw [e]; rfl
      · right; intro k hk; simp [Value.ownBlock] at hk; simp; omega) (by intro z hz; simp at hz; omega)
    have d0 := B.cell 0
    have df := B.thaw
    simp at d0
    clear hown hgrow hat hc0 h
    go_wp2
    go_ret
    exact ⟨rfl, G⟩
  | false =>
    rw [show byteC x = [] by unfold byteC; rw [hb]; rfl, List.append_nil]
    have hx : x < 0 ∨ 255 < x := by simp [hasB] at hb; omega
    clear hb
    rcases hx with hx | hx
    · go_enter Try.func16, Try.ntmps16
      go_wp2
      go_ret
      exact ⟨rfl, PnGets.none h (Fr.refl _ _)⟩
    · have hx0 : ¬ x < 0 := by omega
      go_enter Try.func16, Try.ntmps16
      go_wp2
      go_ret
      exact ⟨rfl, PnGets.none h (Fr.refl _ _)⟩
theorem pbyte_nil (w : World) (x : Int) : Calls Try.prog 16 #[.pointer none, .int .i64 x] w fun e w' => e = .returned (.bool false) ∧ w' = w := by
  go_enter Try.func16, Try.ntmps16
  go_wp2
  go_ret
  exact ⟨rfl, rfl⟩

/-- Add. -/
theorem padd_any (w : World) (p : Nat) (v : Value) (zs : List Nat) (u : Value) (ys : List Nat) (h : Pn w p v zs) (hu : Reads w u (rowOf ys)) (hu0 : ∀ c, u = .slice none ys.length c → ys.length = 0 ∧ c = 0) (hy : ∀ z ∈ ys, z < 256) (hn : zs.length ≤ 1000000) (hm : ys.length ≤ 1000000) :
    Calls Try.prog 19 #[.pointer (some ⟨p, 0, none⟩), u] w fun e w' => e = .returned (.tuple #[]) ∧ PnGets p v w w' (zs ++ ys) := by
  obtain ⟨a, cap, rfl, hc⟩ := hu
  rw [rowOf_length] at hc hu0 ⊢
  have hc0 := h.blk.cell 0
  have hlt := h.blk.lt
  simp at hc0
  have hsrc : ys.length = 0 ∨ ∃ q, a = some q ∧ ∀ j u, (rowOf ys)[j]? = some u → w.cell? (q.add j) = some u := by
    by_cases h0 : ys.length = 0
    · exact .inl h0
    · exact .inr (hc (by omega))
  have HS : Hid (ys.length = 0 ∨ ∃ q, a = some q ∧ ∀ j u, (rowOf ys)[j]? = some u → w.cell? (q.add j) = some u) := hsrc
  have HU : Hid (a = none → ys.length = 0 ∧ cap = 0) := fun e => hu0 cap (by rw [e])
  clear hc hsrc hu0
  go_enter Try.func19, Try.ntmps19
  go_wp2_with (at_builtin; refine wpList_append_at rfl _ _ rfl (p + 1) v zs.length (rowOf zs) rfl h.own a ys.length cap (rowOf ys) rfl (rowOf_length ys) HS.out HU.out (rowOf_one ys) (by omega) (by omega) ?_)
  intro v1 w1 hown hgrow hat
  obtain ⟨a1, c1, rfl, _⟩ := ownsRow_form hown
  obtain ⟨B, G⟩ := pn_append (ys := ys) h (Fr.refl (fun _ => False) w) (v' := .slice a1 (zs.length + ys.length) c1) (by rw [rowOf_append, List.length_append]; exact hown) hgrow hat hy
  have d0 := B.cell 0
  have df := B.thaw
  simp at d0
  clear hown hgrow hat hc0 h
  go_wp2
  go_end0
  exact ⟨rfl, G⟩
theorem padd_nil (w : World) (u : Value) : Calls Try.prog 19 #[.pointer none, u] w fun e w' => e = .returned (.tuple #[]) ∧ w' = w := by
  go_enter Try.func19, Try.ntmps19
  go_wp2
  exact bodyPost_ret (results_none rfl _ _ _) rfl ⟨rfl, rfl⟩

/-- Len, Bytes. -/
theorem plen_any (w : World) (p : Nat) (v : Value) (zs : List Nat) (h : Pn w p v zs) :
    Calls Try.prog 22 #[.pointer (some ⟨p, 0, none⟩)] w fun e w' => e = .returned (.int .i64 (zs.length : Int)) ∧ w' = w := by
  have hc0 := h.blk.cell 0
  simp at hc0
  obtain ⟨a, cap, rfl, _⟩ := ownsRow_form h.own
  go_enter Try.func22, Try.ntmps22
  go_wp2
  go_ret
  exact ⟨rfl, rfl⟩
theorem plen_nil (w : World) : Calls Try.prog 22 #[.pointer none] w fun e w' => e = .returned (.int .i64 0) ∧ w' = w := by
  go_enter Try.func22, Try.ntmps22
  go_wp2
  go_ret
  exact ⟨rfl, rfl⟩
theorem pbytes_any (w : World) (p : Nat) (v : Value) (zs : List Nat) (h : Pn w p v zs) (hn : zs.length ≤ 100000000000000) :
    Calls Try.prog 21 #[.pointer (some ⟨p, 0, none⟩)] w fun e w' => ∃ q, e = .returned (.slice (some ⟨q, 0, none⟩) zs.length zs.length) ∧ Blk w' q (rowOf zs).toArray 5 ∧ w.heap.size ≤ q ∧ Fr (fun _ => False) w w' := by
  have hc0 := h.blk.cell 0
  simp at hc0
  have HR : Hid (Reads w v (rowOf zs)) := Reads.of_owns (by rw [rowOf_length]; exact h.own)
  go_enter Try.func21, Try.ntmps21
  go_wp2_with (go_at_call 23; refine (cfresh_any w v zs HR.out hn).mono ?_; rintro e w' ⟨q, rfl, b1, b2, b3⟩)
  go_ret
  exact ⟨q, rfl, b1, b2, b3⟩
theorem pbytes_nil (w : World) : Calls Try.prog 21 #[.pointer none] w fun e w' => e = .returned (.slice none 0 0) ∧ w' = w := by
  go_enter Try.func21, Try.ntmps21
  go_wp2
  go_ret
  exact ⟨rfl, rfl⟩

theorem pn_word {w w0 w1 : World} {p g cap y : Nat} {v : Value} {zs : List Nat} {b0 b1 b2 b3 : Nat} (hw : word4 y = [b0, b1, b2, b3]) (h : Pn w p v zs) (f0 : Fr (fun _ => False) w w0)
    (hown : w1.ownsRow (p + 1) 5 1 (.slice (some ⟨g, 0, none⟩) (zs.length + 4) cap) (zs.length + 4) (rowOf zs ++ [.int .u8 (b0 : Int), .int .u8 (b1 : Int), .int .u8 (b2 : Int), .int .u8 (b3 : Int)])) (hgrow : w0.grownBy w1 v.ownBlock) {H : Nat} (hat : v.ownBlock = some g ∨ g = H) (hH : w0.heap.size ≤ H := by simp) :
    Blk w1 p #[v] 47 ∧ PnGets p v w (w1.setCell ⟨p, 0, none⟩ (.slice (some ⟨g, 0, none⟩) (zs.length + 4) cap)) (zs ++ word4 y) := by
  refine pn_append h f0 ?_ hgrow ?_ (word4_small y)
  · rw [rowOf_append, List.length_append, hw]
    exact hown
  · rcases hat with e | e
    · left; rw [e]; rfl
    · right; intro k hk; simp [Value.ownBlock] at hk; omega

set_option maxHeartbeats 1000000 in
/-- Word. -/
theorem pword_any (w : World) (p : Nat) (v : Value) (zs : List Nat) (x : Int) (h : Pn w p v zs) (hn : zs.length ≤ 1000000) :
    Calls Try.prog 17 #[.pointer (some ⟨p, 0, none⟩), .int .i64 x] w fun e w' => e = .returned (.bool (hasW x)) ∧ PnGets p v w w' (zs ++ wordC x) := by
  cases hb : hasW x with
  | true =>
    rw [show wordC x = word4 x.toNat by unfold wordC; rw [hb]; rfl]
    have hx : 0 ≤ x ∧ x < 4294967296 := by simpa [hasW] using hb
    obtain ⟨y, rfl⟩ := Int.eq_ofNat_of_zero_le hx.1
    rw [Int.toNat_natCast]
    have hy : y < 4294967296 := by omega
    obtain ⟨i0, hi, hz0, hz1, hz2⟩ := info_parts Try.info_u8
    clear hb hx
    go_enter Try.func17, Try.ntmps17
    go_wp2_with fail
    refine (word_ok y w hy).mono ?_
    rintro e w1 ⟨b0, b1, b2, b3, hw4, rfl, f1⟩
    have h1 := h.fr (f1.alloc (.cells #[.int .u8 (b0 : Int), .int .u8 (b1 : Int), .int .u8 (b2 : Int), .int .u8 (b3 : Int)] 63)) (fun h => h) (fun _ _ h => h)
    have hc0 := h1.blk.cell 0
    have hlt := h1.blk.lt
    simp at hc0
    have HF : Hid (Fr (fun _ => False) w (w1.alloc (.cells #[.int .u8 (b0 : Int), .int .u8 (b1 : Int), .int .u8 (b2 : Int), .int .u8 (b3 : Int)] 63))) := f1.alloc _
    have HW : Hid (word4 y = [b0, b1, b2, b3]) := hw4
    clear hw4
    go_wp2
    go_region_law (refine step_append_lies _ rfl _ _ 22 rfl (p + 1) 5 i0 (.int .u8 0) 1 1 Try.underlying22 hi hz0 hz1 hz2 rfl (by decide) v zs.length (rowOf zs) rfl (ownsRow_drew h1.own) ⟨w1.heap.size, 0, none⟩ 4 4 [.int .u8 (b0 : Int), .int .u8 (b1 : Int), .int .u8 (b2 : Int), .int .u8 (b3 : Int)] rfl rfl (World.news_of_block (heap_alloc_new _ _)) (by intro u hu; simp at hu; rcases hu with rfl | rfl | rfl | rfl <;> rfl) (by decide) (by unfold maxLen; omega) (by omega) (by simp at hlt ⊢; omega) (w1.heap.size + 1) (by simp) ?_; intro g cap w2 hown hgrow hat _; obtain ⟨B, G⟩ := pn_word HW.out h HF.out.drew hown hgrow hat; have d0 := B.cell 0; have df := B.thaw; simp at d0; clear hown hgrow hat)
    all_goals go_wp2
    all_goals go_ret
    all_goals exact ⟨rfl, G⟩
  | false =>
    rw [show wordC x = [] by unfold wordC; rw [hb]; rfl, List.append_nil]
    have hx : x < 0 ∨ 4294967295 < x := by simp [hasW] at hb; omega
    clear hb
    go_enter Try.func17, Try.ntmps17
    go_wp2_with fail
    refine (word_no x w hx).mono ?_
    rintro e w1 ⟨rfl, f1⟩
    go_wp2
    go_ret
    exact ⟨rfl, PnGets.none h (f1.alloc _)⟩
/-- Four bytes of a row written over. -/
def patch4 (zs : List Nat) (k : Nat) (bs : List Nat) : List Nat := zs.take k ++ bs ++ zs.drop (k + 4)
theorem patch4_length (zs : List Nat) (k : Nat) (bs : List Nat) (hb : bs.length = 4) (hk : k + 4 ≤ zs.length) : (patch4 zs k bs).length = zs.length := by simp [patch4, hb]; omega
theorem patch4_small {zs bs : List Nat} (h : ∀ z ∈ zs, z < 256) (hb : ∀ z ∈ bs, z < 256) (k : Nat) : ∀ z ∈ patch4 zs k bs, z < 256 := by
  intro z hz
  rcases List.mem_append.1 hz with hz | hz
  · rcases List.mem_append.1 hz with hz | hz
    · exact h z (List.mem_of_mem_take hz)
    · exact hb z hz
  · exact h z (List.mem_of_mem_drop hz)
theorem rowOf_patch (zs : List Nat) (k : Nat) (bs : List Nat) : rowOf (patch4 zs k bs) = (rowOf zs).take k ++ rowOf bs ++ (rowOf zs).drop (k + 4) := by simp [patch4, rowOf, List.map_take, List.map_drop]
theorem take_splice {R rest cs : List Value} {k : Nat} (hc : cs.length = 4) (hk : k + 4 ≤ R.length) : ((R ++ rest).take k ++ cs ++ (R ++ rest).drop (k + cs.length)).take R.length = R.take k ++ cs ++ R.drop (k + 4) := by
  have e1 : (R ++ rest).take k = R.take k := List.take_append_of_le_length (by omega)
  have e2 : (R ++ rest).drop (k + cs.length) = R.drop (k + 4) ++ rest := by rw [hc]; exact List.drop_append_of_le_length (by omega)
  rw [e1, e2, ← List.append_assoc, List.take_append_of_le_length (by simp [hc]; omega)]
  exact List.take_of_length_le (by simp [hc]; omega)

theorem copy_patch (w : World) (base g cap : Nat) (zs : List Nat) (hown : w.ownsRow base 5 1 (.slice (some ⟨g, 0, none⟩) zs.length cap) zs.length (rowOf zs)) (k : Nat) (hk : k + 4 ≤ zs.length) (B : Nat) (bs : List Nat) (hb : bs.length = 4) (tb : TypeId) (hB : Blk w B (rowOf bs).toArray tb) (t : TypeId) :
    ∃ w', (Builtin.copy_ #[22, 22] t #[.slice (some ⟨g, k, none⟩) (zs.length - k) (cap - k), .slice (some ⟨B, 0, none⟩) 4 4]).run Try.prog w = .ok (.int .i64 4) w' ∧
      w'.ownsRow base 5 1 (.slice (some ⟨g, 0, none⟩) zs.length cap) zs.length (rowOf (patch4 zs k bs)) ∧ Fr (fun j => j = g) w w' := by
  have hsz : (Try.prog.info? 5).map (·.size) = some 1 := by
    obtain ⟨i0, hi, _, hz1, _⟩ := info_parts Try.info_u8
    rw [hi]; simp [hz1]
  obtain ⟨hl, h2⟩ := hown
  rcases h2 with ⟨h2, _⟩ | ⟨g', cap', cur, hv, hbg, hg, hnc, hcm, hcs, ht⟩
  · cases h2
  simp at hv
  obtain ⟨rfl, rfl⟩ := hv
  have e1 : cur.toList = rowOf zs ++ cur.toList.drop zs.length := by
    rw [← ht, Nat.mul_one, List.take_append_drop]
  have := run_copy_row (P := Try.prog) w 22 22 t 5 g k (zs.length - k) (cap - k) ⟨B, 0, none⟩ 4 4 cur 5 (rowOf bs) Try.underlying22 hsz hg (by rw [rowOf_length, hb]; simp [Nat.min_def]; omega) (World.news_of_block hB) (by rw [rowOf_length, hb]; simp at hcs; omega) (rowOf_one bs)
  rw [rowOf_length, hb] at this
  refine ⟨_, this, ⟨?_, .inr ⟨g, cap, _, rfl, hbg, setRow_heap w g cur _ 5 (0, 0) hg, hnc, hcm, ?_, ?_⟩⟩, (Fr.refl (fun j => j = g) w).setRow (fun _ => rfl) _⟩
  · rw [rowOf_length, patch4_length zs k bs hb hk]; omega
  · simp [rowOf_length, hb]; simp at hcs; omega
  · rw [e1, rowOf_patch]
    have := take_splice (R := rowOf zs) (rest := cur.toList.drop zs.length) (cs := rowOf bs) (k := k) (by rw [rowOf_length, hb]) (by rw [rowOf_length]; exact hk)
    rw [rowOf_length, rowOf_length, hb] at this
    simpa using this

/-- May a place be written over? -/
def hasP (n : Nat) (k x : Int) : Bool := decide (0 ≤ k ∧ k + 4 ≤ (n : Int)) && hasW x
def patchC (zs : List Nat) (k x : Int) : List Nat := if hasP zs.length k x = true then patch4 zs k.toNat (word4 x.toNat) else zs

set_option maxHeartbeats 1000000 in
/-- Patch. -/
theorem ppatch_ok (w : World) (p : Nat) (v : Value) (zs : List Nat) (k y : Nat) (h : Pn w p v zs) (hn : zs.length ≤ 1000000) (hk : k + 4 ≤ zs.length) (hy : y < 4294967296) :
    Calls Try.prog 20 #[.pointer (some ⟨p, 0, none⟩), .int .i64 (k : Int), .int .i64 (y : Int)] w fun e w' => e = .returned (.bool true) ∧ PnGets p v w w' (patch4 zs k (word4 y)) := by
  obtain ⟨a, cap, rfl, hg⟩ := ownsRow_form h.own
  obtain ⟨g, rfl, hg2⟩ := hg (by omega)
  have hnc : zs.length ≤ cap := by
    rcases h.own.2 with ⟨h2, _⟩ | ⟨g', cap', cur, hv, hbg, hg, hnc, hcm, hcs, ht⟩
    · cases h2
    · simp at hv; omega
  have hk0 : ¬ (k : Int) < 0 := by omega
  have hk1 : ¬ (zs.length : Int) - 4 < (k : Int) := by omega
  have hcap : ¬ cap = k := by omega
  have hk3 : k ≤ zs.length := by omega
  go_enter Try.func20, Try.ntmps20
  go_wp2_with fail
  refine (word_ok y w hy).mono ?_
  rintro e w1 ⟨b0, b1, b2, b3, hw4, rfl, f1⟩
  have HW : Hid (word4 y = [b0, b1, b2, b3]) := hw4
  have f2 := f1.alloc (.cells #[.int .u8 (b0 : Int), .int .u8 (b1 : Int), .int .u8 (b2 : Int), .int .u8 (b3 : Int)] 63)
  have h2 := h.fr f2 (fun h => h) (fun _ _ h => h)
  have hB := Blk.new w1 #[.int .u8 (b0 : Int), .int .u8 (b1 : Int), .int .u8 (b2 : Int), .int .u8 (b3 : Int)] 63
  obtain ⟨w3, hrun, ho3, f3⟩ := copy_patch _ (p + 1) g cap zs (ownsRow_drew h2.own) k hk w1.heap.size [b0, b1, b2, b3] rfl 63 (Blk.drew hB) 3
  clear hw4
  go_wp2_with fail
  refine (plen_any _ p _ zs h2).mono ?_
  rintro e w4 ⟨rfl, rfl⟩
  have hc0 := h2.blk.cell 0
  simp at hc0
  go_wp2
  refine wp_region_still_tail 7 (by kernel_rfl) (by kernel_rfl) ?_
  show wpStill Try.prog _ (w1.alloc (.cells #[.int .u8 (b0 : Int), .int .u8 (b1 : Int), .int .u8 (b2 : Int), .int .u8 (b3 : Int)] 63)).drew (fun a' => wpList Try.prog _ _ _ a' (w1.alloc (.cells #[.int .u8 (b0 : Int), .int .u8 (b1 : Int), .int .u8 (b2 : Int), .int .u8 (b3 : Int)] 63)).drew) _ _
  simp only [List.take_succ_cons, List.take_zero, List.drop_succ_cons, List.drop_zero]
  repeat still_step
  refine wpStill_nil ?_
  go_wp2
  go_ret
  refine ⟨rfl, _, ⟨?_, ?_, patch4_small h.small (word4_small y) k⟩, ⟨?_, .inl rfl⟩⟩
  · have : p ≠ g := by have := h.own.lt g rfl; omega
    exact (Blk.drew h2.blk).fr f3 this
  · rw [patch4_length zs k _ (word4_length y) hk, HW.out]; exact ho3
  · refine (f2.drew.mono (fun _ _ h => h.elim)).trans f3 (fun i _ e => .inr ?_)
    subst e; rfl

theorem ppatch_any (w : World) (p : Nat) (v : Value) (zs : List Nat) (k x : Int) (h : Pn w p v zs) (hn : zs.length ≤ 1000000) :
    Calls Try.prog 20 #[.pointer (some ⟨p, 0, none⟩), .int .i64 k, .int .i64 x] w fun e w' => e = .returned (.bool (hasP zs.length k x)) ∧ PnGets p v w w' (patchC zs k x) := by
  cases hb : hasP zs.length k x with
  | true =>
    rw [show patchC zs k x = patch4 zs k.toNat (word4 x.toNat) by unfold patchC; rw [hb]; rfl]
    have hx : (0 ≤ k ∧ k + 4 ≤ (zs.length : Int)) ∧ (0 ≤ x ∧ x < 4294967296) := by simpa [hasP, hasW] using hb
    obtain ⟨y, rfl⟩ := Int.eq_ofNat_of_zero_le hx.2.1
    obtain ⟨j, rfl⟩ := Int.eq_ofNat_of_zero_le hx.1.1
    exact ppatch_ok w p v zs j y h hn (by omega) (by omega)
  | false =>
    rw [show patchC zs k x = zs by unfold patchC; rw [hb]; rfl]
    cases hw : hasW x with
    | false =>
      have hx : x < 0 ∨ 4294967295 < x := by simp [hasW] at hw; omega
      clear hb hw
      go_enter Try.func20, Try.ntmps20
      go_wp2_with fail
      refine (word_no x w hx).mono ?_
      rintro e w1 ⟨rfl, f1⟩
      go_wp2
      go_ret
      exact ⟨rfl, PnGets.none h (f1.alloc _)⟩
    | true =>
      have hk : k < 0 ∨ (¬ k < 0 ∧ (zs.length : Int) - 4 < k) := by simp [hasP, hw] at hb; omega
      have hx : 0 ≤ x ∧ x < 4294967296 := by simpa [hasW] using hw
      obtain ⟨y, rfl⟩ := Int.eq_ofNat_of_zero_le hx.1
      have hy : y < 4294967296 := by omega
      clear hb hw hx
      rcases hk with hk | ⟨hk0, hk⟩
      · go_enter Try.func20, Try.ntmps20
        go_wp2_with fail
        refine (word_ok y w hy).mono ?_
        rintro e w1 ⟨b0, b1, b2, b3, hw4, rfl, f1⟩
        go_wp2
        go_ret
        exact ⟨rfl, PnGets.none h (f1.alloc _)⟩
      · go_enter Try.func20, Try.ntmps20
        go_wp2_with fail
        refine (word_ok y w hy).mono ?_
        rintro e w1 ⟨b0, b1, b2, b3, hw4, rfl, f1⟩
        have f2 := f1.alloc (.cells #[.int .u8 (b0 : Int), .int .u8 (b1 : Int), .int .u8 (b2 : Int), .int .u8 (b3 : Int)] 63)
        have h2 := h.fr f2 (fun h => h) (fun _ _ h => h)
        go_wp2_with fail
        refine (plen_any _ p _ zs h2).mono ?_
        rintro e w4 ⟨rfl, rfl⟩
        go_wp2
        go_ret
        exact ⟨rfl, PnGets.none h f2⟩
theorem ppatch_nil (w : World) : Calls Try.prog 20 #[.pointer none, .int .i64 0, .int .i64 0] w fun e w' => e = .returned (.bool false) ∧ Fr (fun _ => False) w w' := by
  go_enter Try.func20, Try.ntmps20
  go_wp2_with fail
  refine (word_ok 0 w (by decide)).mono ?_
  rintro e w1 ⟨b0, b1, b2, b3, hw4, rfl, f1⟩
  go_wp2_with fail
  refine (plen_nil _).mono ?_
  rintro e w4 ⟨rfl, rfl⟩
  go_wp2
  go_ret
  exact ⟨rfl, f1.alloc _⟩
theorem pword_nil (w : World) (x : Int) : Calls Try.prog 17 #[.pointer none, .int .i64 x] w fun e w' => e = .returned (.bool false) ∧ Fr (fun _ => False) w w' := by
  cases hb : hasW x with
  | true =>
    have hx : 0 ≤ x ∧ x < 4294967296 := by simpa [hasW] using hb
    obtain ⟨y, rfl⟩ := Int.eq_ofNat_of_zero_le hx.1
    have hy : y < 4294967296 := by omega
    clear hb hx
    go_enter Try.func17, Try.ntmps17
    go_wp2_with fail
    refine (word_ok y w hy).mono ?_
    rintro e w1 ⟨b0, b1, b2, b3, hw4, rfl, f1⟩
    go_wp2
    go_ret
    exact ⟨rfl, f1.alloc _⟩
  | false =>
    have hx : x < 0 ∨ 4294967295 < x := by simp [hasW] at hb; omega
    clear hb
    go_enter Try.func17, Try.ntmps17
    go_wp2_with fail
    refine (word_no x w hx).mono ?_
    rintro e w1 ⟨rfl, f1⟩
    go_wp2
    go_ret
    exact ⟨rfl, f1.alloc _⟩
end Go.Proofs.Ytdadoohkpjdlhaa
