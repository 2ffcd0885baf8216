/-
  Package plane: Points and what it tells, inside a range over it.
-/
import Derived.RangeFuncNested
import Derived.RangeFuncBound
import Derived.RangeFuncCalls
import Derived.RangeFuncLeaves
import Derived.Shelf.Abstract
import Derived.Shelf.RegionOpen
import Derived.WalkKit
import Derived.OwnWalkIn
import Derived.TacticsInMore
import Derived.LoopNIn
import Derived.LoopIn
import Derived.Test.YtonalomagfekaaaPlaneA
namespace Go.Proofs.Ytonalomagfekaaa
open Go.RowKit Go.Shelf

attribute [local go_sem] Oper.semAt_some

set_option maxHeartbeats 1000000 in
theorem ppoints_go (X Y : Int) (a : Option Addr) (n cap : Nat) (w : World) (hR : rightP X Y n = true) :
    Calls Try.prog 71 #[.agg #[.int .i64 X, .int .i64 Y, .slice a n cap]] w fun e w' => ∃ bh bw, e = .returned (.func (.func 74) #[] #[.pointer (some ⟨bh, 0, none⟩), .pointer (some ⟨bw, 0, none⟩)]) ∧ Blk w' bh #[.int .i64 Y] 3 ∧ Blk w' bw #[.int .i64 X] 3 ∧ w.heap.size ≤ bh ∧ w.heap.size ≤ bw ∧ Fr (fun _ => False) w w' := by
  obtain ⟨W, hW⟩ : ∃ W, W = w.alloc (.cells #[.int .i64 X, .int .i64 Y, .slice a n cap] 25) := ⟨_, rfl⟩
  have F0 : Fr (fun _ => False) w W := by rw [hW]; exact (Fr.refl _ w).alloc _
  have O0 : Blk W w.heap.size #[.int .i64 X, .int .i64 Y, .slice a n cap] 25 := by rw [hW]; exact Blk.new _ _ _
  have HW := hid hW
  clear hW
  go_enter Try.func71, Try.ntmps71
  go_wp2_with fail
  rw [← HW.out]
  refine (pright_any X Y a n cap W).mono ?_
  rintro e w1 ⟨rfl, f1⟩
  rw [hR]
  have P0 := O0.fr f1 (fun h => h)
  have F1 := F0.trans' f1
  clear O0 F0 f1 HW
  have c0 : w1.cell? ⟨w.heap.size, 0, none⟩ = some (.int .i64 X) := by rw [P0.cell]; rfl
  have c1 : w1.cell? ⟨w.heap.size, 1, none⟩ = some (.int .i64 Y) := by rw [P0.cell]; rfl
  have HP := hid P0
  have hlt := P0.lt
  have k0 : (w1.alloc (.cells #[.int .i64 0] 3)).cell? ⟨w.heap.size, 0, none⟩ = some (.int .i64 X) := by rw [(P0.alloc _).cell]; rfl
  have k1 : (w1.alloc (.cells #[.int .i64 0] 3)).cell? ⟨w.heap.size, 1, none⟩ = some (.int .i64 Y) := by rw [(P0.alloc _).cell]; rfl
  have l0 : ((w1.alloc (.cells #[.int .i64 0] 3)).alloc (.cells #[.int .i64 0] 3)).cell? ⟨w.heap.size, 0, none⟩ = some (.int .i64 X) := by rw [((P0.alloc _).alloc _).cell]; rfl
  have l1 : ((w1.alloc (.cells #[.int .i64 0] 3)).alloc (.cells #[.int .i64 0] 3)).cell? ⟨w.heap.size, 1, none⟩ = some (.int .i64 Y) := by rw [((P0.alloc _).alloc _).cell]; rfl
  clear P0
  go_wp2
  go_region
  all_goals go_wp2
  · have hs := F1.size
    have B0 := Blk.new w1 #[.int .i64 X] 3
    have B1 := Blk.new (w1.alloc (.cells #[.int .i64 X] 3)) #[.int .i64 Y] 3
    rw [World.size_alloc] at B1
    go_ret
    exact ⟨_, _, rfl, B1.drew, (B0.alloc _).drew, by omega, by omega, ((F1.alloc _).alloc _).drew⟩
  · have hs := F1.size
    have B0 := Blk.new w1 #[.int .i64 Y] 3
    have B1 := Blk.new (w1.alloc (.cells #[.int .i64 Y] 3)) #[.int .i64 X] 3
    rw [World.size_alloc] at B1
    go_ret
    exact ⟨_, _, rfl, (B0.alloc _).drew, B1.drew, by omega, by omega, ((F1.alloc _).alloc _).drew⟩

/-- A place of a plane of m numbers, told by its number in the row. -/
abbrev Spot (m : Nat) := { p : Nat // p < m }
def colI (x p : Nat) : Int := ((p % x : Nat) : Int)
def rowI (x p : Nat) : Int := ((p / x : Nat) : Int)
def spotV (x : Nat) {m : Nat} (p : Spot m) : Array Value := #[.int .i64 (colI x p.1), .int .i64 (rowI x p.1)]
theorem colI_flat {x k q : Nat} (h : q < x) : colI x (k * x + q) = (q : Int) := by rw [colI, flat_mod h]
theorem rowI_flat {x k q : Nat} (h : q < x) : rowI x (k * x + q) = (k : Int) := by rw [rowI, flat_div h]
/-- The first k places. -/
def Spots {m : Nat} (k : Nat) (pre : List (Spot m)) : Prop := pre.map Subtype.val = List.range k
theorem Spots.nil {m : Nat} : Spots (m := m) 0 [] := rfl
theorem Spots.snoc {m k : Nat} {pre : List (Spot m)} (h : Spots k pre) (hk : k < m) : Spots (k + 1) (pre ++ [⟨k, hk⟩]) := by
  unfold Spots at *; rw [List.map_append, h, List.range_succ]; rfl
theorem Spots.to {m k k' : Nat} {pre : List (Spot m)} (h : Spots k pre) (e : k = k') : Spots k' pre := e ▸ h
theorem Spots.len {m k : Nat} {pre : List (Spot m)} (h : Spots k pre) : pre.length = k := by
  have := congrArg List.length h; simpa using this
theorem Spots.mem {m k : Nat} {pre : List (Spot m)} (h : Spots k pre) (j : Nat) : j ∈ pre.map Subtype.val ↔ j < k := by rw [h]; simp

/-- What a round keeps of the iterator's own: the box of the width. -/
def KeepBox (bw : Nat) (A B : World) : Prop := B.heap[bw]? = A.heap[bw]?
theorem KeepBox.trans {bw : Nat} {A B C : World} (h : KeepBox bw A B) (k : KeepBox bw B C) : KeepBox bw A C := Eq.trans (Eq.trans k rfl) h
theorem KeepBox.put {bw s : Nat} (hb : bw < s) (W : World) (l : Nat) (o o' : Obj) (hl : s ≤ l) (_ : W.heap[l]? = some o) (_ : o.isCells = false) (_ : o.isWalk = false) : KeepBox bw W (W.putObj l o') :=
  World.putObj_heap_other (fun e => by omega)
theorem KeepBox.of_fr {S : Nat → Prop} {bw : Nat} {A B : World} (f : Fr S A B) (hb : bw < A.heap.size) (hn : ¬ S bw) : KeepBox bw A B := f.block bw hb hn

theorem wideIn_scope {c : Code} {n : Nat} {Q : Exit → Act → World → Prop} {a : Act} {w : World} {P : Program} (h : c.wpIn Fence.wide n P (Exit.noGoto Q) a w) : (Code.scope c).wpIn Fence.wide n P Q a w := wpIn_wide.2 (wp_scope_straight (wpIn_wide.1 h))

set_option maxRecDepth 100000 in
set_option maxHeartbeats 2000000 in
/-- The closure of Points, in a range over it. -/
theorem ppoints1_in (n : Nat) (hn : 1 ≤ n) (l bh bw x y : Nat) (hx : 1 ≤ x) (hx' : x ≤ 1024) (hy' : y ≤ 1024) (J Jx : List (Spot (x * y)) → World → Prop)
    (hY : ∀ pre p W1, J pre W1 → pre.length < x * y → YieldAt Fence.wide (n - 1) Try.prog l (spotV x p) W1 fun e W' =>
      (e = .returned (.bool true) ∧ J (pre ++ [p]) W' ∧ KeepBox bw W1 W') ∨ (e = .returned (.bool false) ∧ Jx (pre ++ [p]) W'))
    (W : World) (hBh : Blk W bh #[.int .i64 (y : Int)] 3) (hBw : Blk W bw #[.int .i64 (x : Int)] 3) (h0 : J [] W) :
    CallsIn Fence.wide n Try.prog 74 #[.func (.yield l) #[] #[], .pointer (some ⟨bh, 0, none⟩), .pointer (some ⟨bw, 0, none⟩)] W fun e W' => (∃ v, e = .returned v) ∧
      ((∃ xs, Spots (x * y) xs ∧ J xs W') ∨ (∃ pre, True ∧ Jx pre W')) := by
  have hc0 : W.cell? ⟨bh, 0, none⟩ = some (.int .i64 (y : Int)) := by rw [hBh.cell]; rfl
  obtain ⟨m, hm⟩ : ∃ m : Nat, x * y = m := ⟨_, rfl⟩
  have HM := hid hm
  have HY := hid hY
  clear hY
  refine callsIn_of_wp Try.func74 rfl trivial ?_ rfl
  simp only [Try.ntmps74, List.size_toArray, List.length_cons, List.length_nil, Nat.reduceAdd, Nat.reduceSub, Array.replicate_succ, Array.replicate_zero, List.push_toArray, List.append_toArray, List.nil_append, List.cons_append]
  gi_wp2
  refine wideIn_scope ?_
  refine wpIn_seq (wpIn_label ?_)
  dsimp only [Exit.then]
  gi_wp2
  gi_loopw [7] (fun i wr => ∃ k : Nat, k ≤ y ∧ i = .int .i64 (k : Int) ∧ (∃ pre, Spots (k * x) pre ∧ J pre wr) ∧ Blk wr bw #[.int .i64 (x : Int)] 3) (fun i _ => y - (intOf i).toNat)
  case atStart => exact ⟨0, Nat.zero_le _, rfl, ⟨[], by rw [Nat.zero_mul]; exact Spots.nil, h0⟩, hBw⟩
  case round =>
    obtain ⟨k, hk, rfl, hJ, hB⟩ := hrel
    have HJ := hid hJ
    clear hJ
    by_cases hlt : k < y
    · have hki : (k : Int) < (y : Int) := by omega
      have e1 : wr.cell? ⟨bw, 0, none⟩ = some (.int .i64 (x : Int)) := by rw [hB.cell]; rfl
      have HB := hid hB
      clear hB
      obtain ⟨w0, hw0⟩ : ∃ w0, w0 = wr := ⟨_, rfl⟩
      gi_wp2
      gi_loopw [11] (fun i wr => ∃ q : Nat, q ≤ x ∧ i = .int .i64 (q : Int) ∧ (∃ pre, Spots (k * x + q) pre ∧ J pre wr) ∧ Blk wr bw #[.int .i64 (x : Int)] 3) (fun i _ => x - (intOf i).toNat)
      case atStart => exact ⟨0, Nat.zero_le _, rfl, HJ.out, HB.out⟩
      case round =>
        obtain ⟨q, hq, rfl, ⟨pre, hS, hJ2⟩, hB2⟩ := hrel
        by_cases hql : q < x
        · have hqi : (q : Int) < (x : Int) := by omega
          have hf : k * x + q < x * y := flat_lt hql hlt
          have hlen : pre.length < x * y := by rw [hS.len]; exact hf
          have HS := hid (hS.snoc hf)
          have h5 := HY.out pre ⟨k * x + q, hf⟩ wr hJ2 hlen
          rw [spotV, colI_flat hql, rowI_flat hql] at h5
          obtain ⟨fn, tmps, assign, body, hy, hR⟩ := h5
          have HB2 := hid hB2
          clear hB2 hJ2 hS hlen
          gi_wp2
          refine hR.mono ?_
          rintro e W3 (⟨rfl, hJ3, hk3⟩ | ⟨rfl, hJx3⟩)
          · have HJ3 := hid hJ3
            have HK3 := hid (HB2.out.of_block hk3)
            clear hJ3 hk3
            gi_wp2
            go_roundw
            case rel => exact ⟨q + 1, by omega, by go_num, ⟨_, HS.out, HJ3.out⟩, HK3.out⟩
            case measure => simp [intOf]; omega
          · have HJX := hid hJx3
            clear hJx3
            gi_wp2
            rw [Exit.noGoto_normal]
            go_end0
            exact ⟨⟨_, rfl⟩, .inr ⟨_, trivial, HJX.out⟩⟩
        · have hqi : ¬ (q : Int) < (x : Int) := by omega
          obtain rfl : q = x := by omega
          have HS := hid hS
          have HJ2 := hid hJ2
          have HB2 := hid hB2
          clear hS hJ2 hB2
          gi_wp2
          go_roundw
          case rel => exact ⟨k + 1, by omega, by go_num, ⟨pre, by rw [Nat.succ_mul]; exact HS.out, HJ2.out⟩, HB2.out⟩
          case measure => simp [intOf]; omega
    · have hki : ¬ (k : Int) < (y : Int) := by omega
      obtain rfl : k = y := by omega
      gi_wp2
      go_end0
      obtain ⟨pre, hS, hJ⟩ := HJ.out
      exact ⟨⟨_, rfl⟩, .inl ⟨pre, hS.to (Nat.mul_comm _ _), hJ⟩⟩

theorem ppoints_stops (n : Nat) (hn : 1 ≤ n) (bh bw x y m : Nat) (hm : x * y = m) (hx : 1 ≤ x) (hx' : x ≤ 1024) (hy' : y ≤ 1024) (w : World) (hBh : Blk w bh #[.int .i64 (y : Int)] 3) (hBw : Blk w bw #[.int .i64 (x : Int)] 3) :
    SeqStopsK Fence.wide n Try.prog 74 #[.pointer (some ⟨bh, 0, none⟩), .pointer (some ⟨bw, 0, none⟩)] (spotV (m := m) x) (KeepBox bw) (Spots m) (fun _ => True) m w := by
  subst hm
  exact fun l J Jx W hW _ _ hY h0 => ppoints1_in n hn l bh bw x y hx hx' hy' J Jx hY W (hBh.of_block (hW.block bh hBh.lt)) (hBw.of_block (hW.block bw hBw.lt)) h0
end Go.Proofs.Ytonalomagfekaaa
