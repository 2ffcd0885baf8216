/-
  Law package 1: what readers of any bytes tell (BitsRead): the walk.
-/
import Derived.Test.YtadpbeofeocfiaaBack1
import Derived.Test.YtadpbeofeocfiaaRef1R
import Derived.Deep.RegionHeld3
import Derived.Laws.AppendOwnNone
namespace Go.Proofs.Ytadpbeofeocfiaa
open Go.RowKit

/-- Bytes that came in. -/
def IsBytes (w : World) (a : Option Addr) (len cap : Nat) (zs : List Nat) : Prop :=
  zs.length = len ∧ len ≤ cap ∧ cap ≤ maxLen ∧ (∀ z ∈ zs, z < 256) ∧ ((a = none ∧ len = 0 ∧ cap = 0) ∨ ∃ b off spot, a = some ⟨b, off, spot⟩ ∧ (0 < len → spot = none) ∧ ∀ j, j < len → w.cell? ⟨b, off + j, none⟩ = some (.int .u8 ((zs.getD j 0 : Nat) : Int)))

theorem Rd.drewN {w : World} {p q : Nat} {zs : List Nat} {pos ov : Nat} (h : Rd w p q zs pos ov) (n : Nat) : Rd (w.drewN n) p q zs pos ov := ⟨h.blk.drewN n, h.row.drewN n, h.small, h.apart⟩
theorem RRd.drewN {w : World} {p : Nat} {L : List Bool} {pos ov : Nat} (h : RRd w p L pos ov) (n : Nat) : RRd (w.drewN n) p L pos ov := Blk.drewN h n
theorem all_fun (zs : List Nat) : (fun i => (allBits zs).getD i false) = bitAt zs := funext (allBits_bit zs)
theorem kind3 (x : Int) : (IntKind.u64.wrap x).tmod 3 = 0 ∨ (IntKind.u64.wrap x).tmod 3 = 1 ∨ (IntKind.u64.wrap x).tmod 3 = 2 := by
  rw [IntKind.wrap_u64, Int.tmod_eq_emod_of_nonneg (Int.emod_nonneg _ (by decide))]
  omega

theorem held_on {w w8 : World} {p B i : Nat} {v : Value} (f8 : Fr (fun j => j = p) w w8) (hne : ¬ B = p) (d : w.cell? ⟨B, i, none⟩ = some v) : w8.cell? ⟨B, i, none⟩ = some v :=
  (f8.cell (p := ⟨B, i, none⟩) (cell_lt d) hne).trans d
theorem held_over {w w8 : World} {p B i : Nat} {v : Value} (f8 : Fr (fun j => j = p) w.drew w8) (_hB : B < w.heap.size) (hne : ¬ B = p) (d : w.cell? ⟨B, i, none⟩ = some v) : w8.cell? ⟨B, i, none⟩ = some v :=
  held_on f8 hne d

/-- A copy of bytes that came in: 'append([]byte{}, b...)'. -/
theorem empty_own (w : World) (base : Nat) (hb : base ≤ w.heap.size) : (w.alloc (.cells #[] 5)).ownsRow base 5 1 (.slice (some ⟨w.heap.size, 0, none⟩) 0 0) 0 [] :=
  World.ownsRow_made w #[] 0 hb (by unfold maxLen; omega) rfl

theorem wpList_append_any {w : World} {ops : Array Oper} {rest : List Oper} {o : Oper} {a : Act} {Q : Exit → Act → World → Prop} (hgd : o.guard = none) (s x : Operand)
    (ho : o.op = .call { callee := .builtin .append, args := #[s, x], argTypes := #[25, 25] })
    (base : Nat) (v : Value) (n : Nat) (xs : List Value) (hs : a.eval s = v) (hown : w.ownsRow base 5 1 v n xs)
    (ad : Option Addr) (m c : Nat) (news : List Value) (hx : a.eval x = .slice ad m c) (hl : news.length = m) (hsrc : (ad = none ∧ m = 0 ∧ c = 0) ∨ ∃ q, ad = some q ∧ ∀ j u, news[j]? = some u → w.cell? (q.add j) = some u) (h1 : ∀ u ∈ news, u.oneCell' = true)
    (hbytes : n + m ≤ 100000000) (hbase : base ≤ w.heap.size)
    (h : ∀ v' w', w'.ownsRow base 5 1 v' (n + m) (xs ++ news) → w.grownBy w' v.ownBlock → wpList Try.prog ops Q rest (a.put o.dst v') w') : wpList Try.prog ops Q (o :: rest) a w := by
  obtain ⟨i0, hi, hz0, hz1, hz2⟩ := info_parts Try.info_u8
  rcases hsrc with ⟨rfl, rfl, rfl⟩ | ⟨q, rfl, hcell⟩
  · obtain rfl : news = [] := List.eq_nil_of_length_eq_zero hl
    refine wpList_append_own_none hgd s x 25 ho base 5 i0 1 Try.underlying25 hi v n xs hs hown hx ?_
    exact h v w (by simpa using hown) ⟨rfl, rfl, rfl, Nat.le_refl _, fun _ _ _ => rfl⟩
  · exact wpList_append_own w hgd s x 25 ho base 5 i0 (.int .u8 0) 1 1 Try.underlying25 hi hz0 hz1 hz2 rfl (by decide) v n xs hs hown q m c news hx (by simpa using hl) hcell h1 (by unfold maxLen; omega) (by omega) hbase (fun v' w' h2 h3 _ => h v' w' h2 h3)

set_option maxRecDepth 100000 in
set_option maxHeartbeats 4000000 in
theorem read_walk (a : Option Addr) (len cap : Nat) (zs : List Nat) (a2 : Option Addr) (len2 cap2 : Nat) (K N V : Nat → Int) (w : World) (hB : IsBytes w a len cap zs) (h0 : IsOps w a2 len2 K N V) :
    Calls Try.prog 4 #[.slice a len cap, .slice a2 len2 cap2] w fun e w' => e = .returned (.bool true) ∧ Below w.heap.size w w' := by
  have hlen : (len2 : Int) ≤ 9223372036854775807 := by
    rcases h0 with rfl | ⟨b, off, _, h, _⟩
    · simp
    · unfold maxLen at h; omega
  obtain ⟨hzl, hlc, hcm, hsm, hcs⟩ := hB
  have hl63 : (len : Int) ≤ 9223372036854775807 := by unfold maxLen at hcm; omega
  obtain ⟨i0, hi, hz0, hz1, hz2⟩ := info_parts Try.info_u8
  have HZ : Hid (zs.length = len) := hzl
  clear hzl
  by_cases h500 : 500 < len
  · have h500' : (500 : Int) < (len : Int) := by omega
    go_enter Try.func4, Try.ntmps4
    go_wp2_with fail
    refine (first_any _).mono ?_
    rintro e w1 ⟨rfl, F1⟩
    go_wp2
    go_ret
    exact ⟨rfl, F1.below (Nat.le_refl _) (fun _ _ h => h)⟩
  have h500' : ¬ (500 : Int) < (len : Int) := by omega
  go_enter Try.func4, Try.ntmps4
  go_wp2_with fail
  refine (first_any _).mono ?_
  rintro e w1 ⟨rfl, F1⟩
  have hcs1 : (a = none ∧ len = 0 ∧ cap = 0) ∨ ∃ q, a = some q ∧ ∀ j u, (rowOf zs)[j]? = some u → (w1.alloc (.cells #[] 5)).cell? (q.add j) = some u := by
    rcases hcs with h | ⟨b, off, spot, rfl, hsp, hc⟩
    · exact .inl h
    · refine .inr ⟨_, rfl, fun j u hu => ?_⟩
      have hj : j < len := by
        have := (List.getElem?_eq_some_iff.1 hu).1
        rw [rowOf_length, HZ.out] at this; exact this
      have e1 := hc j hj
      obtain rfl := hsp (by omega)
      have e2 : (⟨b, off, none⟩ : Addr).add j = ⟨b, off + j, none⟩ := by
        unfold Addr.add
        split
        · simp_all
        · rfl
      rw [e2, (F1.alloc (.cells #[] 5)).cell (p := ⟨b, off + j, none⟩) (cell_lt e1) (fun h => h), e1, ← hu, rowOf_get zs j (by rw [HZ.out]; exact hj)]
  have HC1 : Hid ((a = none ∧ len = 0 ∧ cap = 0) ∨ ∃ q, a = some q ∧ ∀ j u, (rowOf zs)[j]? = some u → (w1.alloc (.cells #[] 5)).cell? (q.add j) = some u) := hcs1
  have HC : Hid ((a = none ∧ len = 0 ∧ cap = 0) ∨ ∃ b off spot, a = some ⟨b, off, spot⟩ ∧ (0 < len → spot = none) ∧ ∀ j, j < len → w.cell? ⟨b, off + j, none⟩ = some (.int .u8 ((zs.getD j 0 : Nat) : Int))) := hcs
  clear hcs hcs1
  go_wp2_with (at_builtin; refine wpList_append_any rfl _ _ rfl w1.heap.size _ 0 [] rfl (empty_own w1 _ (Nat.le_refl _)) a len cap (rowOf zs) rfl (by rw [rowOf_length, HZ.out]) HC1.out (rowOf_one zs) (by omega) (by simp) ?_)
  intro v2 w2 hown2 hgrow2
  have F2 : Fr (fun _ => False) w w2 := (F1.alloc _).grown hgrow2 (fun i hi hlt => by simp [Value.ownBlock] at hi; have := F1.size; omega)
  have hown2' : w2.ownsRow w1.heap.size 5 1 v2 zs.length (rowOf zs) := by rw [HZ.out]; simpa using hown2
  have hz5 : zs.length ≤ 500 := by have := HZ.out; omega
  clear hown2 hgrow2 HC1
  go_wp2_with fail
  refine (new_any _ v2 zs (Reads.of_owns (by rw [rowOf_length]; exact hown2')) (by omega) hsm).mono ?_
  rintro e w3 ⟨p3, q3, rfl, r3, hp3, hq3, f3⟩
  have F3 : Fr (fun _ => False) w w3 := F2.trans' f3
  have hown3 := ownsRow_fr hown2' f3 (fun _ _ h => h)
  have ho3 : ∀ j, v2.ownBlock = some j → w.heap.size ≤ j ∧ j < p3 ∧ j < q3 := by
    intro j hj
    have := hown2'.lt j hj
    have := F1.size
    omega
  have hp3w : w.heap.size ≤ p3 := by have := F2.size; omega
  have hq3w : w.heap.size ≤ q3 := by have := F2.size; omega
  clear f3 hown2' F2 hp3 hq3
  have hform : ∃ aa cc, v2 = .slice aa zs.length cc ∧ (0 < zs.length → ∃ g, aa = some ⟨g, 0, none⟩) := by
    rcases hown3.2 with ⟨e1, e2⟩ | ⟨g, cc, cur, e1, _⟩
    · exact ⟨none, 0, by rw [e1, e2], fun h => by omega⟩
    · exact ⟨_, cc, e1, fun _ => ⟨g, rfl⟩⟩
  obtain ⟨aa, cc, rfl, hg0⟩ := hform
  go_wp2_with fail
  go_loopw [7, 24] (fun _ i wr => ∃ j : Nat, j ≤ zs.length ∧ i = .int .i64 (j : Int) ∧ (∃ cs : List Int, cs.length = zs.length ∧ wr.ownsRow w1.heap.size 5 1 (.slice aa zs.length cc) zs.length (cs.map (Value.int .u8))) ∧ Rd wr p3 q3 zs 0 0 ∧ Fr (fun _ => False) w wr) (fun _ i _ => zs.length - (intOf i).toNat)
  case atStart => exact ⟨0, Nat.zero_le _, rfl, ⟨zs.map (fun (z : Nat) => (z : Int)), by simp, by simpa [rowOf, Function.comp_def] using hown3⟩, r3, F3⟩
  case round =>
    obtain ⟨j, hj, rfl, ⟨cs, hcs, ox⟩, rx, fx⟩ := hrel
    by_cases hjl : j < zs.length
    · obtain ⟨g, rfl⟩ := hg0 (by omega)
      have hcv := ownsRow_cell ox j (.int .u8 (cs.getD j 0)) (by simp [List.getD, show j < cs.length by omega])
      have hfz := ownsRow_thaw ox
      have hji : (j : Int) < (zs.length : Int) := by omega
      obtain ⟨c, hcc⟩ : ∃ c, c = cs.getD j 0 := ⟨_, rfl⟩
      rw [← hcc] at hcv
      have hgo := ho3 g rfl
      clear hcc HC
      go_wp2
      go_roundw
      case rel =>
        refine ⟨j + 1, by omega, by go_num, ⟨cs.set j ((c + 1) % 256), by simpa using hcs, ?_⟩, ?_, fx.setCell (fun h => by simp at h; omega) _⟩
        · have := ownsRow_set ox j (.int .u8 ((c + 1) % 256))
          simpa [List.map_set] using this
        · exact rx.fr ((Fr.refl (fun b => b = g) wr).setCell (fun _ => rfl) _) (by omega) (by omega)
      case measure => simp [intOf]; omega
    · have hji : ¬ (j : Int) < (zs.length : Int) := by omega
      clear ox hg0 ho3 hown3 r3 F3
      have hall : 0 < zs.length → ∃ b off, a = some ⟨b, off, none⟩ ∧ ∀ j, j < zs.length → wr.cell? ⟨b, off + j, none⟩ = some (.int .u8 ((zs.getD j 0 : Nat) : Int)) := by
        intro hpos
        rw [HZ.out] at hpos ⊢
        rcases HC.out with ⟨_, e, _⟩ | ⟨b, off, spot, rfl, hsp, hc⟩
        · omega
        · obtain rfl := hsp hpos
          refine ⟨b, off, rfl, fun j hj => ?_⟩
          rw [fx.cell (p := ⟨b, off + j, none⟩) (cell_lt (hc j hj)) (fun h => h)]
          exact hc j hj
      have HA : Hid (0 < zs.length → ∃ b off, a = some ⟨b, off, none⟩ ∧ ∀ j, j < zs.length → wr.cell? ⟨b, off + j, none⟩ = some (.int .u8 ((zs.getD j 0 : Nat) : Int))) := hall
      clear hall
      go_wp2_with fail
      rw [← HZ.out]
      refine (refAll_any wr a cap zs hsm (by omega) HA.out).mono ?_
      rintro e w4 ⟨rfl, f4⟩
      have r4 := rx.fr f4 (fun h => h) (fun h => h)
      have F4 : Fr (fun _ => False) w w4 := fx.trans' f4
      have hpx : p3 < w4.heap.size := r4.blk.lt
      have hqx : q3 < w4.heap.size := r4.row.lt
      have hxw : w.heap.size ≤ w4.heap.size := F4.size
      have x5 : RRd (w4.alloc (.cells #[.string (strB (allBits zs)), .int .i64 0, .int .i64 0] 45)) w4.heap.size (allBits zs) 0 0 := Blk.new w4 _ _
      have r5 := r4.fr ((Fr.refl (fun _ => False) w4).alloc (.cells #[.string (strB (allBits zs)), .int .i64 0, .int .i64 0] 45)) (fun h => h) (fun h => h)
      have F5 := F4.alloc (.cells #[.string (strB (allBits zs)), .int .i64 0, .int .i64 0] 45)
      clear r4 F4 f4 rx fx HA HC hcs
      go_wp2_with fail
      go_loopw [40] (fun i wr => ∃ k pos ov : Nat, k ≤ len2 ∧ k ≤ 60 ∧ i = .int .i64 (k : Int) ∧ pos ≤ 71 * k ∧ ov ≤ 71 * k ∧ Rd wr p3 q3 zs pos ov ∧ RRd wr w4.heap.size (allBits zs) pos ov ∧ Fr (fun _ => False) w wr) (fun i _ => len2 - (intOf i).toNat)
      case atStart => exact ⟨0, 0, 0, Nat.zero_le _, Nat.zero_le _, rfl, by omega, by omega, r5, x5, F5⟩
      case round =>
        obtain ⟨k, pos, ov, hk, hk60, rfl, hpos, hov, r6, x6, F6⟩ := hrel
        clear r5 x5 F5
        by_cases hlt : k < len2
        · rcases h0 with h00 | ⟨b, off, rfl, _, hall⟩
          · omega
          obtain ⟨c0, c1, c2, g1, g2, g3, g4, g5, g6⟩ := hall k hlt
          have hb : b < w.heap.size := cell_lt c0
          have c0' := (F6.cell (p := ⟨b, off + k * 3, none⟩) hb (fun h => h)).trans c0
          have c1' := (F6.cell (p := ⟨b, off + k * 3 + 1, none⟩) hb (fun h => h)).trans c1
          have c2' := (F6.cell (p := ⟨b, off + k * 3 + 2, none⟩) hb (fun h => h)).trans c2
          have hki : (k : Int) < (len2 : Int) := by omega
          by_cases h60 : k < 60
          · have h60' : ¬ (60 : Int) ≤ (k : Int) := by omega
            have hnb := Blk.new wr #[.int .i64 (K k), .int .i64 (N k), .int .u64 (V k)] 30
            have hpn : p3 < wr.heap.size := r6.blk.lt
            have hxn : w4.heap.size < wr.heap.size := Blk.lt x6
            have r7 := r6.fr ((Fr.refl (fun _ => False) wr).alloc (.cells #[.int .i64 (K k), .int .i64 (N k), .int .u64 (V k)] 30)) (fun h => h) (fun h => h)
            have x7 := x6.fr ((Fr.refl (fun _ => False) wr).alloc (.cells #[.int .i64 (K k), .int .i64 (N k), .int .u64 (V k)] 30)) (fun h => h)
            have F7 := F6.alloc (.cells #[.int .i64 (K k), .int .i64 (N k), .int .u64 (V k)] 30)
            clear r6 x6 F6
            rcases kind3 (K k) with hkd | hkd | hkd
            · have HBB : Hid ((allBits zs).getD pos false = bitAt zs pos) := allBits_bit zs pos
              go_wp2_with fail
              refine (rbit_any _ p3 q3 _ _ _ r7 (by omega) (by omega) (by omega)).mono ?_
              rintro e w8 ⟨rfl, r8, f8⟩
              have x8 := x7.fr f8 (by omega)
              have F8 := F7.trans f8 (by intro i hi e; omega)
              go_wp2_with fail
              refine (refBit_any _ _ _ _ _ x8 (by rw [allBits_length]; omega) (by omega) (by omega)).mono ?_
              rintro e w9 ⟨rfl, X9', f9⟩
              rw [HBB.out]
              have R9 := r8.fr f9 (by omega) (by omega)
              have F9 := F8.trans f9 (by intro i hi e; omega)
              have X9 : RRd w9 w4.heap.size (allBits zs) (pos + 1) (ov + if pos < 8 * zs.length then 0 else 1) := by rw [allBits_length] at X9'; exact X9'
              have hov' : (ov + if pos < 8 * zs.length then 0 else 1) ≤ 71 * (k + 1) := by split <;> omega
              generalize (ov + if pos < 8 * zs.length then 0 else 1) = ov' at *
              generalize bitAt zs pos = bt
              clear r7 x7 F7 f8 x8 r8 F8 X9' f9 HBB
              cases bt with
              | true =>
                go_wp2_with fail
                refine (rbit_nil _).mono ?_
                rintro e w10 ⟨rfl, rfl⟩
                have hEQ : (allBits zs).length = 8 * zs.length := allBits_length zs
                have hzq : (allBits zs).length ≤ 4000 := by omega
                have hc91 := Blk.cell X9 1
                have hc92 := Blk.cell X9 2
                simp at hc91 hc92
                go_wp2_with fail
                go_quiet (first | (go_at_call 23; exact Calls.quiet_of_same (rat_any _ _ _ _ _ _ (R9.drewN _))) | (go_at_call 24; exact Calls.quiet_of (rleft_any _ _ _ _ _ _ (R9.drewN _) (by omega) (by omega))) | (go_at_call 25; exact Calls.quiet_of (refLeft_any _ _ _ _ _ (X9.drewN _) (by omega) (by omega))) | (go_at_call 26; exact Calls.quiet_of_same (rover_any _ _ _ _ _ _ (R9.drewN _))))
                go_wp2
                go_roundw
                case rel => exact ⟨k + 1, pos + 1, ov', by omega, by omega, by go_num, by omega, by omega, R9.drewN _, X9.drewN _, F9.drewN _⟩
                case measure => simp [intOf]; omega
              | false =>
                go_wp2_with fail
                refine (rbit_nil _).mono ?_
                rintro e w10 ⟨rfl, rfl⟩
                have hEQ : (allBits zs).length = 8 * zs.length := allBits_length zs
                have hzq : (allBits zs).length ≤ 4000 := by omega
                have hc91 := Blk.cell X9 1
                have hc92 := Blk.cell X9 2
                simp at hc91 hc92
                go_wp2_with fail
                go_quiet (first | (go_at_call 23; exact Calls.quiet_of_same (rat_any _ _ _ _ _ _ (R9.drewN _))) | (go_at_call 24; exact Calls.quiet_of (rleft_any _ _ _ _ _ _ (R9.drewN _) (by omega) (by omega))) | (go_at_call 25; exact Calls.quiet_of (refLeft_any _ _ _ _ _ (X9.drewN _) (by omega) (by omega))) | (go_at_call 26; exact Calls.quiet_of_same (rover_any _ _ _ _ _ _ (R9.drewN _))))
                go_wp2
                go_roundw
                case rel => exact ⟨k + 1, pos + 1, ov', by omega, by omega, by go_num, by omega, by omega, R9.drewN _, X9.drewN _, F9.drewN _⟩
                case measure => simp [intOf]; omega
            · have hfun := all_fun zs
              have HF : Hid ((fun i => (allBits zs).getD i false) = bitAt zs) := hfun
              have D1 : Hid ((wr.alloc (.cells #[.int .i64 (K k), .int .i64 (N k), .int .u64 (V k)] 30)).cell? ⟨wr.heap.size, 1, none⟩ = some (.int .i64 (N k))) := hnb.cell 1
              have hm64 : (max 0 (min (N k) 64)).toNat ≤ 64 := by omega
              have hpl := past_le pos (max 0 (min (N k) 64)).toNat (8 * zs.length)
              have hne1 : ¬ wr.heap.size = p3 := by omega
              have hne2 : ¬ wr.heap.size = w4.heap.size := by omega
              clear hfun
              go_wp2_with fail
              go_region_held3 (fun w' => w'.cell? ⟨wr.heap.size, 1, none⟩ = some (.int .i64 (N k))) (go_keep)
                (first | (go_at_call_of 19 (Value.pointer none); refine (rget_nil _ _).mono ?_; rintro e w10 ⟨rfl, rfl⟩) | (go_at_call 19; refine (rget_any _ p3 q3 _ _ _ _ (r7.drewN 1) (by omega) (by omega) (by omega)).mono ?_; rintro e w8 ⟨rfl, r8, f8⟩; have d8 := held_over f8 hnb.lt hne1 D1.out) | (go_at_call 20; refine (refGet_any _ w4.heap.size _ _ _ _ ((x7.drewN 1).fr f8 (by omega)) (by rw [allBits_length]; omega) (by omega) (by omega)).mono ?_; rintro e w9 ⟨rfl, X9', f9⟩; rw [HF.out]; have d9 := held_on f9 hne2 d8))
              have R9 := r8.fr f9 (by omega) (by omega)
              have F9 := (F7.drew.trans f8 (by intro i hi e; omega)).trans f9 (by intro i hi e; omega)
              have X9 := X9'
              rw [allBits_length] at X9
              clear r7 x7 F7 f8 r8 X9' f9 HF d8 d9 D1
              have hEQ : (allBits zs).length = 8 * zs.length := allBits_length zs
              have hzq : (allBits zs).length ≤ 4000 := by omega
              have hc91 := Blk.cell X9 1
              have hc92 := Blk.cell X9 2
              simp at hc91 hc92
              go_wp2_with fail
              go_quiet (first | (go_at_call 23; exact Calls.quiet_of_same (rat_any _ _ _ _ _ _ (R9.drewN _))) | (go_at_call 24; exact Calls.quiet_of (rleft_any _ _ _ _ _ _ (R9.drewN _) (by omega) (by omega))) | (go_at_call 25; exact Calls.quiet_of (refLeft_any _ _ _ _ _ (X9.drewN _) (by omega) (by omega))) | (go_at_call 26; exact Calls.quiet_of_same (rover_any _ _ _ _ _ _ (R9.drewN _))))
              go_wp2
              go_roundw
              case rel => exact ⟨k + 1, pos + (max 0 (min (N k) 64)).toNat, ov + past pos (max 0 (min (N k) 64)).toNat (8 * zs.length), by omega, by omega, by go_num, by omega, by omega, R9.drewN _, X9.drewN _, F9.drewN _⟩
              case measure => simp [intOf]; omega
            · go_wp2_with fail
              refine (ralign_any _ p3 q3 _ _ _ r7 (by omega)).mono ?_
              rintro e w8 ⟨rfl, r8, f8⟩
              have x8 := x7.fr f8 (by omega)
              have F8 := F7.trans f8 (by intro i hi e; omega)
              go_wp2_with fail
              refine (refAlign_any _ _ _ _ _ x8 (by omega)).mono ?_
              rintro e w9 ⟨rfl, X9, f9⟩
              have R9 := r8.fr f9 (by omega) (by omega)
              have F9 := F8.trans f9 (by intro i hi e; omega)
              have hgp := gap_le pos
              clear r7 x7 F7 f8 x8 r8 F8 f9
              go_wp2_with fail
              refine (ralign_nil _).mono ?_
              rintro e w10 ⟨rfl, rfl⟩
              have hEQ : (allBits zs).length = 8 * zs.length := allBits_length zs
              have hzq : (allBits zs).length ≤ 4000 := by omega
              have hc91 := Blk.cell X9 1
              have hc92 := Blk.cell X9 2
              simp at hc91 hc92
              go_wp2_with fail
              go_quiet (first | (go_at_call 23; exact Calls.quiet_of_same (rat_any _ _ _ _ _ _ (R9.drewN _))) | (go_at_call 24; exact Calls.quiet_of (rleft_any _ _ _ _ _ _ (R9.drewN _) (by omega) (by omega))) | (go_at_call 25; exact Calls.quiet_of (refLeft_any _ _ _ _ _ (X9.drewN _) (by omega) (by omega))) | (go_at_call 26; exact Calls.quiet_of_same (rover_any _ _ _ _ _ _ (R9.drewN _))))
              go_wp2
              go_roundw
              case rel => exact ⟨k + 1, pos + gap pos, ov, by omega, by omega, by go_num, by omega, by omega, R9.drewN _, X9.drewN _, F9.drewN _⟩
              case measure => simp [intOf]; omega
          · have hk60' : (60 : Int) ≤ (k : Int) := by omega
            have F6 := F6.alloc (.cells #[.int .i64 (K k), .int .i64 (N k), .int .u64 (V k)] 30)
            go_wp2_with fail
            refine (rat_nil _).mono ?_
            rintro e w8 ⟨rfl, rfl⟩
            go_wp2_with fail
            refine (rleft_nil _).mono ?_
            rintro e w9 ⟨rfl, n9, rfl⟩
            go_wp2_with fail
            refine (rover_nil _).mono ?_
            rintro e w10 ⟨rfl, rfl⟩
            go_wp2
            go_ret
            exact ⟨rfl, (F6.drewN _).below (Nat.le_refl _) (fun _ _ h => h)⟩
        · have hki : ¬ (k : Int) < (len2 : Int) := by omega
          go_wp2_with fail
          refine (rat_nil _).mono ?_
          rintro e w8 ⟨rfl, rfl⟩
          go_wp2_with fail
          refine (rleft_nil _).mono ?_
          rintro e w9 ⟨rfl, n9, rfl⟩
          go_wp2_with fail
          refine (rover_nil _).mono ?_
          rintro e w10 ⟨rfl, rfl⟩
          go_wp2
          go_ret
          exact ⟨rfl, (F6.drewN _).below (Nat.le_refl _) (fun _ _ h => h)⟩
end Go.Proofs.Ytadpbeofeocfiaa
