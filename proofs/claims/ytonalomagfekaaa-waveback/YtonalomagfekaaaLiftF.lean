/-
  Package lift: a line, there and back (Forward, Inverse).
-/
import Derived.Test.YtonalomagfekaaaLiftS
namespace Go.Proofs.Ytonalomagfekaaa
open Go.RowKit

/-- A step that is under way: done at the places ahead of k. -/
def partL (f n : Nat) (odd : Bool) (sg : Int) (V : Nat → Int) (k : Nat) : Nat → Int := fun j => if j < k then stepL f n odd sg V j else V j
theorem partL_lt {f n : Nat} {odd : Bool} {sg : Int} {V : Nat → Int} {k j : Nat} (h : j < k) : partL f n odd sg V k j = stepL f n odd sg V j := if_pos h
theorem partL_ge {f n : Nat} {odd : Bool} {sg : Int} {V : Nat → Int} {k j : Nat} (h : ¬ j < k) : partL f n odd sg V k j = V j := if_neg h
theorem partL_other {f n : Nat} {odd : Bool} {sg : Int} {V : Nat → Int} {k j : Nat} (h : j % 2 ≠ parB odd) : partL f n odd sg V k j = V j := by
  by_cases hj : j < k
  · rw [partL_lt hj, stepL_other h]
  · exact partL_ge hj
theorem partL_tap {f n : Nat} {odd : Bool} {sg : Int} {V : Nat → Int} {k : Nat} (hn : 2 ≤ n) (he : n % 2 = 0) (hk : k % 2 = parB odd) : tapV f odd (atL n (partL f n odd sg V k)) k = tapV f odd (atL n V) k := tapV_congr fun j hj => by
  unfold atL
  have := nearL_par hn he j
  have := parB_lt odd
  exact partL_other (by omega)
theorem partL_set {f n : Nat} {odd : Bool} {sg : Int} {V : Nat → Int} {k : Nat} (hk : k % 2 = parB odd) (j : Nat) : (if j = k then wrap64 (V k + sg * tapV f odd (atL n V) k) else partL f n odd sg V k j) = partL f n odd sg V (k + 2) j := by
  by_cases e : j = k
  · subst e
    rw [if_pos rfl, partL_lt (by omega)]
    exact (if_pos hk).symm
  · rw [if_neg e]
    by_cases hj : j < k
    · rw [partL_lt hj, partL_lt (by omega)]
    · by_cases e2 : j = k + 1
      · have := parB_lt odd
        rw [partL_other (by omega), partL_other (by omega)]
      · rw [partL_ge hj, partL_ge (by omega)]
theorem partL_start {f n : Nat} {odd : Bool} {sg : Int} {V : Nat → Int} (j : Nat) : V j = partL f n odd sg V (parB odd) j := by
  by_cases h : j < parB odd
  · have := parB_lt odd
    rw [partL_lt h, stepL_other (by omega)]
  · rw [partL_ge h]
theorem partL_lo {f n : Nat} {odd : Bool} {sg : Int} {V : Nat → Int} {k j : Nat} (h : -9223372036854775808 ≤ V j ∧ V j ≤ 9223372036854775807) : -9223372036854775808 ≤ partL f n odd sg V k j ∧ partL f n odd sg V k j ≤ 9223372036854775807 := by
  unfold partL; split
  · exact stepL_lo h
  · exact h
theorem minus_one (x y : Int) : x + -1 * y = x - y := by omega
theorem plus_one (x y : Int) : x + 1 * y = x + y := by omega

/-- What a call that makes a list leaves: its value, its numbers in new memory, all else as it was. -/
def MadeL (w w' : World) (e : Ending) (n : Nat) (V : Nat → Int) : Prop :=
  ∃ a cap b, e = .returned (.slice a n cap) ∧ Nums w' a n cap V b ∧ (a = none → n = 0 ∧ cap = 0) ∧ (0 < n → w.heap.size ≤ b ∧ IntB w' b) ∧ Fr (fun _ => False) w w'
theorem MadeL.nil {w w' : World} (f : Fr (fun _ => False) w w') (V : Nat → Int) : MadeL w w' (.returned (.slice none 0 0)) 0 V :=
  ⟨none, 0, 0, rfl, Nums.nil _ _ _, fun _ => ⟨rfl, rfl⟩, fun h => absurd h (by omega), f⟩
theorem MadeL.row {w w' : World} {g n : Nat} {V : Nat → Int} (h : Row w' g n V) (hn : n ≤ maxLen) (hg : w.heap.size ≤ g) (f : Fr (fun _ => False) w w') : MadeL w w' (.returned (.slice (some ⟨g, 0, none⟩) n n)) n V :=
  ⟨_, n, g, rfl, h.nums hn, (by intro h; cases h), fun _ => ⟨hg, h.intB⟩, f⟩
/-- How many a filter makes of a list. -/
def liftN (z : Int) (n : Nat) : Nat := if filtB z = true ∧ lineB n = true then n else 0
theorem liftN_in {z : Int} {n : Nat} (h : filtB z = true) (h' : lineB n = true) : liftN z n = n := if_pos ⟨h, h'⟩
theorem liftN_out {z : Int} {n : Nat} (h : filtB z = false ∨ lineB n = false) : liftN z n = 0 := if_neg fun ⟨a, b⟩ => by rcases h with h | h <;> simp_all

set_option maxHeartbeats 1000000 in
theorem lforward_go (w : World) (a : Option Addr) (n cap : Nat) (V : Nat → Int) (b : Nat) (h : Nums w a n cap V b) (hl : lineB n = true) (hn : n ≤ 1048576) (hV : ∀ j, j < n → -9223372036854775808 ≤ V j ∧ V j ≤ 9223372036854775807) (f : Nat) (hf : f ≤ 4) :
    Calls Try.prog 43 #[.int .i64 (f : Int), .slice a n cap] w fun e w' => ∃ g, e = .returned (.slice (some ⟨g, 0, none⟩) n n) ∧ Row w' g n (forwardL f n V) ∧ w.heap.size ≤ g ∧ Fr (fun _ => False) w w' := by
  have hff : filtB (f : Int) = true := filtB_iff.2 (by omega)
  have h2 : 2 ≤ n := by have := lineB_iff.1 hl; omega
  have he : n % 2 = 0 := (lineB_iff.1 hl).2
  have HVV := hid hV
  clear hV
  go_enter Try.func43, Try.ntmps43
  go_wp2_with fail
  refine (lright_any (f : Int) _).mono ?_
  rintro e w0 ⟨rfl, rfl⟩
  rw [hff]
  go_wp2_with fail
  refine (lline_any a n cap (by omega) _).mono ?_
  rintro e w0 ⟨rfl, rfl⟩
  rw [hl]
  go_wp2_with fail
  refine (lfresh_any w0 a n cap V b h hn).mono ?_
  rintro e w1 ⟨g, rfl, hrow, hg, f1⟩
  have HR0 := hid hrow
  have HF0 := hid (Fr.refl (fun j => j = g) w1)
  have HG := hid hg
  have HFF := hid f1
  clear hrow hg f1 h hl hff
  go_wp2
  go_loopw [6] (fun i wr => ∃ k : Nat, k % 2 = parB true ∧ k ≤ n + 1 ∧ i = .int .i64 (k : Int) ∧ Row wr g n (partL f n true (-1) V k) ∧ Fr (fun j => j = g) w1 wr) (fun i _ => n + 2 - (intOf i).toNat)
  case atStart => exact ⟨1, rfl, by omega, rfl, HR0.out.congr (fun j _ => partL_start (odd := true) j), HF0.out⟩
  case round =>
    obtain ⟨k, hpar, hk, rfl, hr, F⟩ := hrel
    by_cases hlt : k < n
    · have hki : (k : Int) < (n : Int) := by omega
      have ck := hr.cell hlt
      have cf := hr.thaw k
      rw [partL_ge (Nat.lt_irrefl k)] at ck
      have HC := hid (lodd_any wr.drew (some ⟨g, 0, none⟩) n n (partL f n true (-1) V k) g ((hr.quiet (Fr.refl _ wr).drew).nums (by unfold maxLen; omega)) h2 he hn k hlt (fun j hj => partL_lo (HVV.out j hj)) f hf)
      rw [partL_tap h2 he hpar] at HC
      have HS : Hid (∀ j, (if j = k then wrap64 (V k - tapV f true (atL n V) k) else partL f n true (-1) V k j) = partL f n true (-1) V (k + 2) j) := by
        intro j; rw [← minus_one]; exact partL_set hpar j
      generalize tapV f true (atL n V) k = t at HC HS
      generalize V k = v at ck HS
      have HP := hid hpar
      have HR := hid hr
      clear hr hpar
      go_wp2
      refine wp_region_still_tail 10 (by kernel_rfl) (by kernel_rfl) ?_
      show wpStill Try.prog _ wr.drew (fun a' => wpList Try.prog _ _ _ a' wr.drew) _ _
      simp only [List.take_succ_cons, List.take_zero, List.drop_succ_cons, List.drop_zero]
      repeat still_step
      still_call (HC.out)
      repeat still_step
      refine wpStill_nil ?_
      go_wp2
      go_roundw
      case rel =>
        refine ⟨k + 2, by have := HP.out; omega, by omega, by go_num, ?_, (F.setCell (p := ⟨g, k, none⟩) (fun _ => rfl) _).drew⟩
        exact ((HR.out.set k _).congr fun j _ => HS.out j).fr (Fr.refl (fun _ => False) _).drew (fun h => h)
      case measure => simp [intOf]; omega
    · have hki : ¬ (k : Int) < (n : Int) := by omega
      obtain ⟨wm, rfl⟩ : ∃ wm, wm = wr := ⟨_, rfl⟩
      have HR1 := hid (hr.congr (V' := stepL f n true (-1) V) fun j hj => partL_lt (by omega))
      have HF1 := hid F
      clear hr F HR0 HF0 hpar hk hlt
      have HR0 := HR1
      have HF0 := HF1
      clear HR1 HF1
      obtain ⟨U, hU⟩ : ∃ U, U = stepL f n true (-1) V := ⟨_, rfl⟩
      have HU := hid hU
      rw [← hU] at HR0
      have HVU : Hid (∀ j, j < n → -9223372036854775808 ≤ U j ∧ U j ≤ 9223372036854775807) := fun j hj => by rw [hU]; exact stepL_lo (HVV.out j hj)
      clear hU
      go_wp2
      go_loopw [7] (fun i wr => ∃ k : Nat, k % 2 = parB false ∧ k ≤ n + 1 ∧ i = .int .i64 (k : Int) ∧ Row wr g n (partL f n false (1) U k) ∧ Fr (fun j => j = g) w1 wr) (fun i _ => n + 2 - (intOf i).toNat)
      case atStart => exact ⟨0, rfl, by omega, rfl, HR0.out.congr (fun j _ => partL_start (odd := false) j), HF0.out⟩
      case round =>
        obtain ⟨k, hpar, hk, rfl, hr, F⟩ := hrel
        by_cases hlt : k < n
        · have hki : (k : Int) < (n : Int) := by omega
          have ck := hr.cell hlt
          have cf := hr.thaw k
          rw [partL_ge (Nat.lt_irrefl k)] at ck
          have HC := hid (leven_any wr.drew (some ⟨g, 0, none⟩) n n (partL f n false (1) U k) g ((hr.quiet (Fr.refl _ wr).drew).nums (by unfold maxLen; omega)) h2 he hn k hlt f hf)
          rw [partL_tap h2 he hpar] at HC
          have HS : Hid (∀ j, (if j = k then wrap64 (U k + tapV f false (atL n U) k) else partL f n false (1) U k j) = partL f n false (1) U (k + 2) j) := by
            intro j; rw [← plus_one]; exact partL_set hpar j
          generalize tapV f false (atL n U) k = t at HC HS
          generalize U k = v at ck HS
          have HP := hid hpar
          have HR := hid hr
          clear hr hpar
          go_wp2
          refine wp_region_still_tail 10 (by kernel_rfl) (by kernel_rfl) ?_
          show wpStill Try.prog _ wr.drew (fun a' => wpList Try.prog _ _ _ a' wr.drew) _ _
          simp only [List.take_succ_cons, List.take_zero, List.drop_succ_cons, List.drop_zero]
          repeat still_step
          still_call (HC.out)
          repeat still_step
          refine wpStill_nil ?_
          go_wp2
          go_roundw
          case rel =>
            refine ⟨k + 2, by have := HP.out; omega, by omega, by go_num, ?_, (F.setCell (p := ⟨g, k, none⟩) (fun _ => rfl) _).drew⟩
            exact ((HR.out.set k _).congr fun j _ => HS.out j).fr (Fr.refl (fun _ => False) _).drew (fun h => h)
          case measure => simp [intOf]; omega
        · have hki : ¬ (k : Int) < (n : Int) := by omega
          obtain ⟨wm, rfl⟩ : ∃ wm, wm = wr := ⟨_, rfl⟩
          have HR1 := hid (hr.congr (V' := stepL f n false (1) U) fun j hj => partL_lt (by omega))
          have HF1 := hid F
          clear hr F HR0 HF0 hpar hk hlt
          have HR0 := HR1
          have HF0 := HF1
          clear HR1 HF1
          go_wp2
          go_ret
          refine ⟨g, rfl, HR0.out.congr fun j _ => by rw [HU.out]; rfl, HG.out, HFF.out.trans HF0.out (fun j hj e => ?_)⟩
          have := HG.out; omega

theorem lforward_bad (w : World) (a : Option Addr) (n cap : Nat) (z : Int) (hn : (n : Int) ≤ 9223372036854775807) (hb : filtB z = false ∨ lineB n = false) :
    Calls Try.prog 43 #[.int .i64 z, .slice a n cap] w fun e w' => e = .returned (.slice none 0 0) ∧ w' = w := by
  cases hz : filtB z with
  | false =>
    go_enter Try.func43, Try.ntmps43
    go_wp2_with fail
    refine (lright_any z _).mono ?_
    rintro e w0 ⟨rfl, rfl⟩
    rw [hz]
    go_wp2
    go_ret
    exact ⟨rfl, rfl⟩
  | true =>
    have hl : lineB n = false := by rcases hb with h | h; rw [hz] at h; cases h; exact h
    go_enter Try.func43, Try.ntmps43
    go_wp2_with fail
    refine (lright_any z _).mono ?_
    rintro e w0 ⟨rfl, rfl⟩
    rw [hz]
    go_wp2_with fail
    refine (lline_any a n cap hn _).mono ?_
    rintro e w0 ⟨rfl, rfl⟩
    rw [hl]
    go_wp2
    go_ret
    exact ⟨rfl, rfl⟩

theorem lforward_any (w : World) (a : Option Addr) (n cap : Nat) (V : Nat → Int) (b : Nat) (h : Nums w a n cap V b) (hn : n ≤ 1048576) (hV : ∀ j, j < n → -9223372036854775808 ≤ V j ∧ V j ≤ 9223372036854775807) (z : Int) :
    Calls Try.prog 43 #[.int .i64 z, .slice a n cap] w fun e w' => MadeL w w' e (liftN z n) (forwardL z.toNat n V) := by
  cases hz : filtB z with
  | false =>
    rw [liftN_out (.inl hz)]
    refine (lforward_bad w a n cap z (by omega) (.inl hz)).mono ?_
    rintro e w' ⟨rfl, rfl⟩
    exact MadeL.nil (Fr.refl _ _) _
  | true =>
    cases hl : lineB n with
    | false =>
      rw [liftN_out (.inr hl)]
      refine (lforward_bad w a n cap z (by omega) (.inr hl)).mono ?_
      rintro e w' ⟨rfl, rfl⟩
      exact MadeL.nil (Fr.refl _ _) _
    | true =>
      rw [liftN_in hz hl]
      obtain ⟨f, rfl⟩ := Int.eq_ofNat_of_zero_le (filtB_iff.1 hz).1
      refine (lforward_go w a n cap V b h hl hn hV f (by have := (filtB_iff.1 hz).2; omega)).mono ?_
      rintro e w' ⟨g, rfl, hr, hg, fr⟩
      exact MadeL.row hr (by unfold maxLen; omega) hg fr

set_option maxHeartbeats 1000000 in
theorem linverse_go (w : World) (a : Option Addr) (n cap : Nat) (V : Nat → Int) (b : Nat) (h : Nums w a n cap V b) (hl : lineB n = true) (hn : n ≤ 1048576) (hV : ∀ j, j < n → -9223372036854775808 ≤ V j ∧ V j ≤ 9223372036854775807) (f : Nat) (hf : f ≤ 4) :
    Calls Try.prog 50 #[.int .i64 (f : Int), .slice a n cap] w fun e w' => ∃ g, e = .returned (.slice (some ⟨g, 0, none⟩) n n) ∧ Row w' g n (inverseL f n V) ∧ w.heap.size ≤ g ∧ Fr (fun _ => False) w w' := by
  have hff : filtB (f : Int) = true := filtB_iff.2 (by omega)
  have h2 : 2 ≤ n := by have := lineB_iff.1 hl; omega
  have he : n % 2 = 0 := (lineB_iff.1 hl).2
  have HVV := hid hV
  clear hV
  go_enter Try.func50, Try.ntmps50
  go_wp2_with fail
  refine (lright_any (f : Int) _).mono ?_
  rintro e w0 ⟨rfl, rfl⟩
  rw [hff]
  go_wp2_with fail
  refine (lline_any a n cap (by omega) _).mono ?_
  rintro e w0 ⟨rfl, rfl⟩
  rw [hl]
  go_wp2_with fail
  refine (lfresh_any w0 a n cap V b h hn).mono ?_
  rintro e w1 ⟨g, rfl, hrow, hg, f1⟩
  have HR0 := hid hrow
  have HF0 := hid (Fr.refl (fun j => j = g) w1)
  have HG := hid hg
  have HFF := hid f1
  clear hrow hg f1 h hl hff
  go_wp2
  go_loopw [6] (fun i wr => ∃ k : Nat, k % 2 = parB false ∧ k ≤ n + 1 ∧ i = .int .i64 (k : Int) ∧ Row wr g n (partL f n false (-1) V k) ∧ Fr (fun j => j = g) w1 wr) (fun i _ => n + 2 - (intOf i).toNat)
  case atStart => exact ⟨0, rfl, by omega, rfl, HR0.out.congr (fun j _ => partL_start (odd := false) j), HF0.out⟩
  case round =>
    obtain ⟨k, hpar, hk, rfl, hr, F⟩ := hrel
    by_cases hlt : k < n
    · have hki : (k : Int) < (n : Int) := by omega
      have ck := hr.cell hlt
      have cf := hr.thaw k
      rw [partL_ge (Nat.lt_irrefl k)] at ck
      have HC := hid (leven_any wr.drew (some ⟨g, 0, none⟩) n n (partL f n false (-1) V k) g ((hr.quiet (Fr.refl _ wr).drew).nums (by unfold maxLen; omega)) h2 he hn k hlt f hf)
      rw [partL_tap h2 he hpar] at HC
      have HS : Hid (∀ j, (if j = k then wrap64 (V k - tapV f false (atL n V) k) else partL f n false (-1) V k j) = partL f n false (-1) V (k + 2) j) := by
        intro j; rw [← minus_one]; exact partL_set hpar j
      generalize tapV f false (atL n V) k = t at HC HS
      generalize V k = v at ck HS
      have HP := hid hpar
      have HR := hid hr
      clear hr hpar
      go_wp2
      refine wp_region_still_tail 10 (by kernel_rfl) (by kernel_rfl) ?_
      show wpStill Try.prog _ wr.drew (fun a' => wpList Try.prog _ _ _ a' wr.drew) _ _
      simp only [List.take_succ_cons, List.take_zero, List.drop_succ_cons, List.drop_zero]
      repeat still_step
      still_call (HC.out)
      repeat still_step
      refine wpStill_nil ?_
      go_wp2
      go_roundw
      case rel =>
        refine ⟨k + 2, by have := HP.out; omega, by omega, by go_num, ?_, (F.setCell (p := ⟨g, k, none⟩) (fun _ => rfl) _).drew⟩
        exact ((HR.out.set k _).congr fun j _ => HS.out j).fr (Fr.refl (fun _ => False) _).drew (fun h => h)
      case measure => simp [intOf]; omega
    · have hki : ¬ (k : Int) < (n : Int) := by omega
      obtain ⟨wm, rfl⟩ : ∃ wm, wm = wr := ⟨_, rfl⟩
      have HR1 := hid (hr.congr (V' := stepL f n false (-1) V) fun j hj => partL_lt (by omega))
      have HF1 := hid F
      clear hr F HR0 HF0 hpar hk hlt
      have HR0 := HR1
      have HF0 := HF1
      clear HR1 HF1
      obtain ⟨U, hU⟩ : ∃ U, U = stepL f n false (-1) V := ⟨_, rfl⟩
      have HU := hid hU
      rw [← hU] at HR0
      have HVU : Hid (∀ j, j < n → -9223372036854775808 ≤ U j ∧ U j ≤ 9223372036854775807) := fun j hj => by rw [hU]; exact stepL_lo (HVV.out j hj)
      clear hU
      go_wp2
      go_loopw [7] (fun i wr => ∃ k : Nat, k % 2 = parB true ∧ k ≤ n + 1 ∧ i = .int .i64 (k : Int) ∧ Row wr g n (partL f n true (1) U k) ∧ Fr (fun j => j = g) w1 wr) (fun i _ => n + 2 - (intOf i).toNat)
      case atStart => exact ⟨1, rfl, by omega, rfl, HR0.out.congr (fun j _ => partL_start (odd := true) j), HF0.out⟩
      case round =>
        obtain ⟨k, hpar, hk, rfl, hr, F⟩ := hrel
        by_cases hlt : k < n
        · have hki : (k : Int) < (n : Int) := by omega
          have ck := hr.cell hlt
          have cf := hr.thaw k
          rw [partL_ge (Nat.lt_irrefl k)] at ck
          have HC := hid (lodd_any wr.drew (some ⟨g, 0, none⟩) n n (partL f n true (1) U k) g ((hr.quiet (Fr.refl _ wr).drew).nums (by unfold maxLen; omega)) h2 he hn k hlt (fun j hj => partL_lo (HVU.out j hj)) f hf)
          rw [partL_tap h2 he hpar] at HC
          have HS : Hid (∀ j, (if j = k then wrap64 (U k + tapV f true (atL n U) k) else partL f n true (1) U k j) = partL f n true (1) U (k + 2) j) := by
            intro j; rw [← plus_one]; exact partL_set hpar j
          generalize tapV f true (atL n U) k = t at HC HS
          generalize U k = v at ck HS
          have HP := hid hpar
          have HR := hid hr
          clear hr hpar
          go_wp2
          refine wp_region_still_tail 10 (by kernel_rfl) (by kernel_rfl) ?_
          show wpStill Try.prog _ wr.drew (fun a' => wpList Try.prog _ _ _ a' wr.drew) _ _
          simp only [List.take_succ_cons, List.take_zero, List.drop_succ_cons, List.drop_zero]
          repeat still_step
          still_call (HC.out)
          repeat still_step
          refine wpStill_nil ?_
          go_wp2
          go_roundw
          case rel =>
            refine ⟨k + 2, by have := HP.out; omega, by omega, by go_num, ?_, (F.setCell (p := ⟨g, k, none⟩) (fun _ => rfl) _).drew⟩
            exact ((HR.out.set k _).congr fun j _ => HS.out j).fr (Fr.refl (fun _ => False) _).drew (fun h => h)
          case measure => simp [intOf]; omega
        · have hki : ¬ (k : Int) < (n : Int) := by omega
          obtain ⟨wm, rfl⟩ : ∃ wm, wm = wr := ⟨_, rfl⟩
          have HR1 := hid (hr.congr (V' := stepL f n true (1) U) fun j hj => partL_lt (by omega))
          have HF1 := hid F
          clear hr F HR0 HF0 hpar hk hlt
          have HR0 := HR1
          have HF0 := HF1
          clear HR1 HF1
          go_wp2
          go_ret
          refine ⟨g, rfl, HR0.out.congr fun j _ => by rw [HU.out]; rfl, HG.out, HFF.out.trans HF0.out (fun j hj e => ?_)⟩
          have := HG.out; omega

theorem linverse_bad (w : World) (a : Option Addr) (n cap : Nat) (z : Int) (hn : (n : Int) ≤ 9223372036854775807) (hb : filtB z = false ∨ lineB n = false) :
    Calls Try.prog 50 #[.int .i64 z, .slice a n cap] w fun e w' => e = .returned (.slice none 0 0) ∧ w' = w := by
  cases hz : filtB z with
  | false =>
    go_enter Try.func50, Try.ntmps50
    go_wp2_with fail
    refine (lright_any z _).mono ?_
    rintro e w0 ⟨rfl, rfl⟩
    rw [hz]
    go_wp2
    go_ret
    exact ⟨rfl, rfl⟩
  | true =>
    have hl : lineB n = false := by rcases hb with h | h; rw [hz] at h; cases h; exact h
    go_enter Try.func50, Try.ntmps50
    go_wp2_with fail
    refine (lright_any z _).mono ?_
    rintro e w0 ⟨rfl, rfl⟩
    rw [hz]
    go_wp2_with fail
    refine (lline_any a n cap hn _).mono ?_
    rintro e w0 ⟨rfl, rfl⟩
    rw [hl]
    go_wp2
    go_ret
    exact ⟨rfl, rfl⟩

theorem linverse_any (w : World) (a : Option Addr) (n cap : Nat) (V : Nat → Int) (b : Nat) (h : Nums w a n cap V b) (hn : n ≤ 1048576) (hV : ∀ j, j < n → -9223372036854775808 ≤ V j ∧ V j ≤ 9223372036854775807) (z : Int) :
    Calls Try.prog 50 #[.int .i64 z, .slice a n cap] w fun e w' => MadeL w w' e (liftN z n) (inverseL z.toNat n V) := by
  cases hz : filtB z with
  | false =>
    rw [liftN_out (.inl hz)]
    refine (linverse_bad w a n cap z (by omega) (.inl hz)).mono ?_
    rintro e w' ⟨rfl, rfl⟩
    exact MadeL.nil (Fr.refl _ _) _
  | true =>
    cases hl : lineB n with
    | false =>
      rw [liftN_out (.inr hl)]
      refine (linverse_bad w a n cap z (by omega) (.inr hl)).mono ?_
      rintro e w' ⟨rfl, rfl⟩
      exact MadeL.nil (Fr.refl _ _) _
    | true =>
      rw [liftN_in hz hl]
      obtain ⟨f, rfl⟩ := Int.eq_ofNat_of_zero_le (filtB_iff.1 hz).1
      refine (linverse_go w a n cap V b h hl hn hV f (by have := (filtB_iff.1 hz).2; omega)).mono ?_
      rintro e w' ⟨g, rfl, hr, hg, fr⟩
      exact MadeL.row hr (by unfold maxLen; omega) hg fr

end Go.Proofs.Ytonalomagfekaaa
