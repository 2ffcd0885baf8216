/-
  The document's answer for layer 8: a step over all places of a kind.
-/
import Derived.Test.YtonalomagfekaaaRef8T
import Derived.Test.YtonalomagfekaaaRowC
namespace Go.Proofs.Ytonalomagfekaaa
open Go.RowKit

/-- The sum over taps. -/
def tapSum (l : List (Int × Int)) (ad : Int) (A : Int → Int) (i : Int) : Int := l.foldl (fun s t => wrap64 (s + wrap64 (t.2 * A (i + t.1)))) ad
theorem tapSum_take {l : List (Int × Int)} {ad : Int} {A : Int → Int} {i : Int} {q : Nat} {x y : Int} (h : l[q]? = some (x, y)) : wrap64 (tapSum (l.take q) ad A i + wrap64 (y * A (i + x))) = tapSum (l.take (q + 1)) ad A i := by
  have hq : q < l.length := (List.getElem?_eq_some_iff.1 h).1
  rw [List.take_add_one, h]
  simp [tapSum, List.foldl_append]
theorem wrap64_four (p q r s c : Int) : wrap64 (wrap64 (wrap64 (wrap64 (c + wrap64 (-1 * p)) + wrap64 (9 * q)) + wrap64 (9 * r)) + wrap64 (-1 * s)) = wrap64 (-p + 9 * q + 9 * r - s + c) := by unfold wrap64; omega
theorem wrap64_two (q r c : Int) : wrap64 (wrap64 (c + wrap64 (1 * q)) + wrap64 (1 * r)) = wrap64 (q + r + c) := by unfold wrap64; omega
theorem wrap64_one (q c : Int) : wrap64 (c + wrap64 (1 * q)) = wrap64 (q + c) := by unfold wrap64; omega
/-- The sum over a filter's taps is the step's. -/
theorem tapSum_all (f : Nat) (odd : Bool) (A : Int → Int) (i : Int) : tapSum (tapsL f odd) (addL f odd) A i / tapD f odd = tapV f odd A i := by
  unfold tapV down
  congr 1
  match f, odd with
  | 0, true => exact wrap64_four _ _ _ _ 8
  | 2, true => exact wrap64_four _ _ _ _ 8
  | 2, false => exact wrap64_four _ _ _ _ 16
  | 0, false => exact wrap64_two _ _ 2
  | 1, true => exact wrap64_two _ _ 1
  | 1, false => exact wrap64_two _ _ 2
  | f + 3, true => exact (wrap64_one _ 0).trans (by rw [Int.add_zero]; rfl)
  | f + 3, false => exact wrap64_one _ 1
theorem tapSum_lo (l : List (Int × Int)) (ad : Int) (A : Int → Int) (i : Int) (h : -9223372036854775808 ≤ ad ∧ ad ≤ 9223372036854775807) : -9223372036854775808 ≤ tapSum l ad A i ∧ tapSum l ad A i ≤ 9223372036854775807 := by
  unfold tapSum
  induction l generalizing ad with
  | nil => exact h
  | cons t l ih => exact ih _ (wrap64_lo _)
theorem tapsL_small (f : Nat) (odd : Bool) : (tapsL f odd).length ≤ 4 ∧ ∀ t ∈ tapsL f odd, -3 ≤ t.1 ∧ t.1 ≤ 3 := by
  unfold tapsL
  split <;> exact ⟨by decide, by simp⟩
theorem addL_small (f : Nat) (odd : Bool) : 0 ≤ addL f odd ∧ addL f odd ≤ 16 := by unfold addL; split <;> omega
theorem tapD_most (f : Nat) (odd : Bool) : tapD f odd ≤ 32 := by unfold tapD; split <;> omega
theorem tapRow_get {l : List (Int × Int)} {q : Nat} {x y : Int} (h : l[q]? = some (x, y)) : (tapRow l)[q * 2]? = some (.int .i64 x) ∧ (tapRow l)[q * 2 + 1]? = some (.int .i64 y) := by
  induction l generalizing q with
  | nil => simp at h
  | cons t l ih =>
    cases q with
    | zero =>
      simp at h
      subst h
      exact ⟨rfl, rfl⟩
    | succ q =>
      simp at h
      obtain ⟨h1, h2⟩ := ih h
      have e : tapRow (t :: l) = .int .i64 t.1 :: .int .i64 t.2 :: tapRow l := rfl
      rw [e, show (q + 1) * 2 = q * 2 + 1 + 1 by omega, show q * 2 + 1 + 1 + 1 = (q * 2 + 1) + 1 + 1 by omega]
      simpa using ⟨h1, h2⟩

set_option maxHeartbeats 2000000 in
theorem r8step_odd (w : World) (a : Option Addr) (n cap : Nat) (V : Nat → Int) (b : Nat) (h : Nums w a n cap V b) (hl : lineB n = true) (hn : n ≤ 1048576) (f : Nat) (hf : f ≤ 4) (sg : Int) :
    Calls Try.prog 67 #[.int .i64 (f : Int), .slice a n cap, .bool true, .int .i64 sg] w fun e w' => MadeL w w' e n (stepL f n true sg V) := by
  have h2 : 2 ≤ n := by have := lineB_iff.1 hl; omega
  have he : n % 2 = 0 := (lineB_iff.1 hl).2
  have HTaps := hid (r8taps_any f hf true w)
  have hls := tapsL_small f true
  have has := addL_small f true
  have hds := tapD_pos f true
  have hdm := tapD_most f true
  have HAll := hid (fun i => tapSum_all f true (atL n V) i)
  generalize tapsL f true = l at HTaps hls HAll
  generalize addL f true = ad at HTaps has HAll
  obtain ⟨dv, hdv⟩ : ∃ dv, dv = tapD f true := ⟨_, rfl⟩
  rw [← hdv] at HTaps hds hdm HAll
  clear hdv
  obtain ⟨hl4, hsm⟩ := hls
  have HSM := hid hsm
  clear hsm hl
  go_enter Try.func67, Try.ntmps67
  go_wp2_with fail
  refine HTaps.out.mono ?_
  rintro e w1 ⟨t, rfl, hb, ht, f1⟩
  have h1 := h.quiet f1
  obtain ⟨off, rfl, _⟩ := h1.at' (by omega)
  go_wp2_with (at_builtin; refine wpList_copyI rfl _ _ rfl rfl _ n cap V b rfl h1 (fun h => by cases h) (by omega) ?_)
  rintro a' cap' g w2 ⟨hN, _, hrow⟩ f2
  obtain ⟨rfl, hR, hg⟩ := hrow (by omega)
  have HLe := hid (show n ≤ cap' from hN.le)
  have HMo := hid (show cap' ≤ maxLen from hN.most)
  have HB := hid (hb.fr f2 (fun h => h))
  have hbl := h1.lt (by omega)
  have htl := hb.lt
  have HN := hid (h1.quiet f2)
  have HFF := hid (f1.trans' f2)
  have HG := hid (Nat.le_trans f1.size hg)
  clear hN hrow hb h1 f1 f2 h HTaps ht
  go_wp2
  go_loopw [13] (fun i wr => ∃ k : Nat, k % 2 = parB true ∧ k ≤ n + 1 ∧ i = .int .i64 (k : Int) ∧ RowC wr g n (partL f n true sg V k) ∧ Fr (fun j => j = g) w2 wr) (fun i _ => n + 2 - (intOf i).toNat)
  case atStart => exact ⟨1, rfl, by omega, rfl, hR.congr (fun j _ => partL_start (odd := true) j), Fr.refl _ _⟩
  case round =>
    obtain ⟨k, hpar, hk, rfl, hr, F⟩ := hrel
    by_cases hlt : k < n
    · have hki : (k : Int) < (n : Int) := by omega
      obtain ⟨wk, rfl⟩ : ∃ wk, wk = wr := ⟨_, rfl⟩
      have HS : Hid (∀ j, (if j = k then wrap64 (V k + wrap64 (sg * (tapSum l ad (atL n V) k / dv))) else partL f n true sg V k j) = partL f n true sg V (k + 2) j) := by
        intro j; rw [wrap64_wrap', HAll.out]; exact partL_set hpar j
      have HSum := hid (tapSum_lo l ad (atL n V) k (by omega))
      have HP := hid hpar
      have HR := hid hr
      have HF := hid F
      have HB' := hid (HB.out.fr F (by omega))
      have HN' := hid (HN.out.fr F (fun _ => by omega))
      clear hr hpar F
      go_wp2
      go_loopw [37, 14] (fun i s wr => ∃ q : Nat, q ≤ l.length ∧ i = .int .i64 (q : Int) ∧ s = .int .i64 (tapSum (l.take q) ad (atL n V) k) ∧ Fr (fun _ => False) wk wr) (fun i _ _ => l.length - (intOf i).toNat)
      case atStart => exact ⟨0, Nat.zero_le _, rfl, by simp [tapSum], Fr.refl _ _⟩
      case round =>
        obtain ⟨q, hq, rfl, rfl, F⟩ := hrel
        by_cases hql : q < l.length
        · have hqi : (q : Int) < (l.length : Int) := by omega
          obtain ⟨x, y, hxy⟩ : ∃ x y, l[q]? = some (x, y) := ⟨l[q].1, l[q].2, by simp [hql]⟩
          have hx := HSM.out (x, y) (List.mem_of_getElem? hxy)
          dsimp only at hx
          have HT := hid (tapSum_take (ad := ad) (A := atL n V) (i := k) hxy)
          obtain ⟨g1, g2⟩ := tapRow_get hxy
          have HBq := HB'.out.fr F (fun h => h)
          have c0 : wr.cell? ⟨t, q * 2, none⟩ = some (.int .i64 x) := by rw [HBq.cell]; simpa using g1
          have c1 : wr.cell? ⟨t, q * 2 + 1, none⟩ = some (.int .i64 y) := by rw [HBq.cell]; simpa using g2
          have HNq := hid (HN'.out.quiet F)
          clear HBq g1 g2 hxy
          generalize tapSum (l.take q) ad (atL n V) k = s0 at HT
          obtain ⟨W3, hW3⟩ : ∃ W3, W3 = wr.alloc (.cells #[.int .i64 x, .int .i64 y] 77) := ⟨_, rfl⟩
          have F3 : Fr (fun _ => False) wk W3 := by rw [hW3]; exact F.alloc _
          have B3 : Blk W3 wr.heap.size #[.int .i64 x, .int .i64 y] 77 := by rw [hW3]; exact Blk.new _ _ _
          have d0 : W3.cell? ⟨wr.heap.size, 0, none⟩ = some (.int .i64 x) := by rw [B3.cell]; rfl
          have d1 : W3.cell? ⟨wr.heap.size, 1, none⟩ = some (.int .i64 y) := by rw [B3.cell]; rfl
          have HAt : Hid (∀ m, Calls Try.prog 73 #[.slice (some ⟨b, off, none⟩) n cap, .int .i64 ((k : Int) + x)] (W3.drewN m) fun e w' => e = .returned (.int .i64 (atL n V ((k : Int) + x))) ∧ w' = W3.drewN m) := fun m => r8at_any _ _ n cap V b (HN'.out.quiet (F3.drewN m)) h2 he hn _ (by omega) (by omega)
          have HW3 := hid hW3
          clear hW3 B3 HNq
          generalize atL n V ((k : Int) + x) = u at HAt HT
          go_wp2
          rw [← HW3.out]
          go_quiet ((go_at_call 73; exact Calls.quiet_of_same (HAt.out _)))
          go_wp2
          go_roundw
          case rel => exact ⟨q + 1, by omega, by go_num, by rw [HT.out], F3.drewN _⟩
          case measure => simp [intOf]; omega
        · have hqi : ¬ (q : Int) < (l.length : Int) := by omega
          have hall : tapSum (l.take q) ad (atL n V) k = tapSum l ad (atL n V) k := by rw [List.take_of_length_le (by omega)]
          rw [hall]
          have hr := HR.out.quiet F
          have ck := hr.cell hlt
          have cf := hr.thaw k
          rw [partL_ge (Nat.lt_irrefl k)] at ck
          generalize tapSum l ad (atL n V) k = sm at HSum HS
          have HD := hid (r8down_any sm dv hds hdm HSum.out.1 HSum.out.2 wr.drew)
          generalize sm / dv = d at HD HS
          generalize V k = v at ck HS
          have HR2 := hid hr
          clear hr hall HSum
          go_wp2
          refine wp_region_still_tail 11 (by kernel_rfl) (by kernel_rfl) ?_
          show wpStill Try.prog _ wr.drew (fun a' => wpList Try.prog _ _ _ a' wr.drew) _ _
          simp only [List.take_succ_cons, List.take_zero, List.drop_succ_cons, List.drop_zero]
          repeat still_step
          still_call (HD.out)
          repeat still_step
          refine wpStill_nil ?_
          go_wp2
          go_roundw
          case rel =>
            refine ⟨k + 2, by have := HP.out; omega, by omega, by go_num, ?_, ((HF.out.trans F (fun _ _ h => h.elim)).setCell (p := ⟨g, k, none⟩) (fun _ => rfl) _).drew⟩
            exact ((HR2.out.set k _).congr fun j _ => HS.out j).fr (Fr.refl (fun _ => False) _).drew (fun h => h)
          case measure => simp [intOf]; omega
    · have hki : ¬ (k : Int) < (n : Int) := by omega
      have HR := hid (hr.congr (V' := stepL f n true sg V) fun j hj => partL_lt (by omega))
      have HF := hid F
      clear hr F
      go_wp2
      go_ret
      refine ⟨_, cap', g, rfl, HR.out.nums HLe.out HMo.out, (by intro h; cases h), fun _ => ⟨HG.out, HR.out.intB⟩, HFF.out.trans HF.out (fun j hj e => ?_)⟩
      have := HG.out; omega

set_option maxHeartbeats 2000000 in
theorem r8step_even (w : World) (a : Option Addr) (n cap : Nat) (V : Nat → Int) (b : Nat) (h : Nums w a n cap V b) (hl : lineB n = true) (hn : n ≤ 1048576) (f : Nat) (hf : f ≤ 4) (sg : Int) :
    Calls Try.prog 67 #[.int .i64 (f : Int), .slice a n cap, .bool false, .int .i64 sg] w fun e w' => MadeL w w' e n (stepL f n false sg V) := by
  have h2 : 2 ≤ n := by have := lineB_iff.1 hl; omega
  have he : n % 2 = 0 := (lineB_iff.1 hl).2
  have HTaps := hid (r8taps_any f hf false w)
  have hls := tapsL_small f false
  have has := addL_small f false
  have hds := tapD_pos f false
  have hdm := tapD_most f false
  have HAll := hid (fun i => tapSum_all f false (atL n V) i)
  generalize tapsL f false = l at HTaps hls HAll
  generalize addL f false = ad at HTaps has HAll
  obtain ⟨dv, hdv⟩ : ∃ dv, dv = tapD f false := ⟨_, rfl⟩
  rw [← hdv] at HTaps hds hdm HAll
  clear hdv
  obtain ⟨hl4, hsm⟩ := hls
  have HSM := hid hsm
  clear hsm hl
  go_enter Try.func67, Try.ntmps67
  go_wp2_with fail
  refine HTaps.out.mono ?_
  rintro e w1 ⟨t, rfl, hb, ht, f1⟩
  have h1 := h.quiet f1
  obtain ⟨off, rfl, _⟩ := h1.at' (by omega)
  go_wp2_with (at_builtin; refine wpList_copyI rfl _ _ rfl rfl _ n cap V b rfl h1 (fun h => by cases h) (by omega) ?_)
  rintro a' cap' g w2 ⟨hN, _, hrow⟩ f2
  obtain ⟨rfl, hR, hg⟩ := hrow (by omega)
  have HLe := hid (show n ≤ cap' from hN.le)
  have HMo := hid (show cap' ≤ maxLen from hN.most)
  have HB := hid (hb.fr f2 (fun h => h))
  have hbl := h1.lt (by omega)
  have htl := hb.lt
  have HN := hid (h1.quiet f2)
  have HFF := hid (f1.trans' f2)
  have HG := hid (Nat.le_trans f1.size hg)
  clear hN hrow hb h1 f1 f2 h HTaps ht
  go_wp2
  go_loopw [13] (fun i wr => ∃ k : Nat, k % 2 = parB false ∧ k ≤ n + 1 ∧ i = .int .i64 (k : Int) ∧ RowC wr g n (partL f n false sg V k) ∧ Fr (fun j => j = g) w2 wr) (fun i _ => n + 2 - (intOf i).toNat)
  case atStart => exact ⟨0, rfl, by omega, rfl, hR.congr (fun j _ => partL_start (odd := false) j), Fr.refl _ _⟩
  case round =>
    obtain ⟨k, hpar, hk, rfl, hr, F⟩ := hrel
    by_cases hlt : k < n
    · have hki : (k : Int) < (n : Int) := by omega
      obtain ⟨wk, rfl⟩ : ∃ wk, wk = wr := ⟨_, rfl⟩
      have HS : Hid (∀ j, (if j = k then wrap64 (V k + wrap64 (sg * (tapSum l ad (atL n V) k / dv))) else partL f n false sg V k j) = partL f n false sg V (k + 2) j) := by
        intro j; rw [wrap64_wrap', HAll.out]; exact partL_set hpar j
      have HSum := hid (tapSum_lo l ad (atL n V) k (by omega))
      have HP := hid hpar
      have HR := hid hr
      have HF := hid F
      have HB' := hid (HB.out.fr F (by omega))
      have HN' := hid (HN.out.fr F (fun _ => by omega))
      clear hr hpar F
      go_wp2
      go_loopw [37, 14] (fun i s wr => ∃ q : Nat, q ≤ l.length ∧ i = .int .i64 (q : Int) ∧ s = .int .i64 (tapSum (l.take q) ad (atL n V) k) ∧ Fr (fun _ => False) wk wr) (fun i _ _ => l.length - (intOf i).toNat)
      case atStart => exact ⟨0, Nat.zero_le _, rfl, by simp [tapSum], Fr.refl _ _⟩
      case round =>
        obtain ⟨q, hq, rfl, rfl, F⟩ := hrel
        by_cases hql : q < l.length
        · have hqi : (q : Int) < (l.length : Int) := by omega
          obtain ⟨x, y, hxy⟩ : ∃ x y, l[q]? = some (x, y) := ⟨l[q].1, l[q].2, by simp [hql]⟩
          have hx := HSM.out (x, y) (List.mem_of_getElem? hxy)
          dsimp only at hx
          have HT := hid (tapSum_take (ad := ad) (A := atL n V) (i := k) hxy)
          obtain ⟨g1, g2⟩ := tapRow_get hxy
          have HBq := HB'.out.fr F (fun h => h)
          have c0 : wr.cell? ⟨t, q * 2, none⟩ = some (.int .i64 x) := by rw [HBq.cell]; simpa using g1
          have c1 : wr.cell? ⟨t, q * 2 + 1, none⟩ = some (.int .i64 y) := by rw [HBq.cell]; simpa using g2
          have HNq := hid (HN'.out.quiet F)
          clear HBq g1 g2 hxy
          generalize tapSum (l.take q) ad (atL n V) k = s0 at HT
          obtain ⟨W3, hW3⟩ : ∃ W3, W3 = wr.alloc (.cells #[.int .i64 x, .int .i64 y] 77) := ⟨_, rfl⟩
          have F3 : Fr (fun _ => False) wk W3 := by rw [hW3]; exact F.alloc _
          have B3 : Blk W3 wr.heap.size #[.int .i64 x, .int .i64 y] 77 := by rw [hW3]; exact Blk.new _ _ _
          have d0 : W3.cell? ⟨wr.heap.size, 0, none⟩ = some (.int .i64 x) := by rw [B3.cell]; rfl
          have d1 : W3.cell? ⟨wr.heap.size, 1, none⟩ = some (.int .i64 y) := by rw [B3.cell]; rfl
          have HAt : Hid (∀ m, Calls Try.prog 73 #[.slice (some ⟨b, off, none⟩) n cap, .int .i64 ((k : Int) + x)] (W3.drewN m) fun e w' => e = .returned (.int .i64 (atL n V ((k : Int) + x))) ∧ w' = W3.drewN m) := fun m => r8at_any _ _ n cap V b (HN'.out.quiet (F3.drewN m)) h2 he hn _ (by omega) (by omega)
          have HW3 := hid hW3
          clear hW3 B3 HNq
          generalize atL n V ((k : Int) + x) = u at HAt HT
          go_wp2
          rw [← HW3.out]
          go_quiet ((go_at_call 73; exact Calls.quiet_of_same (HAt.out _)))
          go_wp2
          go_roundw
          case rel => exact ⟨q + 1, by omega, by go_num, by rw [HT.out], F3.drewN _⟩
          case measure => simp [intOf]; omega
        · have hqi : ¬ (q : Int) < (l.length : Int) := by omega
          have hall : tapSum (l.take q) ad (atL n V) k = tapSum l ad (atL n V) k := by rw [List.take_of_length_le (by omega)]
          rw [hall]
          have hr := HR.out.quiet F
          have ck := hr.cell hlt
          have cf := hr.thaw k
          rw [partL_ge (Nat.lt_irrefl k)] at ck
          generalize tapSum l ad (atL n V) k = sm at HSum HS
          have HD := hid (r8down_any sm dv hds hdm HSum.out.1 HSum.out.2 wr.drew)
          generalize sm / dv = d at HD HS
          generalize V k = v at ck HS
          have HR2 := hid hr
          clear hr hall HSum
          go_wp2
          refine wp_region_still_tail 11 (by kernel_rfl) (by kernel_rfl) ?_
          show wpStill Try.prog _ wr.drew (fun a' => wpList Try.prog _ _ _ a' wr.drew) _ _
          simp only [List.take_succ_cons, List.take_zero, List.drop_succ_cons, List.drop_zero]
          repeat still_step
          still_call (HD.out)
          repeat still_step
          refine wpStill_nil ?_
          go_wp2
          go_roundw
          case rel =>
            refine ⟨k + 2, by have := HP.out; omega, by omega, by go_num, ?_, ((HF.out.trans F (fun _ _ h => h.elim)).setCell (p := ⟨g, k, none⟩) (fun _ => rfl) _).drew⟩
            exact ((HR2.out.set k _).congr fun j _ => HS.out j).fr (Fr.refl (fun _ => False) _).drew (fun h => h)
          case measure => simp [intOf]; omega
    · have hki : ¬ (k : Int) < (n : Int) := by omega
      have HR := hid (hr.congr (V' := stepL f n false sg V) fun j hj => partL_lt (by omega))
      have HF := hid F
      clear hr F
      go_wp2
      go_ret
      refine ⟨_, cap', g, rfl, HR.out.nums HLe.out HMo.out, (by intro h; cases h), fun _ => ⟨HG.out, HR.out.intB⟩, HFF.out.trans HF.out (fun j hj e => ?_)⟩
      have := HG.out; omega

theorem r8step_any (w : World) (a : Option Addr) (n cap : Nat) (V : Nat → Int) (b : Nat) (h : Nums w a n cap V b) (hl : lineB n = true) (hn : n ≤ 1048576) (f : Nat) (hf : f ≤ 4) (odd : Bool) (sg : Int) :
    Calls Try.prog 67 #[.int .i64 (f : Int), .slice a n cap, .bool odd, .int .i64 sg] w fun e w' => MadeL w w' e n (stepL f n odd sg V) := by
  cases odd
  · exact r8step_even w a n cap V b h hl hn f hf sg
  · exact r8step_odd w a n cap V b h hl hn f hf sg

end Go.Proofs.Ytonalomagfekaaa
