/-
  Package plane: the plane whose number at each place a function tells (told), with the functions of laid and of Turn.
-/
import Derived.Test.YtonalomagfekaaaPlaneT
import Derived.Test.YtonalomagfekaaaWeave
namespace Go.Proofs.Ytonalomagfekaaa
open Go.RowKit Go.Shelf

attribute [local go_sem] Oper.semAt_some

theorem keepsO_of_fr {A B : World} (f : Fr (fun _ => False) A B) : KeepsOthers A B :=
  ⟨f.size, fun k _ hk _ => (f.block k (Array.getElem?_eq_some_iff.1 hk).1 (fun h => h)).trans hk⟩
theorem fr_of_grown {B : Nat} {A C : World} {row : Option Nat} (hg : A.grownBy C row) (hr : ∀ r, row = some r → B ≤ r ∧ ∃ o : Obj, A.heap[r]? = some o ∧ o.isCells = false) : Fr (fun j => B ≤ j) A C :=
  (Fr.refl _ A).grown hg (fun k e _ => (hr k e).1)
theorem fr_owned {B g : Nat} {A C D : World} {row : Option Nat} (f : Fr (fun j => j = g) A C) (hB : A.heap.size ≤ B) (hg : C.grownBy D row) (hr : ∀ r, row = some r → B ≤ r ∧ ∃ o : Obj, C.heap[r]? = some o ∧ o.isCells = false) : Fr (fun j => j = g) A D :=
  f.grown hg (fun k e hk => by have := (hr k e).1; omega)
/-- What is told of the first places. -/
def fillV {m : Nat} (G : Nat → Int) (pre : List (Spot m)) : Nat → Int := fun j => if j ∈ pre.map Subtype.val then G j else 0
theorem fillV_nil {m : Nat} (G : Nat → Int) (j : Nat) : fillV (m := m) G [] j = 0 := by simp [fillV]
theorem fillV_snoc {m : Nat} (G : Nat → Int) (pre : List (Spot m)) (p : Spot m) (j : Nat) : fillV G (pre ++ [p]) j = if j = p.1 then G p.1 else fillV G pre j := by
  unfold fillV
  rw [List.map_append, List.map_singleton]
  by_cases e : j = p.1
  · rw [if_pos e, if_pos (by simp [e]), e]
  · rw [if_neg e]
    have : (j ∈ pre.map Subtype.val ++ [p.1]) ↔ j ∈ pre.map Subtype.val := by
      rw [List.mem_append, List.mem_singleton]
      exact ⟨fun h => h.elim id (fun h => absurd h e), .inl⟩
    simp only [this]
theorem fillV_all {m : Nat} (G : Nat → Int) {xs : List (Spot m)} (h : Spots m xs) {j : Nat} (hj : j < m) : fillV G xs j = G j := by
  unfold fillV
  rw [if_pos ((h.mem j).2 hj)]

theorem plaid1_go (x y : Nat) (a : Option Addr) (cap : Nat) (V : Nat → Int) (b bp : Nat) (px py : Int) (w : World) (hx : 1 ≤ x) (hx' : x ≤ 1024) (hy : 1 ≤ y) (hy' : y ≤ 1024) (h : Nums w a (x * y) cap V b) (hB : Blk w bp #[.int .i64 (x : Int), .int .i64 (y : Int), .slice a (x * y) cap] 25) :
    Calls Try.prog 64 #[.int .i64 px, .int .i64 py, .pointer (some ⟨bp, 0, none⟩)] w fun e w' => e = .returned (.int .i64 (V (nearI y py * x + nearI x px))) ∧ Fr (fun _ => False) w w' := by
  have c0 : w.cell? ⟨bp, 0, none⟩ = some (.int .i64 (x : Int)) := by rw [hB.cell]; rfl
  have c1 : w.cell? ⟨bp, 1, none⟩ = some (.int .i64 (y : Int)) := by rw [hB.cell]; rfl
  have c2 : w.cell? ⟨bp, 2, none⟩ = some (.slice a (x * y) cap) := by rw [hB.cell]; rfl
  have HA := hid (pat_go x y a cap V b px py w hx hx' hy hy' h)
  obtain ⟨v, hv⟩ : ∃ v, V (nearI y py * x + nearI x px) = v := ⟨_, rfl⟩
  rw [hv] at HA ⊢
  obtain ⟨m, hm⟩ : ∃ m : Nat, x * y = m := ⟨_, rfl⟩
  rw [hm] at HA c2
  clear hB h hv hm
  go_enter Try.func64, Try.ntmps64
  go_wp2_with fail
  refine HA.out.mono ?_
  rintro e w1 ⟨rfl, f1⟩
  go_wp2
  go_ret
  exact ⟨rfl, f1⟩

set_option maxRecDepth 100000 in
set_option maxHeartbeats 2000000 in
theorem ptold_laid (u v x y : Nat) (a : Option Addr) (cap : Nat) (V : Nat → Int) (b bp : Nat) (w : World) (hu : 1 ≤ u) (hu' : u ≤ 1024) (hv : 1 ≤ v) (hv' : v ≤ 1024) (hx : 1 ≤ x) (hx' : x ≤ 1024) (hy : 1 ≤ y) (hy' : y ≤ 1024) (h : Nums w a (x * y) cap V b) (hB : Blk w bp #[.int .i64 (x : Int), .int .i64 (y : Int), .slice a (x * y) cap] 25) :
    Calls Try.prog 63 #[.int .i64 (u : Int), .int .i64 (v : Int), .func (.func 64) #[] #[.pointer (some ⟨bp, 0, none⟩)]] w fun e w' => Made w w' e u v (u * v) (fun j => V (nearI y (j / u : Nat) * x + nearI x (j % u : Nat))) := by
  have hR := rightP_of hu hu' hv hv'
  have hpos : 0 < x * y := Nat.mul_pos (by omega) (by omega)
  have hposu : 0 < u * v := Nat.mul_pos (by omega) (by omega)
  have hb := h.lt hpos
  obtain ⟨G, hG⟩ : ∃ G : Nat → Int, G = (fun j => V (nearI y (j / u : Nat) * x + nearI x (j % u : Nat))) := ⟨_, rfl⟩
  rw [← hG]
  have HF := hid (fun (w1 : World) (f : Fr (fun _ => False) w w1) (px py : Int) => plaid1_go x y a cap V b bp px py w1 hx hx' hy hy' (h.quiet f) (hB.fr f (fun h => h)))
  have hbp := hB.lt
  have HNew := hid (fun w => pnew_go u v hu hu' hv hv' w)
  have hm := mul_most hu' hv'
  have HG := hid hG
  clear hG h hB
  obtain ⟨W, hW⟩ : ∃ W, W = ((w.alloc (.cells #[.int .i64 (u : Int)] 3)).alloc (.cells #[.func (.func 64) #[] #[.pointer (some ⟨bp, 0, none⟩)]] 32)).alloc (.cells #[.int .i64 0, .int .i64 0, .slice none 0 0] 25) := ⟨_, rfl⟩
  have F0 : Fr (fun _ => False) w W := by rw [hW]; exact (((Fr.refl _ w).alloc _).alloc _).alloc _
  have hsz : W.heap.size = w.heap.size + 3 := by rw [hW]; simp
  have O0 : Blk W w.heap.size #[.int .i64 (u : Int)] 3 := by rw [hW]; exact ((Blk.new _ _ _).alloc _).alloc _
  have O1 : Blk W (w.heap.size + 1) #[.func (.func 64) #[] #[.pointer (some ⟨bp, 0, none⟩)]] 32 := by
    rw [hW]
    have := Blk.new (w.alloc (.cells #[.int .i64 (u : Int)] 3)) #[.func (.func 64) #[] #[.pointer (some ⟨bp, 0, none⟩)]] 32
    simp at this
    exact this.alloc _
  have O2 : Blk W (w.heap.size + 2) #[.int .i64 0, .int .i64 0, .slice none 0 0] 25 := by
    rw [hW]
    have := Blk.new ((w.alloc (.cells #[.int .i64 (u : Int)] 3)).alloc (.cells #[.func (.func 64) #[] #[.pointer (some ⟨bp, 0, none⟩)]] 32)) #[.int .i64 0, .int .i64 0, .slice none 0 0] 25
    simpa using this
  have c0 : W.cell? ⟨w.heap.size, 0, none⟩ = some (.int .i64 (u : Int)) := by rw [O0.cell]; rfl
  rw [hW] at c0
  have HW := hid hW
  clear hW
  refine (callsIn_wide (n := 5)).1 ?_
  refine callsIn_of_wp_marks Try.func63 rfl trivial ?_ rfl
  simp only [Try.ntmps63, List.size_toArray, List.length_cons, List.length_nil, Nat.reduceAdd, Nat.reduceSub, Array.replicate_succ, Array.replicate_zero, List.push_toArray, List.append_toArray, List.nil_append, List.cons_append]
  gi_wp2_with fail
  refine ⟨trivial, ?_⟩
  rw [← HW.out]
  refine (callsIn_wide.2 (HNew.out W)).mono ?_
  rintro e w2 ⟨g, rfl, hrow, hg, f2⟩
  have hgl := hrow.lt
  obtain ⟨m, hxy⟩ : ∃ m : Nat, u * v = m := ⟨_, rfl⟩
  have Q0 := O0.fr f2 (fun h => h)
  have Q1 := O1.fr f2 (fun h => h)
  have Q2 := O2.fr f2 (fun h => h)
  have F2 := F0.trans' f2
  clear O0 O1 O2 F0 f2 HNew c0 HW
  obtain ⟨W3, hW3⟩ : ∃ W3, W3 = w2.alloc (.cells #[.int .i64 (u : Int), .int .i64 (v : Int), .slice (some ⟨g, 0, none⟩) (u * v) (u * v)] 25) := ⟨_, rfl⟩
  have F3 : Fr (fun _ => False) w W3 := by rw [hW3]; exact F2.alloc _
  have r3 : Row W3 g (u * v) (fun _ => 0) := by rw [hW3]; exact hrow.quiet ((Fr.refl _ w2).alloc _)
  have R0 : Blk W3 w.heap.size #[.int .i64 (u : Int)] 3 := by rw [hW3]; exact Q0.alloc _
  have R1 : Blk W3 (w.heap.size + 1) #[.func (.func 64) #[] #[.pointer (some ⟨bp, 0, none⟩)]] 32 := by rw [hW3]; exact Q1.alloc _
  have R2 : Blk W3 (w.heap.size + 2) #[.int .i64 0, .int .i64 0, .slice none 0 0] 25 := by rw [hW3]; exact Q2.alloc _
  have R3 : Blk W3 w2.heap.size #[.int .i64 (u : Int), .int .i64 (v : Int), .slice (some ⟨g, 0, none⟩) (u * v) (u * v)] 25 := by rw [hW3]; exact Blk.new _ _ _
  have HW3 := hid hW3
  clear hW3 Q0 Q1 Q2 F2 hrow
  rw [hxy] at hR hposu hm HW3 r3 R3 ⊢
  gi_wp2_with fail
  refine ⟨trivial, ?_⟩
  rw [← HW3.out]
  refine (callsIn_wide.2 (ppoints_go u v (some ⟨g, 0, none⟩) m m W3 hR)).mono ?_
  rintro e w4 ⟨bh, bw, rfl, hBh, hBw, hbh, hbw, f4⟩
  have HSeq := ppoints_stops 4 (by omega) bh bw u v m hxy hu hu' hv' w4 hBh hBw
  have hbhl := hBh.lt
  have hbwl := hBw.lt
  have F4 := F3.trans' f4
  have r4 := r3.quiet f4
  have S0 := R0.fr f4 (fun h => h)
  have S1 := R1.fr f4 (fun h => h)
  have S2 := R2.fr f4 (fun h => h)
  have S3 := R3.fr f4 (fun h => h)
  have s4 := f4.size
  have hg3 := r3.lt
  have hg4 := r4.lt
  have hs3 : w2.heap.size < w4.heap.size := S3.lt
  have hs2 : w.heap.size + 2 < w4.heap.size := S2.lt
  have hgw : w.heap.size < g := by omega
  have HK : Hid (∀ wr, Fr (fun j => j = g) w4 wr → wr.cell? ⟨w.heap.size, 0, none⟩ = some (.int .i64 (u : Int)) ∧ wr.cell? ⟨w.heap.size + 1, 0, none⟩ = some (.func (.func 64) #[] #[.pointer (some ⟨bp, 0, none⟩)]) ∧ wr.cell? ⟨w2.heap.size, 2, none⟩ = some (.slice (some ⟨g, 0, none⟩) m m)) := fun wr f =>
    ⟨by rw [(S0.fr f (by omega)).cell]; rfl, by rw [(S1.fr f (by omega)).cell]; rfl, by rw [(S3.fr f (by omega)).cell]; rfl⟩
  have HE : Hid (∀ wr, Fr (fun j => j = g) w4 wr → Blk wr (w.heap.size + 2) #[.int .i64 0, .int .i64 0, .slice none 0 0] 25 ∧ Blk wr w2.heap.size #[.int .i64 (u : Int), .int .i64 (v : Int), .slice (some ⟨g, 0, none⟩) m m] 25) := fun wr f => ⟨S2.fr f (by omega), S3.fr f (by omega)⟩
  have HN : Hid (∀ wr, Fr (fun j => j = g) w4 wr → Fr (fun j => j = g) w wr) := fun wr f => (F4.mono (fun _ _ h => h.elim)).trans f (fun _ _ h => h)
  clear R0 R1 R2 R3 r3 F3 f4 S0 S1 S2 S3 HW3 F4
  gi_wp2_with fail
  refine wpIn_rangeFunc_ownG rfl (by omega) (gf := 74) (lb := #[.pointer (some ⟨bh, 0, none⟩), .pointer (some ⟨bw, 0, none⟩)]) rfl trivial (enters_of Try.func74 (by kernel_rfl) rfl)
    HSeq KeepBox.trans (KeepBox.put hbwl) (Below.refl _ _) (fun _ => rfl)
    (fun pre W => Row W g m (fillV G pre) ∧ Fr (fun j => j = g) w4 W)
    (fun _ _ _ => False)
    (fun s A B row hs hgr hr => ⟨hs.1.fr (fr_of_grown hgr hr) (by omega), fr_owned hs.2 (Nat.le_refl _) hgr hr⟩)
    (fun _ _ _ _ _ hs _ _ => hs)
    ⟨r4.congr (fun j _ => (fillV_nil G j).symm), Fr.refl _ _⟩
    (fun p => { tmps := #[.int .i64 (u : Int), .int .i64 (v : Int), .func (.func 64) #[] #[.pointer (some ⟨bp, 0, none⟩)], .pointer (some ⟨w.heap.size, 0, none⟩), undef, .pointer (some ⟨w.heap.size + 1, 0, none⟩), .pointer (some ⟨w.heap.size + 1 + 1, 0, none⟩), .pointer (some ⟨w2.heap.size, 0, none⟩), .int .i64 (colI u p.1), .int .i64 (rowI u p.1), .int .i64 (u : Int), .int .i64 (v : Int), .agg #[.int .i64 (u : Int), .int .i64 (v : Int), .slice (some ⟨g, 0, none⟩) m m], .agg #[.int .i64 (u : Int), .int .i64 (v : Int), .slice (some ⟨g, 0, none⟩) m m], .func (.func 74) #[] #[.pointer (some ⟨bh, 0, none⟩), .pointer (some ⟨bw, 0, none⟩)], .int .i64 (colI u p.1), .int .i64 (rowI u p.1), undef, undef, undef, undef, undef, undef, undef, undef, undef, undef, undef, undef, undef], defers := [] }) ?assign ?body ?done ?stop
  case assign =>
    intro l x W K hK
    simp only [spotV]
    gi_wp2
    exact hK
  case body =>
    rintro l pre ⟨p, hp⟩ W ⟨hr, F⟩ _
    dsimp only
    have hq := row_lt (W := u) (H := v) (i := p) (by omega)
    have hi := col_lt (W := u) (H := v) (i := p) (by omega)
    have hfl := flat_eq u p
    have hRI : rowI u p = ((p / u : Nat) : Int) := rfl
    have hCI : colI u p = ((p % u : Nat) : Int) := rfl
    rw [hRI, hCI]
    obtain ⟨i, hi'⟩ : ∃ i, p % u = i := ⟨_, rfl⟩
    obtain ⟨j, hj'⟩ : ∃ j, p / u = j := ⟨_, rfl⟩
    rw [hi', hj']
    rw [hi', hj'] at hfl
    rw [hi'] at hi
    rw [hj'] at hq
    have HC := hid (fun (w1 : World) (f : Fr (fun j => j = g) w w1) => HF.out w1 (Fr.mono f (fun k hk e => by subst e; omega)) (i : Int) (j : Int))
    have hGp : G p = V (nearI y ((p / u : Nat) : Int) * x + nearI x ((p % u : Nat) : Int)) := by rw [HG.out]
    rw [hi', hj'] at hGp
    rw [← hGp] at HC
    obtain ⟨z, hz⟩ : ∃ z, G p = z := ⟨_, rfl⟩
    rw [hz] at HC
    have HCC : Hid (∀ w1, Fr (fun _ => False) W w1 → Calls Try.prog 64 #[.int .i64 (i : Int), .int .i64 (j : Int), .pointer (some ⟨bp, 0, none⟩)] w1 fun e w' => e = .returned (.int .i64 z) ∧ (w'.cell? ⟨w.heap.size, 0, none⟩ = some (.int .i64 (u : Int)) ∧ w'.cell? ⟨w.heap.size + 1, 0, none⟩ = some (.func (.func 64) #[] #[.pointer (some ⟨bp, 0, none⟩)]) ∧ w'.cell? ⟨w2.heap.size, 2, none⟩ = some (.slice (some ⟨g, 0, none⟩) m m)) ∧ (w'.cell? ⟨g, p, none⟩ = some (.int .i64 (fillV G pre p)) ∧ w'.frozen? ⟨g, p, none⟩ = false) ∧ Hid (Fr (fun _ => False) W w') ∧ Fr (fun _ => False) w1 w') := by
      intro w1 f1
      refine (HC.out w1 (HN.out w1 (F.trans f1 (fun _ _ h => h.elim)))).mono ?_
      rintro e w' ⟨rfl, f2⟩
      have f3 := f1.trans' f2
      have r5 := hr.quiet f3
      exact ⟨rfl, HK.out w' (F.trans f3 (fun _ _ h => h.elim)), ⟨r5.cell hp, r5.thaw p⟩, f3, f2⟩
    obtain ⟨d0, d1, d2⟩ := HK.out W F
    have d3 := hr.cell hp
    have d4 := hr.thaw p
    obtain ⟨q, hqq⟩ : ∃ q : Nat, j * u = q := ⟨_, rfl⟩
    have hjI : (j : Int) * (u : Int) = (q : Int) := by rw [← hqq, Int.natCast_mul]
    rw [hqq] at hfl
    obtain ⟨z0, hz0⟩ : ∃ z0, fillV G pre p = z0 := ⟨_, rfl⟩
    rw [hz0] at d3 HCC
    rw [← hfl] at d3 d4 HCC
    have hqi : q + i < m := by omega
    have hw1 : IntKind.i64.wrap (q : Int) = (q : Int) := by rw [IntKind.wrap_i64]; omega
    have hw2 : IntKind.i64.wrap ((q : Int) + (i : Int)) = ((q + i : Nat) : Int) := by rw [IntKind.wrap_i64]; omega
    have HR := hid hr
    have HFl := hid hfl
    have HZ := hid hz
    clear hfl hRI hCI hi' hj' hGp HC hz hz0 hqq hr
    gi_wp2
    have HQ : Hid (∀ wq, Fr (fun _ => False) W.drew wq → (wq.cell? ⟨w.heap.size, 0, none⟩ = some (.int .i64 (u : Int)) ∧ wq.cell? ⟨w.heap.size + 1, 0, none⟩ = some (.func (.func 64) #[] #[.pointer (some ⟨bp, 0, none⟩)]) ∧ wq.cell? ⟨w2.heap.size, 2, none⟩ = some (.slice (some ⟨g, 0, none⟩) m m)) ∧ Hid (Fr (fun _ => False) W wq) ∧ Hid (Row wq g m (fillV G pre))) := fun wq f =>
      ⟨HK.out wq (F.trans ((Fr.refl _ W).drew.trans' f) (fun _ _ h => h.elim)), (Fr.refl _ W).drew.trans' f, HR.out.quiet ((Fr.refl _ W).drew.trans' f)⟩
    refine weaveIn (open_round _ l) 12 (by kernel_rfl) (by kernel_rfl) (Fr (fun _ => False)) (Fr.refl _) Fr.trans' (fun k v _ => v = #[Value.pointer (some ⟨w2.heap.size, 2, none⟩), .slice (some ⟨g, 0, none⟩) m m, .int .i64 (j : Int), .int .i64 (u : Int), .int .i64 (q : Int), .int .i64 (i : Int), .int .i64 ((q + i : Nat) : Int), .func (.func 64) #[] #[.pointer (some ⟨bp, 0, none⟩)], .int .i64 (i : Int), .int .i64 (j : Int), .int .i64 z, .pointer (some ⟨g, q + i, none⟩)].getD k undef) (fun _ _ _ _ h _ => h) ?obls ?tail
    case obls =>
      simp only [List.take_succ_cons, List.take_zero, Obls, fillA, fillT, List.setIfInBounds_toArray, List.set_cons_succ, List.set_cons_zero, Option.getD_some, Nat.zero_add, Nat.reduceAdd]
      refine ⟨?_, ?_, ?_, ?_, ?_, ?_, ?_, ?_, ?_, ?_, ?_, ?_, trivial⟩
      · intro vals wq f h
        obtain ⟨⟨k0, k1, k2⟩, HWq, _⟩ := HQ.out wq f
        clear h  d0 d1 d2 d3 d4
        go_wp2
        exact ⟨rfl, rfl, _, rfl, Fr.refl _ _, rfl⟩
      · intro vals wq f h
        have h0 : vals 0 = Value.pointer (some ⟨w2.heap.size, 2, none⟩) := h 0 (by kernel_rfl)
        rw [h0]
        obtain ⟨⟨k0, k1, k2⟩, HWq, _⟩ := HQ.out wq f
        clear h h0 d0 d1 d2 d3 d4
        go_wp2
        exact ⟨rfl, rfl, _, rfl, Fr.refl _ _, rfl⟩
      · intro vals wq f h
        obtain ⟨⟨k0, k1, k2⟩, HWq, _⟩ := HQ.out wq f
        clear h  d0 d1 d2 d3 d4
        go_wp2
        exact ⟨rfl, rfl, _, rfl, Fr.refl _ _, rfl⟩
      · intro vals wq f h
        obtain ⟨⟨k0, k1, k2⟩, HWq, _⟩ := HQ.out wq f
        clear h  d0 d1 d2 d3 d4
        go_wp2
        exact ⟨rfl, rfl, _, rfl, Fr.refl _ _, rfl⟩
      · intro vals wq f h
        have h2 : vals 2 = .int .i64 (j : Int) := h 2 (by kernel_rfl)
        have h3 : vals 3 = .int .i64 (u : Int) := h 3 (by kernel_rfl)
        rw [h2, h3]
        obtain ⟨⟨k0, k1, k2⟩, HWq, _⟩ := HQ.out wq f
        clear h h2 h3 d0 d1 d2 d3 d4
        go_wp2
        exact ⟨rfl, rfl, _, rfl, Fr.refl _ _, rfl⟩
      · intro vals wq f h
        obtain ⟨⟨k0, k1, k2⟩, HWq, _⟩ := HQ.out wq f
        clear h  d0 d1 d2 d3 d4
        go_wp2
        exact ⟨rfl, rfl, _, rfl, Fr.refl _ _, rfl⟩
      · intro vals wq f h
        have h4 : vals 4 = .int .i64 (q : Int) := h 4 (by kernel_rfl)
        have h5 : vals 5 = .int .i64 (i : Int) := h 5 (by kernel_rfl)
        rw [h4, h5]
        obtain ⟨⟨k0, k1, k2⟩, HWq, _⟩ := HQ.out wq f
        clear h h4 h5 d0 d1 d2 d3 d4
        go_wp2
        exact ⟨rfl, rfl, _, rfl, Fr.refl _ _, rfl⟩
      · intro vals wq f h
        obtain ⟨⟨k0, k1, k2⟩, HWq, _⟩ := HQ.out wq f
        clear h  d0 d1 d2 d3 d4
        go_wp2
        exact ⟨rfl, rfl, _, rfl, Fr.refl _ _, rfl⟩
      · intro vals wq f h
        obtain ⟨⟨k0, k1, k2⟩, HWq, _⟩ := HQ.out wq f
        clear h  d0 d1 d2 d3 d4
        go_wp2
        exact ⟨rfl, rfl, _, rfl, Fr.refl _ _, rfl⟩
      · intro vals wq f h
        obtain ⟨⟨k0, k1, k2⟩, HWq, _⟩ := HQ.out wq f
        clear h  d0 d1 d2 d3 d4
        go_wp2
        exact ⟨rfl, rfl, _, rfl, Fr.refl _ _, rfl⟩
      · intro vals wq f h
        have h7 : vals 7 = .func (.func 64) #[] #[.pointer (some ⟨bp, 0, none⟩)] := h 7 (by kernel_rfl)
        have h8 : vals 8 = .int .i64 (i : Int) := h 8 (by kernel_rfl)
        have h9 : vals 9 = .int .i64 (j : Int) := h 9 (by kernel_rfl)
        rw [h7, h8, h9]
        obtain ⟨⟨k0, k1, k2⟩, HWq, _⟩ := HQ.out wq f
        clear h h7 h8 h9 d0 d1 d2 d3 d4
        go_wp2_with fail
        refine (HCC.out wq HWq.out).mono ?_
        rintro e w6 ⟨rfl, _, _, _, f6⟩
        go_wp2
        exact ⟨rfl, rfl, _, rfl, f6, rfl⟩
      · intro vals wq f h
        have h1 : vals 1 = .slice (some ⟨g, 0, none⟩) m m := h 1 (by kernel_rfl)
        have h6 : vals 6 = .int .i64 ((q + i : Nat) : Int) := h 6 (by kernel_rfl)
        rw [h1, h6]
        obtain ⟨⟨k0, k1, k2⟩, HWq, _⟩ := HQ.out wq f
        clear h h1 h6 d0 d1 d2 d3 d4
        go_wp2
        exact ⟨rfl, rfl, _, rfl, Fr.refl _ _, rfl⟩
    case tail =>
      intro vals w5 f5 hv5
      simp only [List.take_succ_cons, List.take_zero, fillA, fillT, List.setIfInBounds_toArray, List.set_cons_succ, List.set_cons_zero, List.drop_succ_cons, List.drop_zero, Nat.zero_add, Nat.reduceAdd]
      have h10 : vals 10 = .int .i64 z := hv5 10 (by omega)
      have h11 : vals 11 = .pointer (some ⟨g, q + i, none⟩) := hv5 11 (by omega)
      rw [h10, h11]
      obtain ⟨_, HW5, HR5⟩ := HQ.out w5 f5
      have c5 := HR5.out.cell hp
      have t5 := HR5.out.thaw p
      rw [← HFl.out] at c5 t5
      clear hv5 h10 h11 d0 d1 d2 d3 d4
      gi_wp2
      have F5 : Fr (fun j => j = g) W (w5.setCell ⟨g, q + i, none⟩ (.int .i64 z)) :=
        (HW5.out.mono (S' := fun j => j = g) (fun _ _ h => h.elim)).setCell (p := ⟨g, q + i, none⟩) (fun _ => rfl) _
      refine ⟨((keepsO_of_fr HW5.out).trans (KeepsOthers.setCell _ _ _)).from _, KeepBox.of_fr F5 (by have := F.size; omega) (by omega), ?_, F.trans F5 (fun _ _ h => h)⟩
      refine (HR5.out.set (q + i) z).congr fun k _ => ?_
      rw [fillV_snoc, HFl.out, HZ.out]
  case done =>
    rintro D xs W hD hS ⟨hr, F⟩ hK
    obtain ⟨B2, B3⟩ := HE.out W F
    have q0 : W.cell? ⟨w2.heap.size, 0, none⟩ = some (.int .i64 (u : Int)) := by rw [B3.cell]; rfl
    have q1 : W.cell? ⟨w2.heap.size, 1, none⟩ = some (.int .i64 (v : Int)) := by rw [B3.cell]; rfl
    have q2 : W.cell? ⟨w2.heap.size, 2, none⟩ = some (.slice (some ⟨g, 0, none⟩) m m) := by rw [B3.cell]; rfl
    have z0 : W.cell? ⟨w.heap.size + 2, 0, none⟩ = some (.int .i64 0) := by rw [B2.cell]; rfl
    have z1 : W.cell? ⟨w.heap.size + 2, 1, none⟩ = some (.int .i64 0) := by rw [B2.cell]; rfl
    have z2 : W.cell? ⟨w.heap.size + 2, 2, none⟩ = some (.slice none 0 0) := by rw [B2.cell]; rfl
    have zf := B2.thaw
    have HR := hid hr
    have HB2 := hid B2
    have HD := hid hK
    clear hr B2 B3 hK
    gi_wp2
    have hK' := (((KeepsOthers.setCell W ⟨w.heap.size + 2, 0, none⟩ (.int .i64 (u : Int))).trans (KeepsOthers.setCell _ ⟨w.heap.size + 2, 1, none⟩ (.int .i64 (v : Int)))).trans (KeepsOthers.setCell _ ⟨w.heap.size + 2, 2, none⟩ (.slice (some ⟨g, 0, none⟩) m m))).same D _ HD.out rfl
    refine ⟨by simp, .inl ⟨_, _, rfl, run_takeDeferred hK', ?_⟩⟩
    have hDw : w.heap.size + 2 ≠ D := by omega
    refine ⟨.agg #[.int .i64 (u : Int), .int .i64 (v : Int), .slice (some ⟨g, 0, none⟩) m m], ?_, some ⟨g, 0, none⟩, m, g, by rw [hxy], ?_, fun _ => ⟨by omega, ?_⟩, ?_⟩
    · refine results_cell_row rfl _ _ (w.heap.size + 2) 25 _ (0, 0) _ rfl (show Blk _ _ _ _ from ?_) Try.underlying25 rfl Try.info_plane
      refine Blk.of_block ?_ (World.putObj_heap_other (fun e => hDw e))
      simpa using ((HB2.out.set 0 _).set 1 _).set 2 _
    · rw [hxy]
      refine ((HR.out.fr (((((Fr.refl (fun j => j = w.heap.size + 2 ∨ j = D) W).setCell (fun _ => .inl rfl) _).setCell (fun _ => .inl rfl) _).setCell (fun _ => .inl rfl) _).grown (grownBy_putObj' _ D (.deferred none)) (fun k e _ => by cases e; exact .inr rfl)) (by omega)).congr fun j hj => ?_).nums (by unfold maxLen; omega)
      exact fillV_all G hS hj
    · exact (HR.out.fr (((((Fr.refl (fun j => j = w.heap.size + 2 ∨ j = D) W).setCell (fun _ => .inl rfl) _).setCell (fun _ => .inl rfl) _).setCell (fun _ => .inl rfl) _).grown (grownBy_putObj' _ D (.deferred none)) (fun k e _ => by cases e; exact .inr rfl)) (by omega)).intB
    · refine (((((HN.out W F).mono (fun k hk e => (by omega : False))).setNew (by show _ ≤ _ + 2; omega) _).setNew (by show _ ≤ _ + 2; omega) _).setNew (by show _ ≤ _ + 2; omega) _).grown (grownBy_putObj' _ D (.deferred none)) (fun k e hk => by cases e; omega)
  case stop =>
    rintro D c pre W _ _ h _
    exact h.elim

end Go.Proofs.Ytonalomagfekaaa
