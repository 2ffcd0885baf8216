/-
  Law package 6: what is asked ahead of every statement.
-/
import Derived.Test.YthabklgeopdlhaaBinsS
import Derived.Test.YthabklgeopdlhaaBinsD
import Derived.Test.YthabklgeopdlhaaFirst5
namespace Go.Proofs.Ythabklgeopdlhaa
open Go.RowKit

/-- The numbers 0, 1, 2, .. -/
def idV : Nat → Int := fun i => (i : Int)

/-- A set in block o, its Follow in block b. -/
structure SetObj (w : World) (o : Nat) (a : Option Addr) (n cap : Nat) (V : Nat → Int) (b : Nat) (D S : Int) : Prop where
  blk : Blk w o #[.slice a n cap, .int .i64 D, .int .i64 S] 24
  set : SetV w a n cap V b
theorem SetObj.fr {w w' : World} {o : Nat} {a : Option Addr} {n cap : Nat} {V : Nat → Int} {b : Nat} {D S : Int} {X : Nat → Prop} (h : SetObj w o a n cap V b D S) (f : Fr X w w') (ho : ¬ X o) (hb : 0 < n → ¬ X b) : SetObj w' o a n cap V b D S := ⟨h.blk.fr f ho, h.set.fr f hb⟩
theorem SetObj.quiet {w w' : World} {o : Nat} {a : Option Addr} {n cap : Nat} {V : Nat → Int} {b : Nat} {D S : Int} (h : SetObj w o a n cap V b D S) (f : Fr (fun _ => False) w w') : SetObj w' o a n cap V b D S := h.fr f (fun h => h) (fun _ h => h)
theorem SetObj.k0 {w : World} {o : Nat} {a : Option Addr} {n cap : Nat} {V : Nat → Int} {b : Nat} {D S : Int} (h : SetObj w o a n cap V b D S) : w.cell? ⟨o, 0, none⟩ = some (.slice a n cap) := by rw [h.blk.cell]; rfl
theorem SetObj.k1 {w : World} {o : Nat} {a : Option Addr} {n cap : Nat} {V : Nat → Int} {b : Nat} {D S : Int} (h : SetObj w o a n cap V b D S) : w.cell? ⟨o, 1, none⟩ = some (.int .i64 D) := by rw [h.blk.cell]; rfl
theorem SetObj.k2 {w : World} {o : Nat} {a : Option Addr} {n cap : Nat} {V : Nat → Int} {b : Nat} {D S : Int} (h : SetObj w o a n cap V b D S) : w.cell? ⟨o, 2, none⟩ = some (.int .i64 S) := by rw [h.blk.cell]; rfl
/-- A set that is made of n numbers 0, 1, 2, .. -/
theorem SetObj.new (w : World) (n : Nat) (cs : Array Value) (t : TypeId) (D S : Int) (hn : n ≤ 1000) (hc : ∀ j, j < n → cs[j]? = some (.int .i64 (idV j))) :
    SetObj ((w.alloc (.cells cs t)).alloc (.cells #[.slice (some ⟨w.heap.size, 0, none⟩) n n, .int .i64 D, .int .i64 S] 24)) (w.heap.size + 1) (some ⟨w.heap.size, 0, none⟩) n n idV w.heap.size D S := by
  have h1 := Blk.new (w.alloc (.cells cs t)) #[.slice (some ⟨w.heap.size, 0, none⟩) n n, .int .i64 D, .int .i64 S] 24
  rw [show (w.alloc (.cells cs t)).heap.size = w.heap.size + 1 by simp] at h1
  refine ⟨h1, Nat.le_refl _, by unfold maxLen; omega, fun _ => ⟨0, rfl, fun j hj => ?_⟩⟩
  rw [Nat.zero_add, ((Blk.new w cs t).alloc _).cell]
  exact hc j hj
/-- Behind a step of an encoder that is newer. -/
theorem SetObj.step {w w' : World} {o : Nat} {a : Option Addr} {n cap : Nat} {V : Nat → Int} {b : Nat} {D S : Int} {p g : Nat} {v v' : Value} {zs : List Nat} {c : Nat} {s : CS} (h : SetObj w o a n cap V b D S) (he : En w p g v zs c s) (st : EnStep p g v v' w w') (ho : o < g) (hb : b < g) : SetObj w' o a n cap V b D S := by
  have := he.gp
  refine h.fr st.fr ?_ (fun _ => ?_)
  · rintro (e | e | e)
    · omega
    · omega
    · have := (he.vlt e).1; omega
  · rintro (e | e | e)
    · omega
    · omega
    · have := (he.vlt e).1; omega
theorem En.setOff {w : World} {p g : Nat} {v : Value} {zs : List Nat} {c : Nat} {s : CS} (he : En w p g v zs c s) (n b : Nat) (hb : b < g) : SetOff n b p g v := by
  have := he.gp
  exact fun _ => ⟨by omega, by omega, fun e => by have := (he.vlt e).1; omega⟩

def fV : Nat → Int := fol idV 2
def fL : List (Int × Bool) := numSteps fV 2 2
def fM : List (Int × Bool) := sgnSteps fV 2 3 (-700)
theorem f_right : rightS idV 2 2 3 4 = true := by decide
theorem f_has : ∀ y ∈ fL ++ fM, hasX 4 y.1 = true := by
  intro y hy
  rcases List.mem_append.1 hy with hy | hy
  · exact numSteps_has (rightS_fol f_right) (rightS_data f_right) _ y hy
  · exact sgnSteps_has (rightS_fol f_right) (rightS_data f_right) (rightS_sign f_right) _ y hy
theorem f_put1 : putN idV 2 2 3 4 (startC 4) 2 = runC 4 (startC 4) fL := by unfold putN; rw [f_right]; rfl
theorem f_put2 : putG idV 2 2 3 4 (runC 4 (startC 4) fL) (-700) = runC 4 (startC 4) (fL ++ fM) := by unfold putG; rw [f_right, runC_append]; rfl
theorem f_put3 (s : CS) : putN idV 2 2 3 4 s (-1) = s := rfl
theorem f_len : (fL ++ fM).length = 23 := by
  rw [List.length_append]
  unfold fL fM
  rw [numSteps_length, sgnSteps_length]
  decide +kernel
theorem f_N : (runC 4 (startC 4) (fL ++ fM)).N = 23 := by
  rw [runC_N' 4 _ _ f_has, f_len]
  rfl
theorem f_b2 : ncost 2 = 3 := by decide +kernel
theorem f_bm : ncost 2199023255550 = 80 := by decide +kernel
theorem ctx4 : ctxN 4 = 4 := by decide

set_option maxHeartbeats 1000000 in
theorem first6_any (w : World) :
    Calls Try.prog 7 #[] w fun e w' => e = .returned (.bool true) ∧ Fr (fun _ => False) w w' := by
  have O0 := SetObj.new w 2 #[.int .i64 0, .int .i64 1] 3 2 3 (by omega) (by intro j hj; match j, hj with | 0, _ => rfl | 1, _ => rfl)
  obtain ⟨W, hW⟩ : ∃ W, W = (w.alloc (.cells #[.int .i64 0, .int .i64 1] 3)).alloc (.cells #[.slice (some ⟨w.heap.size, 0, none⟩) 2 2, .int .i64 2, .int .i64 3] 24) := ⟨_, rfl⟩
  rw [← hW] at O0
  have F0 : Fr (fun _ => False) w W := by rw [hW]; exact ((Fr.refl _ w).alloc _).alloc _
  have hsz : W.heap.size = w.heap.size + 2 := by rw [hW]; simp
  have HW := hid hW
  clear hW
  go_enter Try.func7, Try.ntmps7
  go_wp2_with fail
  rw [← HW.out]
  refine (newEnc_any W 4).mono ?_
  rintro e w1 ⟨p, g, rfl, h1, hg, f1⟩
  rw [ctx4] at h1
  have O1 := O0.quiet f1
  have F1 := F0.trans' f1
  have hgw : w.heap.size ≤ g := by omega
  clear O0 f1 F0
  have k0 := O1.k0
  have k1 := O1.k1
  have k2 := O1.k2
  go_wp2_with fail
  refine (bput_any w1 p g _ _ 4 _ _ 2 2 idV w.heap.size 2 3 2 h1 O1.set (h1.setOff 2 _ (by omega)) (by omega) (by simp [startC]) (Good.first 4)).mono ?_
  rintro e w2 ⟨rfl, v2, zs2, h2, st2⟩
  rw [f_put1] at h2
  rw [show (okN 2 && rightS idV 2 2 3 4) = true by decide]
  have O2 := O1.step h1 st2 (by omega) (by omega)
  have F2 := st2.outer h1 F1 hgw
  clear O1 F1 st2 h1 k0 k1 k2
  have hG2 := runC_good 4 fL (startC 4) (Good.first 4)
  have hN2 := runC_N0 4 fL
  have hL : fL.length ≤ 23 := by have := f_len; simp at this; omega
  have k0 := O2.k0
  have k1 := O2.k1
  have k2 := O2.k2
  go_wp2_with fail
  refine (bputS_any w2 p g _ _ 4 _ _ 2 2 idV w.heap.size 2 3 (-700) h2 O2.set (h2.setOff 2 _ (by omega)) (by omega) (by omega) hG2 (by omega) (by omega)).mono ?_
  rintro e w3 ⟨rfl, v3, zs3, h3, st3⟩
  rw [f_put2] at h3
  rw [show (okN (unsN (-700)) && rightS idV 2 2 3 4) = true by decide]
  have O3 := O2.step h2 st3 (by omega) (by omega)
  have F3 := st3.outer h2 F2 hgw
  clear O2 F2 st3 h2 k0 k1 k2 hG2 hN2
  have hG3 := runC_good 4 (fL ++ fM) (startC 4) (Good.first 4)
  have hN3 := f_N
  have k0 := O3.k0
  have k1 := O3.k1
  have k2 := O3.k2
  go_wp2_with fail
  refine (bput_any w3 p g _ _ 4 _ _ 2 2 idV w.heap.size 2 3 (-1) h3 O3.set (h3.setOff 2 _ (by omega)) (by omega) (by omega) hG3).mono ?_
  rintro e w4 ⟨rfl, v4, zs4, h4, st4⟩
  rw [f_put3] at h4
  rw [show (okN (-1) && rightS idV 2 2 3 4) = false by decide]
  have O4 := O3.step h3 st4 (by omega) (by omega)
  have F4 := st4.outer h3 F3 hgw
  clear O3 F3 st4 h3 k0 k1 k2
  go_wp2_with fail
  refine (ecount_any w4 p g _ _ 4 _ h4).mono ?_
  rintro e w5 ⟨rfl, rfl⟩
  rw [hN3]
  go_wp2_with fail
  refine (ebytes_any _ p g _ _ 4 _ h4 hG3 (by omega)).mono ?_
  rintro e w6 ⟨q6, cap6, ys, rfl, o6, T6, f6⟩
  have O6 := O4.quiet f6
  have F6 := F4.trans' f6
  have hfol := tells_follow hG3 T6
  have hfew := hG3.few
  have hyl := T6.len
  have hsm := T6.small
  have hys : ys.length ≤ 1000 := by omega
  have hpl : p < w6.heap.size := (h4.quiet f6).blk.lt
  have hol : w.heap.size + 1 < w6.heap.size := by have := h4.gp; omega
  clear O4 F4 h4 f6 hfew hyl
  go_wp2_with fail
  refine (newDec_any w6 _ ys 4 (Reads.of_owns (by rw [rowOf_length]; exact o6)) (by omega) hsm).mono ?_
  rintro e w7 ⟨pd, gd, rd, qd, rfl, d7, hr, hq, f7⟩
  rw [ctx4, ← decSt_start] at d7
  have O7 := O6.quiet f7
  have F7 := F6.trans' f7
  have hrw : w.heap.size ≤ rd := by have := F6.size; omega
  have hgd := d7.gp
  have hrg := d7.rg
  clear O6 F6 f7 o6
  have e1 : getN (bitAt ys) idV 2 2 3 4 (decSt (bitAt ys) (startC 4)) = (2, decSt (bitAt ys) (runC 4 (startC 4) fL)) := by
    unfold getN
    rw [f_right, if_pos rfl]
    exact gnum_back (fol idV 2) 2 2 (ndig_le 2 (by omega)) [] fM f_has hfol
  have e2 : getG (bitAt ys) idV 2 2 3 4 (decSt (bitAt ys) (runC 4 (startC 4) fL)) = (-700, decSt (bitAt ys) (runC 4 (startC 4) (fL ++ fM))) := by
    have := getG_back (B := bitAt ys) f_right (-700) (by decide) fL [] (by rw [List.append_nil]; exact f_has) (by rw [List.append_nil]; exact hfol)
    exact this
  have E1 := hid e1
  have E2 := hid e2
  clear e1 e2 hfol
  have k0 := O7.k0
  have k1 := O7.k1
  have k2 := O7.k2
  go_wp2_with fail
  refine (bget_any w7 pd gd rd qd ys 4 _ _ 2 2 idV w.heap.size 2 3 d7 O7.set (fun _ => by unfold DeS; omega) (by omega) (by omega) (by show (startC 4).N ≤ _; simp [startC]) (decSt_good _ (Good.first 4))).mono ?_
  rintro e w8 ⟨rfl, d8, f8⟩
  rw [E1.out] at d8 ⊢
  simp only at d8 ⊢
  have O8 := O7.fr f8 (by unfold DeS; omega) (fun _ => by unfold DeS; omega)
  have F8 := DeS.outer f8 d7 F7 hrw
  clear O7 F7 d7 f8 k0 k1 k2 E1
  have hG8 := decSt_good (bitAt ys) (runC_good 4 fL (startC 4) (Good.first 4))
  have hN8 : (decSt (bitAt ys) (runC 4 (startC 4) fL)).N ≤ 100 := by
    have := runC_N0 4 fL
    show (runC 4 (startC 4) fL).N ≤ 100
    omega
  have k0 := O8.k0
  have k1 := O8.k1
  have k2 := O8.k2
  go_wp2_with fail
  refine (bgetS_any w8 pd gd rd qd ys 4 _ _ 2 2 idV w.heap.size 2 3 d8 O8.set (fun _ => by unfold DeS; omega) (by omega) (by omega) (by omega) hG8).mono ?_
  rintro e w9 ⟨rfl, d9, f9⟩
  rw [E2.out] at d9 ⊢
  simp only at d9 ⊢
  have F9 := DeS.outer f9 d8 F8 hrw
  clear O8 F8 d8 f9 k0 k1 k2 E2 d9
  go_wp2_with fail
  refine (bbits_any 2 w9).mono ?_
  rintro e w10 ⟨rfl, rfl⟩
  rw [show (if okN 2 = true then (ncost (2 : Int).toNat : Int) else 0) = 3 by rw [show okN 2 = true by decide, if_pos rfl, show (2 : Int).toNat = 2 by decide, f_b2]; rfl]
  go_wp2_with fail
  refine (bbits_any 2199023255550 w10).mono ?_
  rintro e w11 ⟨rfl, rfl⟩
  rw [show (if okN 2199023255550 = true then (ncost (2199023255550 : Int).toNat : Int) else 0) = 80 by rw [show okN 2199023255550 = true by decide, if_pos rfl, show (2199023255550 : Int).toNat = 2199023255550 by decide, f_bm]; rfl]
  go_wp2
  go_ret
  exact ⟨rfl, F9⟩
end Go.Proofs.Ythabklgeopdlhaa
