/-
  Package bands: a row of a band; Cut.
-/
import Derived.Test.YtgmainbgliejhaaBandsC
import Derived.Test.YtgmainbgliejhaaWeaveT
namespace Go.Proofs.Ytgmainbgliejhaa
open Go.RowKit

set_option maxHeartbeats 1000000 in
theorem brow_go (x y k : Nat) (lv o : Int) (b : BandN) (g off n cap : Nat) (w : World) (hx' : x ≤ 1024) (hm : x * y = n) (hn : n ≤ 1048576) (hc : n ≤ cap) (hw : 1 ≤ b.w) (hbx : b.x + b.w ≤ x) (hbk : b.y + k < y) (hy' : y ≤ 1024) (s : Nat) (hs : (b.y + k) * x + b.x = s) :
    Calls Try.prog 30 #[.agg #[.int .i64 (x : Int), .int .i64 (y : Int), .slice (some ⟨g, off, none⟩) n cap], .agg #[.int .i64 lv, .int .i64 o, .int .i64 (b.x : Int), .int .i64 (b.y : Int), .int .i64 (b.w : Int), .int .i64 (b.h : Int)], .int .i64 (k : Int)] w fun e w' => e = .returned (.slice (some ⟨g, off + s, none⟩) b.w (cap - s)) ∧ Fr (fun _ => False) w w' := by
  have he := row_end hm hbk
  obtain ⟨bx, by', bw, bh, e1, e2, e3, e4⟩ : ∃ bx by' bw bh, b.x = bx ∧ b.y = by' ∧ b.w = bw ∧ b.h = bh := ⟨_, _, _, _, rfl, rfl, rfl, rfl⟩
  rw [e1, e2] at hs
  rw [e2] at he hbk
  rw [e3] at hw
  rw [e1, e3] at hbx
  rw [e1, e2, e3, e4]
  obtain ⟨r, hr⟩ : ∃ r, by' + k = r := ⟨_, rfl⟩
  obtain ⟨q, hq⟩ : ∃ q, r * x = q := ⟨_, rfl⟩
  rw [hr, hq] at hs he
  have i1 : (by' : Int) + (k : Int) = (r : Int) := by omega
  have i2 : (r : Int) * (x : Int) = (q : Int) := by rw [← hq, Int.natCast_mul]
  have i3 : (q : Int) + (bx : Int) = (s : Int) := by omega
  obtain ⟨e, hee⟩ : ∃ e, s + bw = e := ⟨_, rfl⟩
  have i4 : (s : Int) + (bw : Int) = (e : Int) := by omega
  have h2 : e ≤ cap := by omega
  have h3 : s ≤ e := by omega
  have h4 : e ≤ 1048576 := by omega
  have h5 : r ≤ 1024 := by omega
  have h6 : q ≤ 1048576 := by omega
  have HQ : Hid (e - s = bw) := by show _ = _; omega
  have hne : ¬ cap = s := by omega
  clear hs he hr hq hee e1 e2 e3 e4 hbx hbk hm
  go_enter Try.func30, Try.ntmps30
  go_wp2
  go_ret
  exact ⟨by rw [HQ.out]; rfl, ((Fr.refl _ w).alloc _).alloc _⟩
end Go.Proofs.Ytgmainbgliejhaa
