/-
  Layer 5 by plain functions: many bits, one behind the other.
-/
import Derived.Test.YthabklgeopdlhaaArithB
import Derived.Test.YthabklgeopdlhaaRef1
namespace Go.Proofs.Ythabklgeopdlhaa

/-- Bits coded one behind the other. -/
def runC (n : Nat) (s : CS) (l : List (Int × Bool)) : CS := l.foldl (fun s x => putX n s x.1 x.2) s
theorem runC_snoc (n : Nat) (s : CS) (l : List (Int × Bool)) (x : Int × Bool) : runC n s (l ++ [x]) = putX n (runC n s l) x.1 x.2 := by simp [runC]
theorem runC_good (n : Nat) : ∀ (l : List (Int × Bool)) (s : CS), Good n s → Good n (runC n s l)
  | [], _, h => h
  | x :: l, _, h => runC_good n l _ (h.put x.1 x.2)
theorem putX_N (n : Nat) (s : CS) (c : Int) (b : Bool) : (putX n s c b).N ≤ s.N + 1 := by unfold putX; split <;> simp
theorem putX_N' {n : Nat} {s : CS} {c : Int} {b : Bool} (h : hasX n c = true) : (putX n s c b).N = s.N + 1 := by unfold putX; rw [h]; rfl
theorem runC_N (n : Nat) : ∀ (l : List (Int × Bool)) (s : CS), (runC n s l).N ≤ s.N + l.length
  | [], _ => by simp [runC]
  | x :: l, s => by
    have := runC_N n l (putX n s x.1 x.2)
    have := putX_N n s x.1 x.2
    simp only [runC, List.foldl_cons, List.length_cons] at *
    omega
theorem runC_N' (n : Nat) : ∀ (l : List (Int × Bool)) (s : CS), (∀ x ∈ l, hasX n x.1 = true) → (runC n s l).N = s.N + l.length
  | [], _, _ => by simp [runC]
  | x :: l, s, h => by
    have := runC_N' n l (putX n s x.1 x.2) (fun y hy => h y (by simp [hy]))
    rw [putX_N' (h x (by simp))] at this
    simp only [runC, List.foldl_cons, List.length_cons] at *
    omega

/-- A decoder that goes an encoder's way. -/
def decSt (B : Nat → Bool) (s : CS) : DX := ⟨s.P, s.N, decOf B s.e⟩
theorem decSt_start (B : Nat → Bool) (n : Nat) : decSt B (startC n) = startD B n := by
  unfold decSt startC startD
  rw [show (⟨evenP n, 0, estart⟩ : CS).e = estart from rfl, decOf_start]

theorem decSt_good (B : Nat → Bool) {n : Nat} {s : CS} (h : Good n s) : DGood n (decSt B s) :=
  ⟨h.fair, h.ready.span, h.ready.wide, (win_bounds B _ _).1, (win_bounds B _ _).2, by have := h.few; simp only [decSt, decOf]; omega⟩
theorem runC_N0 (n : Nat) (l : List (Int × Bool)) : (runC n (startC n) l).N ≤ l.length := by
  have := runC_N n l (startC n)
  have e : (startC n).N = 0 := rfl
  omega

theorem run_follow {B : Nat → Bool} {n : Nat} : ∀ (l : List (Int × Bool)) (s : CS), Good n s → (∀ x ∈ l, hasX n x.1 = true) → Follows B (runC n s l).e → Follows B s.e
  | [], _, _, _, h => h
  | x :: l, s, hg, hx, h => by
    have h1 := run_follow l (putX n s x.1 x.2) (hg.put _ _) (fun y hy => hx y (by simp [hy])) h
    exact (puts_told hg x.1 x.2 (hx x (by simp)) h1).1

/-- What was put is told. -/
theorem run_told {B : Nat → Bool} {n : Nat} (l : List (Int × Bool)) (hx : ∀ x ∈ l, hasX n x.1 = true) (hf : Follows B (runC n (startC n) l).e) (k : Nat) (hk : k < l.length) :
    getB n (decSt B (runC n (startC n) (l.take k))) (l[k].1) = l[k].2 ∧ getX B n (decSt B (runC n (startC n) (l.take k))) (l[k].1) = decSt B (runC n (startC n) (l.take (k + 1))) := by
  have hg := runC_good n (l.take k) (startC n) (Good.first n)
  have e : l.take (k + 1) = l.take k ++ [l[k]] := List.take_succ_eq_append_getElem hk
  have hfk : Follows B (runC n (startC n) (l.take (k + 1))).e := by
    refine run_follow (l.drop (k + 1)) _ (runC_good n _ _ (Good.first n)) (fun x hx' => hx x (List.mem_of_mem_drop hx')) ?_
    have : runC n (runC n (startC n) (l.take (k + 1))) (l.drop (k + 1)) = runC n (startC n) l := by
      unfold runC
      rw [← List.foldl_append, List.take_append_drop]
    rw [this]
    exact hf
  rw [e, runC_snoc] at hfk ⊢
  obtain ⟨_, h2, h3⟩ := puts_told hg l[k].1 l[k].2 (hx _ (List.getElem_mem hk)) hfk
  exact ⟨h2, h3⟩

/-- An encoder's bytes, by definition. -/
def ebytes (e : ES) : List Nat := trimB (chunks (eend e ++ List.replicate (gap (eend e).length) false) (((eend e).length + 7) / 8))
theorem Tells.eq {zs : List Nat} {e : ES} (h : Tells zs e) : zs = ebytes e := h.unique ⟨_, chunks_packs _, rfl⟩
theorem Tells.ebytes (e : ES) : Tells (ebytes e) e := ⟨_, chunks_packs _, rfl⟩

theorem tells_follow {zs : List Nat} {n : Nat} {s : CS} (hg : Good n s) (h : Tells zs s.e) : Follows (bitAt zs) s.e := end_follow hg.ready h.bit

/-- The first bits of a list of bits, as pairs. -/
def fstB (i : Nat) : Int × Bool := (((i % 2 : Nat) : Int), decide (i % 3 = 0))
def fstL (k : Nat) : List (Int × Bool) := (List.range k).map fstB
theorem fstL_succ (k : Nat) : fstL (k + 1) = fstL k ++ [fstB k] := by simp [fstL, List.range_succ]
theorem fstL_length (k : Nat) : (fstL k).length = k := by simp [fstL]
theorem fstL_has (k : Nat) : ∀ x ∈ fstL k, hasX 2 x.1 = true := by
  intro x hx
  simp only [fstL, List.mem_map] at hx
  obtain ⟨i, _, rfl⟩ := hx
  have h1 : decide ((0 : Int) ≤ ((i % 2 : Nat) : Int)) = true := by rw [decide_eq_true_eq]; omega
  have h2 : decide (((i % 2 : Nat) : Int) < ((2 : Nat) : Int)) = true := by rw [decide_eq_true_eq]; omega
  unfold hasX fstB
  rw [h1, h2]
  rfl
theorem fst_len : 3 < (ebytes (runC 2 (startC 2) (fstL 40)).e).length := by decide +kernel
theorem start_bytes (n : Nat) : ebytes (startC n).e = [] := by
  show ebytes estart = []
  decide +kernel
theorem fstL_take (k m : Nat) (h : k ≤ m) : (fstL m).take k = fstL k := by
  unfold fstL
  rw [← List.map_take, List.take_range, Nat.min_eq_left h]
end Go.Proofs.Ythabklgeopdlhaa
