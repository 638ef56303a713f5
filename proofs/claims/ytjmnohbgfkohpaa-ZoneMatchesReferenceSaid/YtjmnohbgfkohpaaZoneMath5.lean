/- Plain mathematics: the parts of a stretch by changes and local midnights. No condition but those that each names. -/
import Derived.Test.YtjmnohbgfkohpaaZoneMath4
namespace Go.Proofs.Ytjmnohbgfkohpaa.Zn
/-- Minutes of one local day: the day, from, to. -/
abbrev Piece := Int × Int × Int
/-- k minutes from local time n on, cut at the local midnights. -/
def dcut : Nat → Int → Int → List Piece
  | 0, _, _ => []
  | m + 1, n, k => if 0 < k then (n / 1440, n % 1440, min (n % 1440 + k) 1440) :: dcut m (n + (min (n % 1440 + k) 1440 - n % 1440)) (k - (min (n % 1440 + k) 1440 - n % 1440)) else []
theorem dcut_none (m : Nat) (n : Int) : dcut m n 0 = [] := by
  cases m with
  | zero => rfl
  | succ m => unfold dcut; rw [if_neg (by omega)]
/-- A stretch of constant offset. -/
def dseg (x : Seg) : List Piece := dcut (x.1.2 - x.1.1).toNat (x.1.1 + x.2) (x.1.2 - x.1.1)
/-- All parts of a stretch. -/
def dall (s o t : Int) (cs : List (Int × Int)) : List Piece := (segs s o t cs).flatMap dseg
theorem flat_app (l r : List Seg) : (l ++ r).flatMap dseg = l.flatMap dseg ++ r.flatMap dseg := List.flatMap_append
theorem flat_one (l : List Seg) (x : Seg) : (l ++ [x]).flatMap dseg = l.flatMap dseg ++ dseg x := by
  rw [List.flatMap_append, List.flatMap_singleton]
/-- A sum over parts. -/
def totP (F : Piece → Int) (l : List Piece) : Int := (l.map F).foldr (· + ·) 0
theorem totP_cons (F : Piece → Int) (x : Piece) (l : List Piece) : totP F (x :: l) = F x + totP F l := rfl
theorem totP_append (F : Piece → Int) : ∀ l r : List Piece, totP F (l ++ r) = totP F l + totP F r
  | [], r => by show totP F r = 0 + totP F r; omega
  | x :: l, r => by
    show F x + totP F (l ++ r) = F x + totP F l + totP F r
    rw [totP_append F l r]; omega
theorem totP_snoc (F : Piece → Int) (l : List Piece) (x : Piece) : totP F (l ++ [x]) = totP F l + F x := by
  rw [totP_append]; show _ + (F x + 0) = _; omega
theorem totP_nonneg (F : Piece → Int) : ∀ l : List Piece, (∀ x ∈ l, 0 ≤ F x) → 0 ≤ totP F l
  | [], _ => Int.le_refl _
  | x :: l, h => by
    have h1 := h x List.mem_cons_self
    have h2 := totP_nonneg F l (fun y hy => h y (List.mem_cons_of_mem _ hy))
    show 0 ≤ F x + totP F l
    omega
theorem totP_flat (F : Piece → Int) : ∀ l : List Seg, totP F (l.flatMap dseg) = total (fun x => totP F (dseg x)) l
  | [] => rfl
  | x :: l => by
    rw [List.flatMap_cons, totP_append, totP_flat F l]; rfl
theorem cnt_shift (lo o : Int) (p : Int → Bool) : ∀ k : Nat, cnt lo (fun u => p (u + o)) k = cnt (lo + o) p k
  | 0 => rfl
  | k + 1 => by
    unfold cnt
    rw [cnt_shift lo o p k, show lo + (k : Int) + o = lo + o + k by omega]
/-- Whatever is counted minute by minute is the sum over the parts. -/
theorem dcut_sum (F : Piece → Int) (p : Int → Bool) (hF : ∀ n k : Int, 0 < k → n % 1440 + k ≤ 1440 → F (n / 1440, n % 1440, n % 1440 + k) = (cnt n p k.toNat : Int)) :
    ∀ (m : Nat) (n k : Int), 0 ≤ k → k.toNat ≤ m → totP F (dcut m n k) = (cnt n p k.toNat : Int)
  | 0, n, k, h0, hm => by
    have : k.toNat = 0 := by omega
    rw [this]; rfl
  | m + 1, n, k, h0, hm => by
    unfold dcut
    by_cases hk : 0 < k
    · rw [if_pos hk, totP_cons]
      have hr0 := Int.emod_nonneg n (show (1440 : Int) ≠ 0 by decide)
      have hr1 := Int.emod_lt_of_pos n (show (0 : Int) < 1440 by decide)
      obtain ⟨j, hj⟩ : ∃ j, j = min (n % 1440 + k) 1440 - n % 1440 := ⟨_, rfl⟩
      have hj0 : 0 < j := by omega
      have hj1 : n % 1440 + j ≤ 1440 := by omega
      have hj2 : j ≤ k := by omega
      rw [show min (n % 1440 + k) 1440 = n % 1440 + j by omega, show n % 1440 + j - n % 1440 = j by omega, hF n j hj0 hj1, dcut_sum F p hF m (n + j) (k - j) (by omega) (by omega)]
      have h := cnt_add n p j.toNat (k - j).toNat
      rw [show j.toNat + (k - j).toNat = k.toNat by omega, show n + (j.toNat : Int) = n + j by omega] at h
      rw [h]; simp
    · rw [if_neg hk]
      have : k.toNat = 0 := by omega
      rw [this]; rfl
theorem dcut_mem : ∀ (m : Nat) (n k : Int) (x : Piece), x ∈ dcut m n k → 0 ≤ x.2.1 ∧ x.2.1 < x.2.2 ∧ x.2.2 ≤ 1440 ∧ ∃ j, n ≤ j ∧ j < n + k ∧ j / 1440 = x.1
  | 0, n, k, x, hx => by cases hx
  | m + 1, n, k, x, hx => by
    unfold dcut at hx
    split at hx
    · rename_i hk
      have hr0 := Int.emod_nonneg n (show (1440 : Int) ≠ 0 by decide)
      have hr1 := Int.emod_lt_of_pos n (show (0 : Int) < 1440 by decide)
      rcases List.mem_cons.1 hx with rfl | hx
      · exact ⟨hr0, by show n % 1440 < min (n % 1440 + k) 1440; omega, by show min (n % 1440 + k) 1440 ≤ 1440; omega, n, Int.le_refl _, by omega, rfl⟩
      · obtain ⟨a0, a1, a2, j, j0, j1, j2⟩ := dcut_mem m _ _ x hx
        exact ⟨a0, a1, a2, j, by omega, by omega, j2⟩
    · cases hx
theorem dall_mem {b : Int} {cs : List (Int × Int)} (v : Valid b cs) {f t : Int} (hf : 0 ≤ f) {x : Piece} (hx : x ∈ dall f b t cs) : 0 ≤ x.2.1 ∧ x.2.1 < x.2.2 ∧ x.2.2 ≤ 1440 ∧ ∃ u, f ≤ u ∧ u < t ∧ loc b cs u / 1440 = x.1 := by
  obtain ⟨y, hy, hx⟩ := List.mem_flatMap.1 hx
  obtain ⟨y0, y1, y2, -, -, yo⟩ := segs_mem b cs cs (-2880) b f t v.2.2.2 (by omega) v.2.1 v.2.2.1 (fun u _ => rfl) y hy
  obtain ⟨a0, a1, a2, j, j0, j1, j2⟩ := dcut_mem _ _ _ x hx
  refine ⟨a0, a1, a2, j - y.2, by omega, by omega, ?_⟩
  unfold loc
  rw [yo (j - y.2) (by omega) (by omega), show j - y.2 + y.2 = j by omega]
  exact j2
theorem dall_sum {b : Int} {cs : List (Int × Int)} (v : Valid b cs) (F : Piece → Int) (p : Int → Bool) (hF : ∀ n k : Int, 0 < k → n % 1440 + k ≤ 1440 → F (n / 1440, n % 1440, n % 1440 + k) = (cnt n p k.toNat : Int)) (f t : Int) (hf : 0 ≤ f) (ht : f ≤ t) :
    totP F (dall f b t cs) = (cnt f (fun u => p (loc b cs u)) (t - f).toNat : Int) := by
  unfold dall
  rw [totP_flat]
  exact segs_sum (fun x => totP F (dseg x)) (fun x y => (cnt x (fun u => p (loc b cs u)) (y - x).toNat : Int)) b cs
    (fun x y z hxy hyz => by
      have h := cnt_add x (fun u => p (loc b cs u)) (y - x).toNat (z - y).toNat
      rw [show (y - x).toNat + (z - y).toNat = (z - x).toNat by omega, show x + ((y - x).toNat : Int) = y by omega] at h
      show ((cnt x _ (z - x).toNat : Nat) : Int) = _
      rw [h]; simp)
    (fun x => by show ((cnt x _ (x - x).toNat : Nat) : Int) = 0; rw [Int.sub_self]; rfl)
    (fun s e o hse hu => by
      show totP F (dcut (e - s).toNat (s + o) (e - s)) = ((cnt s _ (e - s).toNat : Nat) : Int)
      rw [dcut_sum F p hF _ _ _ (by omega) (Nat.le_refl _), ← cnt_shift]
      congr 1
      refine cnt_congr s _ (fun u u0 u1 => ?_)
      show p (u + o) = p (loc b cs u)
      unfold loc
      rw [hu u u0 (by omega)])
    cs (-2880) b f t v.2.2.2 (by omega) ht (fun u _ => rfl)
/-- How many of some minutes of a day are in a window. -/
def inw (f t wf wt : Int) : Int := if wf ≤ wt then com f t wf wt else com f t wf 1440 + com f t 0 wt
theorem com_bd {f t g u : Int} (h0 : 0 ≤ f) (h1 : f ≤ t) (h2 : t ≤ 1440) : 0 ≤ com f t g u ∧ com f t g u ≤ 1440 := by unfold com; omega
theorem inw_nonneg (f t wf wt : Int) : 0 ≤ inw f t wf wt := by unfold inw com; split <;> omega
theorem inw_cnt (wf wt : Int) (hw0 : 0 ≤ wf) (hw1 : wf ≤ 1440) (hw2 : 0 ≤ wt) (hw3 : wt ≤ 1440) (n k : Int) (hk : 0 < k) (hn : n % 1440 + k ≤ 1440) : inw (n % 1440) (n % 1440 + k) wf wt = (cnt n (fun u => inW wf wt (u % 1440)) k.toNat : Int) := by
  have hr0 := Int.emod_nonneg n (show (1440 : Int) ≠ 0 by decide)
  have hm : ∀ u, n ≤ u → u < n + (k.toNat : Int) → u % 1440 = n % 1440 + (u - n) := fun u u0 u1 => by omega
  unfold inw
  by_cases hle : wf ≤ wt
  · rw [if_pos hle, cnt_congr n (q := fun u => decide (n - n % 1440 + wf ≤ u ∧ u < n - n % 1440 + wt)) k.toNat (fun u u0 u1 => by
      show inW wf wt (u % 1440) = _
      unfold inW
      rw [if_neg (by omega), hm u u0 u1, ← Bool.decide_and, decide_eq_decide]
      omega), cnt_interval]
    unfold com
    omega
  · rw [if_neg hle, cnt_congr n (q := fun u => decide (n - n % 1440 + wf ≤ u ∧ u < n - n % 1440 + 1440) || decide (n - n % 1440 + 0 ≤ u ∧ u < n - n % 1440 + wt)) k.toNat (fun u u0 u1 => by
      show inW wf wt (u % 1440) = _
      unfold inW
      rw [if_pos (by omega), hm u u0 u1, ← Bool.decide_or, ← Bool.decide_or, decide_eq_decide]
      omega), cnt_or n _ _ (fun u h => by simp only [decide_eq_true_eq] at h; omega), Int.natCast_add, cnt_interval, cnt_interval]
    unfold com
    omega
theorem win_total {b : Int} {cs : List (Int × Int)} (v : Valid b cs) (f t wf wt : Int) (hf : 0 ≤ f) (ht : f ≤ t) (hw0 : 0 ≤ wf) (hw1 : wf ≤ 1440) (hw2 : 0 ≤ wt) (hw3 : wt ≤ 1440) :
    totP (fun x => inw x.2.1 x.2.2 wf wt) (dall f b t cs) = win b cs f (t - f).toNat wf wt :=
  dall_sum v (fun x => inw x.2.1 x.2.2 wf wt) (fun u => inW wf wt (u % 1440)) (fun n k hk hn => inw_cnt wf wt hw0 hw1 hw2 hw3 n k hk hn) f t hf ht
end Go.Proofs.Ytjmnohbgfkohpaa.Zn
