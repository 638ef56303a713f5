/- Plain mathematics of zones, second part: what each function of the chapter is, as counts and lists of minutes, and the promises over them. It speaks of integers and lists alone. -/
import Derived.Test.YtdoojpilogcnjaaZoneMath
set_option linter.unusedVariables false
set_option linter.unusedSimpArgs false
namespace Go.Proofs.Ytdoojpilogcnjaa.Zn
theorem cnt_mono (lo : Int) {p q : Int → Bool} : ∀ k : Nat, (∀ s, lo ≤ s → s < lo + k → p s = true → q s = true) → cnt lo p k ≤ cnt lo q k
  | 0, _ => Nat.le_refl _
  | k + 1, h => by
    have ih := cnt_mono lo k (fun s s0 s1 => h s s0 (by omega))
    have hk := h (lo + k) (by omega) (by omega)
    unfold cnt
    cases hp : p (lo + k) with
    | false => simp; omega
    | true => rw [hk hp]; simp; omega
theorem cnt_or_le (lo : Int) (p q : Int → Bool) : ∀ k : Nat, cnt lo (fun s => p s || q s) k ≤ cnt lo p k + cnt lo q k
  | 0 => Nat.le_refl _
  | k + 1 => by
    have ih := cnt_or_le lo p q k
    unfold cnt
    cases p (lo + k) <;> cases q (lo + k) <;> simp <;> omega
/-- The numbers from lo on that meet p, in increasing order. -/
def filt (lo : Int) (p : Int → Bool) : Nat → List Int
  | 0 => []
  | k + 1 => filt lo p k ++ if p (lo + k) then [lo + k] else []
theorem filt_length (lo : Int) (p : Int → Bool) : ∀ k : Nat, (filt lo p k).length = cnt lo p k
  | 0 => rfl
  | k + 1 => by
    unfold filt cnt
    rw [List.length_append, filt_length lo p k]
    cases p (lo + k) <;> rfl
theorem filt_mem (lo : Int) (p : Int → Bool) (t : Int) : ∀ k : Nat, t ∈ filt lo p k ↔ lo ≤ t ∧ t < lo + k ∧ p t = true
  | 0 => by simp [filt]; omega
  | k + 1 => by
    unfold filt
    rw [List.mem_append, filt_mem lo p t k]
    by_cases e : t = lo + k
    · subst e
      cases hp : p (lo + k) <;> simp <;> omega
    · cases hp : p (lo + k) with
      | false =>
        simp only [Bool.false_eq_true, if_false, List.not_mem_nil, or_false]
        constructor
        · rintro ⟨a, b, c⟩; exact ⟨a, by omega, c⟩
        · rintro ⟨a, b, c⟩; exact ⟨a, by omega, c⟩
      | true =>
        simp only [if_true, List.mem_singleton, e, or_false]
        constructor
        · rintro ⟨a, b, c⟩; exact ⟨a, by omega, c⟩
        · rintro ⟨a, b, c⟩; exact ⟨a, by omega, c⟩
theorem filt_sorted (lo : Int) (p : Int → Bool) : ∀ k : Nat, (filt lo p k).Pairwise (· < ·)
  | 0 => List.Pairwise.nil
  | k + 1 => by
    unfold filt
    rw [List.pairwise_append]
    refine ⟨filt_sorted lo p k, ?_, fun a ha b hb => ?_⟩
    · cases p (lo + k) <;> simp
    · have := (filt_mem lo p a k).1 ha
      cases hp : p (lo + k) with
      | false => simp [hp] at hb
      | true => simp [hp] at hb; omega
/-- An instant. -/
def inst (t : Int) : Bool := decide (0 ≤ t ∧ t ≤ 52595999)
variable (b : Int) (cs : List (Int × Int))
/-- The instants of a local time. -/
def insts (d m : Int) : List Int := filt (1440 * d + m - 840) (fun t => inst t && decide (loc b cs t = 1440 * d + m)) 1681
/-- The number of instants of a local day. -/
def dlen (d : Int) : Nat := cnt (1440 * d - 840) (fun t => inst t && decide (1440 * d ≤ loc b cs t ∧ loc b cs t < 1440 * d + 1440)) 3120
variable {b cs}
/-- At most two minutes have one local time. -/
theorem same_two (v : Valid b cs) (n lo : Int) (e : Int → Bool) (k : Nat) : cnt lo (fun t => e t && decide (loc b cs t = n)) k ≤ 2 := by
  obtain ⟨a, o1, o2, c, d1, d2, d3, d4, d5, d6, d7, d8, hst, hin⟩ := day_step v n
  have h1 : cnt lo (fun t => e t && decide (loc b cs t = n)) k ≤ cnt lo (fun s => decide (n - o1 ≤ s ∧ s < n - o1 + 1) || decide (n - o2 ≤ s ∧ s < n - o2 + 1)) k := cnt_mono lo k (fun s _ _ h => by
    simp only [Bool.and_eq_true, decide_eq_true_eq] at h
    have hl := h.2
    obtain ⟨s0, s1⟩ := hin s (by omega) (by omega)
    have := hst s s0 s1
    unfold loc at hl
    simp only [Bool.or_eq_true, decide_eq_true_eq]
    split at this <;> omega)
  have h2 := cnt_or_le lo (fun s => decide (n - o1 ≤ s ∧ s < n - o1 + 1)) (fun s => decide (n - o2 ≤ s ∧ s < n - o2 + 1)) k
  have h3 := cnt_interval lo (n - o1) (n - o1 + 1) k
  have h4 := cnt_interval lo (n - o2) (n - o2 + 1) k
  omega
theorem insts_two (v : Valid b cs) (d m : Int) : (insts b cs d m).length ≤ 2 := by
  unfold insts; rw [filt_length]; exact same_two v _ _ _ _
theorem insts_mem (v : Valid b cs) (d m t : Int) : t ∈ insts b cs d m ↔ 0 ≤ t ∧ t ≤ 52595999 ∧ loc b cs t = 1440 * d + m := by
  unfold insts
  rw [filt_mem]
  have := bd v t
  simp only [inst, Bool.and_eq_true, decide_eq_true_eq]
  constructor
  · rintro ⟨_, _, ⟨a1, a2⟩, c⟩; exact ⟨a1, a2, c⟩
  · rintro ⟨a1, a2, c⟩
    have h : t + offFrom b cs t = 1440 * d + m := c
    exact ⟨by omega, by omega, ⟨a1, a2⟩, c⟩
theorem insts_sorted (d m : Int) : (insts b cs d m).Pairwise (· < ·) := filt_sorted _ _ _
/-- A list in increasing order is known by its members. -/
theorem sorted_ext : ∀ {l r : List Int}, l.Pairwise (· < ·) → r.Pairwise (· < ·) → (∀ t, t ∈ l ↔ t ∈ r) → l = r
  | [], [], _, _, _ => rfl
  | [], y :: r, _, _, h => by have := (h y).2 (by simp); simp at this
  | x :: l, [], _, _, h => by have := (h x).1 (by simp); simp at this
  | x :: l, y :: r, hl, hr, h => by
    rw [List.pairwise_cons] at hl hr
    have e : x = y := by
      have h1 := (h x).1 (by simp)
      have h2 := (h y).2 (by simp)
      rw [List.mem_cons] at h1 h2
      rcases h1 with h1 | h1
      · exact h1
      · rcases h2 with h2 | h2
        · exact h2.symm
        · have a1 := hr.1 x h1; have a2 := hl.1 y h2; omega
    subst e
    rw [sorted_ext hl.2 hr.2 (fun t => ?_)]
    have ht := h t
    rw [List.mem_cons, List.mem_cons] at ht
    constructor
    · intro hm
      rcases ht.1 (Or.inr hm) with e | h'
      · subst e; have := hl.1 t hm; omega
      · exact h'
    · intro hm
      rcases ht.2 (Or.inr hm) with e | h'
      · subst e; have := hr.1 t hm; omega
      · exact h'
/-- A count over a wider stretch that adds no member. -/
theorem cnt_wide (lo : Int) (p : Int → Bool) (j k m : Nat) (hp : ∀ s, p s = true → lo + j ≤ s ∧ s < lo + j + k) : cnt lo p (j + k + m) = cnt (lo + j) p k := by
  rw [cnt_add, cnt_add, cnt_false lo p j (fun s s0 s1 => by
    cases h : p s with
    | false => rfl
    | true => have := hp s h; omega), cnt_false (lo + ((j + k : Nat) : Int)) p m (fun s s0 s1 => by
    cases h : p s with
    | false => rfl
    | true => have := hp s h; omega)]
  omega
theorem cnt_between (lo lo' : Int) (p : Int → Bool) (k k' : Nat) (h0 : lo ≤ lo') (h1 : lo' + k' ≤ lo + k) (hp : ∀ s, p s = true → lo' ≤ s ∧ s < lo' + k') : cnt lo p k = cnt lo' p k' := by
  have e1 : lo + ((lo' - lo).toNat : Int) = lo' := by omega
  have h := cnt_wide lo p (lo' - lo).toNat k' ((lo + k - (lo' + k')).toNat) (fun s hs => by rw [e1]; exact hp s hs)
  rw [e1] at h
  rw [← h]
  congr 1
  omega
/-- A day other than the first two and the last two has 1380 to 1500 minutes. -/
theorem dlen_bd (v : Valid b cs) (d : Int) (h0 : 2 ≤ d) (h1 : d ≤ 36522) : 1380 ≤ dlen b cs d ∧ dlen b cs d ≤ 1500 := by
  obtain ⟨a, o1, o2, c, d1, d2, d3, d4, d5, d6, d7, d8, hst, hin⟩ := day_step v (1440 * d)
  have hp : ∀ s, (inst s && decide (1440 * d ≤ loc b cs s ∧ loc b cs s < 1440 * d + 1440)) = true → 1440 * d - c - 60 ≤ s ∧ s < 1440 * d - c - 60 + (1560 : Nat) := fun s hs => by
    simp only [Bool.and_eq_true, decide_eq_true_eq] at hs
    have := hin s hs.2.1 hs.2.2
    omega
  have e1 : dlen b cs d = cnt (1440 * d - c - 60) (fun t => inst t && decide (1440 * d ≤ loc b cs t ∧ loc b cs t < 1440 * d + 1440)) 1560 := by
    unfold dlen
    by_cases hlo : 1440 * d - 840 ≤ 1440 * d - c - 60 ∧ 1440 * d - c - 60 + ((1560 : Nat) : Int) ≤ 1440 * d - 840 + ((3120 : Nat) : Int)
    · exact cnt_between _ _ _ _ _ hlo.1 hlo.2 hp
    · -- the wider of both
      have w1 := cnt_between (1440 * d - 2000) (1440 * d - 840) (fun t => inst t && decide (1440 * d ≤ loc b cs t ∧ loc b cs t < 1440 * d + 1440)) 6000 3120 (by omega) (by omega) (fun s hs => by
        simp only [Bool.and_eq_true, decide_eq_true_eq] at hs
        have hl := hs.2
        have := bd v s
        unfold loc at hl
        omega)
      have w2 := cnt_between (1440 * d - 2000) (1440 * d - c - 60) (fun t => inst t && decide (1440 * d ≤ loc b cs t ∧ loc b cs t < 1440 * d + 1440)) 6000 1560 (by omega) (by omega) hp
      omega
  obtain ⟨y1, hy1⟩ : ∃ y1, y1 = min a (1440 * d + 1440 - o1) := ⟨_, rfl⟩
  obtain ⟨x2, hx2⟩ : ∃ x2, x2 = max a (1440 * d - o2) := ⟨_, rfl⟩
  have f1 : y1 ≤ a ∧ y1 ≤ 1440 * d + 1440 - o1 ∧ (y1 = a ∨ y1 = 1440 * d + 1440 - o1) := by omega
  have f2 : a ≤ x2 ∧ 1440 * d - o2 ≤ x2 ∧ (x2 = a ∨ x2 = 1440 * d - o2) := by omega
  clear hy1 hx2
  have e2 : cnt (1440 * d - c - 60) (fun t => inst t && decide (1440 * d ≤ loc b cs t ∧ loc b cs t < 1440 * d + 1440)) 1560 =
      cnt (1440 * d - c - 60) (fun s => decide (1440 * d - o1 ≤ s ∧ s < y1) || decide (x2 ≤ s ∧ s < 1440 * d + 1440 - o2)) 1560 := cnt_congr _ _ (fun s s0 s1 => by
    have hs := hst s s0 (by omega)
    rw [Bool.eq_iff_iff]
    simp only [inst, Bool.and_eq_true, Bool.or_eq_true, decide_eq_true_eq]
    unfold loc
    split at hs
    all_goals constructor
    all_goals (intro h; omega))
  have e3 := cnt_or (1440 * d - c - 60) (fun s => decide (1440 * d - o1 ≤ s ∧ s < y1)) (fun s => decide (x2 ≤ s ∧ s < 1440 * d + 1440 - o2)) (fun s h => by
    simp only [decide_eq_true_eq] at h; omega) 1560
  have e4 := cnt_interval (1440 * d - c - 60) (1440 * d - o1) y1 1560
  have e5 := cnt_interval (1440 * d - c - 60) x2 (1440 * d + 1440 - o2) 1560
  omega
/-- As many as its local minutes have instants. -/
theorem dlen_sum (v : Valid b cs) (d : Int) : sumTo (fun i => (insts b cs d i).length) 1440 = dlen b cs d := by
  have h := cnt_minutes (1440 * d - 840) (loc b cs) inst (1440 * d) 1440 3120
  have e : ∀ i : Nat, i < 1440 → (insts b cs d i).length = cnt (1440 * d - 840) (fun s => inst s && decide (loc b cs s = 1440 * d + i)) 3120 := fun i hi => by
    unfold insts
    rw [filt_length]
    refine (cnt_between _ _ _ _ _ (by omega) (by omega) (fun s hs => ?_)).symm
    simp only [Bool.and_eq_true, decide_eq_true_eq] at hs
    have hl := hs.2
    have := bd v s
    unfold loc at hl
    omega
  rw [sumTo_congr 1440 e, h]
  rfl
/-- Running: from one minute to the next one. -/
theorem loc_next (v : Valid b cs) (t : Int) : loc b cs (t + 1) = loc b cs t + 1 + (offFrom b cs (t + 1) - offFrom b cs t) ∧ -60 ≤ offFrom b cs (t + 1) - offFrom b cs t ∧ offFrom b cs (t + 1) - offFrom b cs t ≤ 60 := by
  have := near_pair v t (t + 1) (by omega) (by omega)
  unfold loc
  omega
/-- Shifting: all offsets increased by one number. -/
theorem off_shift (y : Int) : ∀ (cs : List (Int × Int)) (o t : Int), offFrom (o + y) (cs.map fun x => (x.1, x.2 + y)) t = offFrom o cs t + y
  | [], _, _ => rfl
  | (a, f) :: r, o, t => by
    show (if a ≤ t then offFrom (f + y) (r.map fun x => (x.1, x.2 + y)) t else o + y) = (if a ≤ t then offFrom f r t else o) + y
    by_cases h : a ≤ t
    · rw [if_pos h, if_pos h, off_shift y r f t]
    · rw [if_neg h, if_neg h]
/-- A local minute in a window. -/
def inW (f t m : Int) : Bool := if t < f then decide (f ≤ m) || decide (m < t) else decide (f ≤ m) && decide (m < t)
/-- The minutes of a stretch in a window. -/
def win (b : Int) (cs : List (Int × Int)) (lo : Int) (k : Nat) (f t : Int) : Nat := cnt lo (fun s => inW f t (loc b cs s % 1440)) k
theorem win_add (lo : Int) (j k : Nat) (f t : Int) : win b cs lo (j + k) f t = win b cs lo j f t + win b cs (lo + j) k f t := cnt_add _ _ _ _
theorem win_all (lo : Int) (k : Nat) : win b cs lo k 0 1440 = k := by
  have h := cnt_not lo (fun s => inW 0 1440 (loc b cs s % 1440)) k
  have h2 : cnt lo (fun s => !inW 0 1440 (loc b cs s % 1440)) k = 0 := cnt_false _ _ _ (fun s _ _ => by
    have a : 0 ≤ loc b cs s % 1440 := by omega
    have c : loc b cs s % 1440 < 1440 := by omega
    simp only [inW]
    rw [if_neg (by omega), decide_eq_true a, decide_eq_true c]; rfl)
  unfold win
  omega
theorem win_swap (lo : Int) (k : Nat) (f t : Int) (h : f ≠ t) : win b cs lo k f t + win b cs lo k t f = k := by
  have h1 := cnt_not lo (fun s => inW f t (loc b cs s % 1440)) k
  have h2 : cnt lo (fun s => !inW f t (loc b cs s % 1440)) k = cnt lo (fun s => inW t f (loc b cs s % 1440)) k := cnt_congr _ _ (fun s _ _ => by
    generalize loc b cs s % 1440 = m
    unfold inW
    by_cases c : t < f
    · rw [if_pos c, if_neg (by omega)]
      rw [Bool.eq_iff_iff]; simp; omega
    · rw [if_neg c, if_pos (by omega)]
      rw [Bool.eq_iff_iff]; simp; omega)
  unfold win
  omega
end Go.Proofs.Ytdoojpilogcnjaa.Zn
