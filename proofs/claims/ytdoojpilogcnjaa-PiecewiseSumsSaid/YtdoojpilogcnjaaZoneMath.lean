/- Plain mathematics of zones: the offset at a minute, valid zones, at most one change within 2880 minutes, counts of minutes. No condition but those that each names; it speaks of integers and lists alone. -/
set_option linter.unusedVariables false
set_option linter.unusedSimpArgs false
namespace Go.Proofs.Ytdoojpilogcnjaa.Zn
/-- The offset at t, the changes (At, Offset) still to come. -/
def offFrom (o : Int) : List (Int × Int) → Int → Int
  | [], _ => o
  | (a, f) :: r, t => if a ≤ t then offFrom f r t else o
/-- The changes follow one another as in a valid zone; the last one before them was at p, its offset o. -/
def okFrom (p : Int) (o : Int) : List (Int × Int) → Prop
  | [] => True
  | (a, f) :: r => 0 ≤ a ∧ a ≤ 52595999 ∧ p + 2880 ≤ a ∧ -840 ≤ f ∧ f ≤ 840 ∧ f - o ≤ 60 ∧ o - f ≤ 60 ∧ okFrom a f r
/-- A valid zone. -/
def Valid (b : Int) (cs : List (Int × Int)) : Prop := cs.length ≤ 64 ∧ -840 ≤ b ∧ b ≤ 840 ∧ okFrom (-2880) b cs
instance okFromDec : (p o : Int) → (cs : List (Int × Int)) → Decidable (okFrom p o cs)
  | _, _, [] => isTrue trivial
  | p, o, (a, f) :: r => by
    have := okFromDec a f r
    unfold okFrom
    infer_instance
instance (b : Int) (cs : List (Int × Int)) : Decidable (Valid b cs) := by unfold Valid; infer_instance
theorem off_bd (cs : List (Int × Int)) : ∀ (p o t : Int), -840 ≤ o → o ≤ 840 → okFrom p o cs → -840 ≤ offFrom o cs t ∧ offFrom o cs t ≤ 840 := by
  induction cs with
  | nil => intro p o t h0 h1 _; exact ⟨h0, h1⟩
  | cons x r ih =>
    intro p o t h0 h1 h
    obtain ⟨a, f⟩ := x
    obtain ⟨a0, a1, a2, f0, f1, g0, g1, hr⟩ := h
    unfold offFrom
    split
    · exact ih a f t f0 f1 hr
    · exact ⟨h0, h1⟩
/-- All changes to come are after t: the offset is o. -/
theorem off_before (cs : List (Int × Int)) (p o t : Int) (h : okFrom p o cs) (ht : t < p + 2880) : offFrom o cs t = o := by
  cases cs with
  | nil => rfl
  | cons x r =>
    obtain ⟨a, f⟩ := x
    obtain ⟨a0, a1, a2, _⟩ := h
    unfold offFrom
    rw [if_neg (by omega)]
/-- Within 2880 minutes the offset is a step function with at most one step. -/
theorem near (cs : List (Int × Int)) : ∀ (p o t : Int), okFrom p o cs → ∃ a o1 o2 : Int, o2 - o1 ≤ 60 ∧ o1 - o2 ≤ 60 ∧ ∀ s, t ≤ s → s < t + 2880 → offFrom o cs s = if s < a then o1 else o2 := by
  induction cs with
  | nil => intro p o t _; exact ⟨t, o, o, by omega, by omega, fun s _ _ => by simp [offFrom]⟩
  | cons x r ih =>
    intro p o t h
    obtain ⟨a, f⟩ := x
    obtain ⟨a0, a1, a2, f0, f1, g0, g1, hr⟩ := h
    by_cases h1 : a ≤ t
    · obtain ⟨c, o1, o2, d1, d2, hs⟩ := ih a f t hr
      refine ⟨c, o1, o2, d1, d2, fun s s0 s1 => ?_⟩
      unfold offFrom
      rw [if_pos (by omega)]
      exact hs s s0 s1
    · refine ⟨a, o, f, g0, g1, fun s s0 s1 => ?_⟩
      unfold offFrom
      by_cases h2 : a ≤ s
      · rw [if_pos h2, if_neg (by omega)]
        exact off_before r a f s hr (by omega)
      · rw [if_neg h2, if_pos (by omega)]
/-- The local time of t. -/
def loc (b : Int) (cs : List (Int × Int)) (t : Int) : Int := t + offFrom b cs t
theorem near_pair {b : Int} {cs : List (Int × Int)} (v : Valid b cs) (t u : Int) (h0 : t ≤ u) (h1 : u < t + 2880) : offFrom b cs u - offFrom b cs t ≤ 60 ∧ offFrom b cs t - offFrom b cs u ≤ 60 := by
  obtain ⟨a, o1, o2, d1, d2, hs⟩ := near cs (-2880) b t v.2.2.2
  rw [hs t (by omega) (by omega), hs u h0 h1]
  split <;> split <;> omega
theorem bd {b : Int} {cs : List (Int × Int)} (v : Valid b cs) (t : Int) : -840 ≤ offFrom b cs t ∧ offFrom b cs t ≤ 840 := off_bd cs (-2880) b t v.2.1 v.2.2.1 v.2.2.2
/-- Where local times are n to n + 1439, and what they are there: two pieces of constant offset. -/
theorem day_step {b : Int} {cs : List (Int × Int)} (v : Valid b cs) (n : Int) : ∃ a o1 o2 c : Int, o2 - o1 ≤ 60 ∧ o1 - o2 ≤ 60 ∧ o1 - c ≤ 60 ∧ c - o1 ≤ 60 ∧ o2 - c ≤ 60 ∧ c - o2 ≤ 60 ∧ -840 ≤ c ∧ c ≤ 840 ∧
    (∀ s, n - c - 60 ≤ s → s < n - c + 1500 → offFrom b cs s = if s < a then o1 else o2) ∧ (∀ s, n ≤ loc b cs s → loc b cs s < n + 1440 → n - c - 60 ≤ s ∧ s < n - c + 1500) := by
  have hc := bd v n
  have hclose : ∀ s, n - 1000 ≤ s → s < n + 2800 → offFrom b cs s - offFrom b cs n ≤ 60 ∧ offFrom b cs n - offFrom b cs s ≤ 60 := fun s s0 s1 => by
    by_cases h : n ≤ s
    · exact near_pair v n s h (by omega)
    · have := near_pair v s n (by omega) (by omega); omega
  obtain ⟨a, o1, o2, d1, d2, hs⟩ := near cs (-2880) b (n - offFrom b cs n - 60) v.2.2.2
  generalize hcc : offFrom b cs n = c at *
  have hloc : ∀ s, n ≤ loc b cs s → loc b cs s < n + 1440 → n - c - 60 ≤ s ∧ s < n - c + 1500 := fun s h0 h1 => by
    have := bd v s
    unfold loc at h0 h1
    have := hclose s (by omega) (by omega)
    omega
  have hst : ∀ s, n - c - 60 ≤ s → s < n - c + 1500 → offFrom b cs s = if s < a then o1 else o2 := fun s h0 h1 => hs s h0 (by omega)
  -- a step outside the piece is none
  by_cases ha : a ≤ n - c - 60
  · refine ⟨a, o2, o2, c, by omega, by omega, ?_, ?_, ?_, ?_, hc.1, hc.2, fun s h0 h1 => ?_, hloc⟩
    all_goals first
      | (have h := hst (n - c) (by omega) (by omega); have h2 := hclose (n - c) (by omega) (by omega); rw [h, if_neg (by omega)] at h2; omega)
      | (rw [hst s h0 h1, if_neg (by omega), if_neg (by omega)])
  · by_cases hb : n - c + 1500 ≤ a
    · refine ⟨a, o1, o1, c, by omega, by omega, ?_, ?_, ?_, ?_, hc.1, hc.2, fun s h0 h1 => ?_, hloc⟩
      all_goals first
        | (have h := hst (n - c) (by omega) (by omega); have h2 := hclose (n - c) (by omega) (by omega); rw [h, if_pos (by omega)] at h2; omega)
        | (rw [hst s h0 h1, if_pos (by omega), if_pos (by omega)])
    · have e1 := hst (n - c - 60) (by omega) (by omega)
      have c1 := hclose (n - c - 60) (by omega) (by omega)
      have e2 := hst (n - c + 1499) (by omega) (by omega)
      have c2 := hclose (n - c + 1499) (by omega) (by omega)
      rw [e1, if_pos (by omega)] at c1
      rw [e2, if_neg (by omega)] at c2
      exact ⟨a, o1, o2, c, d1, d2, by omega, by omega, by omega, by omega, hc.1, hc.2, hst, hloc⟩
/-- How many of the k numbers from lo on meet p. -/
def cnt (lo : Int) (p : Int → Bool) : Nat → Nat
  | 0 => 0
  | k + 1 => cnt lo p k + if p (lo + k) then 1 else 0
theorem cnt_congr (lo : Int) {p q : Int → Bool} : ∀ k : Nat, (∀ s, lo ≤ s → s < lo + k → p s = q s) → cnt lo p k = cnt lo q k
  | 0, _ => rfl
  | k + 1, h => by
    unfold cnt
    rw [cnt_congr lo k (fun s s0 s1 => h s s0 (by omega)), h (lo + k) (by omega) (by omega)]
theorem cnt_false (lo : Int) (p : Int → Bool) : ∀ k : Nat, (∀ s, lo ≤ s → s < lo + k → p s = false) → cnt lo p k = 0
  | 0, _ => rfl
  | k + 1, h => by
    unfold cnt
    rw [cnt_false lo p k (fun s s0 s1 => h s s0 (by omega)), h (lo + k) (by omega) (by omega)]; rfl
theorem cnt_add (lo : Int) (p : Int → Bool) (j : Nat) : ∀ k : Nat, cnt lo p (j + k) = cnt lo p j + cnt (lo + j) p k
  | 0 => rfl
  | k + 1 => by
    show cnt lo p (j + k) + _ = _
    rw [cnt_add lo p j k]
    show cnt lo p j + cnt (lo + j) p k + (if p (lo + ((j + k : Nat) : Int)) = true then 1 else 0) = cnt lo p j + (cnt (lo + j) p k + if p (lo + j + k) = true then 1 else 0)
    rw [show lo + ((j + k : Nat) : Int) = lo + j + k by omega]
    omega
/-- The numbers of an interval, counted. -/
theorem cnt_interval (lo x y : Int) : ∀ k : Nat, (cnt lo (fun s => decide (x ≤ s ∧ s < y)) k : Int) = max 0 (min y (lo + k) - max x lo)
  | 0 => by simp [cnt]; omega
  | k + 1 => by
    have ih := cnt_interval lo x y k
    unfold cnt
    by_cases h : x ≤ lo + k ∧ lo + k < y
    · simp only [decide_eq_true h, if_true]
      omega
    · simp only [decide_eq_false h]
      simp only [Bool.false_eq_true, if_false]
      omega
theorem cnt_or (lo : Int) (p q : Int → Bool) (h : ∀ s, ¬ (p s = true ∧ q s = true)) : ∀ k : Nat, cnt lo (fun s => p s || q s) k = cnt lo p k + cnt lo q k
  | 0 => rfl
  | k + 1 => by
    unfold cnt
    rw [cnt_or lo p q h k]
    have := h (lo + k)
    cases hp : p (lo + k) <;> cases hq : q (lo + k) <;> simp_all <;> omega
theorem cnt_not (lo : Int) (p : Int → Bool) : ∀ k : Nat, cnt lo p k + cnt lo (fun s => !p s) k = k
  | 0 => rfl
  | k + 1 => by
    have := cnt_not lo p k
    unfold cnt
    cases hp : p (lo + k) <;> simp <;> omega
theorem cnt_le (lo : Int) (p : Int → Bool) : ∀ k : Nat, cnt lo p k ≤ k
  | 0 => Nat.le_refl _
  | k + 1 => by
    have := cnt_le lo p k
    unfold cnt
    split <;> omega
/-- A sum over numbers below m. -/
def sumTo (f : Nat → Nat) : Nat → Nat
  | 0 => 0
  | m + 1 => sumTo f m + f m
theorem sumTo_congr {f g : Nat → Nat} : ∀ m : Nat, (∀ i, i < m → f i = g i) → sumTo f m = sumTo g m
  | 0, _ => rfl
  | m + 1, h => by unfold sumTo; rw [sumTo_congr m (fun i hi => h i (by omega)), h m (by omega)]
theorem sumTo_add (f g : Nat → Nat) : ∀ m : Nat, sumTo (fun i => f i + g i) m = sumTo f m + sumTo g m
  | 0 => rfl
  | m + 1 => by unfold sumTo; rw [sumTo_add f g m]; omega
theorem sumTo_one (v : Int) (n : Int) : ∀ m : Nat, sumTo (fun i => if v = n + i then 1 else 0) m = if n ≤ v ∧ v < n + m then 1 else 0
  | 0 => by
    unfold sumTo
    rw [if_neg (by omega)]
  | m + 1 => by
    unfold sumTo
    rw [sumTo_one v n m]
    by_cases h1 : v = n + m
    · rw [if_neg (by omega), if_pos h1, if_pos (by omega)]
    · rw [if_neg h1]
      by_cases h2 : n ≤ v ∧ v < n + m
      · rw [if_pos h2, if_pos (by omega)]
      · rw [if_neg h2, if_neg (by omega)]
/-- The minutes of a day, minute by minute, are those of the day. -/
theorem sumTo_zero : ∀ m : Nat, sumTo (fun _ => 0) m = 0
  | 0 => rfl
  | m + 1 => by unfold sumTo; rw [sumTo_zero m]
theorem cnt_minutes (lo : Int) (g : Int → Int) (e : Int → Bool) (n : Int) (m : Nat) : ∀ k : Nat, sumTo (fun i => cnt lo (fun s => e s && decide (g s = n + i)) k) m = cnt lo (fun s => e s && decide (n ≤ g s ∧ g s < n + m)) k
  | 0 => sumTo_zero m
  | k + 1 => by
    show sumTo (fun i => cnt lo (fun s => e s && decide (g s = n + i)) k + if (e (lo + k) && decide (g (lo + k) = n + i)) = true then 1 else 0) m = _
    rw [sumTo_add, cnt_minutes lo g e n m k]
    show _ = cnt lo _ k + if (e (lo + k) && decide (n ≤ g (lo + k) ∧ g (lo + k) < n + m)) = true then 1 else 0
    congr 1
    cases e (lo + k) with
    | false =>
      simp only [Bool.false_and, Bool.false_eq_true, if_false]
      exact sumTo_zero m
    | true =>
      simp only [Bool.true_and, decide_eq_true_eq]
      exact sumTo_one (g (lo + k)) n m
end Go.Proofs.Ytdoojpilogcnjaa.Zn
