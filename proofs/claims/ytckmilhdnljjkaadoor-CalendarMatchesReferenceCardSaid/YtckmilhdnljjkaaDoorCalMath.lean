/- Plain mathematics of the calendar 2000 to 2099: days before a month, lengths of months, the month of a day. Conditions: none; it speaks of integers alone. -/
namespace Go.Proofs.YtckmilhdnljjkaaDoor.Cal
/-- The days before month m (0 to 11) of a common year. -/
def tab (m : Int) : Int :=
  if m < 1 then 0 else if m < 2 then 31 else if m < 3 then 59 else if m < 4 then 90 else if m < 5 then 120 else if m < 6 then 151 else
  if m < 7 then 181 else if m < 8 then 212 else if m < 9 then 243 else if m < 10 then 273 else if m < 11 then 304 else 334
/-- The days before month m. -/
def beg (m : Int) : Int := 365 * (m / 12) + tab (m % 12) + (m + 46) / 48
/-- The days of month m. -/
def len (m : Int) : Int := beg (m + 1) - beg m
theorem tab_bd (m : Int) : 0 ≤ tab m ∧ tab m ≤ 334 := by unfold tab; omega
theorem beg_bd (m : Int) (h0 : 0 ≤ m) (h1 : m ≤ 1200) : 0 ≤ beg m ∧ beg m ≤ 40000 := by
  have := tab_bd (m % 12); unfold beg; omega
theorem beg_zero : beg 0 = 0 := by decide
theorem beg_last : beg 1200 = 36525 := by decide
theorem len_bd (m : Int) : 28 ≤ len m ∧ len m ≤ 31 := by
  unfold len beg tab; omega
theorem beg_cycle (m : Int) (c : Int) : beg (48 * c + m) = 1461 * c + beg m := by
  unfold beg
  have : (48 * c + m) % 12 = m % 12 := by omega
  rw [this]; omega
theorem beg_succ (m : Int) : beg (m + 1) = beg m + len m := by unfold len; omega
theorem beg_le_nat (a : Int) (h0 : 0 ≤ a) : ∀ k : Nat, beg a + 28 * k ≤ beg (a + k)
  | 0 => by simp
  | k + 1 => by
    have := beg_le_nat a h0 k
    have h2 := (len_bd (a + k)).1
    have h3 := beg_succ (a + k)
    have e : a + ((k + 1 : Nat) : Int) = a + k + 1 := by omega
    rw [e, h3]; omega
theorem beg_le (a b : Int) (h0 : 0 ≤ a) (h : a ≤ b) : beg a + 28 * (b - a) ≤ beg b := by
  have := beg_le_nat a h0 (b - a).toNat
  have e : a + ((b - a).toNat : Int) = b := by omega
  rw [e] at this; omega
/-- Day d lies in month m. -/
def IsLoc (d m : Int) : Prop := 0 ≤ m ∧ m ≤ 1199 ∧ beg m ≤ d ∧ d < beg (m + 1)
theorem loc_unique {d a b : Int} (ha : IsLoc d a) (hb : IsLoc d b) : a = b := by
  obtain ⟨a0, a1, a2, a3⟩ := ha
  obtain ⟨b0, b1, b2, b3⟩ := hb
  by_cases h : a < b
  · have := beg_le (a + 1) b (by omega) (by omega); omega
  · by_cases h2 : b < a
    · have := beg_le (b + 1) a (by omega) (by omega); omega
    · omega
theorem loc_ex (d : Int) (h0 : 0 ≤ d) : ∀ k : Nat, k ≤ 1200 → d < beg k → ∃ m, IsLoc d m
  | 0, _, h => by rw [show ((0 : Nat) : Int) = 0 from rfl, beg_zero] at h; omega
  | k + 1, hk, h => by
    by_cases h2 : d < beg k
    · exact loc_ex d h0 k (by omega) h2
    · exact ⟨k, by omega, by omega, by omega, by simpa using h⟩
open Classical in
/-- The month of a day; -1 where there is none. -/
noncomputable def mo (d : Int) : Int := if h : ∃ m, IsLoc d m then h.choose else -1
theorem mo_of {d m : Int} (h : IsLoc d m) : mo d = m := by
  have e : ∃ m, IsLoc d m := ⟨m, h⟩
  unfold mo; rw [dif_pos e]; exact loc_unique e.choose_spec h
theorem mo_loc (d : Int) (h0 : 0 ≤ d) (h1 : d ≤ 36524) : IsLoc d (mo d) := by
  obtain ⟨m, hm⟩ := loc_ex d h0 1200 (by omega) (by rw [show ((1200 : Nat) : Int) = 1200 from rfl, beg_last]; omega)
  rw [mo_of hm]; exact hm
/-- The day of the month less one. -/
noncomputable def dm (d : Int) : Int := d - beg (mo d)
theorem mo_facts (d : Int) (h0 : 0 ≤ d) (h1 : d ≤ 36524) : 0 ≤ mo d ∧ mo d ≤ 1199 ∧ 0 ≤ dm d ∧ dm d < len (mo d) ∧ dm d ≤ 30 ∧ beg (mo d) + dm d = d ∧ beg (mo d) ≤ d := by
  obtain ⟨a, b, c, e⟩ := mo_loc d h0 h1
  have := beg_succ (mo d)
  have := len_bd (mo d)
  unfold dm; omega
theorem mo_mk {m b : Int} (h0 : 0 ≤ m) (h1 : m ≤ 1199) (hb0 : 0 ≤ b) (hb : b < len m) : mo (beg m + b) = m ∧ dm (beg m + b) = b := by
  have e := beg_succ m
  have := mo_of (d := beg m + b) (m := m) ⟨h0, h1, by omega, by omega⟩
  exact ⟨this, by unfold dm; rw [this]; omega⟩
theorem day_bd {m b : Int} (h0 : 0 ≤ m) (h1 : m ≤ 1199) (hb0 : 0 ≤ b) (hb : b < len m) : 0 ≤ beg m + b ∧ beg m + b ≤ 36524 := by
  have e := beg_succ m
  have h2 := beg_le (m + 1) 1200 (by omega) (by omega)
  have h3 := beg_bd m h0 (by omega)
  rw [beg_last] at h2; omega
theorem mo_lt {a b : Int} (ha0 : 0 ≤ a) (ha : a ≤ 36524) (hb0 : 0 ≤ b) (hb : b ≤ 36524) (h : mo a < mo b) : a < b := by
  obtain ⟨a0, a1, a2, a3⟩ := mo_loc a ha0 ha
  obtain ⟨b0, b1, b2, b3⟩ := mo_loc b hb0 hb
  have := beg_le (mo a + 1) (mo b) (by omega) (by omega)
  omega
/-- Between the days 0 and 36524. -/
def inDay (d : Int) : Prop := 0 ≤ d ∧ d ≤ 36524
/-- Between the months 0 and 1199. -/
def inMonth (m : Int) : Prop := 0 ≤ m ∧ m ≤ 1199
end Go.Proofs.YtckmilhdnljjkaaDoor.Cal
