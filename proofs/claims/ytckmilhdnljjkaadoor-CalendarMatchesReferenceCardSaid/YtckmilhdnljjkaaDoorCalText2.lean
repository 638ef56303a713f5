/- The texts of days: their order, their form, and what Parse makes of them. Condition: the calendar's tables hold what their initialisers lay. -/
import Derived.Test.YtckmilhdnljjkaaDoorCalPick
namespace Go.Proofs.YtckmilhdnljjkaaDoor.Cal
open Go.RowKit Go.Sort Go.PlainAid
theorem dig_lt (i j : Int) (a0 : 0 ≤ i) (a1 : i ≤ 9) (b0 : 0 ≤ j) (b1 : j ≤ 9) : decide (dig i < dig j) = decide (i < j) := by
  have h1 := dig_nat i a0 a1
  have h2 := dig_nat j b0 b1
  rw [Bool.eq_iff_iff]; simp only [decide_eq_true_eq, UInt8.lt_iff_toNat_lt]; omega
theorem dig_eq (i j : Int) (a0 : 0 ≤ i) (a1 : i ≤ 9) (b0 : 0 ≤ j) (b1 : j ≤ 9) : (dig i == dig j) = decide (i = j) := by
  have h1 := dig_nat i a0 a1
  have h2 := dig_nat j b0 b1
  rw [Bool.eq_iff_iff]; simp only [beq_iff_eq, decide_eq_true_eq]
  exact ⟨fun h => by rw [h] at h1; omega, fun h => by rw [h]⟩
/-- The text's digits, as a list. -/
theorem txt_list (y m d : Int) : (txt y m d).toList = [50, 48, dig ((y - 2000) / 10), dig ((y - 2000) % 10), 45, dig (m / 10), dig (m % 10), 45, dig (d / 10), dig (d % 10)] := by
  rw [Lib.toList_data]; rfl
theorem less_same (a : UInt8) (x y : List UInt8) : Op.bytesLess (a :: x) (a :: y) = Op.bytesLess x y := by
  have h : decide (a < a) = false := by simp
  simp [Op.bytesLess]
theorem less_dig (i j : Int) (x y : List UInt8) (a0 : 0 ≤ i) (a1 : i ≤ 9) (b0 : 0 ≤ j) (b1 : j ≤ 9) :
    Op.bytesLess (dig i :: x) (dig j :: y) = (decide (i < j) || (decide (i = j) && Op.bytesLess x y)) := by
  rw [← dig_lt i j a0 a1 b0 b1, ← dig_eq i j a0 a1 b0 b1]; rfl
theorem less_nil : Op.bytesLess [] [] = false := rfl
theorem list_dig (i j : Int) (x y : List UInt8) (a0 : 0 ≤ i) (a1 : i ≤ 9) (b0 : 0 ≤ j) (b1 : j ≤ 9) : ((dig i :: x) == (dig j :: y)) = (decide (i = j) && (x == y)) := by
  rw [← dig_eq i j a0 a1 b0 b1]; rfl
theorem list_same (a : UInt8) (x y : List UInt8) : ((a :: x) == (a :: y)) = (x == y) := by
  simp
theorem order_iff (n k : Int) (n0 : 0 ≤ n) (n1 : n ≤ 36524) (k0 : 0 ≤ k) (k1 : k ≤ 36524) :
    (n < k ↔ mo n < mo k ∨ mo n = mo k ∧ dm n < dm k) ∧ (n = k ↔ mo n = mo k ∧ dm n = dm k) := by
  obtain ⟨a0, a1, a2, a3, a4, a5, a6⟩ := mo_facts n n0 n1
  obtain ⟨b0, b1, b2, b3, b4, b5, b6⟩ := mo_facts k k0 k1
  have h1 : mo n < mo k → n < k := mo_lt n0 n1 k0 k1
  have h2 : mo k < mo n → k < n := mo_lt k0 k1 n0 n1
  have h3 : mo n = mo k → beg (mo n) = beg (mo k) := fun h => by rw [h]
  by_cases h : mo n = mo k
  · have := h3 h; constructor <;> omega
  · by_cases h' : mo n < mo k
    · have := h1 h'; constructor <;> omega
    · have := h2 (by omega); constructor <;> omega
set_option maxHeartbeats 1000000 in
theorem text_less (n k : Int) (n0 : 0 ≤ n) (n1 : n ≤ 36524) (k0 : 0 ≤ k) (k1 : k ≤ 36524) : Op.bytesLess (dtxt n).toList (dtxt k).toList = decide (n < k) := by
  obtain ⟨a0, a1, a2, a3, a4, a5, a6⟩ := mo_facts n n0 n1
  obtain ⟨b0, b1, b2, b3, b4, b5, b6⟩ := mo_facts k k0 k1
  have h := (order_iff n k n0 n1 k0 k1).1
  unfold dtxt
  rw [txt_list, txt_list]
  rw [less_same, less_same, less_dig _ _ _ _ (by omega) (by omega) (by omega) (by omega), less_dig _ _ _ _ (by omega) (by omega) (by omega) (by omega), less_same, less_dig _ _ _ _ (by omega) (by omega) (by omega) (by omega),
    less_dig _ _ _ _ (by omega) (by omega) (by omega) (by omega), less_same, less_dig _ _ _ _ (by omega) (by omega) (by omega) (by omega), less_dig _ _ _ _ (by omega) (by omega) (by omega) (by omega), less_nil]
  clear a3 a5 a6 b3 b5 b6
  generalize mo n = M at *
  generalize mo k = K at *
  generalize dm n = D at *
  generalize dm k = E at *
  rw [Bool.eq_iff_iff]
  simp only [Bool.or_eq_true, Bool.and_eq_true, decide_eq_true_eq, Bool.false_eq_true, and_false, or_false]
  rw [h]
  omega
set_option maxHeartbeats 1000000 in
theorem text_eq (n k : Int) (n0 : 0 ≤ n) (n1 : n ≤ 36524) (k0 : 0 ≤ k) (k1 : k ≤ 36524) : ((dtxt n).toList == (dtxt k).toList) = (n == k) := by
  obtain ⟨a0, a1, a2, a3, a4, a5, a6⟩ := mo_facts n n0 n1
  obtain ⟨b0, b1, b2, b3, b4, b5, b6⟩ := mo_facts k k0 k1
  have h := (order_iff n k n0 n1 k0 k1).2
  unfold dtxt
  rw [txt_list, txt_list]
  rw [list_same, list_same, list_dig _ _ _ _ (by omega) (by omega) (by omega) (by omega), list_dig _ _ _ _ (by omega) (by omega) (by omega) (by omega), list_same, list_dig _ _ _ _ (by omega) (by omega) (by omega) (by omega),
    list_dig _ _ _ _ (by omega) (by omega) (by omega) (by omega), list_same, list_dig _ _ _ _ (by omega) (by omega) (by omega) (by omega), list_dig _ _ _ _ (by omega) (by omega) (by omega) (by omega)]
  clear a3 a5 a6 b3 b5 b6
  generalize mo n = M at *
  generalize mo k = K at *
  generalize dm n = D at *
  generalize dm k = E at *
  rw [Bool.eq_iff_iff]
  simp only [Bool.and_eq_true, decide_eq_true_eq, beq_iff_eq, and_true]
  rw [h]
  omega
theorem text_size (n : Int) : (dtxt n).size = 10 := rfl
theorem dig_bd (n : Int) (h0 : 0 ≤ n) (h1 : n ≤ 9) : 48 ≤ ((dig n).toNat : Int) ∧ ((dig n).toNat : Int) ≤ 57 := by rw [dig_nat n h0 h1]; omega
theorem text_form (n : Int) (n0 : 0 ≤ n) (n1 : n ≤ 36524) : Form (dtxt n) := by
  obtain ⟨a0, a1, a2, a3, a4, a5, a6⟩ := mo_facts n n0 n1
  exact form_mk _ _ _ _ _ _ _ _ _ _ (by decide) (by decide) (dig_bd _ (by omega) (by omega)) (dig_bd _ (by omega) (by omega)) (by decide) (dig_bd _ (by omega) (by omega)) (dig_bd _ (by omega) (by omega)) (by decide) (dig_bd _ (by omega) (by omega)) (dig_bd _ (by omega) (by omega))
theorem text_back (n : Int) (n0 : 0 ≤ n) (n1 : n ≤ 36524) : pY (dtxt n) = 2000 + mo n / 12 ∧ pM (dtxt n) = mo n % 12 + 1 ∧ pD (dtxt n) = dm n + 1 := by
  obtain ⟨a0, a1, a2, a3, a4, a5, a6⟩ := mo_facts n n0 n1
  refine ⟨?_, ?_, ?_⟩
  · show 1000 * (((50 : UInt8).toNat : Int) - 48) + 100 * (((48 : UInt8).toNat : Int) - 48) + 10 * (((dig ((2000 + mo n / 12 - 2000) / 10)).toNat : Int) - 48) + (((dig ((2000 + mo n / 12 - 2000) % 10)).toNat : Int) - 48) = _
    rw [dig_nat _ (by omega) (by omega), dig_nat _ (by omega) (by omega)]
    have e1 : ((50 : UInt8).toNat : Int) = 50 := rfl
    have e2 : ((48 : UInt8).toNat : Int) = 48 := rfl
    rw [e1, e2]; omega
  · show 10 * (((dig ((mo n % 12 + 1) / 10)).toNat : Int) - 48) + (((dig ((mo n % 12 + 1) % 10)).toNat : Int) - 48) = _
    rw [dig_nat _ (by omega) (by omega), dig_nat _ (by omega) (by omega)]; omega
  · show 10 * (((dig ((dm n + 1) / 10)).toNat : Int) - 48) + (((dig ((dm n + 1) % 10)).toNat : Int) - 48) = _
    rw [dig_nat _ (by omega) (by omega), dig_nat _ (by omega) (by omega)]; omega
theorem date_yes (n : Int) (n0 : 0 ≤ n) (n1 : n ≤ 36524) : ¬ NoDate (2000 + mo n / 12) (mo n % 12 + 1) (dm n + 1) ∧ beg (12 * (2000 + mo n / 12 - 2000) + (mo n % 12 + 1) - 1) + (dm n + 1) - 1 = n := by
  obtain ⟨a0, a1, a2, a3, a4, a5, a6⟩ := mo_facts n n0 n1
  have e : 12 * (2000 + mo n / 12 - 2000) + (mo n % 12 + 1) - 1 = mo n := by omega
  unfold NoDate
  rw [e]
  omega
theorem day_back (n : Int) (w : World) (n0 : 0 ≤ n) (n1 : n ≤ 36524) (hT : HasTab w) :
    Calls Tryd.prog 25 #[.int .i64 (2000 + mo n / 12), .int .i64 (mo n % 12 + 1), .int .i64 (dm n + 1)] w fun e w' => e = .returned (.tuple #[.int .i64 n, .int .i64 0]) ∧ w = w' := by
  obtain ⟨h1, h2⟩ := date_yes n n0 n1
  unfold NoDate at h1
  have h := day_yes (2000 + mo n / 12) (mo n % 12 + 1) (dm n + 1) w (by omega) (by omega) (by omega) (by omega) (by omega) (by omega) hT
  rwa [h2] at h
theorem parse_back (n : Int) (w : World) (n0 : 0 ≤ n) (n1 : n ≤ 36524) (hT : HasTab w) :
    Calls Tryd.prog 27 #[.string (dtxt n)] w fun e w' => e = .returned (.tuple #[.int .i64 n, .int .i64 0]) ∧ Below w.heap.size w w' :=
  (parse_any (dtxt n) w (text_form n n0 n1) hT).mono fun _ _ ⟨v, he, hr, k, hw⟩ => by
    subst hw
    obtain ⟨e1, e2, e3⟩ := text_back n n0 n1
    obtain ⟨h1, h2⟩ := date_yes n n0 n1
    unfold pRes at hr
    rw [e1, e2, e3] at hr
    rcases hr with ⟨h, _⟩ | ⟨_, hv⟩
    · exact absurd h h1
    · subst hv
      exact ⟨he.trans (ret_two h2), below_drewN (Below.refl _ _) _⟩
theorem date_of (y m d : Int) (w : World) (h : ¬ NoDate y m d) (hT : HasTab w) :
    Calls Tryd.prog 11 #[.int .i64 (beg (12 * (y - 2000) + m - 1) + d - 1)] w fun e w' => e = .returned (.tuple #[.int .i64 y, .int .i64 m, .int .i64 d]) ∧ w = w' := by
  unfold NoDate at h
  have h1 := mo_mk (m := 12 * (y - 2000) + m - 1) (b := d - 1) (by omega) (by omega) (by omega) (by omega)
  have h2 := day_bd (m := 12 * (y - 2000) + m - 1) (b := d - 1) (by omega) (by omega) (by omega) (by omega)
  rw [show beg (12 * (y - 2000) + m - 1) + (d - 1) = beg (12 * (y - 2000) + m - 1) + d - 1 by omega] at h1 h2
  have h3 := date_in _ w h2.1 h2.2 hT
  rw [h1.1, h1.2, show 2000 + (12 * (y - 2000) + m - 1) / 12 = y by omega, show (12 * (y - 2000) + m - 1) % 12 + 1 = m by omega, show d - 1 + 1 = d by omega] at h3
  exact h3
end Go.Proofs.YtckmilhdnljjkaaDoor.Cal
