/- What the exported functions of package calendar return, each for all of its arguments (numbers): contracts of Weekday, Month, First, Date, Later and Day. Condition: the table of the days before each month holds what its initialiser lays. -/
import Derived.Test.YtckmilhdnljjkaaDoorCalWalk
namespace Go.Proofs.YtckmilhdnljjkaaDoor.Cal
open Go.RowKit
theorem ret_two {k : IntKind} {a b : Int} {v : Value} (h : a = b) : Ending.returned (.tuple #[.int k a, v]) = .returned (.tuple #[.int k b, v]) := by rw [h]
theorem weekday_in (d : Int) (w : World) (h0 : 0 ≤ d) (h1 : d ≤ 36524) :
    Calls Tryd.prog 15 #[.int .i64 d] w fun e w' => e = .returned (.int .i64 ((d + 5) % 7 + 1)) ∧ w = w' := by
  go_enter Tryd.func15, Tryd.ntmps15
  go_wp2_with (first
    | (go_at_call 29; refine (isDay_yes _ _ h0 h1).mono ?_; rintro e w' ⟨rfl, rfl⟩))
  go_ret
  exact ⟨rfl, rfl⟩
theorem weekday_out (d : Int) (w : World) (h : d < 0 ∨ 36524 < d) :
    Calls Tryd.prog 15 #[.int .i64 d] w fun e w' => e = .returned (.int .i64 0) ∧ w = w' := by
  go_enter Tryd.func15, Tryd.ntmps15
  go_wp2_with (first
    | (go_at_call 29; refine (isDay_no _ _ h).mono ?_; rintro e w' ⟨rfl, rfl⟩))
  go_ret
  exact ⟨rfl, rfl⟩
theorem month_in (d : Int) (w : World) (h0 : 0 ≤ d) (h1 : d ≤ 36524) (hT : HasTab w) :
    Calls Tryd.prog 17 #[.int .i64 d] w fun e w' => e = .returned (.int .i64 (mo d)) ∧ w = w' := by
  go_enter Tryd.func17, Tryd.ntmps17
  go_wp2_with (first
    | (go_at_call 29; refine (isDay_yes _ _ h0 h1).mono ?_; rintro e w' ⟨rfl, rfl⟩)
    | (go_at_call 30; refine (locate_any _ _ h0 h1 hT).mono ?_; rintro e w' ⟨rfl, rfl⟩))
  go_ret
  exact ⟨rfl, rfl⟩
theorem month_out (d : Int) (w : World) (h : d < 0 ∨ 36524 < d) :
    Calls Tryd.prog 17 #[.int .i64 d] w fun e w' => e = .returned (.int .i64 (-1)) ∧ w = w' := by
  go_enter Tryd.func17, Tryd.ntmps17
  go_wp2_with (first
    | (go_at_call 29; refine (isDay_no _ _ h).mono ?_; rintro e w' ⟨rfl, rfl⟩))
  go_ret
  exact ⟨rfl, rfl⟩
theorem first_in (m : Int) (w : World) (h0 : 0 ≤ m) (h1 : m ≤ 1199) (hT : HasTab w) :
    Calls Tryd.prog 21 #[.int .i64 m] w fun e w' => e = .returned (.int .i64 (beg m)) ∧ w = w' := by
  go_enter Tryd.func21, Tryd.ntmps21
  go_wp2_with (first
    | (go_at_call 36; refine (isMonth_yes _ _ h0 h1).mono ?_; rintro e w' ⟨rfl, rfl⟩)
    | (go_at_call 32; refine (begin_any _ _ h0 (by omega) hT).mono ?_; rintro e w' ⟨rfl, rfl⟩))
  go_ret
  exact ⟨rfl, rfl⟩
theorem first_out (m : Int) (w : World) (h : m < 0 ∨ 1199 < m) :
    Calls Tryd.prog 21 #[.int .i64 m] w fun e w' => e = .returned (.int .i64 (-1)) ∧ w = w' := by
  go_enter Tryd.func21, Tryd.ntmps21
  go_wp2_with (first
    | (go_at_call 36; refine (isMonth_no _ _ h).mono ?_; rintro e w' ⟨rfl, rfl⟩))
  go_ret
  exact ⟨rfl, rfl⟩
theorem date_in (d : Int) (w : World) (h0 : 0 ≤ d) (h1 : d ≤ 36524) (hT : HasTab w) :
    Calls Tryd.prog 11 #[.int .i64 d] w fun e w' => e = .returned (.tuple #[.int .i64 (2000 + mo d / 12), .int .i64 (mo d % 12 + 1), .int .i64 (dm d + 1)]) ∧ w = w' := by
  have hf := mo_facts d h0 h1
  obtain ⟨f0, f1, f2, f3, f4, f5, f6⟩ := hf
  clear f3 f5 f6
  go_enter Tryd.func11, Tryd.ntmps11
  go_wp2_with (first
    | (go_at_call 29; refine (isDay_yes _ _ h0 h1).mono ?_; rintro e w' ⟨rfl, rfl⟩)
    | (go_at_call 30; refine (locate_any _ _ h0 h1 hT).mono ?_; rintro e w' ⟨rfl, rfl⟩))
  go_ret3
  exact ⟨rfl, rfl⟩
theorem date_out (d : Int) (w : World) (h : d < 0 ∨ 36524 < d) :
    Calls Tryd.prog 11 #[.int .i64 d] w fun e w' => e = .returned (.tuple #[.int .i64 0, .int .i64 0, .int .i64 0]) ∧ w = w' := by
  go_enter Tryd.func11, Tryd.ntmps11
  go_wp2_with (first
    | (go_at_call 29; refine (isDay_no _ _ h).mono ?_; rintro e w' ⟨rfl, rfl⟩))
  go_ret3
  exact ⟨rfl, rfl⟩
theorem later_out (d k : Int) (w : World) (h : d < 0 ∨ 36524 < d) :
    Calls Tryd.prog 13 #[.int .i64 d, .int .i64 k] w fun e w' => e = .returned (.tuple #[.int .i64 0, .int .i64 21]) ∧ w = w' := by
  go_enter Tryd.func13, Tryd.ntmps13
  go_wp2_with (first
    | (go_at_call 29; refine (isDay_no _ _ h).mono ?_; rintro e w' ⟨rfl, rfl⟩))
  go_ret2
  exact ⟨rfl, rfl⟩
set_option maxHeartbeats 400000 in
theorem later_far (d k : Int) (w : World) (h0 : 0 ≤ d) (h1 : d ≤ 36524) (h : k < - mo d ∨ 1199 - mo d < k) (hT : HasTab w) :
    Calls Tryd.prog 13 #[.int .i64 d, .int .i64 k] w fun e w' => e = .returned (.tuple #[.int .i64 0, .int .i64 21]) ∧ w = w' := by
  have hf := mo_facts d h0 h1
  obtain ⟨f0, f1, f2, f3, f4, f5, f6⟩ := hf
  clear f3 f5 f6
  by_cases hk : k < - mo d
  · go_enter Tryd.func13, Tryd.ntmps13
    go_wp2_with (first
      | (go_at_call 29; refine (isDay_yes _ _ h0 h1).mono ?_; rintro e w' ⟨rfl, rfl⟩)
      | (go_at_call 30; refine (locate_any _ _ h0 h1 hT).mono ?_; rintro e w' ⟨rfl, rfl⟩))
    go_ret2
    exact ⟨rfl, rfl⟩
  · have hk2 : 1199 - mo d < k := by omega
    clear h
    go_enter Tryd.func13, Tryd.ntmps13
    go_wp2_with (first
      | (go_at_call 29; refine (isDay_yes _ _ h0 h1).mono ?_; rintro e w' ⟨rfl, rfl⟩)
      | (go_at_call 30; refine (locate_any _ _ h0 h1 hT).mono ?_; rintro e w' ⟨rfl, rfl⟩))
    go_ret2
    exact ⟨rfl, rfl⟩
set_option maxHeartbeats 400000 in
theorem later_in (d k : Int) (w : World) (h0 : 0 ≤ d) (h1 : d ≤ 36524) (hk0 : 0 ≤ mo d + k) (hk1 : mo d + k ≤ 1199) (hT : HasTab w) :
    Calls Tryd.prog 13 #[.int .i64 d, .int .i64 k] w fun e w' => e = .returned (.tuple #[.int .i64 (beg (mo d + k) + min (dm d) (len (mo d + k) - 1)), .int .i64 0]) ∧ w = w' := by
  have hf := mo_facts d h0 h1
  obtain ⟨f0, f1, f2, f3, f4, f5, f6⟩ := hf
  have hl := len_bd (mo d + k)
  have hb := beg_bd (mo d + k) hk0 (by omega)
  have ha : ¬ k < - mo d := by omega
  have hc : ¬ 1199 - mo d < k := by omega
  clear f3 f5 f6
  go_enter Tryd.func13, Tryd.ntmps13
  go_wp2_with (first
    | (go_at_call 29; refine (isDay_yes _ _ h0 h1).mono ?_; rintro e w' ⟨rfl, rfl⟩)
    | (go_at_call 30; refine (locate_any _ _ h0 h1 hT).mono ?_; rintro e w' ⟨rfl, rfl⟩)
    | (go_at_call 32; refine (begin_any _ _ hk0 (by omega) hT).mono ?_; rintro e w' ⟨rfl, rfl⟩)
    | (go_at_call 23; refine (length_in _ _ hk0 hk1 hT).mono ?_; rintro e w' ⟨rfl, rfl⟩))
  all_goals go_ret2
  all_goals exact ⟨ret_two (by omega), rfl⟩
theorem day_yes (y m d : Int) (w : World) (hy0 : 2000 ≤ y) (hy1 : y ≤ 2099) (hm0 : 1 ≤ m) (hm1 : m ≤ 12) (hd0 : 1 ≤ d) (hd1 : d ≤ len (12 * (y - 2000) + m - 1)) (hT : HasTab w) :
    Calls Tryd.prog 25 #[.int .i64 y, .int .i64 m, .int .i64 d] w fun e w' => e = .returned (.tuple #[.int .i64 (beg (12 * (y - 2000) + m - 1) + d - 1), .int .i64 0]) ∧ w = w' := by
  have hl := len_bd (12 * (y - 2000) + m - 1)
  have hb := beg_bd (12 * (y - 2000) + m - 1) (by omega) (by omega)
  have t1 : decide (y < 2000) = false := decide_eq_false (by omega)
  have t2 : decide (2099 < y) = false := decide_eq_false (by omega)
  have t3 : decide (m < 1) = false := decide_eq_false (by omega)
  have t4 : decide (12 < m) = false := decide_eq_false (by omega)
  have t5 : decide (d < 1) = false := decide_eq_false (by omega)
  have t6 : decide (len (12 * (y - 2000) + m - 1) < d) = false := decide_eq_false (by omega)
  go_enter Tryd.func25, Tryd.ntmps25
  go_wp2_with (first
    | (go_at_call 23; refine (length_in _ _ (by omega) (by omega) hT).mono ?_; rintro e w' ⟨rfl, rfl⟩)
    | (go_at_call 32; refine (begin_any _ _ (by omega) (by omega) hT).mono ?_; rintro e w' ⟨rfl, rfl⟩))
  go_ret2
  exact ⟨rfl, rfl⟩
/-- There is no such date. -/
def NoDate (y m d : Int) : Prop := y < 2000 ∨ 2099 < y ∨ m < 1 ∨ 12 < m ∨ d < 1 ∨ len (12 * (y - 2000) + m - 1) < d
theorem day_no (y m d : Int) (w : World) (h : NoDate y m d) (hT : HasTab w) :
    Calls Tryd.prog 25 #[.int .i64 y, .int .i64 m, .int .i64 d] w fun e w' => e = .returned (.tuple #[.int .i64 0, .int .i64 21]) ∧ w = w' := by
  unfold NoDate at h
  by_cases h1 : y < 2000
  · clear h
    go_enter Tryd.func25, Tryd.ntmps25
    go_wp2
    go_ret2
    exact ⟨rfl, rfl⟩
  have t1 : decide (y < 2000) = false := decide_eq_false h1
  by_cases h2 : 2099 < y
  · clear h
    go_enter Tryd.func25, Tryd.ntmps25
    go_wp2
    go_ret2
    exact ⟨rfl, rfl⟩
  have t2 : decide (2099 < y) = false := decide_eq_false h2
  by_cases h3 : m < 1
  · clear h
    go_enter Tryd.func25, Tryd.ntmps25
    go_wp2
    go_ret2
    exact ⟨rfl, rfl⟩
  have t3 : decide (m < 1) = false := decide_eq_false h3
  by_cases h4 : 12 < m
  · clear h
    go_enter Tryd.func25, Tryd.ntmps25
    go_wp2
    go_ret2
    exact ⟨rfl, rfl⟩
  have t4 : decide (12 < m) = false := decide_eq_false h4
  have hl := len_bd (12 * (y - 2000) + m - 1)
  by_cases h5 : d < 1
  · clear h
    go_enter Tryd.func25, Tryd.ntmps25
    go_wp2
    go_ret2
    exact ⟨rfl, rfl⟩
  have t5 : decide (d < 1) = false := decide_eq_false h5
  have h6 : len (12 * (y - 2000) + m - 1) < d := by omega
  clear h
  go_enter Tryd.func25, Tryd.ntmps25
  go_wp2_with (first
    | (go_at_call 23; refine (length_in _ _ (by omega) (by omega) hT).mono ?_; rintro e w' ⟨rfl, rfl⟩))
  go_ret2
  exact ⟨rfl, rfl⟩
end Go.Proofs.YtckmilhdnljjkaaDoor.Cal
