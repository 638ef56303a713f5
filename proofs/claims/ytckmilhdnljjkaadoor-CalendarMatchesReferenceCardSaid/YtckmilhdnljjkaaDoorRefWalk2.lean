/- What the reference implementation's Month, Later, Day, Text and Parse return, each for all of its arguments. No condition but the bounds that each names. -/
import Derived.Test.YtckmilhdnljjkaaDoorRefWalk
namespace Go.Proofs.YtckmilhdnljjkaaDoor.Cal
open Go.ChangeShapes Go.WideShapes Go.ChangeAt Go.RowKit Go.Sort Go.PlainAid
/-- The date of a day, as three numbers. -/
theorem date_abs (d : Int) (h0 : 0 ≤ d) (h1 : d ≤ 36524) : ∃ y m : Int, 2000 ≤ y ∧ y ≤ 2099 ∧ 1 ≤ m ∧ m ≤ 12 ∧ y = 2000 + mo d / 12 ∧ m = mo d % 12 + 1 ∧ 12 * (y - 2000) + m - 1 = mo d ∧
    (∀ w, Calls Tryd.prog 12 #[.int .i64 d] w fun e w' => e = .returned (.tuple #[.int .i64 y, .int .i64 m, .int .i64 (dm d + 1)]) ∧ w = w') := by
  obtain ⟨f0, f1, f2, f3, f4, f5, f6⟩ := mo_facts d h0 h1
  exact ⟨_, _, by omega, by omega, by omega, by omega, rfl, rfl, by omega, fun w => rdate_in d w h0 h1⟩
theorem rmonth_in (d : Int) (w : World) (h0 : 0 ≤ d) (h1 : d ≤ 36524) :
    Calls Tryd.prog 18 #[.int .i64 d] w fun e w' => e = .returned (.int .i64 (mo d)) ∧ w = w' := by
  obtain ⟨y, m, y0, y1, m0, m1, -, -, hm, hd⟩ := date_abs d h0 h1
  obtain ⟨f0, f1, f2, f3, f4, f5, f6⟩ := mo_facts d h0 h1
  have HM := Lib.hid hm
  have HD := Lib.hid hd
  clear hm hd f3 f5 f6
  go_enter Tryd.func18, Tryd.ntmps18
  go_wp2_with (first
    | (go_at_call 12; with_reducible refine (HD.out _).mono ?_; rintro e w' ⟨rfl, rfl⟩))
  go_ret
  exact ⟨ret_int (by have := HM.out; omega), rfl⟩
theorem rmonth_out (d : Int) (w : World) (h : d < 0 ∨ 36524 < d) :
    Calls Tryd.prog 18 #[.int .i64 d] w fun e w' => e = .returned (.int .i64 (-1)) ∧ w = w' := by
  go_enter Tryd.func18, Tryd.ntmps18
  go_wp2_with (first
    | (go_at_call 12; with_reducible refine (rdate_out _ _ h).mono ?_; rintro e w' ⟨rfl, rfl⟩))
  go_ret
  exact ⟨rfl, rfl⟩
theorem rlater_out (d k : Int) (w : World) (h : d < 0 ∨ 36524 < d) :
    Calls Tryd.prog 14 #[.int .i64 d, .int .i64 k] w fun e w' => e = .returned (.tuple #[.int .i64 0, .int .i64 21]) ∧ w = w' := by
  go_enter Tryd.func14, Tryd.ntmps14
  go_wp2_with (first
    | (go_at_call 12; with_reducible refine (rdate_out _ _ h).mono ?_; rintro e w' ⟨rfl, rfl⟩))
  go_ret2
  exact ⟨rfl, rfl⟩
set_option maxHeartbeats 1000000 in
theorem rlater_far (d k : Int) (w : World) (h0 : 0 ≤ d) (h1 : d ≤ 36524) (h : mo d + k < 0 ∨ 1199 < mo d + k) :
    Calls Tryd.prog 14 #[.int .i64 d, .int .i64 k] w fun e w' => e = .returned (.tuple #[.int .i64 0, .int .i64 21]) ∧ w = w' := by
  obtain ⟨y, m, y0, y1, m0, m1, -, -, hm, hd⟩ := date_abs d h0 h1
  obtain ⟨f0, f1, f2, f3, f4, f5, f6⟩ := mo_facts d h0 h1
  have HM := Lib.hid hm
  have HD := Lib.hid hd
  have ty : (y == 0) = false := by simp; omega
  by_cases ha : k < -1199
  · clear hm hd f3 f5 f6 h
    go_enter Tryd.func14, Tryd.ntmps14
    go_wp2_with (first
      | (go_at_call 12; with_reducible refine (HD.out _).mono ?_; rintro e w' ⟨rfl, rfl⟩))
    go_ret2
    exact ⟨rfl, rfl⟩
  · have ta : decide (k < -1199) = false := decide_eq_false ha
    by_cases hb : 1199 < k
    · clear hm hd f3 f5 f6 h
      go_enter Tryd.func14, Tryd.ntmps14
      go_wp2_with (first
        | (go_at_call 12; with_reducible refine (HD.out _).mono ?_; rintro e w' ⟨rfl, rfl⟩))
      go_ret2
      exact ⟨rfl, rfl⟩
    · have tb : decide (1199 < k) = false := decide_eq_false hb
      by_cases hc : (y - 2000) * 12 + m - 1 + k < 0
      · clear hm hd f3 f5 f6 h
        go_enter Tryd.func14, Tryd.ntmps14
        go_wp2_with (first
          | (go_at_call 12; with_reducible refine (HD.out _).mono ?_; rintro e w' ⟨rfl, rfl⟩))
        go_ret2
        exact ⟨rfl, rfl⟩
      · have tc : decide ((y - 2000) * 12 + m - 1 + k < 0) = false := decide_eq_false hc
        have td : 1199 < (y - 2000) * 12 + m - 1 + k := by omega
        clear hm hd f3 f5 f6 h
        go_enter Tryd.func14, Tryd.ntmps14
        go_wp2_with (first
          | (go_at_call 12; with_reducible refine (HD.out _).mono ?_; rintro e w' ⟨rfl, rfl⟩))
        go_ret2
        exact ⟨rfl, rfl⟩
set_option maxHeartbeats 1000000 in
theorem rlater_in (d k : Int) (w : World) (h0 : 0 ≤ d) (h1 : d ≤ 36524) (hk0 : 0 ≤ mo d + k) (hk1 : mo d + k ≤ 1199) :
    Calls Tryd.prog 14 #[.int .i64 d, .int .i64 k] w fun e w' => e = .returned (.tuple #[.int .i64 (beg (mo d + k) + min (dm d) (len (mo d + k) - 1)), .int .i64 0]) ∧ w = w' := by
  obtain ⟨y, m, y0, y1, m0, m1, -, -, hm, hd⟩ := date_abs d h0 h1
  obtain ⟨f0, f1, f2, f3, f4, f5, f6⟩ := mo_facts d h0 h1
  have HM := Lib.hid hm
  have HD := Lib.hid hd
  have ty : (y == 0) = false := by simp; omega
  have ta : decide (k < -1199) = false := decide_eq_false (by omega)
  have tb : decide (1199 < k) = false := decide_eq_false (by omega)
  have tc : decide ((y - 2000) * 12 + m - 1 + k < 0) = false := decide_eq_false (by omega)
  have td : decide (1199 < (y - 2000) * 12 + m - 1 + k) = false := decide_eq_false (by omega)
  have c0 : 0 ≤ (y - 2000) * 12 + m - 1 + k := by omega
  have c1 : (y - 2000) * 12 + m - 1 + k ≤ 1199 := by omega
  have hl := len_bd ((y - 2000) * 12 + m - 1 + k)
  have hb := beg_bd ((y - 2000) * 12 + m - 1 + k) c0 (by omega)
  clear hm hd f3 f5 f6
  go_enter Tryd.func14, Tryd.ntmps14
  go_wp2_with (first
    | (go_at_call 12; with_reducible refine (HD.out _).mono ?_; rintro e w' ⟨rfl, rfl⟩)
    | (go_at_call 22; with_reducible refine (rfirst_in _ _ c0 c1).mono ?_; rintro e w' ⟨rfl, rfl⟩)
    | (go_at_call 24; with_reducible refine (rlength_in _ _ c0 c1).mono ?_; rintro e w' ⟨rfl, rfl⟩))
  all_goals go_ret2
  all_goals exact ⟨ret_two (by rw [← show (y - 2000) * 12 + m - 1 + k = mo d + k by have := HM.out; omega]; omega), rfl⟩
theorem rday_yes (y m d : Int) (w : World) (hy0 : 2000 ≤ y) (hy1 : y ≤ 2099) (hm0 : 1 ≤ m) (hm1 : m ≤ 12) (hd0 : 1 ≤ d) (hd1 : d ≤ len (12 * (y - 2000) + m - 1)) :
    Calls Tryd.prog 26 #[.int .i64 y, .int .i64 m, .int .i64 d] w fun e w' => e = .returned (.tuple #[.int .i64 (beg (12 * (y - 2000) + m - 1) + d - 1), .int .i64 0]) ∧ w = w' := by
  have hl := len_bd (12 * (y - 2000) + m - 1)
  have hb := beg_bd ((y - 2000) * 12 + m - 1) (by omega) (by omega)
  have t1 : decide (y < 2000) = false := decide_eq_false (by omega)
  have t2 : decide (2099 < y) = false := decide_eq_false (by omega)
  have t3 : decide (m < 1) = false := decide_eq_false (by omega)
  have t4 : decide (12 < m) = false := decide_eq_false (by omega)
  have t5 : decide (d < 1) = false := decide_eq_false (by omega)
  have t6 : decide (len (12 * (y - 2000) + m - 1) < d) = false := decide_eq_false (by omega)
  go_enter Tryd.func26, Tryd.ntmps26
  go_wp2_with (first
    | (go_at_call 31; with_reducible refine (days_any _ _ _ hy0 hy1 hm0 hm1).mono ?_; rintro e w' ⟨rfl, rfl⟩)
    | (go_at_call 22; with_reducible refine (rfirst_in _ _ ?ha ?hb2).mono ?_; (case ha => omega); (case hb2 => omega); rintro e w' ⟨rfl, rfl⟩))
  go_ret2
  exact ⟨ret_two (by rw [show (y - 2000) * 12 + m - 1 = 12 * (y - 2000) + m - 1 by omega]), rfl⟩
theorem rday_no (y m d : Int) (w : World) (h : NoDate y m d) :
    Calls Tryd.prog 26 #[.int .i64 y, .int .i64 m, .int .i64 d] w fun e w' => e = .returned (.tuple #[.int .i64 0, .int .i64 21]) ∧ w = w' := by
  unfold NoDate at h
  by_cases h1 : y < 2000
  · clear h
    go_enter Tryd.func26, Tryd.ntmps26
    go_wp2
    go_ret2
    exact ⟨rfl, rfl⟩
  have t1 : decide (y < 2000) = false := decide_eq_false h1
  by_cases h2 : 2099 < y
  · clear h
    go_enter Tryd.func26, Tryd.ntmps26
    go_wp2
    go_ret2
    exact ⟨rfl, rfl⟩
  have t2 : decide (2099 < y) = false := decide_eq_false h2
  by_cases h3 : m < 1
  · clear h
    go_enter Tryd.func26, Tryd.ntmps26
    go_wp2
    go_ret2
    exact ⟨rfl, rfl⟩
  have t3 : decide (m < 1) = false := decide_eq_false h3
  by_cases h4 : 12 < m
  · clear h
    go_enter Tryd.func26, Tryd.ntmps26
    go_wp2
    go_ret2
    exact ⟨rfl, rfl⟩
  have t4 : decide (12 < m) = false := decide_eq_false h4
  by_cases h5 : d < 1
  · clear h
    go_enter Tryd.func26, Tryd.ntmps26
    go_wp2
    go_ret2
    exact ⟨rfl, rfl⟩
  have t5 : decide (d < 1) = false := decide_eq_false h5
  have h6 : len (12 * (y - 2000) + m - 1) < d := by omega
  clear h
  have HD := Lib.hid (fun w => days_any y m w (by omega) (by omega) (by omega) (by omega))
  go_enter Tryd.func26, Tryd.ntmps26
  go_wp2_with (first
    | (go_at_call 31; with_reducible refine (HD.out _).mono ?_; rintro e w' ⟨rfl, rfl⟩))
  go_ret2
  exact ⟨rfl, rfl⟩
theorem rtwo_any (n : Int) (w : World) (h0 : 0 ≤ n) (h1 : n ≤ 99) :
    Calls Tryd.prog 35 #[.int .i64 n] w fun e w' => e = .returned (.string ⟨#[dig (n / 10), dig (n % 10)]⟩) ∧ Below w.heap.size w w' := by
  have hc := run_convert_bytes_back (P := Tryd.prog) (w.alloc (.cells #[.int .u8 (48 + n / 10), .int .u8 (48 + n % 10)] 5)) 41 9 5 ⟨w.heap.size, 0, none⟩ 2 [dig (n / 10), dig (n % 10)] Tryd.underlying41 Tryd.underlying5 Tryd.underlying9 (fun j hj => by
    rw [add_plain, Nat.zero_add, World.cell?_alloc_new]
    have e1 := dig_nat (n / 10) (by omega) (by omega)
    have e2 := dig_nat (n % 10) (by omega) (by omega)
    match j, hj with
    | 0, _ => simp only [List.getElem_cons_zero, e1]; rfl
    | 1, _ => simp only [List.getElem_cons_succ, List.getElem_cons_zero, e2]; rfl)
  simp only [List.length_cons, List.length_nil, Nat.zero_add, Nat.reduceAdd] at hc
  go_enter Tryd.func35, Tryd.ntmps35
  go_wp2
  go_ret
  exact ⟨rfl, (Below.refl _ _).alloc (Nat.le_refl _) _⟩
theorem rtext_out (d : Int) (w : World) (h : d < 0 ∨ 36524 < d) :
    Calls Tryd.prog 20 #[.int .i64 d] w fun e w' => e = .returned (.string ⟨#[]⟩) ∧ w = w' := by
  go_enter Tryd.func20, Tryd.ntmps20
  go_wp2_with (first
    | (go_at_call 12; with_reducible refine (rdate_out _ _ h).mono ?_; rintro e w' ⟨rfl, rfl⟩))
  go_ret
  exact ⟨rfl, rfl⟩
theorem cat_date2 (y m d : Int) (h0 : 2000 ≤ y) (h1 : y ≤ 2099) : ByteArray.mk #[dig (y / 100 / 10), dig (y / 100 % 10)] ++ ⟨#[dig (y % 100 / 10), dig (y % 10)]⟩ ++ ⟨#[45]⟩ ++ ⟨#[dig (m / 10), dig (m % 10)]⟩ ++ ⟨#[45]⟩ ++ ⟨#[dig (d / 10), dig (d % 10)]⟩ = txt y m d := by
  simp only [cat_bytes]
  unfold txt
  rw [show y / 100 / 10 = 2 by omega, show y / 100 % 10 = 0 by omega, show y % 100 = y - 2000 by omega, show y % 10 = (y - 2000) % 10 by omega]
  rfl
set_option maxHeartbeats 1000000 in
theorem rtext_in (d : Int) (w : World) (h0 : 0 ≤ d) (h1 : d ≤ 36524) :
    Calls Tryd.prog 20 #[.int .i64 d] w fun e w' => e = .returned (.string (dtxt d)) ∧ Below w.heap.size w w' := by
  obtain ⟨y, m, y0, y1, m0, m1, ey, em, hm, hd⟩ := date_abs d h0 h1
  obtain ⟨f0, f1, f2, f3, f4, f5, f6⟩ := mo_facts d h0 h1
  have HE := Lib.hid (show dtxt d = txt y m (dm d + 1) by unfold dtxt; rw [ey, em])
  have HD := Lib.hid hd
  have ty : (y == 0) = false := by simp; omega
  clear hm hd f0 f1 f3 f5 f6 ey em
  have hb : Below w.heap.size w w := Below.refl _ _
  go_enter Tryd.func20, Tryd.ntmps20
  go_wp2_with (first
    | (go_at_call 12; with_reducible refine (HD.out _).mono ?_; rintro e w' ⟨rfl, rfl⟩)
    | (go_at_call 35; with_reducible refine (rtwo_any _ _ ?ha ?hb2).mono ?_; (case ha => omega); (case hb2 => omega); rintro e w1 ⟨rfl, hn⟩; replace hb := block_then hb hn; clear hn))
  go_ret
  exact ⟨ret_str (by rw [HE.out]; exact cat_date2 _ _ _ y0 y1), hb⟩
/-- The digits of a part of a text. -/
def AllDig (s : ByteArray) (a b : Nat) : Prop := ∀ i, a ≤ i → i < b → 48 ≤ bt s i ∧ bt s i ≤ 57
/-- The number that k digits from place a on write. -/
def numr (s : ByteArray) (a : Nat) : Nat → Int
  | 0 => 0
  | k + 1 => 10 * numr s a k + bt s (a + k) - 48
theorem numr_bd (s : ByteArray) (a : Nat) : ∀ k, k ≤ 3 → (∀ i, i < k → 48 ≤ bt s (a + i) ∧ bt s (a + i) ≤ 57) → 0 ≤ numr s a k ∧ numr s a k ≤ 999
  | 0, _, _ => by simp [numr]
  | 1, _, h => by have := h 0 (by omega); simp [numr]; simp at this; omega
  | 2, _, h => by have := h 0 (by omega); have := h 1 (by omega); simp [numr]; simp at *; omega
  | 3, _, h => by have := h 0 (by omega); have := h 1 (by omega); have := h 2 (by omega); simp [numr]; simp at *; omega
  | k + 4, h, _ => by omega
def NumRes (s : ByteArray) (a b : Nat) (w : World) (e : Ending) (w' : World) : Prop := ∃ (n : Int) (ok : Bool), e = .returned (.tuple #[.int .i64 n, .bool ok]) ∧ (ok = true ↔ AllDig s a b) ∧ (ok = true → n = numr s a (b - a)) ∧ (ok = false → n = 0) ∧ w = w'
set_option maxHeartbeats 2000000 in
theorem rnumber_any (s : ByteArray) (a b : Nat) (w : World) (hab : a ≤ b) (hb : b ≤ s.size) (h4 : b - a ≤ 4) (hb10 : b ≤ 10) :
    Calls Tryd.prog 39 #[.string s, .int .i64 a, .int .i64 b] w (NumRes s a b w) := by
  have HB := Lib.hid (get_bt s)
  go_enter Tryd.func39, Tryd.ntmps39
  go_wp2
  go_loopg [8, 9] (b - a) (fun g s8 s9 wx => ∃ k i : Nat, k + g = b - a ∧ i = a + k ∧ (∀ j, j < k → 48 ≤ bt s (a + j) ∧ bt s (a + j) ≤ 57) ∧ s8 = .int .i64 (numr s a k) ∧ s9 = .int .i64 i ∧ w = wx)
  case atStart => exact ⟨0, a, by omega, by omega, fun j hj => by omega, rfl, rfl, rfl⟩
  case round =>
    obtain ⟨k, i, hk, hi, hd, rfl, rfl, rfl⟩ := hrel
    have HD := Lib.hid hd
    have HI := Lib.hid hi
    cases gk with
    | zero =>
      have hlt : ¬ (i : Int) < (b : Int) := by omega
      clear hd hi
      go_wp2
      go_ret2
      have e : k = b - a := by omega
      exact ⟨_, true, rfl, ⟨fun _ => fun j hj1 hj2 => by have := HD.out (j - a) (by omega); rwa [show a + (j - a) = j by omega] at this, fun _ => rfl⟩, fun _ => by rw [e], fun h => (by cases h), rfl⟩
    | succ g =>
      have hlt : (i : Int) < (b : Int) := by omega
      have his : i < s.size := by omega
      have hn := numr_bd s a k (by omega) hd
      have hb0 := bt_nonneg s i
      have hb1 := bt_le s i
      clear hd hi
      by_cases hv : bt s i < 48
      · have hgb := HB.out
        go_wp2
        clear hgb
        go_ret2
        exact ⟨_, false, rfl, ⟨fun h => (by cases h), fun h => by have := h i (by have := HI.out; omega) (by omega); omega⟩, fun h => (by cases h), fun _ => rfl, rfl⟩
      · have t1 : decide (bt s i < 48) = false := decide_eq_false hv
        by_cases hz : 57 < bt s i
        · have hgb := HB.out
          go_wp2
          clear hgb
          go_ret2
          exact ⟨_, false, rfl, ⟨fun h => (by cases h), fun h => by have := h i (by have := HI.out; omega) (by omega); omega⟩, fun h => (by cases h), fun _ => rfl, rfl⟩
        · have t2 : decide (57 < bt s i) = false := decide_eq_false hz
          have hgb := HB.out
          go_wp2
          clear hgb
          go_roundg g
          case measure => omega
          case rel =>
            have hi := HI.out
            refine ⟨k + 1, i + 1, by omega, by omega, fun j hj => ?_, ?_, by go_num, rfl⟩
            · by_cases e : j = k
              · subst e; rw [← hi]; omega
              · exact HD.out j (by omega)
            · rw [show numr s a (k + 1) = 10 * numr s a k + bt s (a + k) - 48 from rfl, ← hi]
end Go.Proofs.YtckmilhdnljjkaaDoor.Cal
