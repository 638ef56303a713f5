/- What the reference implementation's functions return, each for all of its arguments. No condition but the bounds that each names. -/
import Derived.Test.YtckmilhdnljjkaaDoorCalBytes
namespace Go.Proofs.YtckmilhdnljjkaaDoor.Cal
open Go.RowKit Go.Sort Go.PlainAid
theorem long_any (y : Int) (w : World) (h0 : 2000 ≤ y) (h1 : y ≤ 2099) :
    Calls Tryd.prog 40 #[.int .i64 y] w fun e w' => e = .returned (.bool (decide (y % 4 = 0))) ∧ w = w' := by
  by_cases h4 : y % 4 = 0
  · have t1 : (y % 4 == 0) = true := by simpa using h4
    by_cases h2 : y = 2000
    · subst h2
      go_enter Tryd.func40, Tryd.ntmps40
      go_wp2
      go_ret
      exact ⟨rfl, rfl⟩
    · have t2 : (y % 100 != 0) = true := by simp; omega
      have H4 := Lib.hid h4
      clear h4
      go_enter Tryd.func40, Tryd.ntmps40
      go_wp2
      go_ret
      exact ⟨by rw [decide_eq_true H4.out]; rfl, rfl⟩
  · have t1 : (y % 4 == 0) = false := by simpa using h4
    have H4 := Lib.hid h4
    clear h4
    go_enter Tryd.func40, Tryd.ntmps40
    go_wp2
    go_ret
    exact ⟨by rw [decide_eq_false H4.out]; rfl, rfl⟩
theorem len_m1 (c : Int) : len (12 * (c - 2000) + 1 - 1) = 31 := by unfold len beg tab; omega
theorem len_m2 (c : Int) : len (12 * (c - 2000) + 2 - 1) = if c % 4 = 0 then 29 else 28 := by
  by_cases h : c % 4 = 0
  · rw [if_pos h]; unfold len beg tab; omega
  · rw [if_neg h]; unfold len beg tab; omega
theorem len_m3 (c : Int) : len (12 * (c - 2000) + 3 - 1) = 31 := by unfold len beg tab; omega
theorem len_m4 (c : Int) : len (12 * (c - 2000) + 4 - 1) = 30 := by unfold len beg tab; omega
theorem len_m5 (c : Int) : len (12 * (c - 2000) + 5 - 1) = 31 := by unfold len beg tab; omega
theorem len_m6 (c : Int) : len (12 * (c - 2000) + 6 - 1) = 30 := by unfold len beg tab; omega
theorem len_m7 (c : Int) : len (12 * (c - 2000) + 7 - 1) = 31 := by unfold len beg tab; omega
theorem len_m8 (c : Int) : len (12 * (c - 2000) + 8 - 1) = 31 := by unfold len beg tab; omega
theorem len_m9 (c : Int) : len (12 * (c - 2000) + 9 - 1) = 30 := by unfold len beg tab; omega
theorem len_m10 (c : Int) : len (12 * (c - 2000) + 10 - 1) = 31 := by unfold len beg tab; omega
theorem len_m11 (c : Int) : len (12 * (c - 2000) + 11 - 1) = 30 := by unfold len beg tab; omega
theorem len_m12 (c : Int) : len (12 * (c - 2000) + 12 - 1) = 31 := by unfold len beg tab; omega
set_option maxHeartbeats 1000000 in
theorem days_any (y m : Int) (w : World) (h0 : 2000 ≤ y) (h1 : y ≤ 2099) (m0 : 1 ≤ m) (m1 : m ≤ 12) :
    Calls Tryd.prog 31 #[.int .i64 y, .int .i64 m] w fun e w' => e = .returned (.int .i64 (len (12 * (y - 2000) + m - 1))) ∧ w = w' := by
  have hm : m = 2 ∨ m = 1 ∨ m = 3 ∨ m = 4 ∨ m = 5 ∨ m = 6 ∨ m = 7 ∨ m = 8 ∨ m = 9 ∨ m = 10 ∨ m = 11 ∨ m = 12 := by omega
  clear m0 m1
  rcases hm with rfl | rfl | rfl | rfl | rfl | rfl | rfl | rfl | rfl | rfl | rfl | rfl
  · have h2 := len_m2 y
    have H2 := Lib.hid h2
    have HL := Lib.hid (fun w => long_any y w h0 h1)
    clear h2
    by_cases h4 : y % 4 = 0
    · have HL' := Lib.hid (fun w => by have := HL.out w; rw [decide_eq_true h4] at this; exact this)
      have H4 := Lib.hid h4
      clear h4
      go_enter Tryd.func31, Tryd.ntmps31
      go_wp2_with (first
        | (go_at_call 40; with_reducible refine (HL'.out _).mono ?_; rintro e w' ⟨rfl, rfl⟩))
      go_ret
      exact ⟨ret_int (by rw [H2.out, if_pos H4.out]), rfl⟩
    · have HL' := Lib.hid (fun w => by have := HL.out w; rw [decide_eq_false h4] at this; exact this)
      have H4 := Lib.hid h4
      clear h4
      go_enter Tryd.func31, Tryd.ntmps31
      go_wp2_with (first
        | (go_at_call 40; with_reducible refine (HL'.out _).mono ?_; rintro e w' ⟨rfl, rfl⟩))
      go_ret
      exact ⟨ret_int (by rw [H2.out, if_neg H4.out]), rfl⟩
  · go_enter Tryd.func31, Tryd.ntmps31
    go_wp2
    go_ret
    exact ⟨ret_int (len_m1 y).symm, rfl⟩
  · go_enter Tryd.func31, Tryd.ntmps31
    go_wp2
    go_ret
    exact ⟨ret_int (len_m3 y).symm, rfl⟩
  · go_enter Tryd.func31, Tryd.ntmps31
    go_wp2
    go_ret
    exact ⟨ret_int (len_m4 y).symm, rfl⟩
  · go_enter Tryd.func31, Tryd.ntmps31
    go_wp2
    go_ret
    exact ⟨ret_int (len_m5 y).symm, rfl⟩
  · go_enter Tryd.func31, Tryd.ntmps31
    go_wp2
    go_ret
    exact ⟨ret_int (len_m6 y).symm, rfl⟩
  · go_enter Tryd.func31, Tryd.ntmps31
    go_wp2
    go_ret
    exact ⟨ret_int (len_m7 y).symm, rfl⟩
  · go_enter Tryd.func31, Tryd.ntmps31
    go_wp2
    go_ret
    exact ⟨ret_int (len_m8 y).symm, rfl⟩
  · go_enter Tryd.func31, Tryd.ntmps31
    go_wp2
    go_ret
    exact ⟨ret_int (len_m9 y).symm, rfl⟩
  · go_enter Tryd.func31, Tryd.ntmps31
    go_wp2
    go_ret
    exact ⟨ret_int (len_m10 y).symm, rfl⟩
  · go_enter Tryd.func31, Tryd.ntmps31
    go_wp2
    go_ret
    exact ⟨ret_int (len_m11 y).symm, rfl⟩
  · go_enter Tryd.func31, Tryd.ntmps31
    go_wp2
    go_ret
    exact ⟨ret_int (len_m12 y).symm, rfl⟩
theorem rdays_at (i : Int) (w : World) (h0 : 0 ≤ i) (h1 : i ≤ 1199) :
    Calls Tryd.prog 31 #[.int .i64 (2000 + i / 12), .int .i64 (i % 12 + 1)] w fun e w' => e = .returned (.int .i64 (len i)) ∧ w = w' := by
  have h := days_any (2000 + i / 12) (i % 12 + 1) w (by omega) (by omega) (by omega) (by omega)
  rwa [show 12 * (2000 + i / 12 - 2000) + (i % 12 + 1) - 1 = i by omega] at h
theorem rlength_in (m : Int) (w : World) (h0 : 0 ≤ m) (h1 : m ≤ 1199) :
    Calls Tryd.prog 24 #[.int .i64 m] w fun e w' => e = .returned (.int .i64 (len m)) ∧ w = w' := by
  have t1 : decide (m < 0) = false := decide_eq_false (by omega)
  have t2 : decide (1199 < m) = false := decide_eq_false (by omega)
  go_enter Tryd.func24, Tryd.ntmps24
  go_wp2_with (first
    | (go_at_call 31; with_reducible refine (rdays_at _ _ h0 h1).mono ?_; rintro e w' ⟨rfl, rfl⟩))
  go_ret
  exact ⟨rfl, rfl⟩
theorem rlength_out (m : Int) (w : World) (h : m < 0 ∨ 1199 < m) :
    Calls Tryd.prog 24 #[.int .i64 m] w fun e w' => e = .returned (.int .i64 0) ∧ w = w' := by
  by_cases h0 : m < 0
  · go_enter Tryd.func24, Tryd.ntmps24
    go_wp2
    go_ret
    exact ⟨rfl, rfl⟩
  · have t1 : decide (m < 0) = false := decide_eq_false h0
    have h2 : 1199 < m := by omega
    clear h
    go_enter Tryd.func24, Tryd.ntmps24
    go_wp2
    go_ret
    exact ⟨rfl, rfl⟩
set_option maxHeartbeats 1000000 in
theorem rfirst_in (m : Int) (w : World) (h0 : 0 ≤ m) (h1 : m ≤ 1199) :
    Calls Tryd.prog 22 #[.int .i64 m] w fun e w' => e = .returned (.int .i64 (beg m)) ∧ w = w' := by
  have t1 : decide (m < 0) = false := decide_eq_false (by omega)
  have t2 : decide (1199 < m) = false := decide_eq_false (by omega)
  obtain ⟨mm, hmm⟩ : ∃ k : Nat, (k : Int) = m := ⟨m.toNat, by omega⟩
  have HM := Lib.hid hmm
  clear hmm
  go_enter Tryd.func22, Tryd.ntmps22
  go_wp2
  go_loopg [3, 4] mm (fun g s3 s4 wx => ∃ k : Int, 0 ≤ k ∧ k + g = m ∧ s3 = .int .i64 (beg k) ∧ s4 = .int .i64 k ∧ w = wx)
  case atStart => exact ⟨0, by omega, by have := HM.out; omega, by rw [beg_zero], rfl, rfl⟩
  case round =>
    obtain ⟨k, k0, kg, rfl, rfl, rfl⟩ := hrel
    cases gk with
    | zero =>
      have hk : ¬ k < m := by omega
      go_wp2
      go_ret
      exact ⟨ret_int (by rw [show k = m by omega]), rfl⟩
    | succ g =>
      have hk : k < m := by omega
      have hb := beg_bd k k0 (by omega)
      have hl := len_bd k
      go_wp2_with (first
        | (go_at_call 31; with_reducible refine (rdays_at _ _ k0 ?hk1).mono ?_; (case hk1 => omega); rintro e w' ⟨rfl, rfl⟩))
      go_roundg g
      case measure => omega
      case rel => exact ⟨k + 1, by omega, by omega, by rw [beg_succ], rfl, rfl⟩
theorem rfirst_out (m : Int) (w : World) (h : m < 0 ∨ 1199 < m) :
    Calls Tryd.prog 22 #[.int .i64 m] w fun e w' => e = .returned (.int .i64 (-1)) ∧ w = w' := by
  by_cases h0 : m < 0
  · go_enter Tryd.func22, Tryd.ntmps22
    go_wp2
    go_ret
    exact ⟨rfl, rfl⟩
  · have t1 : decide (m < 0) = false := decide_eq_false h0
    have h2 : 1199 < m := by omega
    clear h
    go_enter Tryd.func22, Tryd.ntmps22
    go_wp2
    go_ret
    exact ⟨rfl, rfl⟩
set_option maxHeartbeats 1000000 in
theorem rdate_in (d : Int) (w : World) (h0 : 0 ≤ d) (h1 : d ≤ 36524) :
    Calls Tryd.prog 12 #[.int .i64 d] w fun e w' => e = .returned (.tuple #[.int .i64 (2000 + mo d / 12), .int .i64 (mo d % 12 + 1), .int .i64 (dm d + 1)]) ∧ w = w' := by
  have t1 : decide (d < 0) = false := decide_eq_false (by omega)
  have t2 : decide (36524 < d) = false := decide_eq_false (by omega)
  go_enter Tryd.func12, Tryd.ntmps12
  go_wp2
  go_loopg [0, 5, 6] 1199 (fun g s0 s5 s6 wx => ∃ i y m : Int, 0 ≤ i ∧ i + g = 1199 ∧ 0 ≤ d - beg i ∧ Hid (y = 2000 + i / 12) ∧ Hid (m = i % 12 + 1) ∧ s0 = .int .i64 (d - beg i) ∧ s5 = .int .i64 y ∧ s6 = .int .i64 m ∧ w = wx)
  case atStart => exact ⟨0, 2000, 1, by omega, by omega, by rw [beg_zero]; omega, rfl, rfl, by rw [beg_zero]; simp, rfl, rfl, rfl⟩
  case round =>
    obtain ⟨i, y, m, i0, ig, hl, HY, HM, rfl, rfl, rfl, rfl⟩ := hrel
    have hb := beg_bd i i0 (by omega)
    have hlen := len_bd i
    have y0 : 2000 ≤ y := by have := HY.out; omega
    have y1 : y ≤ 2099 := by have := HY.out; omega
    have m0 : 1 ≤ m := by have := HM.out; omega
    have m1 : m ≤ 12 := by have := HM.out; omega
    have hdays : ∀ w, Calls Tryd.prog 31 #[.int .i64 y, .int .i64 m] w fun e w' => e = .returned (.int .i64 (len i)) ∧ w = w' := by
      rw [HY.out, HM.out]; exact fun w => rdays_at i w i0 (by omega)
    have HD := Lib.hid hdays
    clear hdays
    by_cases hlt : d - beg i < len i
    · go_wp2_with (first
        | (go_at_call 31; with_reducible refine (HD.out _).mono ?_; rintro e w' ⟨rfl, rfl⟩))
      go_ret3
      have e := mo_of (d := d) (m := i) ⟨i0, by omega, by omega, by rw [beg_succ]; omega⟩
      have e2 : dm d = d - beg i := by unfold dm; rw [e]
      rw [e, e2, ← HY.out, ← HM.out]
      exact ⟨rfl, rfl⟩
    · have hs := beg_succ i
      have hi : i < 1199 := by
        by_cases h : i < 1199
        · exact h
        · have e : i = 1199 := by omega
          rw [e] at hs hlt
          rw [show (1199 : Int) + 1 = 1200 from rfl, beg_last] at hs
          omega
      have HS := Lib.hid hs
      clear hs
      cases gk with
      | zero => exfalso; omega
      | succ g =>
        by_cases hm : m = 12
        · have HM' := Lib.hid (show i % 12 = 11 by have := HM.out; omega)
          subst hm
          clear HM
          go_wp2_with (first
            | (go_at_call 31; with_reducible refine (HD.out _).mono ?_; rintro e w' ⟨rfl, rfl⟩))
          go_roundg g
          case measure => omega
          case rel => exact ⟨i + 1, y + 1, 1, by omega, by omega, by rw [HS.out]; omega, show y + 1 = 2000 + (i + 1) / 12 by have := HY.out; have := HM'.out; omega, show (1 : Int) = (i + 1) % 12 + 1 by have := HM'.out; omega, by rw [HS.out]; congr 1; omega, rfl, rfl, rfl⟩
        · have hm' : m < 12 := by omega
          have HM' := Lib.hid hm
          clear hm
          go_wp2_with (first
            | (go_at_call 31; with_reducible refine (HD.out _).mono ?_; rintro e w' ⟨rfl, rfl⟩))
          go_roundg g
          case measure => omega
          case rel => exact ⟨i + 1, y, m + 1, by omega, by omega, by rw [HS.out]; omega, show y = 2000 + (i + 1) / 12 by have := HY.out; have := HM.out; omega, show m + 1 = (i + 1) % 12 + 1 by have := HM.out; omega, by rw [HS.out]; congr 1; omega, rfl, rfl, rfl⟩
theorem rdate_out (d : Int) (w : World) (h : d < 0 ∨ 36524 < d) :
    Calls Tryd.prog 12 #[.int .i64 d] w fun e w' => e = .returned (.tuple #[.int .i64 0, .int .i64 0, .int .i64 0]) ∧ w = w' := by
  by_cases h0 : d < 0
  · go_enter Tryd.func12, Tryd.ntmps12
    go_wp2
    go_ret3
    exact ⟨rfl, rfl⟩
  · have t1 : decide (d < 0) = false := decide_eq_false h0
    have h2 : 36524 < d := by omega
    clear h
    go_enter Tryd.func12, Tryd.ntmps12
    go_wp2
    go_ret3
    exact ⟨rfl, rfl⟩
theorem rweekday_in (d : Int) (w : World) (h0 : 0 ≤ d) (h1 : d ≤ 36524) :
    Calls Tryd.prog 16 #[.int .i64 d] w fun e w' => e = .returned (.int .i64 ((d + 5) % 7 + 1)) ∧ w = w' := by
  have t1 : decide (d < 0) = false := decide_eq_false (by omega)
  have t2 : decide (36524 < d) = false := decide_eq_false (by omega)
  by_cases h : d % 7 ≤ 1
  · go_enter Tryd.func16, Tryd.ntmps16
    go_wp2
    all_goals go_ret
    all_goals exact ⟨ret_int (by omega), rfl⟩
  · go_enter Tryd.func16, Tryd.ntmps16
    go_wp2
    all_goals go_ret
    all_goals exact ⟨ret_int (by omega), rfl⟩
theorem rweekday_out (d : Int) (w : World) (h : d < 0 ∨ 36524 < d) :
    Calls Tryd.prog 16 #[.int .i64 d] w fun e w' => e = .returned (.int .i64 0) ∧ w = w' := by
  by_cases h0 : d < 0
  · go_enter Tryd.func16, Tryd.ntmps16
    go_wp2
    go_ret
    exact ⟨rfl, rfl⟩
  · have t1 : decide (d < 0) = false := decide_eq_false h0
    have h2 : 36524 < d := by omega
    clear h
    go_enter Tryd.func16, Tryd.ntmps16
    go_wp2
    go_ret
    exact ⟨rfl, rfl⟩
end Go.Proofs.YtckmilhdnljjkaaDoor.Cal
