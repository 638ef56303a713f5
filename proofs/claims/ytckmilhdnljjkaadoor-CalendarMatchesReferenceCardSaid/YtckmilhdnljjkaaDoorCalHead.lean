/- The fixed examples that each law of the calendar begins with come out true. Condition: the calendar's tables hold what their initialisers lay. -/
import Derived.Test.YtckmilhdnljjkaaDoorCalParse2
namespace Go.Proofs.YtckmilhdnljjkaaDoor.Cal
open Go.RowKit Go.Sort Go.PlainAid
theorem form_mk (a0 a1 a2 a3 a4 a5 a6 a7 a8 a9 : UInt8) (h0 : 48 ≤ (a0.toNat : Int) ∧ (a0.toNat : Int) ≤ 57) (h1 : 48 ≤ (a1.toNat : Int) ∧ (a1.toNat : Int) ≤ 57) (h2 : 48 ≤ (a2.toNat : Int) ∧ (a2.toNat : Int) ≤ 57)
    (h3 : 48 ≤ (a3.toNat : Int) ∧ (a3.toNat : Int) ≤ 57) (h4 : (a4.toNat : Int) = 45) (h5 : 48 ≤ (a5.toNat : Int) ∧ (a5.toNat : Int) ≤ 57) (h6 : 48 ≤ (a6.toNat : Int) ∧ (a6.toNat : Int) ≤ 57) (h7 : (a7.toNat : Int) = 45)
    (h8 : 48 ≤ (a8.toNat : Int) ∧ (a8.toNat : Int) ≤ 57) (h9 : 48 ≤ (a9.toNat : Int) ∧ (a9.toNat : Int) ≤ 57) : Form ⟨#[a0, a1, a2, a3, a4, a5, a6, a7, a8, a9]⟩ := by
  refine ⟨rfl, fun i hi => ?_⟩
  match i, hi with
  | 0, _ => exact ⟨fun h => by omega, fun _ _ => h0⟩
  | 1, _ => exact ⟨fun h => by omega, fun _ _ => h1⟩
  | 2, _ => exact ⟨fun h => by omega, fun _ _ => h2⟩
  | 3, _ => exact ⟨fun h => by omega, fun _ _ => h3⟩
  | 4, _ => exact ⟨fun _ => h4, fun h => absurd rfl h⟩
  | 5, _ => exact ⟨fun h => by omega, fun _ _ => h5⟩
  | 6, _ => exact ⟨fun h => by omega, fun _ _ => h6⟩
  | 7, _ => exact ⟨fun _ => h7, fun _ h => absurd rfl h⟩
  | 8, _ => exact ⟨fun h => by omega, fun _ _ => h8⟩
  | 9, _ => exact ⟨fun h => by omega, fun _ _ => h9⟩
  | k + 10, hi => omega
theorem dig_nat (n : Int) (h0 : 0 ≤ n) (h1 : n ≤ 9) : ((dig n).toNat : Int) = 48 + n := by
  unfold dig
  rw [UInt8.toNat_ofNat']
  omega
/-- A date that is there, as a text. -/
abbrev lit59 : ByteArray := ⟨#[50, 48, 48, 48, 45, 48, 50, 45, 50, 57]⟩
theorem form59 : Form lit59 := form_mk _ _ _ _ _ _ _ _ _ _ (by decide) (by decide) (by decide) (by decide) (by decide) (by decide) (by decide) (by decide) (by decide) (by decide)
theorem mo59 : mo 59 = 1 := mo_of ⟨by decide, by decide, by decide, by decide⟩
theorem mo60 : mo 60 = 2 := mo_of ⟨by decide, by decide, by decide, by decide⟩
theorem mo30 : mo 30 = 0 := mo_of ⟨by decide, by decide, by decide, by decide⟩
theorem mo0 : mo 0 = 0 := mo_of ⟨by decide, by decide, by decide, by decide⟩
theorem mo366 : mo 366 = 12 := mo_of ⟨by decide, by decide, by decide, by decide⟩
theorem txt59 : dtxt 59 = lit59 := by
  unfold dtxt dm; rw [mo59]; decide
variable (w : World)
theorem h_day1 (hT : HasTab w) : Calls Tryd.prog 25 #[.int .i64 2000, .int .i64 1, .int .i64 1] w fun e w' => e = .returned (.tuple #[.int .i64 0, .int .i64 0]) ∧ w = w' :=
  (day_yes 2000 1 1 w (by decide) (by decide) (by decide) (by decide) (by decide) (by decide) hT).mono fun _ _ ⟨he, hw⟩ => ⟨he.trans (ret_two (by decide)), hw⟩
theorem h_day2 (hT : HasTab w) : Calls Tryd.prog 25 #[.int .i64 2000, .int .i64 3, .int .i64 1] w fun e w' => e = .returned (.tuple #[.int .i64 60, .int .i64 0]) ∧ w = w' :=
  (day_yes 2000 3 1 w (by decide) (by decide) (by decide) (by decide) (by decide) (by decide) hT).mono fun _ _ ⟨he, hw⟩ => ⟨he.trans (ret_two (by decide)), hw⟩
theorem h_day3 (hT : HasTab w) : Calls Tryd.prog 25 #[.int .i64 2024, .int .i64 2, .int .i64 29] w fun e w' => e = .returned (.tuple #[.int .i64 8825, .int .i64 0]) ∧ w = w' :=
  (day_yes 2024 2 29 w (by decide) (by decide) (by decide) (by decide) (by decide) (by decide) hT).mono fun _ _ ⟨he, hw⟩ => ⟨he.trans (ret_two (by decide)), hw⟩
theorem h_day4 (hT : HasTab w) : Calls Tryd.prog 25 #[.int .i64 2023, .int .i64 2, .int .i64 29] w fun e w' => e = .returned (.tuple #[.int .i64 0, .int .i64 21]) ∧ w = w' :=
  day_no 2023 2 29 w (by unfold NoDate; decide) hT
theorem h_date (hT : HasTab w) : Calls Tryd.prog 11 #[.int .i64 366] w fun e w' => e = .returned (.tuple #[.int .i64 2001, .int .i64 1, .int .i64 1]) ∧ w = w' := by
  have h := date_in 366 w (by decide) (by decide) hT
  unfold dm at h
  rw [mo366] at h
  exact h
theorem h_later1 (hT : HasTab w) : Calls Tryd.prog 13 #[.int .i64 30, .int .i64 1] w fun e w' => e = .returned (.tuple #[.int .i64 59, .int .i64 0]) ∧ w = w' := by
  have h := later_in 30 1 w (by decide) (by decide) (by rw [mo30]; decide) (by rw [mo30]; decide) hT
  unfold dm at h
  rw [mo30] at h
  exact h.mono fun _ _ ⟨he, hw⟩ => ⟨he.trans (ret_two (by decide)), hw⟩
theorem h_later2 (hT : HasTab w) : Calls Tryd.prog 13 #[.int .i64 0, .int .i64 (-1)] w fun e w' => e = .returned (.tuple #[.int .i64 0, .int .i64 21]) ∧ w = w' :=
  later_far 0 (-1) w (by decide) (by decide) (by rw [mo0]; decide) hT
theorem h_parse1 (hT : HasTab w) : Calls Tryd.prog 27 #[.string lit59] w fun e w' => e = .returned (.tuple #[.int .i64 59, .int .i64 0]) ∧ Below w.heap.size w w' :=
  (parse_any lit59 w form59 hT).mono fun _ _ ⟨v, he, hr, n, hw⟩ => by
    subst hw
    rcases hr with ⟨h, _⟩ | ⟨_, hv⟩
    · exact absurd h (by unfold NoDate; decide)
    · subst hv
      exact ⟨he.trans (ret_two (by decide)), below_drewN (Below.refl _ _) _⟩
theorem h_parse2 : Calls Tryd.prog 27 #[.string ⟨#[50, 48, 48, 48, 45, 50, 45, 50, 57]⟩] w fun e w' => e = .returned (.tuple #[.int .i64 0, .int .i64 12]) ∧ w = w' :=
  parse_form _ w (fun h => absurd h.1 (by decide))
theorem h_wd0 : Calls Tryd.prog 15 #[.int .i64 0] w fun e w' => e = .returned (.int .i64 6) ∧ w = w' := weekday_in 0 w (by decide) (by decide)
theorem h_wd2 : Calls Tryd.prog 15 #[.int .i64 2] w fun e w' => e = .returned (.int .i64 1) ∧ w = w' := weekday_in 2 w (by decide) (by decide)
theorem h_month (hT : HasTab w) : Calls Tryd.prog 17 #[.int .i64 60] w fun e w' => e = .returned (.int .i64 2) ∧ w = w' := by
  have h := month_in 60 w (by decide) (by decide) hT
  rwa [mo60] at h
theorem h_first (hT : HasTab w) : Calls Tryd.prog 21 #[.int .i64 2] w fun e w' => e = .returned (.int .i64 60) ∧ w = w' :=
  (first_in 2 w (by decide) (by decide) hT).mono fun _ _ ⟨he, hw⟩ => ⟨he.trans (ret_int (by decide)), hw⟩
theorem h_length (hT : HasTab w) : Calls Tryd.prog 23 #[.int .i64 1] w fun e w' => e = .returned (.int .i64 29) ∧ w = w' :=
  (length_in 1 w (by decide) (by decide) hT).mono fun _ _ ⟨he, hw⟩ => ⟨he.trans (ret_int (by decide)), hw⟩
theorem h_text (ok : Ok w) : Calls Tryd.prog 19 #[.int .i64 59] w fun e w' => e = .returned (.string lit59) ∧ Below w.heap.size w w' := by
  have h := text_in 59 w (by decide) (by decide) ok
  rwa [txt59] at h
set_option maxRecDepth 100000 in
set_option maxHeartbeats 1000000 in
theorem head_any (ok : Ok w) : Calls Tryd.prog 9 #[] w fun e w' => e = .returned (.bool true) ∧ Below w.heap.size w w' := by
  have hb : Below w.heap.size w w := Below.refl _ _
  go_enter Tryd.func9, Tryd.ntmps9
  go_wp2_with (first
    | (go_at_call 25; with_reducible refine (h_day1 _ ok.tab).mono ?_; rintro e w' ⟨rfl, rfl⟩)
    | (go_at_call 25; with_reducible refine (h_day2 _ ok.tab).mono ?_; rintro e w' ⟨rfl, rfl⟩)
    | (go_at_call 25; with_reducible refine (h_day3 _ ok.tab).mono ?_; rintro e w' ⟨rfl, rfl⟩)
    | (go_at_call 25; with_reducible refine (h_day4 _ ok.tab).mono ?_; rintro e w' ⟨rfl, rfl⟩)
    | (go_at_call 11; with_reducible refine (h_date _ ok.tab).mono ?_; rintro e w' ⟨rfl, rfl⟩)
    | (go_at_call 13; with_reducible refine (h_later1 _ ok.tab).mono ?_; rintro e w' ⟨rfl, rfl⟩)
    | (go_at_call 13; with_reducible refine (h_later2 _ ok.tab).mono ?_; rintro e w' ⟨rfl, rfl⟩)
    | (go_at_call 27; with_reducible refine (h_parse1 _ ok.tab).mono ?_; rintro e w1 ⟨rfl, hn⟩; replace hb := block_then hb hn; replace ok := ok.below hn; clear hn)
    | (go_at_call 27; with_reducible refine (h_parse2 _).mono ?_; rintro e w' ⟨rfl, rfl⟩)
    | (go_at_call 15; with_reducible refine (h_wd0 _).mono ?_; rintro e w' ⟨rfl, rfl⟩)
    | (go_at_call 15; with_reducible refine (h_wd2 _).mono ?_; rintro e w' ⟨rfl, rfl⟩)
    | (go_at_call 17; with_reducible refine (h_month _ ok.tab).mono ?_; rintro e w' ⟨rfl, rfl⟩)
    | (go_at_call 21; with_reducible refine (h_first _ ok.tab).mono ?_; rintro e w' ⟨rfl, rfl⟩)
    | (go_at_call 23; with_reducible refine (h_length _ ok.tab).mono ?_; rintro e w' ⟨rfl, rfl⟩)
    | (go_at_call 19; with_reducible refine (h_text _ ok).mono ?_; rintro e w1 ⟨rfl, hn⟩; replace hb := block_then hb hn; replace ok := ok.below hn; clear hn))
  go_ret
  exact ⟨rfl, hb⟩
end Go.Proofs.YtckmilhdnljjkaaDoor.Cal
