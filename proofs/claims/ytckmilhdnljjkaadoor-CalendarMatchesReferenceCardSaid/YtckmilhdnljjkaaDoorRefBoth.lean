/- The reference implementation's Parse, and that package calendar and the reference return the same. Condition: the calendar's tables hold what their initialisers lay. -/
import Derived.Test.YtckmilhdnljjkaaDoorRefWalk2
namespace Go.Proofs.YtckmilhdnljjkaaDoor.Cal
open Go.ChangeShapes Go.WideShapes Go.ChangeAt Go.RowKit Go.Sort Go.PlainAid
theorem rnumber_yes (s : ByteArray) (a b : Nat) (w : World) (hab : a ≤ b) (hb : b ≤ s.size) (h4 : b - a ≤ 4) (hb10 : b ≤ 10) (h : AllDig s a b) :
    Calls Tryd.prog 39 #[.string s, .int .i64 a, .int .i64 b] w fun e w' => e = .returned (.tuple #[.int .i64 (numr s a (b - a)), .bool true]) ∧ w = w' :=
  (rnumber_any s a b w hab hb h4 hb10).mono fun _ _ ⟨n, ok, he, h1, h2, _, hw⟩ => by
    have e := h1.2 h
    subst e
    rw [h2 rfl] at he
    exact ⟨he, hw⟩
theorem rnumber_no (s : ByteArray) (a b : Nat) (w : World) (hab : a ≤ b) (hb : b ≤ s.size) (h4 : b - a ≤ 4) (hb10 : b ≤ 10) (h : ¬ AllDig s a b) :
    Calls Tryd.prog 39 #[.string s, .int .i64 a, .int .i64 b] w fun e w' => e = .returned (.tuple #[.int .i64 0, .bool false]) ∧ w = w' :=
  (rnumber_any s a b w hab hb h4 hb10).mono fun _ _ ⟨n, ok, he, h1, _, h3, hw⟩ => by
    cases ok with
    | true => exact absurd (h1.1 rfl) h
    | false => rw [h3 rfl] at he; exact ⟨he, hw⟩
theorem rnumber_ex (s : ByteArray) (a b : Nat) (hab : a ≤ b) (hb : b ≤ s.size) (h4 : b - a ≤ 4) (hb10 : b ≤ 10) :
    ∃ (n : Int) (ok : Bool), ∀ w, Calls Tryd.prog 39 #[.string s, .int .i64 a, .int .i64 b] w fun e w' => e = .returned (.tuple #[.int .i64 n, .bool ok]) ∧ w = w' := by
  by_cases h : AllDig s a b
  · exact ⟨_, _, fun w => rnumber_yes s a b w hab hb h4 hb10 h⟩
  · exact ⟨_, _, fun w => rnumber_no s a b w hab hb h4 hb10 h⟩
theorem form_iff (s : ByteArray) : Form s ↔ s.size = 10 ∧ bt s 4 = 45 ∧ bt s 7 = 45 ∧ AllDig s 0 4 ∧ AllDig s 5 7 ∧ AllDig s 8 10 := by
  constructor
  · intro f
    exact ⟨f.1, (f.2 4 (by omega)).1 (Or.inl rfl), (f.2 7 (by omega)).1 (Or.inr rfl), fun i _ h => digit_at f i (by omega) (by omega) (by omega), fun i _ h => digit_at f i (by omega) (by omega) (by omega), fun i _ h => digit_at f i (by omega) (by omega) (by omega)⟩
  · rintro ⟨h, e4, e7, a, b, c⟩
    refine ⟨h, fun i hi => ⟨fun e => ?_, fun e1 e2 => ?_⟩⟩
    · rcases e with rfl | rfl
      · exact e4
      · exact e7
    · by_cases h1 : i < 4
      · exact a i (by omega) h1
      · by_cases h2 : i < 7
        · exact b i (by omega) h2
        · exact c i (by omega) hi
set_option maxHeartbeats 2000000 in
theorem rparse_form (s : ByteArray) (w : World) (h : ¬ Form s) :
    Calls Tryd.prog 28 #[.string s] w fun e w' => e = .returned (.tuple #[.int .i64 0, .int .i64 12]) ∧ w = w' := by
  rw [form_iff] at h
  by_cases h10 : s.size = 10
  · have hs1 : s.size ≤ 10 := by omega
    have hs2 : 10 ≤ s.size := by omega
    obtain ⟨n1, k1, ha⟩ := rnumber_ex s 0 4 (by omega) (by omega) (by omega) (by omega)
    obtain ⟨n2, k2, hb⟩ := rnumber_ex s 5 7 (by omega) (by omega) (by omega) (by omega)
    obtain ⟨n3, k3, hc⟩ := rnumber_ex s 8 10 (by omega) (by omega) (by omega) (by omega)
    have t10 : ((s.size : Int) != 10) = false := by simp; omega
    have HG := Lib.hid (get_bt s)
    have i4 : 4 < s.size := by omega
    have i7 : 7 < s.size := by omega
    have hbt4 := bt_nonneg s 4
    have hbt7 := bt_nonneg s 7
    have ha' : ∀ w, Calls Tryd.prog 39 #[.string s, .int .i64 0, .int .i64 4] w fun e w' => e = .returned (.tuple #[.int .i64 n1, .bool k1]) ∧ w = w' := ha
    have HA0 := Lib.hid ha'
    clear ha'
    have hb' : ∀ w, Calls Tryd.prog 39 #[.string s, .int .i64 5, .int .i64 7] w fun e w' => e = .returned (.tuple #[.int .i64 n2, .bool k2]) ∧ w = w' := hb
    have HB0 := Lib.hid hb'
    clear hb'
    have hc' : ∀ w, Calls Tryd.prog 39 #[.string s, .int .i64 8, .int .i64 10] w fun e w' => e = .returned (.tuple #[.int .i64 n3, .bool k3]) ∧ w = w' := hc
    have HC0 := Lib.hid hc'
    clear hc'
    clear ha hb hc
    by_cases e4 : bt s 4 = 45
    · have t4 : (bt s 4 != 45) = false := by simpa using e4
      by_cases e7 : bt s 7 = 45
      · have t7 : (bt s 7 != 45) = false := by simpa using e7
        by_cases a : AllDig s 0 4
        · have HA' : ∀ w, Calls Tryd.prog 39 #[.string s, .int .i64 0, .int .i64 4] w fun e w' => e = .returned (.tuple #[.int .i64 (numr s 0 4), .bool true]) ∧ w = w' := fun w => rnumber_yes s 0 4 w (by omega) (by omega) (by omega) (by omega) a
          have HA := Lib.hid HA'
          clear HA'
          by_cases b : AllDig s 5 7
          · have HB3' : ∀ w, Calls Tryd.prog 39 #[.string s, .int .i64 5, .int .i64 7] w fun e w' => e = .returned (.tuple #[.int .i64 (numr s 5 2), .bool true]) ∧ w = w' := fun w => rnumber_yes s 5 7 w (by omega) (by omega) (by omega) (by omega) b
            have HB3 := Lib.hid HB3'
            clear HB3'
            have c : ¬ AllDig s 8 10 := fun c => h ⟨h10, e4, e7, a, b, c⟩
            have HC' : ∀ w, Calls Tryd.prog 39 #[.string s, .int .i64 8, .int .i64 10] w fun e w' => e = .returned (.tuple #[.int .i64 0, .bool false]) ∧ w = w' := fun w => rnumber_no s 8 10 w (by omega) (by omega) (by omega) (by omega) c
            have HC := Lib.hid HC'
            clear HC'
            clear h h10 e4 e7 a b c
            have hgb := HG.out
            go_enter Tryd.func28, Tryd.ntmps28
            go_wp2_with (first
    | (go_at_call 39; with_reducible refine (HA.out _).mono ?_; rintro e w' ⟨rfl, rfl⟩)
    | (go_at_call 39; with_reducible refine (HB3.out _).mono ?_; rintro e w' ⟨rfl, rfl⟩)
    | (go_at_call 39; with_reducible refine (HC.out _).mono ?_; rintro e w' ⟨rfl, rfl⟩))
            clear hgb
            go_ret2
            exact ⟨rfl, rfl⟩
          · have HB3' : ∀ w, Calls Tryd.prog 39 #[.string s, .int .i64 5, .int .i64 7] w fun e w' => e = .returned (.tuple #[.int .i64 0, .bool false]) ∧ w = w' := fun w => rnumber_no s 5 7 w (by omega) (by omega) (by omega) (by omega) b
            have HB3 := Lib.hid HB3'
            clear HB3'
            clear h h10 e4 e7 a b
            have hgb := HG.out
            go_enter Tryd.func28, Tryd.ntmps28
            go_wp2_with (first
    | (go_at_call 39; with_reducible refine (HA.out _).mono ?_; rintro e w' ⟨rfl, rfl⟩)
    | (go_at_call 39; with_reducible refine (HB3.out _).mono ?_; rintro e w' ⟨rfl, rfl⟩)
    | (go_at_call 39; with_reducible refine (HC0.out _).mono ?_; rintro e w' ⟨rfl, rfl⟩))
            clear hgb
            go_ret2
            exact ⟨rfl, rfl⟩
        · have HA' : ∀ w, Calls Tryd.prog 39 #[.string s, .int .i64 0, .int .i64 4] w fun e w' => e = .returned (.tuple #[.int .i64 0, .bool false]) ∧ w = w' := fun w => rnumber_no s 0 4 w (by omega) (by omega) (by omega) (by omega) a
          have HA := Lib.hid HA'
          clear HA'
          clear h h10 e4 e7 a
          have hgb := HG.out
          go_enter Tryd.func28, Tryd.ntmps28
          go_wp2_with (first
    | (go_at_call 39; with_reducible refine (HA.out _).mono ?_; rintro e w' ⟨rfl, rfl⟩)
    | (go_at_call 39; with_reducible refine (HB0.out _).mono ?_; rintro e w' ⟨rfl, rfl⟩)
    | (go_at_call 39; with_reducible refine (HC0.out _).mono ?_; rintro e w' ⟨rfl, rfl⟩))
          clear hgb
          go_ret2
          exact ⟨rfl, rfl⟩
      · have t7 : (bt s 7 != 45) = true := by simpa using e7
        clear h h10 e4 e7
        have hgb := HG.out
        go_enter Tryd.func28, Tryd.ntmps28
        go_wp2
        clear hgb
        go_ret2
        exact ⟨rfl, rfl⟩
    · have t4 : (bt s 4 != 45) = true := by simpa using e4
      clear h h10 e4
      have hgb := HG.out
      go_enter Tryd.func28, Tryd.ntmps28
      go_wp2
      clear hgb
      go_ret2
      exact ⟨rfl, rfl⟩
  · have t10 : ((s.size : Int) != 10) = true := by simp; omega
    clear h h10
    go_enter Tryd.func28, Tryd.ntmps28
    go_wp2
    go_ret2
    exact ⟨rfl, rfl⟩
set_option maxHeartbeats 2000000 in
theorem rparse_day (s : ByteArray) (i f : Int) (w : World) (h : Form s) (hd : ∀ w, Calls Tryd.prog 26 #[.int .i64 (pY s), .int .i64 (pM s), .int .i64 (pD s)] w fun e w' => e = .returned (.tuple #[.int .i64 i, .int .i64 f]) ∧ w = w') :
    Calls Tryd.prog 28 #[.string s] w fun e w' => e = .returned (.tuple #[.int .i64 i, .int .i64 f]) ∧ w = w' := by
  obtain ⟨h10, e4, e7, a, b, c⟩ := (form_iff s).1 h
  have ey : numr s 0 4 = pY s := by simp only [numr]; unfold pY; simp only [Nat.zero_add]; omega
  have em : numr s 5 2 = pM s := by simp only [numr]; unfold pM; simp only [Nat.reduceAdd, Nat.add_zero]; omega
  have ed : numr s 8 2 = pD s := by simp only [numr]; unfold pD; simp only [Nat.reduceAdd, Nat.add_zero]; omega
  have hA : ∀ w, Calls Tryd.prog 39 #[.string s, .int .i64 0, .int .i64 4] w fun e w' => e = .returned (.tuple #[.int .i64 (numr s 0 4), .bool true]) ∧ w = w' := fun w => rnumber_yes s 0 4 w (by omega) (by omega) (by omega) (by omega) a
  have hB : ∀ w, Calls Tryd.prog 39 #[.string s, .int .i64 5, .int .i64 7] w fun e w' => e = .returned (.tuple #[.int .i64 (numr s 5 2), .bool true]) ∧ w = w' := fun w => rnumber_yes s 5 7 w (by omega) (by omega) (by omega) (by omega) b
  have hC : ∀ w, Calls Tryd.prog 39 #[.string s, .int .i64 8, .int .i64 10] w fun e w' => e = .returned (.tuple #[.int .i64 (numr s 8 2), .bool true]) ∧ w = w' := fun w => rnumber_yes s 8 10 w (by omega) (by omega) (by omega) (by omega) c
  rw [ey] at hA
  rw [em] at hB
  rw [ed] at hC
  have HA := Lib.hid hA
  have HB3 := Lib.hid hB
  have HC := Lib.hid hC
  have HD := Lib.hid hd
  have t10 : ((s.size : Int) != 10) = false := by simp; omega
  have t4 : (bt s 4 != 45) = false := by simpa using e4
  have t7 : (bt s 7 != 45) = false := by simpa using e7
  have i4 : 4 < s.size := by omega
  have i7 : 7 < s.size := by omega
  have hgb := get_bt s
  have hs1 : s.size ≤ 10 := by omega
  clear h10 e4 e7 a b c ey em ed hA hB hC hd h
  go_enter Tryd.func28, Tryd.ntmps28
  go_wp2_with (first
    | (go_at_call 39; with_reducible refine (HA.out _).mono ?_; rintro e w' ⟨rfl, rfl⟩)
    | (go_at_call 39; with_reducible refine (HB3.out _).mono ?_; rintro e w' ⟨rfl, rfl⟩)
    | (go_at_call 39; with_reducible refine (HC.out _).mono ?_; rintro e w' ⟨rfl, rfl⟩)
    | (go_at_call 26; with_reducible refine (HD.out _).mono ?_; rintro e w' ⟨rfl, rfl⟩))
  clear hgb
  go_ret2
  exact ⟨rfl, rfl⟩
theorem date_both (d : Int) : ∃ y m k : Int, (∀ w, HasTab w → Calls Tryd.prog 11 #[.int .i64 d] w fun e w' => e = .returned (.tuple #[.int .i64 y, .int .i64 m, .int .i64 k]) ∧ w = w') ∧
    (∀ w, Calls Tryd.prog 12 #[.int .i64 d] w fun e w' => e = .returned (.tuple #[.int .i64 y, .int .i64 m, .int .i64 k]) ∧ w = w') := by
  by_cases h : 0 ≤ d ∧ d ≤ 36524
  · exact ⟨_, _, _, fun w hT => date_in d w h.1 h.2 hT, fun w => rdate_in d w h.1 h.2⟩
  · exact ⟨_, _, _, fun w _ => date_out d w (by omega), fun w => rdate_out d w (by omega)⟩
theorem later_both (d s : Int) : ∃ i f : Int, (∀ w, HasTab w → Calls Tryd.prog 13 #[.int .i64 d, .int .i64 s] w fun e w' => e = .returned (.tuple #[.int .i64 i, .int .i64 f]) ∧ w = w') ∧
    (∀ w, Calls Tryd.prog 14 #[.int .i64 d, .int .i64 s] w fun e w' => e = .returned (.tuple #[.int .i64 i, .int .i64 f]) ∧ w = w') := by
  by_cases h : 0 ≤ d ∧ d ≤ 36524
  · by_cases h2 : 0 ≤ mo d + s ∧ mo d + s ≤ 1199
    · exact ⟨_, _, fun w hT => later_in d s w h.1 h.2 h2.1 h2.2 hT, fun w => rlater_in d s w h.1 h.2 h2.1 h2.2⟩
    · exact ⟨_, _, fun w hT => later_far d s w h.1 h.2 (by omega) hT, fun w => rlater_far d s w h.1 h.2 (by omega)⟩
  · exact ⟨_, _, fun w _ => later_out d s w (by omega), fun w => rlater_out d s w (by omega)⟩
theorem weekday_both (d : Int) : ∃ k : Int, (∀ w, Calls Tryd.prog 15 #[.int .i64 d] w fun e w' => e = .returned (.int .i64 k) ∧ w = w') ∧ (∀ w, Calls Tryd.prog 16 #[.int .i64 d] w fun e w' => e = .returned (.int .i64 k) ∧ w = w') := by
  by_cases h : 0 ≤ d ∧ d ≤ 36524
  · exact ⟨_, fun w => weekday_in d w h.1 h.2, fun w => rweekday_in d w h.1 h.2⟩
  · exact ⟨_, fun w => weekday_out d w (by omega), fun w => rweekday_out d w (by omega)⟩
theorem month_both (d : Int) : ∃ k : Int, (∀ w, HasTab w → Calls Tryd.prog 17 #[.int .i64 d] w fun e w' => e = .returned (.int .i64 k) ∧ w = w') ∧ (∀ w, Calls Tryd.prog 18 #[.int .i64 d] w fun e w' => e = .returned (.int .i64 k) ∧ w = w') := by
  by_cases h : 0 ≤ d ∧ d ≤ 36524
  · exact ⟨_, fun w hT => month_in d w h.1 h.2 hT, fun w => rmonth_in d w h.1 h.2⟩
  · exact ⟨_, fun w _ => month_out d w (by omega), fun w => rmonth_out d w (by omega)⟩
theorem text_both (d : Int) : ∃ s : ByteArray, (∀ w, Ok w → Calls Tryd.prog 19 #[.int .i64 d] w fun e w' => e = .returned (.string s) ∧ Below w.heap.size w w') ∧ (∀ w, Calls Tryd.prog 20 #[.int .i64 d] w fun e w' => e = .returned (.string s) ∧ Below w.heap.size w w') := by
  by_cases h : 0 ≤ d ∧ d ≤ 36524
  · exact ⟨_, fun w hT => text_in d w h.1 h.2 hT, fun w => rtext_in d w h.1 h.2⟩
  · exact ⟨_, fun w _ => (text_out d w (by omega)).mono fun _ _ ⟨a, b⟩ => ⟨a, b ▸ Below.refl _ _⟩, fun w => (rtext_out d w (by omega)).mono fun _ _ ⟨a, b⟩ => ⟨a, b ▸ Below.refl _ _⟩⟩
theorem first_both (m : Int) : ∃ k : Int, (∀ w, HasTab w → Calls Tryd.prog 21 #[.int .i64 m] w fun e w' => e = .returned (.int .i64 k) ∧ w = w') ∧ (∀ w, Calls Tryd.prog 22 #[.int .i64 m] w fun e w' => e = .returned (.int .i64 k) ∧ w = w') := by
  by_cases h : 0 ≤ m ∧ m ≤ 1199
  · exact ⟨_, fun w hT => first_in m w h.1 h.2 hT, fun w => rfirst_in m w h.1 h.2⟩
  · exact ⟨_, fun w _ => first_out m w (by omega), fun w => rfirst_out m w (by omega)⟩
theorem length_both (m : Int) : ∃ k : Int, (∀ w, HasTab w → Calls Tryd.prog 23 #[.int .i64 m] w fun e w' => e = .returned (.int .i64 k) ∧ w = w') ∧ (∀ w, Calls Tryd.prog 24 #[.int .i64 m] w fun e w' => e = .returned (.int .i64 k) ∧ w = w') := by
  by_cases h : 0 ≤ m ∧ m ≤ 1199
  · exact ⟨_, fun w hT => length_in m w h.1 h.2 hT, fun w => rlength_in m w h.1 h.2⟩
  · exact ⟨_, fun w _ => length_out m w (by omega), fun w => rlength_out m w (by omega)⟩
theorem day_both (y m d : Int) : ∃ i f : Int, (∀ w, HasTab w → Calls Tryd.prog 25 #[.int .i64 y, .int .i64 m, .int .i64 d] w fun e w' => e = .returned (.tuple #[.int .i64 i, .int .i64 f]) ∧ w = w') ∧
    (∀ w, Calls Tryd.prog 26 #[.int .i64 y, .int .i64 m, .int .i64 d] w fun e w' => e = .returned (.tuple #[.int .i64 i, .int .i64 f]) ∧ w = w') ∧ (NoDate y m d ∧ i = 0 ∧ f = 21 ∨ ¬ NoDate y m d ∧ i = beg (12 * (y - 2000) + m - 1) + d - 1 ∧ f = 0) := by
  by_cases h : NoDate y m d
  · exact ⟨_, _, fun w hT => day_no y m d w h hT, fun w => rday_no y m d w h, Or.inl ⟨h, rfl, rfl⟩⟩
  · have h' := h
    unfold NoDate at h'
    exact ⟨_, _, fun w hT => day_yes y m d w (by omega) (by omega) (by omega) (by omega) (by omega) (by omega) hT, fun w => rday_yes y m d w (by omega) (by omega) (by omega) (by omega) (by omega) (by omega), Or.inr ⟨h, rfl, rfl⟩⟩
theorem parse_both (s : ByteArray) : ∃ i f : Int, (∀ w, HasTab w → Calls Tryd.prog 27 #[.string s] w fun e w' => e = .returned (.tuple #[.int .i64 i, .int .i64 f]) ∧ Below w.heap.size w w') ∧
    (∀ w, Calls Tryd.prog 28 #[.string s] w fun e w' => e = .returned (.tuple #[.int .i64 i, .int .i64 f]) ∧ w = w') := by
  by_cases hf : Form s
  · obtain ⟨i, f, h1, h2, h3⟩ := day_both (pY s) (pM s) (pD s)
    refine ⟨i, f, fun w hT => (parse_any s w hf hT).mono fun _ _ ⟨v, he, hr, k, hw⟩ => ?_, fun w => rparse_day s i f w hf h2⟩
    subst hw
    refine ⟨?_, below_drewN (Below.refl _ _) _⟩
    rcases h3 with ⟨a, rfl, rfl⟩ | ⟨a, rfl, rfl⟩
    · rcases hr with ⟨_, hv⟩ | ⟨b, _⟩
      · rw [he, hv]
      · exact absurd a b
    · rcases hr with ⟨b, _⟩ | ⟨_, hv⟩
      · exact absurd b a
      · rw [he, hv]
  · exact ⟨_, _, fun w _ => (parse_form s w hf).mono fun _ _ ⟨a, b⟩ => ⟨a, b ▸ Below.refl _ _⟩, fun w => rparse_form s w hf⟩
end Go.Proofs.YtckmilhdnljjkaaDoor.Cal
