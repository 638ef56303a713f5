/- What calendar.Parse, hasForm and number return for every text. Conditions: number is asked at texts of at most four digits. -/
import Derived.Test.YtckmilhdnljjkaaDoorCalText
import Derived.PlainAid
import Derived.Deep.QuietTactic
import Derived.BigQuiet
namespace Go.Proofs.YtckmilhdnljjkaaDoor.Cal
open Go.RowKit Go.Sort Go.PlainAid
/-- The byte at place i is of the form's kind. -/
def Okb (s : ByteArray) (i : Nat) : Prop := (i = 4 ∨ i = 7 → bt s i = 45) ∧ (i ≠ 4 → i ≠ 7 → 48 ≤ bt s i ∧ bt s i ≤ 57)
/-- The form of a date. -/
def Form (s : ByteArray) : Prop := s.size = 10 ∧ ∀ i, i < 10 → Okb s i
def FormRes (s : ByteArray) (w : World) (e : Ending) (w' : World) : Prop := ∃ b : Bool, e = .returned (.bool b) ∧ (b = true ↔ Form s) ∧ w = w'
def Upto (s : ByteArray) (k : Nat) : Prop := ∀ i, i < k → Okb s i
theorem upto_succ {s : ByteArray} {k : Nat} (h : Upto s k) (hk : Okb s k) : Upto s (k + 1) := fun i hi => by
  by_cases e : i = k
  · subst e; exact hk
  · exact h i (by omega)
theorem form_not_at {s : ByteArray} {k : Nat} (hk : k < 10) (h : ¬ Okb s k) : ¬ Form s := fun f => h (f.2 k hk)
set_option maxHeartbeats 1000000 in
theorem form_any (s : ByteArray) (w : World) :
    Calls Tryd.prog 37 #[.string s] w (FormRes s w) := by
  by_cases h10 : s.size = 10
  · have h1 : 10 ≤ s.size := by omega
    have h2 : s.size ≤ 10 := by omega
    have H10 := Lib.hid h10
    clear h10
    have HB := Lib.hid (get_bt s)
    go_enter Tryd.func37, Tryd.ntmps37
    go_wp2
    go_loop [9] (fun i => ∃ k : Nat, k ≤ 10 ∧ Upto s k ∧ i = .int .i64 k) (fun i => 10 - (intOf i).toNat)
    case atStart => exact ⟨0, by omega, fun i hi => by omega, rfl⟩
    case round =>
      obtain ⟨k, hk, hu, rfl⟩ := hrel
      by_cases hlt : k < 10
      · have hks : k < s.size := by omega
        have hb0 := bt_nonneg s k
        have hb1 := bt_le s k
        by_cases e4 : k = 4
        · subst e4
          by_cases hv : bt s 4 = 45
          · have t : (bt s 4 != 45) = false := by rw [hv]; rfl
            have HV := Lib.hid hv
            clear hv
            have hgb := HB.out
            go_wp2
            clear hgb
            go_round
            case rel => exact ⟨5, by omega, upto_succ hu ⟨fun _ => HV.out, fun h => by omega⟩, rfl⟩
            case measure => simp [intOf]
          · have t : (bt s 4 != 45) = true := by simpa using hv
            have HV := Lib.hid hv
            clear hv
            have hgb := HB.out
            go_wp2
            clear hgb
            go_ret
            exact ⟨false, rfl, ⟨fun h => (by cases h), fun h => absurd ((h.2 4 (by omega)).1 (by omega)) HV.out⟩, rfl⟩
        by_cases e7 : k = 7
        · subst e7
          by_cases hv : bt s 7 = 45
          · have t : (bt s 7 != 45) = false := by rw [hv]; rfl
            have HV := Lib.hid hv
            clear hv
            have hgb := HB.out
            go_wp2
            clear hgb
            go_round
            case rel => exact ⟨8, by omega, upto_succ hu ⟨fun _ => HV.out, fun h => by omega⟩, rfl⟩
            case measure => simp [intOf]
          · have t : (bt s 7 != 45) = true := by simpa using hv
            have HV := Lib.hid hv
            clear hv
            have hgb := HB.out
            go_wp2
            clear hgb
            go_ret
            exact ⟨false, rfl, ⟨fun h => (by cases h), fun h => absurd ((h.2 7 (by omega)).1 (by omega)) HV.out⟩, rfl⟩
        have q4 : ((k : Int) == 4) = false := by simp; omega
        have q7 : ((k : Int) == 7) = false := by simp; omega
        have E := Lib.hid (And.intro e4 e7)
        clear e4 e7
        by_cases hv : bt s k < 48
        · have hgb := HB.out
          go_wp2
          clear hgb
          go_ret
          exact ⟨false, rfl, ⟨fun h => (by cases h), fun h => by have := (h.2 k (by omega)).2 E.out.1 E.out.2; omega⟩, rfl⟩
        · have t1 : decide (bt s k < 48) = false := decide_eq_false hv
          by_cases hz : 57 < bt s k
          · have hgb := HB.out
            go_wp2
            clear hgb
            go_ret
            exact ⟨false, rfl, ⟨fun h => (by cases h), fun h => by have := (h.2 k (by omega)).2 E.out.1 E.out.2; omega⟩, rfl⟩
          · have t2 : decide (57 < bt s k) = false := decide_eq_false hz
            have hgb := HB.out
            go_wp2
            clear hgb
            go_round
            case rel => exact ⟨k + 1, by omega, upto_succ hu ⟨fun h => by have := E.out; omega, fun _ _ => by omega⟩, by go_num⟩
            case measure => simp [intOf]; omega
      · go_wp2
        go_ret
        exact ⟨true, rfl, ⟨fun _ => ⟨H10.out, fun i hi => hu i (by omega)⟩, fun _ => rfl⟩, rfl⟩
  · have t : ((s.size : Int) != 10) = true := by simp; omega
    have H10 := Lib.hid h10
    clear h10
    go_enter Tryd.func37, Tryd.ntmps37
    go_wp2
    go_ret
    exact ⟨false, rfl, ⟨fun h => (by cases h), fun h => absurd h.1 H10.out⟩, rfl⟩
theorem form_yes (s : ByteArray) (w : World) (h : Form s) :
    Calls Tryd.prog 37 #[.string s] w fun e w' => e = .returned (.bool true) ∧ w = w' :=
  (form_any s w).mono fun _ _ ⟨b, he, hb, hw⟩ => ⟨by rw [he, hb.2 h], hw⟩
theorem form_no (s : ByteArray) (w : World) (h : ¬ Form s) :
    Calls Tryd.prog 37 #[.string s] w fun e w' => e = .returned (.bool false) ∧ w = w' :=
  (form_any s w).mono fun _ _ ⟨b, he, hb, hw⟩ => ⟨by cases b with
    | true => exact absurd (hb.1 rfl) h
    | false => exact he, hw⟩
/-- The number that the first k bytes of a text of digits write. -/
def num (s : ByteArray) : Nat → Int
  | 0 => 0
  | k + 1 => 10 * num s k + (bt s k - 48)
theorem num_bd (s : ByteArray) (h : ∀ i, i < s.size → 48 ≤ bt s i ∧ bt s i ≤ 57) (hs : s.size ≤ 4) : ∀ k, k ≤ s.size → 0 ≤ num s k ∧ (k ≤ 3 → num s k ≤ 999) ∧ num s k ≤ 9999
  | 0, _ => by simp [num]
  | 1, h1 => by have := h 0 (by omega); simp [num]; omega
  | 2, h1 => by have := h 0 (by omega); have := h 1 (by omega); simp [num]; omega
  | 3, h1 => by have := h 0 (by omega); have := h 1 (by omega); have := h 2 (by omega); simp [num]; omega
  | 4, h1 => by have := h 0 (by omega); have := h 1 (by omega); have := h 2 (by omega); have := h 3 (by omega); simp [num]; omega
  | k + 5, h1 => by omega
set_option maxHeartbeats 400000 in
theorem number_any (s : ByteArray) (w : World) (hs : s.size ≤ 4) (hd : ∀ i, i < s.size → 48 ≤ bt s i ∧ bt s i ≤ 57) :
    Calls Tryd.prog 38 #[.string s] w fun e w' => e = .returned (.int .i64 (num s s.size)) ∧ w = w' := by
  have HB := Lib.hid (get_bt s)
  have HD := Lib.hid hd
  clear hd
  go_enter Tryd.func38, Tryd.ntmps38
  go_wp2
  go_loop [3, 7] (fun n i => ∃ k : Nat, k ≤ s.size ∧ n = .int .i64 (num s k) ∧ i = .int .i64 k) (fun _ i => s.size - (intOf i).toNat)
  case atStart => exact ⟨0, by omega, rfl, rfl⟩
  case round =>
    obtain ⟨k, hk, rfl, rfl⟩ := hrel
    by_cases hlt : k < s.size
    · obtain ⟨n0, n1, n2⟩ := num_bd s HD.out hs k hk
      have n3 := n1 (by omega)
      clear n1
      obtain ⟨d0, d1⟩ := HD.out k hlt
      have hgb := HB.out
      go_wp2
      clear hgb
      go_round
      case rel => exact ⟨k + 1, by omega, rfl, by go_num⟩
      case measure => simp [intOf]; omega
    · go_wp2
      go_ret
      exact ⟨ret_int (by rw [show k = s.size by omega]), rfl⟩
end Go.Proofs.YtckmilhdnljjkaaDoor.Cal
