/- What the functions of package calendar return, each for all of its arguments: contracts of begin, isDay, isMonth, Length, locate, Weekday, Month, First, Date, Later and Day. Condition: the table of the days before each month holds what its initialiser lays. -/
import Derived.Test.YtckmilhdnljjkaaDoorProg
import Derived.Test.YtckmilhdnljjkaaDoorCalMath
import Derived.WalkKit
import Derived.LoopTactic
import Derived.Deep.LoopGhost
import Derived.Handy
namespace Go.Proofs.YtckmilhdnljjkaaDoor.Cal
open Go.RowKit
/-- The table of the days before each month. -/
def HasTab (w : World) : Prop := ∀ k : Nat, k < 12 → w.cell? ⟨0, k, none⟩ = some (.int .i64 (tab k))
theorem HasTab.at {w : World} (h : HasTab w) (m : Int) (h0 : 0 ≤ m) (h1 : m < 12) : w.cell? ⟨0, m.toNat, none⟩ = some (.int .i64 (tab m)) := by
  have := h m.toNat (by omega)
  rwa [show ((m.toNat : Nat) : Int) = m by omega] at this
theorem ret_int {k : IntKind} {a b : Int} (h : a = b) : Ending.returned (.int k a) = .returned (.int k b) := by rw [h]
set_option maxHeartbeats 400000 in
theorem begin_any (m : Int) (w : World) (h0 : 0 ≤ m) (h1 : m ≤ 1200) (hT : HasTab w) :
    Calls Tryd.prog 32 #[.int .i64 m] w fun e w' => e = .returned (.int .i64 (beg m)) ∧ w = w' := by
  have hc := hT.at (m % 12) (by omega) (by omega)
  have hb := tab_bd (m % 12)
  clear hT
  go_enter Tryd.func32, Tryd.ntmps32
  go_wp2
  go_ret
  exact ⟨ret_int (by unfold beg; omega), rfl⟩
theorem isDay_yes (d : Int) (w : World) (h0 : 0 ≤ d) (h1 : d ≤ 36524) :
    Calls Tryd.prog 29 #[.int .i64 d] w fun e w' => e = .returned (.bool true) ∧ w = w' := by
  go_enter Tryd.func29, Tryd.ntmps29
  go_wp2
  go_ret
  exact ⟨rfl, rfl⟩
theorem isDay_no (d : Int) (w : World) (h : d < 0 ∨ 36524 < d) :
    Calls Tryd.prog 29 #[.int .i64 d] w fun e w' => e = .returned (.bool false) ∧ w = w' := by
  rcases h with h | h
  · go_enter Tryd.func29, Tryd.ntmps29
    go_wp2
    go_ret
    exact ⟨rfl, rfl⟩
  · have h' : 0 ≤ d := by omega
    have hd : decide (d ≤ 36524) = false := decide_eq_false (by omega)
    go_enter Tryd.func29, Tryd.ntmps29
    go_wp2
    go_ret
    exact ⟨rfl, rfl⟩
theorem isMonth_yes (d : Int) (w : World) (h0 : 0 ≤ d) (h1 : d ≤ 1199) :
    Calls Tryd.prog 36 #[.int .i64 d] w fun e w' => e = .returned (.bool true) ∧ w = w' := by
  go_enter Tryd.func36, Tryd.ntmps36
  go_wp2
  go_ret
  exact ⟨rfl, rfl⟩
theorem isMonth_no (d : Int) (w : World) (h : d < 0 ∨ 1199 < d) :
    Calls Tryd.prog 36 #[.int .i64 d] w fun e w' => e = .returned (.bool false) ∧ w = w' := by
  rcases h with h | h
  · go_enter Tryd.func36, Tryd.ntmps36
    go_wp2
    go_ret
    exact ⟨rfl, rfl⟩
  · have h' : 0 ≤ d := by omega
    have hd : decide (d ≤ 1199) = false := decide_eq_false (by omega)
    go_enter Tryd.func36, Tryd.ntmps36
    go_wp2
    go_ret
    exact ⟨rfl, rfl⟩
set_option maxHeartbeats 400000 in
theorem length_in (m : Int) (w : World) (h0 : 0 ≤ m) (h1 : m ≤ 1199) (hT : HasTab w) :
    Calls Tryd.prog 23 #[.int .i64 m] w fun e w' => e = .returned (.int .i64 (len m)) ∧ w = w' := by
  have b0 := beg_bd m h0 (by omega)
  have b1 := beg_bd (m + 1) (by omega) (by omega)
  go_enter Tryd.func23, Tryd.ntmps23
  go_wp2_with (first
    | (go_at_call 36; refine (isMonth_yes _ _ h0 h1).mono ?_; rintro e w' ⟨rfl, rfl⟩)
    | (go_at_call 32; refine (begin_any _ _ (by omega) (by omega) hT).mono ?_; rintro e w' ⟨rfl, rfl⟩))
  go_ret
  exact ⟨ret_int (by unfold len; omega), rfl⟩
theorem length_out (m : Int) (w : World) (h : m < 0 ∨ 1199 < m) :
    Calls Tryd.prog 23 #[.int .i64 m] w fun e w' => e = .returned (.int .i64 0) ∧ w = w' := by
  go_enter Tryd.func23, Tryd.ntmps23
  go_wp2_with (first
    | (go_at_call 36; refine (isMonth_no _ _ h).mono ?_; rintro e w' ⟨rfl, rfl⟩))
  go_ret
  exact ⟨rfl, rfl⟩
set_option maxHeartbeats 1000000 in
theorem locate_any (d : Int) (w : World) (h0 : 0 ≤ d) (h1 : d ≤ 36524) (hT : HasTab w) :
    Calls Tryd.prog 30 #[.int .i64 d] w fun e w' => e = .returned (.tuple #[.int .i64 (mo d), .int .i64 (dm d)]) ∧ w = w' := by
  have HB : Hid (beg 48 = 1461 ∧ beg 0 = 0) := ⟨by decide, by decide⟩
  go_enter Tryd.func30, Tryd.ntmps30
  go_wp2
  go_step3
  go_wp2
  go_step3
  go_wp2
  go_loopg [5, 6, 14] 4 (fun g s5 s6 s14 wx => ∃ y f : Int, 0 ≤ y ∧ y + g = 4 ∧ 0 ≤ d % 1461 - beg (12 * y) ∧ s5 = .int .i64 (d % 1461 - beg (12 * y)) ∧ s6 = .int .i64 f ∧ s14 = .int .i64 y ∧ w = wx)
  case atStart => exact ⟨0, 0, by omega, by omega, by have := HB.out.2; simp; omega, by have := HB.out.2; simp [this], rfl, rfl, rfl⟩
  case round =>
    obtain ⟨y, f, hy0, hyg, hl, rfl, rfl, rfl, rfl⟩ := hrel
    cases gk with
    | zero =>
      exfalso
      have := HB.out.1
      obtain rfl : y = 4 := by omega
      simp only [Int.reduceMul] at hl
      omega
    | succ g =>
      have hy4 : y < 4 := by omega
      go_wp2
      go_loopg [5, 6, 17] 12 (fun g2 s5 s6 s17 wx => ∃ m f : Int, 0 ≤ m ∧ m + g2 = 12 ∧ 0 ≤ d % 1461 - beg (12 * y + m) ∧ s5 = .int .i64 (d % 1461 - beg (12 * y + m)) ∧ s6 = .int .i64 f ∧ s17 = .int .i64 m ∧ w = wx)
      case atStart => exact ⟨0, _, by omega, by omega, by simpa using hl, by simp, rfl, rfl, rfl⟩
      case round =>
        obtain ⟨m, f, hm0, hmg, hl2, rfl, rfl, rfl, rfl⟩ := hrel
        cases gk with
        | zero =>
          obtain rfl : m = 12 := by omega
          have hm12 : ¬ (12 : Int) < 12 := by omega
          go_wp2
          go_roundg g
          case measure => omega
          case rel => exact ⟨y + 1, _, by omega, by omega, by rw [show 12 * (y + 1) = 12 * y + 12 by omega]; exact hl2, by rw [show 12 * (y + 1) = 12 * y + 12 by omega], rfl, rfl, rfl⟩
        | succ g2 =>
          have hm12 : m < 12 := by omega
          have hlb := len_bd (12 * y + m)
          have hlh := beg_bd (12 * y + m) (by omega) (by omega)
          by_cases hlt : d % 1461 - beg (12 * y + m) < len (12 * y + m)
          · go_wp2_with (first
              | (go_at_call 23; refine (length_in _ _ (by omega) (by omega) hT).mono ?_; rintro e w' ⟨rfl, rfl⟩))
            rw [Exit.noGoto_ret]
            go_ret2
            have hc := beg_cycle (12 * y + m) (d / 1461)
            have hq := mo_mk (m := 48 * (d / 1461) + (12 * y + m)) (b := d % 1461 - beg (12 * y + m)) (by omega) (by omega) hl2 (by unfold len; have := beg_cycle (12 * y + m + 1) (d / 1461); rw [show 48 * (d / 1461) + (12 * y + m) + 1 = 48 * (d / 1461) + (12 * y + m + 1) by omega, this, hc]; unfold len at hlt; omega)
            rw [show beg (48 * (d / 1461) + (12 * y + m)) + (d % 1461 - beg (12 * y + m)) = d by omega] at hq
            rw [hq.1, hq.2]
            exact ⟨rfl, rfl⟩
          · go_wp2_with (first
              | (go_at_call 23; refine (length_in _ _ (by omega) (by omega) hT).mono ?_; rintro e w' ⟨rfl, rfl⟩))
            go_roundg g2
            case measure => omega
            case rel =>
              have hs := beg_succ (12 * y + m)
              rw [show 12 * y + m + 1 = 12 * y + (m + 1) by omega] at hs
              exact ⟨m + 1, _, by omega, by omega, by omega, by rw [hs]; congr 1; omega, rfl, rfl, rfl⟩
end Go.Proofs.YtckmilhdnljjkaaDoor.Cal
