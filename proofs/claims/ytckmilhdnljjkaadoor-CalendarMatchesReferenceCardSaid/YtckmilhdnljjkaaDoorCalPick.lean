/- The laws' way from any integer to one of a range. Condition: the range is not empty. -/
import Derived.Test.YtckmilhdnljjkaaDoorCalOk
namespace Go.Proofs.YtckmilhdnljjkaaDoor.Cal
open Go.RowKit Go.Sort
/-- What pick returns, its bounds, and its contract in every world. -/
theorem pick_ex (c n : Int) (hc0 : -9223372036854775808 ≤ c) (hc1 : c ≤ 9223372036854775807) (hn : 0 < n) (hn1 : n ≤ 1000000) :
    ∃ p : Int, 0 ≤ p ∧ p < n ∧ (0 ≤ c → p = c % n) ∧ ∀ w, Calls Tryd.prog 10 #[.int .i64 c, .int .i64 n] w fun e w' => e = .returned (.int .i64 p) ∧ w = w' := by
  by_cases h : c < 0
  · refine ⟨(-(c + 1)) % n, Int.emod_nonneg _ (by omega), Int.emod_lt_of_pos _ hn, fun h' => by omega, fun w => ?_⟩
    have hz : n ≠ 0 := by omega
    go_enter Tryd.func10, Tryd.ntmps10
    go_wp2
    go_ret
    exact ⟨ret_int (by rw [← Int.neg_tmod, Int.tmod_eq_emod_of_nonneg (by omega)]), rfl⟩
  · refine ⟨c % n, Int.emod_nonneg _ (by omega), Int.emod_lt_of_pos _ hn, fun _ => rfl, fun w => ?_⟩
    have hz : n ≠ 0 := by omega
    go_enter Tryd.func10, Tryd.ntmps10
    go_wp2
    go_ret
    exact ⟨rfl, rfl⟩
end Go.Proofs.YtckmilhdnljjkaaDoor.Cal
