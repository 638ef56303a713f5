/- What package lexer's run and strings.HasPrefix return for every text. Conditions: the table of classes holds what its initialiser lays; texts of at most 7000 bytes. -/
import Derived.Test.YtlpombnmeioafaaDoorLexBase
set_option linter.unusedVariables false
set_option linter.unusedSimpArgs false
namespace Go.Proofs.YtlpombnmeioafaaDoor.Lx
open Go.RowKit Go.PlainAid
set_option maxHeartbeats 1000000 in
theorem run_any (s : ByteArray) (of_ : Int) (p : Int → Bool) (w : World) (hs : s.size ≤ 7000) (hp : ∀ b, 0 ≤ b → b ≤ 255 → blg b of_ = p b) (hT : HasCls w) :
    Calls Tryd.prog 47 #[.string s, .int .u8 of_] w fun e w' => e = .returned (.int .i64 (runL p (bl s))) ∧ w = w' := by
  have HP := Lib.hid hp
  have HT := Lib.hid hT
  have HB := Lib.hid (get_bt s)
  clear hp hT
  go_enter Tryd.func47, Tryd.ntmps47
  go_wp2
  go_loop [5] (fun n => ∃ k : Nat, k ≤ s.size ∧ Hid (∀ i, i < k → p (bt s i) = true) ∧ n = .int .i64 k) (fun n => s.size - (intOf n).toNat)
  case atStart => exact ⟨0, Nat.zero_le _, Lib.hid (fun i hi => by omega), rfl⟩
  case round =>
    obtain ⟨k, hk, hu, rfl⟩ := hrel
    have b0 := bt_nonneg s k
    have b1 := bt_le s k
    have HC : Hid (Calls Tryd.prog 34 #[.int .u8 (bt s k), .int .u8 of_] w fun e w' => e = .returned (.bool (p (bt s k))) ∧ w = w') := by
      have := belongs_any (bt s k) of_ w b0 b1 HT.out
      rw [HP.out _ b0 b1] at this; exact Lib.hid this
    by_cases hlt : k < s.size
    · have hgb := HB.out
      rcases Bool.eq_false_or_eq_true (p (bt s k)) with hv | hv
      · rw [hv] at HC
        have HV := Lib.hid hv
        clear hv
        go_wp2_with ((with_reducible refine HC.out.mono ?_); rintro e w ⟨rfl, rfl⟩)
        go_round
        case rel => exact ⟨k + 1, by omega, Lib.hid (fun i hi => by
          rcases Nat.lt_or_ge i k with h | h
          · exact hu.out i h
          · obtain rfl : i = k := by omega
            exact HV.out), by go_num⟩
        case measure => simp [intOf]; omega
      · rw [hv] at HC
        have HV := Lib.hid hv
        clear hv
        go_wp2_with ((with_reducible refine HC.out.mono ?_); rintro e w ⟨rfl, rfl⟩)
        go_ret
        exact ⟨ret_int (by
          rw [runL_mk p (bl s) k (fun i hi => ⟨_, bl_get s i (by omega), hu.out i hi⟩) (fun c hc => by
            rw [bl_get s k hlt] at hc
            obtain rfl : bt s k = c := by simpa using hc
            exact HV.out)]), rfl⟩
    · go_wp2
      go_ret
      exact ⟨ret_int (by
          rw [runL_mk p (bl s) k (fun i hi => ⟨_, bl_get s i (by omega), hu.out i hi⟩) (fun c hc => by
            rw [List.getElem?_eq_none (by rw [bl_len]; omega)] at hc
            cases hc)]), rfl⟩
end Go.Proofs.YtlpombnmeioafaaDoor.Lx
