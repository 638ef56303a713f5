/- What package lexer's hasForm, measureName, measureCurrency, measureForm and measureDigits return for every text. Conditions: the table of classes holds what its initialiser lays; texts of at most 7000 bytes; measureDigits and measureForm are asked at a text that begins with a byte. -/
import Derived.Test.YtlpombnmeioafaaDoorLexOwn
import Derived.Test.YtlpombnmeioafaaDoorLexPre
set_option linter.unusedVariables false
set_option linter.unusedSimpArgs false
namespace Go.Proofs.YtlpombnmeioafaaDoor.Lx
open Go.RowKit Go.PlainAid
theorem bl_cons (s : ByteArray) (k : Nat) (h : k < s.size) : (bl s).drop k = bt s k :: (bl s).drop (k + 1) := by
  have hl : k < (bl s).length := by rw [bl_len]; exact h
  rw [List.drop_eq_getElem_cons hl]
  have := bl_get s k h
  rw [List.getElem?_eq_getElem hl] at this
  rw [show (bl s)[k] = bt s k by simpa using this]
theorem fit_step {f s : ByteArray} {k : Nat} (hf : k < f.size) (hs : k < s.size) : fit ((bl f).drop k) ((bl s).drop k) = ((if bt f k = 100 then dg (bt s k) else bt s k == bt f k) && fit ((bl f).drop (k + 1)) ((bl s).drop (k + 1))) := by
  rw [bl_cons f k hf, bl_cons s k hs]; rfl
theorem fit_end {f s : ByteArray} {k : Nat} (hf : f.size ≤ k) : fit ((bl f).drop k) ((bl s).drop k) = true := by
  rw [List.drop_of_length_le (by rw [bl_len]; exact hf)]; simp [fit]
set_option maxHeartbeats 2000000 in
theorem hasForm_any (s f : ByteArray) (w : World) (hs : s.size ≤ 7000) (hf : f.size ≤ 7000) (hT : HasCls w) :
    Calls Tryd.prog 51 #[.string s, .string f] w fun e w' => e = .returned (.bool (fit (bl f) (bl s))) ∧ ∃ n, w' = w.drewN n := by
  by_cases h : s.size < f.size
  · have HE := Lib.hid (show fit (bl f) (bl s) = false by
      rcases Bool.eq_false_or_eq_true (fit (bl f) (bl s)) with e | e
      · have := fit_len _ _ e; rw [bl_len, bl_len] at this; omega
      · exact e)
    have hd : decide (s.size < f.size) = true := decide_eq_true h
    clear hT
    go_enter Tryd.func51, Tryd.ntmps51
    go_wp2
    go_ret
    exact ⟨ret_bool HE.out.symm, 0, rfl⟩
  · have hd : decide (s.size < f.size) = false := decide_eq_false h
    have HT := Lib.hid hT
    have HB := Lib.hid (get_bt s)
    have HF := Lib.hid (get_bt f)
    clear hT
    go_enter Tryd.func51, Tryd.ntmps51
    go_wp2
    go_loopw [13] (fun n W => ∃ k : Nat, k ≤ f.size ∧ Hid (fit ((bl f).drop k) ((bl s).drop k) = fit (bl f) (bl s)) ∧ n = .int .i64 k ∧ Hid (∃ q, W = w.drewN q)) (fun n W => f.size - (intOf n).toNat)
    case atStart => exact ⟨0, Nat.zero_le _, Lib.hid (by rw [List.drop_zero, List.drop_zero]), rfl, Lib.hid ⟨0, rfl⟩⟩
    case round =>
      obtain ⟨k, hk, hu, rfl, hq⟩ := hrel
      have b0 := bt_nonneg s k
      have b1 := bt_le s k
      have HC : Hid (∀ W, HasCls W → Calls Tryd.prog 34 #[.int .u8 (bt s k), .int .u8 2] W fun e w' => e = .returned (.bool (dg (bt s k))) ∧ W = w') := Lib.hid fun W hW => by
        have := belongs_any (bt s k) 2 W b0 b1 hW
        rwa [(blg_cls b0 b1).2.1] at this
      have HTq : Hid (∀ n, HasCls (wr.drewN n)) := Lib.hid (fun n => by obtain ⟨q, rfl⟩ := hq.out; exact HT.out)
      by_cases hlt : k < f.size
      · have hks : k < s.size := by omega
        have HS := Lib.hid (fit_step hlt hks)
        have hgb := HB.out
        have hgf := HF.out
        have hi0 : (0 : Int) ≤ (k : Int) := by omega
        by_cases h1 : bt f k = 100
        · have hd2 : (bt f k == 100) = true := by rw [h1]; rfl
          have hd3 : (bt f k != 100) = false := by rw [h1]; rfl
          rw [if_pos h1] at HS
          have H1 := Lib.hid h1
          clear h1
          rcases Bool.eq_false_or_eq_true (dg (bt s k)) with hv | hv
          · rw [hv] at HC HS
            have HV := Lib.hid hv
            clear hv
            go_wp2
            go_quiet ((go_at_call 34; exact Calls.quiet_of_same ((HC.out _ (HTq.out _)).mono fun _ _ h => ⟨h.1, h.2.symm⟩)))
            go_wp2
            go_roundw
            case rel => exact ⟨k + 1, by omega, Lib.hid (by rw [← hu.out, HS.out, Bool.true_and]), by go_num, Lib.hid (by obtain ⟨q, rfl⟩ := hq.out; exact ⟨_, World.drewN_drewN _ _ _⟩)⟩
            case measure => simp [intOf]; omega
          · rw [hv] at HC HS
            have HV := Lib.hid hv
            clear hv
            go_wp2
            go_quiet ((go_at_call 34; exact Calls.quiet_of_same ((HC.out _ (HTq.out _)).mono fun _ _ h => ⟨h.1, h.2.symm⟩)))
            go_wp2
            go_ret
            exact ⟨ret_bool (by rw [← hu.out, HS.out, Bool.false_and]), (by obtain ⟨q, rfl⟩ := hq.out; exact ⟨_, World.drewN_drewN _ _ _⟩)⟩
        · have hd2 : (bt f k == 100) = false := by simpa using h1
          have hd3 : (bt f k != 100) = true := by simpa using h1
          rw [if_neg h1] at HS
          have H1 := Lib.hid h1
          clear h1
          rcases Bool.eq_false_or_eq_true (bt s k == bt f k) with hv | hv
          · rw [hv] at HS
            have hv' : (bt s k != bt f k) = false := by unfold bne; rw [hv]; rfl
            go_wp2
            go_quiet (fail)
            go_wp2
            go_roundw
            case rel => exact ⟨k + 1, by omega, Lib.hid (by rw [← hu.out, HS.out, Bool.true_and]), by go_num, Lib.hid (by obtain ⟨q, rfl⟩ := hq.out; exact ⟨_, World.drewN_drewN _ _ _⟩)⟩
            case measure => simp [intOf]; omega
          · rw [hv] at HS
            have hv' : (bt s k != bt f k) = true := by unfold bne; rw [hv]; rfl
            go_wp2
            go_quiet (fail)
            go_wp2
            go_ret
            exact ⟨ret_bool (by rw [← hu.out, HS.out, Bool.false_and]), (by obtain ⟨q, rfl⟩ := hq.out; exact ⟨_, World.drewN_drewN _ _ _⟩)⟩
      · go_wp2
        go_ret
        exact ⟨ret_bool (by rw [← hu.out, fit_end (by omega)]), hq.out⟩
end Go.Proofs.YtlpombnmeioafaaDoor.Lx
