/- What the reference's run, digits, free, begins and date return for every text. Conditions: texts of at most 7000 bytes, offsets within them. -/
import Derived.Test.YtlpombnmeioafaaDoorLexRef
set_option linter.unusedVariables false
set_option linter.unusedSimpArgs false
namespace Go.Proofs.YtlpombnmeioafaaDoor.Lx
open Go.RowKit Go.PlainAid
set_option maxHeartbeats 1000000 in
theorem rrun_any (s : ByteArray) (k0 : Nat) (w : World) (hs : s.size ≤ 7000) (hk0 : k0 ≤ s.size) :
    Calls Tryd.prog 44 #[.string s, .int .i64 k0] w fun e w' => e = .returned (.int .i64 ((k0 + runL wd ((bl s).drop k0) : Nat) : Int)) ∧ w = w' := by
  have HB := Lib.hid (get_bt s)
  go_enter Tryd.func44, Tryd.ntmps44
  go_wp2
  go_loop [1] (fun n => ∃ k : Nat, k0 ≤ k ∧ k ≤ s.size ∧ Hid (∀ i, k0 ≤ i → i < k → wd (bt s i) = true) ∧ n = .int .i64 k) (fun n => s.size - (intOf n).toNat)
  case atStart => exact ⟨k0, Nat.le_refl _, hk0, Lib.hid (fun i h1 h2 => by omega), rfl⟩
  case round =>
    obtain ⟨k, hk1, hk, hu, rfl⟩ := hrel
    have b0 := bt_nonneg s k
    have b1 := bt_le s k
    have HC := Lib.hid (rword_any (bt s k) w b0 b1)
    have HE : Hid ((∀ c, (bl s)[k]? = some c → wd c = false) → runL wd ((bl s).drop k0) = k - k0) := Lib.hid fun hend => runL_mk wd ((bl s).drop k0) (k - k0) (fun i hi => ⟨bt s (k0 + i), by rw [List.getElem?_drop]; exact bl_get s _ (by omega), hu.out _ (by omega) (by omega)⟩) (fun c hc => hend c (by rw [List.getElem?_drop, show k0 + (k - k0) = k by omega] at hc; exact hc))
    by_cases hlt : k < s.size
    · have hgb := HB.out
      rcases Bool.eq_false_or_eq_true (wd (bt s k)) with hv | hv
      · rw [hv] at HC
        have HV := Lib.hid hv
        clear hv
        go_wp2_with ((with_reducible refine HC.out.mono ?_); rintro e w ⟨rfl, rfl⟩)
        go_round
        case rel => exact ⟨k + 1, by omega, by omega, Lib.hid (fun i h1 h2 => by
          rcases Nat.lt_or_ge i k with h | h
          · exact hu.out i h1 h
          · obtain rfl : i = k := by omega
            exact HV.out), by go_num⟩
        case measure => simp [intOf]; omega
      · rw [hv] at HC
        have HV := Lib.hid hv
        clear hv
        go_wp2_with ((with_reducible refine HC.out.mono ?_); rintro e w ⟨rfl, rfl⟩)
        go_ret
        exact ⟨ret_int (by
          rw [HE.out (fun c hc => by
            rw [bl_get s k hlt] at hc
            obtain rfl : bt s k = c := by simpa using hc
            exact HV.out)]; omega), rfl⟩
    · go_wp2
      go_ret
      exact ⟨ret_int (by
          rw [HE.out (fun c hc => by
            rw [List.getElem?_eq_none (by rw [bl_len]; omega)] at hc
            cases hc)]; omega), rfl⟩
set_option maxHeartbeats 1000000 in
theorem rdigits_any (s : ByteArray) (k0 : Nat) (w : World) (hs : s.size ≤ 7000) (hk0 : k0 ≤ s.size) :
    Calls Tryd.prog 43 #[.string s, .int .i64 k0] w fun e w' => e = .returned (.int .i64 ((k0 + runL dg ((bl s).drop k0) : Nat) : Int)) ∧ w = w' := by
  have HB := Lib.hid (get_bt s)
  go_enter Tryd.func43, Tryd.ntmps43
  go_wp2
  go_loop [1] (fun n => ∃ k : Nat, k0 ≤ k ∧ k ≤ s.size ∧ Hid (∀ i, k0 ≤ i → i < k → dg (bt s i) = true) ∧ n = .int .i64 k) (fun n => s.size - (intOf n).toNat)
  case atStart => exact ⟨k0, Nat.le_refl _, hk0, Lib.hid (fun i h1 h2 => by omega), rfl⟩
  case round =>
    obtain ⟨k, hk1, hk, hu, rfl⟩ := hrel
    have b0 := bt_nonneg s k
    have b1 := bt_le s k
    have HC := Lib.hid (rdigit_any (bt s k) w b0 b1)
    have HE : Hid ((∀ c, (bl s)[k]? = some c → dg c = false) → runL dg ((bl s).drop k0) = k - k0) := Lib.hid fun hend => runL_mk dg ((bl s).drop k0) (k - k0) (fun i hi => ⟨bt s (k0 + i), by rw [List.getElem?_drop]; exact bl_get s _ (by omega), hu.out _ (by omega) (by omega)⟩) (fun c hc => hend c (by rw [List.getElem?_drop, show k0 + (k - k0) = k by omega] at hc; exact hc))
    by_cases hlt : k < s.size
    · have hgb := HB.out
      rcases Bool.eq_false_or_eq_true (dg (bt s k)) with hv | hv
      · rw [hv] at HC
        have HV := Lib.hid hv
        clear hv
        go_wp2_with ((with_reducible refine HC.out.mono ?_); rintro e w ⟨rfl, rfl⟩)
        go_round
        case rel => exact ⟨k + 1, by omega, by omega, Lib.hid (fun i h1 h2 => by
          rcases Nat.lt_or_ge i k with h | h
          · exact hu.out i h1 h
          · obtain rfl : i = k := by omega
            exact HV.out), by go_num⟩
        case measure => simp [intOf]; omega
      · rw [hv] at HC
        have HV := Lib.hid hv
        clear hv
        go_wp2_with ((with_reducible refine HC.out.mono ?_); rintro e w ⟨rfl, rfl⟩)
        go_ret
        exact ⟨ret_int (by
          rw [HE.out (fun c hc => by
            rw [bl_get s k hlt] at hc
            obtain rfl : bt s k = c := by simpa using hc
            exact HV.out)]; omega), rfl⟩
    · go_wp2
      go_ret
      exact ⟨ret_int (by
          rw [HE.out (fun c hc => by
            rw [List.getElem?_eq_none (by rw [bl_len]; omega)] at hc
            cases hc)]; omega), rfl⟩
theorem rfree_any (s : ByteArray) (k : Nat) (w : World) (hs : s.size ≤ 7000) :
    Calls Tryd.prog 42 #[.string s, .int .i64 k] w fun e w' => e = .returned (.bool (!stuck ((bl s).drop k))) ∧ w = w' := by
  have HS := Lib.hid (stuck_at s k)
  by_cases h : k < s.size
  · rw [decide_eq_true h, Bool.true_and] at HS
    have b0 := bt_nonneg s k
    have b1 := bt_le s k
    have HC := Lib.hid (rword_any (bt s k) w b0 b1)
    obtain ⟨p, hp⟩ : ∃ p, (bt s k == 46) = p := ⟨_, rfl⟩
    obtain ⟨q, hq⟩ : ∃ q, q = wd (bt s k) := ⟨_, rfl⟩
    have hp2 : (bt s k != 46) = !p := by unfold bne; rw [hp]
    rw [hp, ← hq] at HS
    rw [← hq] at HC
    have hd : decide ((s.size : Int) ≤ (k : Int)) = false := decide_eq_false (by omega)
    have hd2 : decide (s.size ≤ k) = false := decide_eq_false (by omega)
    have hgb := get_bt s
    have hk0 : (0 : Int) ≤ (k : Int) := by omega
    clear hp hq
    cases p <;> cases q <;>
    · simp only [Bool.not_true, Bool.not_false] at hp2
      go_enter Tryd.func42, Tryd.ntmps42
      go_wp2_with ((with_reducible refine HC.out.mono ?_); rintro e w ⟨rfl, rfl⟩)
      go_ret
      exact ⟨ret_bool (by rw [HS.out]; rfl), rfl⟩
  · rw [decide_eq_false h, Bool.false_and] at HS
    have hd : decide ((s.size : Int) ≤ (k : Int)) = true := decide_eq_true (by omega)
    have hd2 : decide (s.size ≤ k) = true := decide_eq_true (by omega)
    go_enter Tryd.func42, Tryd.ntmps42
    go_wp2
    go_ret
    exact ⟨ret_bool (by rw [HS.out]; rfl), rfl⟩
theorem slice_two (s : ByteArray) (k n : Nat) (h : k + n ≤ s.size) (w : World) : (Instr.slice 9 (.string s) (some (.int .i64 k)) (some (.int .i64 ((k : Int) + (n : Int)))) none).run Tryd.prog w = .ok (.string (s.extract k (k + n))) w := by
  rw [run_slice_string_if _ _ _ _ _ _ _ Tryd.underlying9, if_pos (by omega), if_pos (by omega)]; rfl
theorem rbegins_any (s p : ByteArray) (k : Nat) (w : World) (hs : s.size ≤ 7000) (hk : k ≤ s.size) (hp : p.size ≤ 7000) :
    Calls Tryd.prog 26 #[.string s, .int .i64 k, .string p] w fun e w' => e = .returned (.bool (pre (bl p) ((bl s).drop k))) ∧ w = w' := by
  by_cases h : k + p.size ≤ s.size
  · have hd : decide ((p.size : Int) ≤ (s.size : Int) - (k : Int)) = true := decide_eq_true (by omega)
    have hsl := slice_two s k p.size h
    obtain ⟨q, hq⟩ : ∃ q, q = s.extract k (k + p.size) := ⟨_, rfl⟩
    have HE := Lib.hid (show (q.toList == p.toList) = pre (bl p) ((bl s).drop k) by
      have hb : bl q = ((bl s).drop k).take p.size := by rw [hq, bl_extract, List.drop_take, Nat.add_sub_cancel_left]
      rw [Bool.eq_iff_iff, beq_iff_eq, pre_iff, bl_len, toList_data, toList_data, ← hb]
      constructor
      · intro h1
        have h2 : q = p := by apply ByteArray.ext; exact Array.ext' h1
        rw [h2]
      · intro h1
        rw [bytes_eq h1])
    rw [← hq] at hsl
    clear hq
    go_enter Tryd.func26, Tryd.ntmps26
    go_wp2
    go_ret
    exact ⟨ret_bool HE.out, rfl⟩
  · have hd : decide ((p.size : Int) ≤ (s.size : Int) - (k : Int)) = false := decide_eq_false (by omega)
    have HE := Lib.hid (show pre (bl p) ((bl s).drop k) = false by
      rcases Bool.eq_false_or_eq_true (pre (bl p) ((bl s).drop k)) with e | e
      · have := pre_len _ _ e; rw [List.length_drop, bl_len, bl_len] at this; omega
      · exact e)
    go_enter Tryd.func26, Tryd.ntmps26
    go_wp2
    go_ret
    exact ⟨ret_bool HE.out.symm, rfl⟩
/-- The form of a date, from its place i on. -/
theorem date_step (s : ByteArray) (k i : Nat) (hi : i < 10) (h : k + 10 ≤ s.size) : fit (dateF.drop i) ((bl s).drop (k + i)) = ((if i = 4 ∨ i = 7 then bt s (k + i) == 45 else dg (bt s (k + i))) && fit (dateF.drop (i + 1)) ((bl s).drop (k + (i + 1)))) := by
  rw [bl_cons s (k + i) (by omega)]
  match i, hi with
  | 0, _ => rfl
  | 1, _ => rfl
  | 2, _ => rfl
  | 3, _ => rfl
  | 4, _ => rfl
  | 5, _ => rfl
  | 6, _ => rfl
  | 7, _ => rfl
  | 8, _ => rfl
  | 9, _ => rfl
set_option maxHeartbeats 2000000 in
theorem rdate_any (s : ByteArray) (k : Nat) (w : World) (hs : s.size ≤ 7000) (hk : k ≤ s.size) :
    Calls Tryd.prog 41 #[.string s, .int .i64 k] w fun e w' => e = .returned (.bool (fit dateF ((bl s).drop k))) ∧ w = w' := by
  by_cases h : k + 10 ≤ s.size
  · have hd : decide ((s.size : Int) - (k : Int) < 10) = false := decide_eq_false (by omega)
    have HB := Lib.hid (get_bt s)
    go_enter Tryd.func41, Tryd.ntmps41
    go_wp2
    go_loop [5] (fun n => ∃ i : Nat, i ≤ 10 ∧ Hid (fit (dateF.drop i) ((bl s).drop (k + i)) = fit dateF ((bl s).drop k)) ∧ n = .int .i64 i) (fun n => 10 - (intOf n).toNat)
    case atStart => exact ⟨0, by omega, Lib.hid rfl, rfl⟩
    case round =>
      obtain ⟨i, hi, hu, rfl⟩ := hrel
      by_cases hlt : i < 10
      · have HS := Lib.hid (date_step s k i hlt h)
        have b0 := bt_nonneg s (k + i)
        have b1 := bt_le s (k + i)
        have HC := Lib.hid (rdigit_any (bt s (k + i)) w b0 b1)
        have hgb := HB.out
        have hix : (0 : Int) ≤ (k : Int) + (i : Int) := by omega
        have hix2 : ((k : Int) + (i : Int)).toNat = k + i := by omega
        have hix3 : (k : Int) + (i : Int) < (s.size : Int) := by omega
        have hix4 : k + i < s.size := by omega
        by_cases hm : i = 4 ∨ i = 7
        · rw [if_pos hm] at HS
          have h47 : ((i : Int) == 4) = false → ((i : Int) == 7) = true := by intro h4; rcases hm with rfl | rfl <;> simp_all
          obtain ⟨v, hv⟩ : ∃ v, (bt s (k + i) == 45) = v := ⟨_, rfl⟩
          have hv2 : (bt s (k + i) != 45) = !v := by unfold bne; rw [hv]
          rw [hv] at HS
          clear hv
          rcases hm with rfl | rfl
          all_goals
            clear h47
            cases v
            · simp only [Bool.not_false] at hv2
              rw [Bool.false_and] at HS
              go_wp2
              go_ret
              exact ⟨ret_bool (by rw [← hu.out, HS.out]), rfl⟩
            · simp only [Bool.not_true] at hv2
              rw [Bool.true_and] at HS
              go_wp2
              go_round
              case rel => first | exact ⟨5, by decide, Lib.hid (by rw [← hu.out, HS.out]), rfl⟩ | exact ⟨8, by decide, Lib.hid (by rw [← hu.out, HS.out]), rfl⟩
              case measure => simp [intOf]
        · rw [if_neg hm] at HS
          have h4 : ((i : Int) == 4) = false := by simp; omega
          have h7 : ((i : Int) == 7) = false := by simp; omega
          obtain ⟨v, hv⟩ : ∃ v, v = dg (bt s (k + i)) := ⟨_, rfl⟩
          rw [← hv] at HS HC
          clear hv
          cases v
          · rw [Bool.false_and] at HS
            go_wp2_with ((with_reducible refine HC.out.mono ?_); rintro e w ⟨rfl, rfl⟩)
            go_ret
            exact ⟨ret_bool (by rw [← hu.out, HS.out]), rfl⟩
          · rw [Bool.true_and] at HS
            go_wp2_with ((with_reducible refine HC.out.mono ?_); rintro e w ⟨rfl, rfl⟩)
            go_round
            case rel => exact ⟨i + 1, by omega, Lib.hid (by rw [← hu.out, HS.out]), by go_num⟩
            case measure => simp [intOf]; omega
      · obtain rfl : i = 10 := by omega
        go_wp2
        go_ret
        exact ⟨ret_bool (by rw [← hu.out]; rfl), rfl⟩
  · have hd : decide ((s.size : Int) - (k : Int) < 10) = true := decide_eq_true (by omega)
    have HE := Lib.hid (show fit dateF ((bl s).drop k) = false by
      rcases Bool.eq_false_or_eq_true (fit dateF ((bl s).drop k)) with e | e
      · have := fit_len _ _ e; rw [List.length_drop, bl_len] at this; simp [dateF] at this; omega
      · exact e)
    go_enter Tryd.func41, Tryd.ntmps41
    go_wp2
    go_ret
    exact ⟨ret_bool HE.out.symm, rfl⟩
end Go.Proofs.YtlpombnmeioafaaDoor.Lx
