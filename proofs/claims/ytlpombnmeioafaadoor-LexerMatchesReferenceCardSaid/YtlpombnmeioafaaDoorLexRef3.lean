/- What the reference's Skip returns for every text. Conditions: texts of at most 7000 bytes, offsets within them. -/
import Derived.Test.YtlpombnmeioafaaDoorLexRef2
import Derived.Test.YtlpombnmeioafaaDoorLexLine
import Derived.Deep.LoopGhost
set_option linter.unusedVariables false
set_option linter.unusedSimpArgs false
namespace Go.Proofs.YtlpombnmeioafaaDoor.Lx
open Go.RowKit Go.PlainAid
set_option maxHeartbeats 4000000 in
theorem rskip_any (s : ByteArray) (k0 : Nat) (w : World) (hs : s.size ≤ 7000) (hk0 : k0 ≤ s.size) :
    Calls Tryd.prog 20 #[.string s, .int .i64 k0] w fun e w' => e = .returned (.int .i64 (nx (bl s) k0)) ∧ w = w' := by
  obtain ⟨T, hTT⟩ : ∃ T, T = nx (bl s) k0 := ⟨_, rfl⟩
  have HTT := Lib.hid hTT
  rw [← hTT]
  clear hTT
  have HB := Lib.hid (get_bt s)
  go_enter Tryd.func20, Tryd.ntmps20
  go_wp2
  go_loopg [1] (s.size - k0) (fun g n W => ∃ k : Nat, w = W ∧ g = s.size - k ∧ k ≤ s.size ∧ Hid (nx (bl s) k = T) ∧ n = .int .i64 k)
  case atStart => exact ⟨k0, rfl, rfl, hk0, Lib.hid HTT.out.symm, rfl⟩
  case round =>
    obtain ⟨k, rfl, hg, hk, hu, rfl⟩ := hrel
    have HG := Lib.hid hg
    clear hg
    by_cases hlt : k < s.size
    · have b0 := bt_nonneg s k
      have b1 := bt_le s k
      have HC := Lib.hid (rwhite_any (bt s k) w b0 b1)
      have HP : Hid (Calls Tryd.prog 26 #[.string s, .int .i64 k, .string ⟨#[47, 47]⟩] w fun e w' => e = .returned (.bool (pre [47, 47] ((bl s).drop k))) ∧ w = w') := Lib.hid (rbegins_any s ⟨#[47, 47]⟩ k w hs hk (by decide))
      have hgb := HB.out
      rcases Bool.eq_false_or_eq_true (white (bt s k)) with hv | hv
      · have HN := Lib.hid (nx_white hlt hv)
        rw [hv] at HC
        clear hv
        go_wp2_with ((with_reducible refine HC.out.mono ?_); rintro e w ⟨rfl, rfl⟩)
        have hg2 := HG.out
        go_roundg (s.size - (k + 1))
        case measure => omega
        case rel => exact ⟨k + 1, rfl, rfl, by omega, Lib.hid (HN.out.trans hu.out), by go_num⟩
      · have HV := Lib.hid hv
        rw [hv] at HC
        clear hv
        rcases Bool.eq_false_or_eq_true (pre [47, 47] ((bl s).drop k)) with hv | hv
        · have HN := Lib.hid (nx_comment (s := s) (k := k) hv)
          have hm3 : k + 2 ≤ lineE s k := by
            unfold lineE
            have h2 := pre_len _ _ hv
            rw [pre_iff] at hv
            rcases e : (bl s).drop k with _ | ⟨c, _ | ⟨d, l⟩⟩
            · rw [e] at h2; simp at h2
            · rw [e] at h2; simp at h2
            · rw [e] at hv
              have : c = 47 ∧ d = 47 := by simpa using hv
              obtain ⟨rfl, rfl⟩ := this
              simp [runL]
          have hHN : Hid (nx (bl s) (lineE s k) = nx (bl s) k) := HN
          rw [hv] at HP
          obtain ⟨hl1, hl2⟩ := lineE_le s k hk
          have HI := Lib.hid (lineE_in s k)
          have HA := Lib.hid (lineE_at s k)
          clear hv HN
          generalize lineE s k = E at *
          go_wp2_with (first | ((with_reducible refine HC.out.mono ?_); rintro e w ⟨rfl, rfl⟩) | ((with_reducible refine HP.out.mono ?_); rintro e w ⟨rfl, rfl⟩))
          go_loopg [1] (E - k) (fun g n W => ∃ j : Nat, w = W ∧ g = E - j ∧ k ≤ j ∧ j ≤ E ∧ n = .int .i64 j)
          case atStart => exact ⟨k, rfl, rfl, Nat.le_refl _, hl1, rfl⟩
          case round =>
            obtain ⟨j, rfl, hg, hj1, hj2, rfl⟩ := hrel
            have HG3 := Lib.hid hg
            clear hg b0 b1
            by_cases hje : j < E
            · have hjs : j < s.size := by omega
              have t1 := HI.out j hj1 hje hjs
              go_wp2
              have hg2 := HG3.out
              go_roundg (E - (j + 1))
              case measure => omega
              case rel => exact ⟨j + 1, rfl, rfl, by omega, by omega, by go_num⟩
            · obtain rfl : j = E := by omega
              by_cases hjs : j < s.size
              · have t1 := HA.out hjs
                go_wp2
                have hg2 := HG.out
                go_roundg (s.size - j)
                case measure => omega
                case rel => exact ⟨j, rfl, rfl, hl2, Lib.hid (hHN.out.trans hu.out), rfl⟩
              · go_wp2
                have hg2 := HG.out
                go_roundg (s.size - j)
                case measure => omega
                case rel => exact ⟨j, rfl, rfl, hl2, Lib.hid (hHN.out.trans hu.out), rfl⟩
        · have HN := Lib.hid (nx_stop hlt HV.out hv)
          rw [hv] at HP
          clear hv
          go_wp2_with (first | ((with_reducible refine HC.out.mono ?_); rintro e w ⟨rfl, rfl⟩) | ((with_reducible refine HP.out.mono ?_); rintro e w ⟨rfl, rfl⟩))
          go_ret
          exact ⟨ret_int (by rw [← hu.out, HN.out]), rfl⟩
    · have HN := Lib.hid (nx_end (s := s) (k := k) (by omega))
      go_wp2
      go_ret
      exact ⟨ret_int (by rw [← hu.out, HN.out]), rfl⟩
end Go.Proofs.YtlpombnmeioafaaDoor.Lx
