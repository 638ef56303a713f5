/- What the reference's functions on bytes and its run, digits, free, begins and date return for every text. Conditions: texts of at most 7000 bytes, offsets within them. -/
import Derived.Test.YtlpombnmeioafaaDoorLexGap
import Derived.Laws.DeepStrings4
set_option linter.unusedVariables false
set_option linter.unusedSimpArgs false
namespace Go.Proofs.YtlpombnmeioafaaDoor.Lx
open Go.RowKit Go.PlainAid
theorem rlower_any (c : Int) (w : World) (h0 : 0 ≤ c) (h1 : c ≤ 255) : Calls Tryd.prog 29 #[.int .u8 c] w fun e w' => e = .returned (.bool (lo c)) ∧ w = w' := by
  obtain ⟨p, hp⟩ : ∃ p, decide ((97 : Int) ≤ c) = p := ⟨_, rfl⟩
  obtain ⟨q, hq⟩ : ∃ q, decide (c ≤ (122 : Int)) = q := ⟨_, rfl⟩
  have HL := Lib.hid (show lo c = (p && q) by unfold lo; rw [hp, hq])
  cases p <;> cases q <;>
  · go_enter Tryd.func29, Tryd.ntmps29
    go_wp2
    go_ret
    exact ⟨ret_bool HL.out.symm, rfl⟩
theorem rupper_any (c : Int) (w : World) (h0 : 0 ≤ c) (h1 : c ≤ 255) : Calls Tryd.prog 31 #[.int .u8 c] w fun e w' => e = .returned (.bool (up c)) ∧ w = w' := by
  obtain ⟨p, hp⟩ : ∃ p, decide ((65 : Int) ≤ c) = p := ⟨_, rfl⟩
  obtain ⟨q, hq⟩ : ∃ q, decide (c ≤ (90 : Int)) = q := ⟨_, rfl⟩
  have HL := Lib.hid (show up c = (p && q) by unfold up; rw [hp, hq])
  cases p <;> cases q <;>
  · go_enter Tryd.func31, Tryd.ntmps31
    go_wp2
    go_ret
    exact ⟨ret_bool HL.out.symm, rfl⟩
theorem rdigit_any (c : Int) (w : World) (h0 : 0 ≤ c) (h1 : c ≤ 255) : Calls Tryd.prog 27 #[.int .u8 c] w fun e w' => e = .returned (.bool (dg c)) ∧ w = w' := by
  obtain ⟨p, hp⟩ : ∃ p, decide ((48 : Int) ≤ c) = p := ⟨_, rfl⟩
  obtain ⟨q, hq⟩ : ∃ q, decide (c ≤ (57 : Int)) = q := ⟨_, rfl⟩
  have HL := Lib.hid (show dg c = (p && q) by unfold dg; rw [hp, hq])
  cases p <;> cases q <;>
  · go_enter Tryd.func27, Tryd.ntmps27
    go_wp2
    go_ret
    exact ⟨ret_bool HL.out.symm, rfl⟩
theorem rwhite_any (c : Int) (w : World) (h0 : 0 ≤ c) (h1 : c ≤ 255) : Calls Tryd.prog 25 #[.int .u8 c] w fun e w' => e = .returned (.bool (white c)) ∧ w = w' := by
  obtain ⟨p1, h1⟩ : ∃ p, (c == 32) = p := ⟨_, rfl⟩
  obtain ⟨p2, h2⟩ : ∃ p, (c == 9) = p := ⟨_, rfl⟩
  obtain ⟨p3, h3⟩ : ∃ p, (c == 10) = p := ⟨_, rfl⟩
  obtain ⟨p4, h4⟩ : ∃ p, (c == 13) = p := ⟨_, rfl⟩
  have HL := Lib.hid (show white c = (p1 || p2 || p3 || p4) by unfold white; rw [h1, h2, h3, h4])
  cases p1
  · cases p2
    · cases p3
      · cases p4 <;>
        · go_enter Tryd.func25, Tryd.ntmps25
          go_wp2
          go_ret
          exact ⟨ret_bool HL.out.symm, rfl⟩
      · clear h4
        go_enter Tryd.func25, Tryd.ntmps25
        go_wp2
        go_ret
        exact ⟨ret_bool HL.out.symm, rfl⟩
    · clear h3 h4
      go_enter Tryd.func25, Tryd.ntmps25
      go_wp2
      go_ret
      exact ⟨ret_bool HL.out.symm, rfl⟩
  · clear h2 h3 h4
    go_enter Tryd.func25, Tryd.ntmps25
    go_wp2
    go_ret
    exact ⟨ret_bool HL.out.symm, rfl⟩
theorem rword_any (c : Int) (w : World) (h0 : 0 ≤ c) (h1 : c ≤ 255) : Calls Tryd.prog 49 #[.int .u8 c] w fun e w' => e = .returned (.bool (wd c)) ∧ w = w' := by
  have K1 := Lib.hid (rlower_any c w h0 h1)
  have K2 := Lib.hid (rupper_any c w h0 h1)
  have K3 := Lib.hid (rdigit_any c w h0 h1)
  obtain ⟨p1, h1⟩ : ∃ p, p = lo c := ⟨_, rfl⟩
  obtain ⟨p2, h2⟩ : ∃ p, p = up c := ⟨_, rfl⟩
  obtain ⟨p3, h3⟩ : ∃ p, p = dg c := ⟨_, rfl⟩
  obtain ⟨p4, h4⟩ : ∃ p, (c == 95) = p := ⟨_, rfl⟩
  have HL := Lib.hid (show wd c = (p3 || p4 || p1 || p2) by unfold wd nm us; rw [h1, h2, h3, h4])
  rw [← h1] at K1
  rw [← h2] at K2
  rw [← h3] at K3
  clear h1 h2 h3
  cases p1 <;> cases p2 <;> cases p3 <;> cases p4 <;>
  · go_enter Tryd.func49, Tryd.ntmps49
    go_wp2_with (first | ((with_reducible refine K1.out.mono ?_); rintro e w ⟨rfl, rfl⟩) | ((with_reducible refine K2.out.mono ?_); rintro e w ⟨rfl, rfl⟩) | ((with_reducible refine K3.out.mono ?_); rintro e w ⟨rfl, rfl⟩))
    go_ret
    exact ⟨ret_bool HL.out.symm, rfl⟩
end Go.Proofs.YtlpombnmeioafaaDoor.Lx
