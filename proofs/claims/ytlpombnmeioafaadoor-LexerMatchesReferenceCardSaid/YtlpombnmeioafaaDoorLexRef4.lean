/- What the reference's name, cur and numeric return for every text. Conditions: texts of at most 7000 bytes, offsets within them. -/
import Derived.Test.YtlpombnmeioafaaDoorLexRef2
import Derived.Test.YtlpombnmeioafaaDoorLexNum
import Derived.Deep.RegionHeld3
import Derived.Deep.LoopGhost
import Derived.Laws.ResultCell
set_option linter.unusedVariables false
set_option linter.unusedSimpArgs false
namespace Go.Proofs.YtlpombnmeioafaaDoor.Lx
open Go.RowKit Go.PlainAid
theorem run_less {p : Int → Bool} {l : List Int} {i : Nat} {c : Int} (h : l[i]? = some c) (hp : p c = false) : runL p l ≤ i := by
  rcases Nat.lt_or_ge i (runL p l) with q | q
  · obtain ⟨d, hd, hp2⟩ := runL_get p l i q
    rw [h] at hd
    obtain rfl := Option.some.inj hd
    rw [hp] at hp2; cases hp2
  · exact q
theorem run_sub {p : Int → Bool} {l : List Int} (hsub : ∀ c, p c = true → wd c = true) (h : ∀ i c, i < runL wd l → l[i]? = some c → p c = true) : runL p l = runL wd l := by
  refine runL_mk p l _ (fun i hi => ?_) (fun c hc => ?_)
  · obtain ⟨c, hc, _⟩ := runL_get wd l i hi
    exact ⟨c, hc, h i c hi hc⟩
  · have := runL_end wd l c hc
    cases hp : p c with
    | false => rfl
    | true => rw [hsub c hp] at this; cases this
theorem nm_wd (c : Int) (h : nm c = true) : wd c = true := by unfold wd; rw [h]; rfl
theorem up_wd (c : Int) (h : up c = true) : wd c = true := by unfold wd; rw [h, Bool.or_true]
theorem up_nm {c : Int} (h : up c = true) : nm c = false := by
  unfold up at h; unfold nm dg us lo
  simp at h ⊢; omega
theorem wd_nm {c : Int} (h : wd c = true) (h2 : up c = false) : nm c = true := by
  unfold wd at h; rw [h2, Bool.or_false] at h; exact h
/-- A token and whether it is one. -/
def RTok (s : ByteArray) (k : Nat) (r : Nat × Nat) (w : World) (e : Ending) (w' : World) : Prop :=
  ∃ (κ a : Int) (t : ByteArray) (b : Bool), e = .returned (.tuple #[.agg #[.int .i64 κ, .string t, .int .i64 a], .bool b]) ∧ (b = true ↔ r.1 ≠ 0) ∧ (r.1 ≠ 0 → κ = r.1 ∧ t = s.extract k (k + r.2) ∧ a = k) ∧ Below w.heap.size w w'
theorem RTok.no {s : ByteArray} {k : Nat} {r : Nat × Nat} {w w' : World} {e : Ending} {κ a : Int} {t : ByteArray} (h : r = (0, 0)) (he : e = .returned (.tuple #[.agg #[.int .i64 κ, .string t, .int .i64 a], .bool false])) (hb : Below w.heap.size w w') : RTok s k r w e w' := by
  subst h
  exact ⟨κ, a, t, false, he, by simp, fun h => absurd rfl h, hb⟩
theorem RTok.yes {s : ByteArray} {k : Nat} {r : Nat × Nat} {w w' : World} {e : Ending} {κ n : Nat} {t : ByteArray} (h : r = (κ, n)) (hκ : κ ≠ 0) (ht : t = s.extract k (k + n)) (he : e = .returned (.tuple #[.agg #[.int .i64 κ, .string t, .int .i64 k], .bool true])) (hb : Below w.heap.size w w') : RTok s k r w e w' := by
  subst h
  exact ⟨κ, k, t, true, he, by simpa using hκ, fun _ => ⟨rfl, ht, rfl⟩, hb⟩
theorem slice_mid (s : ByteArray) (k j : Nat) (h1 : k ≤ j) (h : j ≤ s.size) (w : World) : (Instr.slice 9 (.string s) (some (.int .i64 k)) (some (.int .i64 j)) none).run Tryd.prog w = .ok (.string (s.extract k j)) w := by
  rw [run_slice_string_if _ _ _ _ _ _ _ Tryd.underlying9, if_pos (by omega), if_pos (by omega)]; rfl
set_option maxHeartbeats 4000000 in
theorem rname_any (s : ByteArray) (k : Nat) (w : World) (hs : s.size ≤ 7000) (hk : k ≤ s.size) :
    Calls Tryd.prog 30 #[.string s, .int .i64 k] w (RTok s k (mName ((bl s).drop k)) w) := by
  obtain ⟨N, hN⟩ : ∃ N, N = runL wd ((bl s).drop k) := ⟨_, rfl⟩
  have hle := runL_le wd ((bl s).drop k)
  rw [List.length_drop, bl_len, ← hN] at hle
  have HR := fun W => rrun_any s k W hs hk
  simp only [← hN] at HR
  obtain ⟨E, hE⟩ : ∃ E, E = k + N := ⟨_, rfl⟩
  simp only [← hE] at HR
  have HRR := Lib.hid HR
  have HB := Lib.hid (get_bt s)
  have HN := Lib.hid hN
  have HE := Lib.hid hE
  have hEs : E ≤ s.size := by omega
  have hkE : k ≤ E := by omega
  clear HR hN hE
  go_enter Tryd.func30, Tryd.ntmps30
  go_wp2_with ((with_reducible refine (HRR.out _).mono ?_); rintro e w' ⟨rfl, hw⟩; subst hw)
  go_loop [7] (fun n => ∃ i : Nat, k ≤ i ∧ i ≤ E ∧ Hid (∀ j, k ≤ j → j < i → up (bt s j) = false) ∧ n = .int .i64 i) (fun n => E - (intOf n).toNat)
  case atStart => exact ⟨k, Nat.le_refl _, hkE, Lib.hid (fun j h1 h2 => by omega), rfl⟩
  case round =>
    obtain ⟨i, hi1, hi2, hu, rfl⟩ := hrel
    by_cases hlt : i < E
    · have his : i < s.size := by omega
      have b0 := bt_nonneg s i
      have b1 := bt_le s i
      have HC := Lib.hid (fun W => rupper_any (bt s i) W b0 b1)
      have hgb := HB.out
      rcases Bool.eq_false_or_eq_true (up (bt s i)) with hv | hv
      · have HM := Lib.hid (show mName ((bl s).drop k) = (0, 0) by
          unfold mName
          rw [if_pos]
          right
          have hl := run_less (p := nm) (l := (bl s).drop k) (i := i - k) (c := bt s i) (by rw [List.getElem?_drop, show k + (i - k) = i by omega]; exact bl_get s i his) (up_nm hv)
          rw [← HN.out]
          have := HE.out; omega)
        rw [hv] at HC
        clear hv
        go_wp2_with ((with_reducible refine (HC.out _).mono ?_); rintro e w' ⟨rfl, hw⟩; subst hw)
        refine bodyPost_ret (v := .tuple #[.agg #[.int .i64 0, .string ⟨#[]⟩, .int .i64 0], .bool false]) (by rw [results_cell_tmp rfl]; go_simp) rfl (RTok.no HM.out rfl ?_)
        exact (Below.refl _ _).alloc (Nat.le_refl _) _
      · have HV := Lib.hid hv
        rw [hv] at HC
        clear hv
        go_wp2_with ((with_reducible refine (HC.out _).mono ?_); rintro e w' ⟨rfl, hw⟩; subst hw)
        go_round
        case rel => exact ⟨i + 1, by omega, by omega, Lib.hid (fun j h1 h2 => by
          rcases Nat.lt_or_ge j i with h | h
          · exact hu.out j h1 h
          · obtain rfl : j = i := by omega
            exact HV.out), by go_num⟩
        case measure => simp [intOf]; omega
    · obtain rfl : i = E := by omega
      have hnm : runL nm ((bl s).drop k) = N := by
        rw [HN.out]
        refine run_sub nm_wd (fun j c hj hc => ?_)
        obtain ⟨d, hd, hw⟩ := runL_get wd _ j hj
        rw [hc] at hd
        obtain rfl := Option.some.inj hd
        rw [← HN.out] at hj
        have hjs : k + j < s.size := by have := HE.out; omega
        rw [List.getElem?_drop, bl_get s _ hjs] at hc
        obtain rfl := Option.some.inj hc
        exact wd_nm hw (hu.out (k + j) (by omega) (by have := HE.out; omega))
      have HM := Lib.hid (show mName ((bl s).drop k) = if N ≤ 16 then (1, N) else (0, 0) by
        unfold mName
        rw [hnm, ← HN.out]
        by_cases h : N ≤ 16
        · rw [if_pos h, if_neg (by omega)]
        · rw [if_neg h, if_pos (by omega)])
      have hsl := fun W => slice_mid s k i (by omega) (by omega) W
      have hd : decide ((i : Int) - (k : Int) ≤ 16) = decide (N ≤ 16) := by
        have := HE.out
        rw [Bool.eq_iff_iff, decide_eq_true_eq, decide_eq_true_eq]; omega
      clear hnm
      by_cases h : N ≤ 16
      · rw [if_pos h] at HM
        rw [decide_eq_true h] at hd
        go_wp2
        refine bodyPost_ret (v := .tuple #[.agg #[.int .i64 1, .string (s.extract k i), .int .i64 k], .bool true]) (by rw [results_cell_tmp rfl]; go_simp) rfl (RTok.yes HM.out (by decide) (by rw [← HE.out]) rfl ?_)
        exact (Below.refl _ _).alloc (Nat.le_refl _) _
      · rw [if_neg h] at HM
        rw [decide_eq_false h] at hd
        go_wp2
        refine bodyPost_ret (v := .tuple #[.agg #[.int .i64 1, .string (s.extract k i), .int .i64 k], .bool false]) (by rw [results_cell_tmp rfl]; go_simp) rfl (RTok.no HM.out rfl ?_)
        exact (Below.refl _ _).alloc (Nat.le_refl _) _
set_option maxHeartbeats 4000000 in
theorem rcur_any (s : ByteArray) (k : Nat) (w : World) (hs : s.size ≤ 7000) (hk : k ≤ s.size) :
    Calls Tryd.prog 32 #[.string s, .int .i64 k] w (RTok s k (mCur ((bl s).drop k)) w) := by
  obtain ⟨N, hN⟩ : ∃ N, N = runL wd ((bl s).drop k) := ⟨_, rfl⟩
  have hle := runL_le wd ((bl s).drop k)
  rw [List.length_drop, bl_len, ← hN] at hle
  have HR := fun W => rrun_any s k W hs hk
  simp only [← hN] at HR
  obtain ⟨E, hE⟩ : ∃ E, E = k + N := ⟨_, rfl⟩
  simp only [← hE] at HR
  have HRR := Lib.hid HR
  have HB := Lib.hid (get_bt s)
  have HN := Lib.hid hN
  have HE := Lib.hid hE
  have hEs : E ≤ s.size := by omega
  have hkE : k ≤ E := by omega
  clear HR hN hE
  go_enter Tryd.func32, Tryd.ntmps32
  go_wp2_with ((with_reducible refine (HRR.out _).mono ?_); rintro e w' ⟨rfl, hw⟩; subst hw)
  go_loop [7] (fun n => ∃ i : Nat, k ≤ i ∧ i ≤ E ∧ Hid (∀ j, k ≤ j → j < i → up (bt s j) = true) ∧ n = .int .i64 i) (fun n => E - (intOf n).toNat)
  case atStart => exact ⟨k, Nat.le_refl _, hkE, Lib.hid (fun j h1 h2 => by omega), rfl⟩
  case round =>
    obtain ⟨i, hi1, hi2, hu, rfl⟩ := hrel
    by_cases hlt : i < E
    · have his : i < s.size := by omega
      have b0 := bt_nonneg s i
      have b1 := bt_le s i
      have HC := Lib.hid (fun W => rupper_any (bt s i) W b0 b1)
      have hgb := HB.out
      rcases (Bool.eq_false_or_eq_true (up (bt s i))).symm with hv | hv
      · have HM := Lib.hid (show mCur ((bl s).drop k) = (0, 0) by
          unfold mCur
          rw [if_pos]
          have hl := run_less (p := up) (l := (bl s).drop k) (i := i - k) (c := bt s i) (by rw [List.getElem?_drop, show k + (i - k) = i by omega]; exact bl_get s i his) hv
          rw [← HN.out]
          have := HE.out; omega)
        rw [hv] at HC
        clear hv
        go_wp2_with ((with_reducible refine (HC.out _).mono ?_); rintro e w' ⟨rfl, hw⟩; subst hw)
        refine bodyPost_ret (v := .tuple #[.agg #[.int .i64 0, .string ⟨#[]⟩, .int .i64 0], .bool false]) (by rw [results_cell_tmp rfl]; go_simp) rfl (RTok.no HM.out rfl ?_)
        exact (Below.refl _ _).alloc (Nat.le_refl _) _
      · have HV := Lib.hid hv
        rw [hv] at HC
        clear hv
        go_wp2_with ((with_reducible refine (HC.out _).mono ?_); rintro e w' ⟨rfl, hw⟩; subst hw)
        go_round
        case rel => exact ⟨i + 1, by omega, by omega, Lib.hid (fun j h1 h2 => by
          rcases Nat.lt_or_ge j i with h | h
          · exact hu.out j h1 h
          · obtain rfl : j = i := by omega
            exact HV.out), by go_num⟩
        case measure => simp [intOf]; omega
    · obtain rfl : i = E := by omega
      have hnm : runL up ((bl s).drop k) = N := by
        rw [HN.out]
        refine run_sub up_wd (fun j c hj hc => ?_)
        obtain ⟨d, hd, hw⟩ := runL_get wd _ j hj
        rw [hc] at hd
        obtain rfl := Option.some.inj hd
        rw [← HN.out] at hj
        have hjs : k + j < s.size := by have := HE.out; omega
        rw [List.getElem?_drop, bl_get s _ hjs] at hc
        obtain rfl := Option.some.inj hc
        exact hu.out (k + j) (by omega) (by have := HE.out; omega)
      have HM := Lib.hid (show mCur ((bl s).drop k) = if N = 3 then (2, N) else (0, 0) by
        unfold mCur
        rw [hnm, ← HN.out]
        by_cases h : N = 3
        · rw [if_pos h, if_neg (by omega), h]
        · rw [if_neg h, if_pos (by omega)])
      have hsl := fun W => slice_mid s k i (by omega) (by omega) W
      have hd : ((i : Int) - (k : Int) == 3) = decide (N = 3) := by
        have := HE.out
        rw [Bool.eq_iff_iff, beq_iff_eq, decide_eq_true_eq]; omega
      clear hnm
      by_cases h : N = 3
      · rw [if_pos h] at HM
        rw [decide_eq_true h] at hd
        go_wp2
        refine bodyPost_ret (v := .tuple #[.agg #[.int .i64 2, .string (s.extract k i), .int .i64 k], .bool true]) (by rw [results_cell_tmp rfl]; go_simp) rfl (RTok.yes HM.out (by decide) (by rw [← HE.out]) rfl ?_)
        exact (Below.refl _ _).alloc (Nat.le_refl _) _
      · rw [if_neg h] at HM
        rw [decide_eq_false h] at hd
        go_wp2
        refine bodyPost_ret (v := .tuple #[.agg #[.int .i64 2, .string (s.extract k i), .int .i64 k], .bool false]) (by rw [results_cell_tmp rfl]; go_simp) rfl (RTok.no HM.out rfl ?_)
        exact (Below.refl _ _).alloc (Nat.le_refl _) _
end Go.Proofs.YtlpombnmeioafaaDoor.Lx
