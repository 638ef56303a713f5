/- Tokens of digits, as the reference measures them: plain mathematics. No condition. -/
import Derived.Test.YtlpombnmeioafaaDoorLexMath2
set_option linter.unusedVariables false
set_option linter.unusedSimpArgs false
namespace Go.Proofs.YtlpombnmeioafaaDoor.Lx
theorem dg_wd {c : Int} (h : dg c = true) : wd c = true := by unfold wd nm; rw [h]; rfl
theorem stuck_dg {l : List Int} {i : Nat} (h : i < runL dg l) : stuck (l.drop i) = true := by
  obtain ⟨c, hc, hp⟩ := runL_get dg l i h
  obtain ⟨hi, he⟩ := List.getElem?_eq_some_iff.1 hc
  rw [List.drop_eq_getElem_cons hi, he]
  show (c == 46 || wd c) = true
  rw [dg_wd hp, Bool.or_true]
theorem fit_two (r : List Int) : fit [100, 100] r = decide (2 ≤ runL dg r) := by
  rcases r with _ | ⟨a, _ | ⟨b, r⟩⟩
  · rfl
  · cases h : dg a <;> simp [fit, runL, h]
  · cases h : dg a <;> cases h2 : dg b <;> simp [fit, runL, h, h2]
theorem num_date {l : List Int} (h : fit dateF l = true) : mDig l = if stuck (l.drop 10) = true then (0, 0) else (5, 10) := by
  unfold mDig mForm
  rw [if_pos h]
/-- Whether the digits may be so many. -/
def plain (n : Nat) (l : List Int) : Bool := decide (n = 1) || !(l.head? == some 48)
theorem plain_not {n : Nat} {l : List Int} (hn : 0 < n) : (1 < n ∧ l.head? = some 48) ↔ plain n l = false := by
  unfold plain
  by_cases h1 : n = 1
  · simp [h1]
  · by_cases h2 : l.head? = some 48
    · simp [h1, h2]; omega
    · have : (l.head? == some 48) = false := by simpa using h2
      simp [h1, h2]
theorem dig_of {l : List Int} {X : Nat × Nat} (h : mForm l = X) : mDig l = if stuck (l.drop X.2) = true then (0, 0) else X := by unfold mDig; rw [h]
theorem form_of {l : List Int} {n : Nat} (h : fit dateF l = false) (hn : n = runL dg l) :
    mForm l = if 1 < n ∧ l.head? = some 48 then (0, 0) else if n ≤ 10 ∧ fit centsF (l.drop n) = true then (4, n + 3) else if n ≤ 12 then (3, n) else (0, 0) := by
  unfold mForm; rw [if_neg (by rw [h]; simp), ← hn]
theorem num_cents {l : List Int} {n d : Nat} (h : fit dateF l = false) (hn : n = runL dg l) (h0 : 0 < n) (hp : (l.drop n).head? = some 46) (hd : d = runL dg (l.drop (n + 1))) :
    mDig l = if (plain n l && decide (n ≤ 10) && decide (d = 2) && !stuck (l.drop (n + 1 + d))) = true then (4, n + 3) else (0, 0) := by
  have hdr : l.drop n = 46 :: l.drop (n + 1) := by
    rcases e : l.drop n with _ | ⟨c, r⟩
    · rw [e] at hp; simp at hp
    · rw [e] at hp
      obtain rfl : c = 46 := by simpa using hp
      have : l.drop (n + 1) = (l.drop n).drop 1 := by rw [List.drop_drop]
      rw [this, e]; rfl
  have hfit : fit centsF (l.drop n) = decide (2 ≤ d) := by
    rw [hdr, hd, ← fit_two]; rfl
  have hst0 : stuck l = true := by have := stuck_dg (l := l) (i := 0) (by omega); rwa [List.drop_zero] at this
  have hstn : stuck (l.drop n) = true := by rw [hdr]; rfl
  have hf := form_of h hn
  rw [hfit] at hf
  have z0 : ∀ {X : Nat × Nat}, (if stuck (l.drop ((0, 0) : Nat × Nat).2) = true then (0, 0) else X) = ((0, 0) : Nat × Nat) := by intro X; rw [List.drop_zero, if_pos hst0]
  cases hpl : plain n l with
  | false =>
    rw [if_pos ((plain_not h0).2 hpl)] at hf
    rw [dig_of hf, z0]; simp
  | true =>
    rw [if_neg (fun q => by rw [(plain_not h0).1 q] at hpl; cases hpl)] at hf
    by_cases h10 : n ≤ 10
    · by_cases h2 : 2 ≤ d
      · rw [if_pos ⟨h10, by simpa using h2⟩] at hf
        rw [dig_of hf]
        by_cases h3 : d = 2
        · rw [h3]
          cases hs : stuck (l.drop (n + 3)) <;> simp [hs, h10]
        · have hs : stuck (l.drop (n + 3)) = true := by
            have := stuck_dg (l := l.drop (n + 1)) (i := 2) (by omega)
            rwa [List.drop_drop] at this
          simp [h3, hs]
      · rw [if_neg (fun q => h2 (by simpa using q.2)), if_pos (by omega)] at hf
        rw [dig_of hf, if_pos hstn]
        have : d ≠ 2 := by omega
        simp [this]
    · rw [if_neg (fun q => h10 q.1)] at hf
      by_cases h12 : n ≤ 12
      · rw [if_pos h12] at hf
        rw [dig_of hf, if_pos hstn]; simp [h10]
      · rw [if_neg h12] at hf
        rw [dig_of hf, z0]; simp [h10]
theorem num_plain {l : List Int} {n : Nat} (h : fit dateF l = false) (hn : n = runL dg l) (h0 : 0 < n) (hp : (l.drop n).head? ≠ some 46) :
    mDig l = if (plain n l && decide (n ≤ 12) && !stuck (l.drop n)) = true then (3, n) else (0, 0) := by
  have hfit : fit centsF (l.drop n) = false := by
    rcases e : l.drop n with _ | ⟨c, r⟩
    · rfl
    · rw [e] at hp
      have : (c == 46) = false := by simpa using fun q : c = 46 => hp (by rw [q]; rfl)
      show ((if (46 : Int) = 100 then dg c else c == 46) && _) = false
      rw [if_neg (by decide), this]; rfl
  have hst0 : stuck l = true := by have := stuck_dg (l := l) (i := 0) (by omega); rwa [List.drop_zero] at this
  have hf := form_of h hn
  rw [hfit] at hf
  have z0 : ∀ {X : Nat × Nat}, (if stuck (l.drop ((0, 0) : Nat × Nat).2) = true then (0, 0) else X) = ((0, 0) : Nat × Nat) := by intro X; rw [List.drop_zero, if_pos hst0]
  cases hpl : plain n l with
  | false =>
    rw [if_pos ((plain_not h0).2 hpl)] at hf
    rw [dig_of hf, z0]; simp
  | true =>
    rw [if_neg (fun q => by rw [(plain_not h0).1 q] at hpl; cases hpl), if_neg (fun q => by cases q.2)] at hf
    by_cases h12 : n ≤ 12
    · rw [if_pos h12] at hf
      rw [dig_of hf]
      cases hs : stuck (l.drop n) <;> simp [hs, h12]
    · rw [if_neg h12] at hf
      rw [dig_of hf, z0]; simp [h12]
end Go.Proofs.YtlpombnmeioafaaDoor.Lx
