/- Where the line that begins at an offset ends. No condition. -/
import Derived.Test.YtlpombnmeioafaaDoorLexGap
set_option linter.unusedVariables false
set_option linter.unusedSimpArgs false
namespace Go.Proofs.YtlpombnmeioafaaDoor.Lx
open Go.RowKit Go.PlainAid
theorem white_eq (c : Int) : white c = (c == 32 || c == 9 || c == 10 || c == 13) := rfl
/-- Where the line that begins at an offset ends. -/
def lineE (s : ByteArray) (k : Nat) : Nat := k + runL (fun c => c != 10) ((bl s).drop k)
theorem lineE_le (s : ByteArray) (k : Nat) (h : k ≤ s.size) : k ≤ lineE s k ∧ lineE s k ≤ s.size := by
  have := runL_le (fun c => c != 10) ((bl s).drop k)
  rw [List.length_drop, bl_len] at this
  unfold lineE; omega
theorem lineE_in (s : ByteArray) (k j : Nat) (h1 : k ≤ j) (h2 : j < lineE s k) (h3 : j < s.size) : (bt s j != 10) = true := by
  unfold lineE at h2
  obtain ⟨c, hc, hp⟩ := runL_get (fun c => c != 10) ((bl s).drop k) (j - k) (by omega)
  rw [List.getElem?_drop, show k + (j - k) = j by omega, bl_get s j h3] at hc
  obtain rfl : bt s j = c := by simpa using hc
  exact hp
theorem lineE_at (s : ByteArray) (k : Nat) (h3 : lineE s k < s.size) : (bt s (lineE s k) != 10) = false := by
  refine runL_end (fun c => c != 10) ((bl s).drop k) _ ?_
  rw [List.getElem?_drop]
  exact bl_get s _ h3
end Go.Proofs.YtlpombnmeioafaaDoor.Lx
