/- What the laws' helpers short and far return. Conditions: the lists' values lie in memory as the argument says. -/
import Derived.Test.YtahionbbpfmplaaSpanBase
namespace Go.Proofs.Ytahionbbpfmplaa.Sp
open Go.RowKit
set_option maxHeartbeats 1000000 in
set_option maxRecDepth 100000 in
theorem short_any (g c : Nat) (vs : List (Option Addr × Nat × Nat)) (w : World) (hl : vs.length ≤ 1000) (hc : ∀ i x, vs[i]? = some x → w.cell? ⟨g, i, none⟩ = some (.slice x.1 x.2.1 x.2.2)) :
    Calls Try.prog 11 #[.slice (some ⟨g, 0, none⟩) vs.length c] w fun r w' => r = .returned (.bool (vs.all fun x => decide (x.2.1 ≤ 60))) ∧ Below w.heap.size w w' := by
  obtain ⟨n, hn⟩ : ∃ n, n = vs.length := ⟨_, rfl⟩
  rw [← hn] at hl ⊢
  have HN := Lib.hid hn
  have HC := Lib.hid hc
  clear hn hc
  go_enter Try.func11, Try.ntmps11
  go_wp2
  go_loopg [7] n (fun r s7 wx => ∃ i : Nat, i + r = n ∧ s7 = .int .i64 i ∧ Hid ((vs.take i).all (fun x => decide (x.2.1 ≤ 60)) = true) ∧ wx = w)
  case atStart => exact ⟨0, by omega, rfl, (show ((vs.take 0).all _) = true by rw [List.take_zero]; rfl), rfl⟩
  case round =>
    obtain ⟨i, hi, rfl, HA, rfl⟩ := hrel
    cases gk with
    | zero =>
      have hlt : ¬ (i : Int) < (n : Int) := by omega
      go_wp2
      go_ret
      exact ⟨ret_bool (by have h := HA.out; rw [List.take_of_length_le (by have := HN.out; omega)] at h; exact h.symm), Below.refl _ _⟩
    | succ r =>
      have hlt : (i : Int) < (n : Int) := by omega
      obtain ⟨x, hx⟩ : ∃ x, vs[i]? = some x := ⟨_, List.getElem?_eq_getElem (by have := HN.out; omega)⟩
      have c1 := HC.out i x hx
      have HX := Lib.hid hx
      clear hx
      obtain ⟨a, m, k⟩ := x
      by_cases hm : m ≤ 60
      · have hgt : ¬ (60 : Int) < (m : Int) := by omega
        have HS := Lib.hid (show (vs.take (i + 1)).all (fun x => decide (x.2.1 ≤ 60)) = true by
          rw [List.take_add_one, HX.out, List.all_append, HA.out, Bool.true_and]
          show (decide (m ≤ 60) && true) = true
          rw [decide_eq_true hm]; rfl)
        clear hm
        go_wp2
        go_roundg r
        case measure => omega
        case rel => exact ⟨i + 1, by omega, by go_num, HS.out, rfl⟩
      · have hgt : (60 : Int) < (m : Int) := by omega
        have HS := Lib.hid (show vs.all (fun x => decide (x.2.1 ≤ 60)) = false by
          rw [List.all_eq_false]
          exact ⟨_, List.mem_of_getElem? HX.out, by show ¬ decide (m ≤ 60) = true; rw [decide_eq_false hm]; decide⟩)
        clear hm
        go_wp2
        go_ret
        exact ⟨ret_bool HS.out.symm, Below.refl _ _⟩
/-- Bounds that are not at the ends of the integers. -/
def Far (f t : Int) : Prop := -4611686018427387904 < f ∧ f < 4611686018427387904 ∧ -4611686018427387904 < t ∧ t < 4611686018427387904
instance (f t : Int) : Decidable (Far f t) := by unfold Far; infer_instance
theorem far_any (f t : Int) (w : World) : Calls Try.prog 27 #[sv f t] w fun r w' => r = .returned (.bool (decide (Far f t))) ∧ Below w.heap.size w w' := by
  have hb := alloc_below w (.cells #[.int .i64 f, .int .i64 t] 33)
  have k0 : (w.alloc (.cells #[.int .i64 f, .int .i64 t] 33)).cell? ⟨w.heap.size, 0, none⟩ = some (.int .i64 f) := by simp [World.cell?_alloc_new]
  have k1 : (w.alloc (.cells #[.int .i64 f, .int .i64 t] 33)).cell? ⟨w.heap.size, 1, none⟩ = some (.int .i64 t) := by simp [World.cell?_alloc_new]
  go_enter Try.func27, Try.ntmps27
  go_wp2
  all_goals go_ret
  all_goals exact ⟨ret_bool (by rw [Bool.eq_iff_iff, decide_eq_true_iff (p := Far f t)]; show _ ↔ (-4611686018427387904 < f ∧ f < 4611686018427387904 ∧ -4611686018427387904 < t ∧ t < 4611686018427387904); first | exact iff_of_false (by decide) (by omega) | (simp only [decide_eq_true_eq]; omega)), hb⟩
end Go.Proofs.Ytahionbbpfmplaa.Sp
