/- What the reference's Same returns for two lists with the same tokens. No condition but that the lists lie in memory as the arguments say. -/
import Derived.Test.YtlpombnmeioafaaDoorLexRow
import Derived.Laws.StructEq
set_option linter.unusedVariables false
set_option linter.unusedSimpArgs false
namespace Go.Proofs.YtlpombnmeioafaaDoor.Lx
open Go Go.RowKit Go.PlainAid Go.Proofs.YtlpombnmeioafaaDoor.Zn
theorem tok_neq (k a : Int) (t : ByteArray) (W : World) : (binOp .neq 30 (.agg #[.int .i64 k, .string t, .int .i64 a]) (.agg #[.int .i64 k, .string t, .int .i64 a])).run Tryd.prog W = .ok (.bool false) W := by
  rw [run_neq_struct, show (10000 : Nat) = 9999 + 1 from rfl, run_equalIn_agg W 9999 30 _ _ (by kernel_rfl) (by kernel_rfl)]
  have u3 := Tryd.underlying3
  have u9 := Tryd.underlying9
  simp only [Program.fieldsOf, Tryd.underlying30]
  go_simp
theorem tok_guard (op : BinOp) (x y : Operand) (xs ys : Array Value) (W : World) : (eqGuard op 30 x y (.agg xs) (.agg ys)).run Tryd.prog W = .ok () W := run_eqGuard_agg W op _ x y xs ys (by kernel_rfl)
set_option maxHeartbeats 4000000 in
theorem same_any (a b : Option Addr) (ca cb n : Nat) (L : List ATok) (w : World) (hn : n = L.length) (hn2 : n ≤ 10000) (za : TokAt a L w) (zb : TokAt b L w) :
    Calls Tryd.prog 13 #[.slice a n ca, .slice b n cb] w fun r w' => r = .returned (.bool true) ∧ Drw w w' := by
  have HA := Lib.hid za
  have HB := Lib.hid zb
  have HN := Lib.hid hn
  have hq : ((n : Int) != (n : Int)) = false := by simp
  clear za zb hn
  go_enter Tryd.func13, Tryd.ntmps13
  go_wp2
  go_loopw [5] (fun i W => ∃ k : Nat, k ≤ n ∧ i = .int .i64 k ∧ Hid (Drw w W)) (fun i W => n - (intOf i).toNat)
  case atStart => exact ⟨0, Nat.zero_le _, rfl, Lib.hid (Drw.refl _)⟩
  case round =>
    obtain ⟨k, hk, rfl, hq2⟩ := hrel
    by_cases hlt : k < n
    · obtain ⟨x, hx⟩ : ∃ x, L[k]? = some x := ⟨_, List.getElem?_eq_getElem (by rw [← HN.out]; exact hlt)⟩
      obtain ⟨g1, o1, rfl, t0, t1, t2⟩ := (HA.out.below hq2.out.below) k x hx
      obtain ⟨g2, o2, rfl, t3, t4, t5⟩ := (HB.out.below hq2.out.below) k x hx
      have e1 := tok_neq x.1 x.2.2 x.2.1
      have e2 := tok_guard
      have hk0 : (0 : Int) ≤ (k : Int) := by omega
      clear hx
      go_wp2
      go_quiet (fail)
      go_wp2
      go_roundw
      case rel => exact ⟨k + 1, by omega, by go_num, Lib.hid (hq2.out.drewN _)⟩
      case measure => simp [intOf]; omega
    · go_wp2
      go_ret
      exact ⟨rfl, hq2.out⟩
end Go.Proofs.YtlpombnmeioafaaDoor.Lx
