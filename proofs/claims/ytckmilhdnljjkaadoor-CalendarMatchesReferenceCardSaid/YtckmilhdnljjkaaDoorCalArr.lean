/- An array of three ints, handed over by value: what the reading of the argument says of its cells, and back. No condition. -/
import Derived.Test.YtckmilhdnljjkaaDoorCalOk
namespace Go.Proofs.YtckmilhdnljjkaaDoor.Cal
open Go.ChangeShapes Go.WideShapes Go.ChangeAt Go.RowKit
variable {H : Type} {enc : TypeId × Value → H} {W : World} {base : Nat} {sp : Nat → Bool} {hd : Bool}
theorem cellsArr : Tryd.prog.cellsOf 22 = 3 := by kernel_rfl
theorem open_arr3 {r : Reach} {b0 : Nat} {v : Value} {d : DataW H} {p : List MemPlace} (hv : Value.okWide Tryd.prog W r b0 22 v) (h : DataW.Trod enc Tryd.prog W base sp hd 22 v d p) :
    ∃ a b c : Int, v = .agg #[.int .i64 a, .int .i64 b, .int .i64 c] ∧ d = .agg [.lit (.int .i64 a), .lit (.int .i64 b), .lit (.int .i64 c)] ∧ p = [] ∧ (Lit.int .i64 a).wf = true ∧ (Lit.int .i64 b).wf = true ∧ (Lit.int .i64 c).wf = true := by
  unfold Value.okWide at hv
  rw [Tryd.underlying22] at hv
  obtain ⟨cs, rfl, hsz, _⟩ := hv
  rw [cellsArr] at hsz
  obtain ⟨l⟩ := cs
  match l, hsz with
  | [c0, c1, c2], _ =>
    obtain ⟨fuel, hf⟩ := h
    obtain ⟨xs, m, rfl, hx, hl, hn, hel⟩ := DataW.trod_array Tryd.underlying22 hf
    rw [cellsInt] at hel
    match xs, hn, hx, hel with
    | [x0, x1, x2], _, hx, hel =>
      obtain ⟨a, e0, f0, w0⟩ := DataW.trod_int Tryd.underlying3 (hel 0 (by decide))
      obtain ⟨b, e1, f1, w1⟩ := DataW.trod_int Tryd.underlying3 (hel 1 (by decide))
      obtain ⟨c, e2, f2, w2⟩ := DataW.trod_int Tryd.underlying3 (hel 2 (by decide))
      simp [Value.cells] at e0 e1 e2
      subst e0 e1 e2 f0 f1 f2
      simp only [Prod.mk.injEq] at hx
      exact ⟨a, b, c, rfl, by simpa using hx.1, by simpa using hx.2, w0, w1, w2⟩
theorem shut_arr3 {a b c : Int} (wa : (Lit.int .i64 a).wf = true) (wb : (Lit.int .i64 b).wf = true) (wc : (Lit.int .i64 c).wf = true) :
    DataW.Trod enc Tryd.prog W base sp hd 22 (.agg #[.int .i64 a, .int .i64 b, .int .i64 c]) (.agg [.lit (.int .i64 a), .lit (.int .i64 b), .lit (.int .i64 c)]) [] :=
  ⟨2, by simp [DataW.trod, Tryd.underlying22, Tryd.underlying3, cellsArr, cellsInt, Value.cells, List.range, List.range.loop, wa, wb, wc]⟩
end Go.Proofs.YtckmilhdnljjkaaDoor.Cal
