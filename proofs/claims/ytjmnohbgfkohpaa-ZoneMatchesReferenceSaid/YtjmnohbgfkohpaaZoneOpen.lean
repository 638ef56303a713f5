/- An argument that is a zone, or a window, by value: what it looks like, and where its changes lie. -/
import Derived.Test.YtjmnohbgfkohpaaZoneC
import Derived.ProofKit
import Derived.OpenShut
import Derived.Lib.SmallJoins
import Derived.Deep.SlicePairs
namespace Go.Proofs.Ytjmnohbgfkohpaa.Zn
open Go.ChangeShapes Go.WideShapes Go.ChangeAt Go.RowKit Go.Deep Go.Joins
theorem Try.cellsZone : Try.prog.cellsOf 24 = 3 := by kernel_rfl
theorem Try.cellsSpan : Try.prog.cellsOf 26 = 2 := by kernel_rfl
theorem Try.cellsChange : Try.prog.cellsOf 52 = 2 := by kernel_rfl
/-- The list that a slice's cells spell. -/
theorem list_of (len : Nat) (V : Nat → Int × Int) : ∃ cs : List (Int × Int), cs.length = len ∧ ∀ i x, cs[i]? = some x → i < len ∧ x = V i :=
  ⟨(List.range len).map V, by simp, fun i x hx => by
    rw [List.getElem?_map] at hx
    have hi : i < len := by
      rcases Nat.lt_or_ge i len with h | h
      · exact h
      · rw [List.getElem?_eq_none (by simpa using h)] at hx; simp at hx
    rw [List.getElem?_range hi] at hx
    exact ⟨hi, (Option.some.inj hx).symm⟩⟩
/-- The number in a value. -/
def iv : Value → Int
  | .int _ n => n
  | _ => 0
theorem open_zone {H : Type} {enc : TypeId × Value → H} {W : World} {base : Nat} {v : Value} {d : DataW H} {ps : List MemPlace} (hval : Value.okWide Try.prog W .any base 24 v) (h : DataW.Trod enc Try.prog W 0 (fun _ => true) true 24 v d ps) :
    ∃ (nm : ByteArray) (b : Int) (a : Option Addr) (cap : Nat) (cs : List (Int × Int)), v = zv nm b a cs.length cap ∧ ZoneAt a cs W ∧ Rng b ∧ (∀ x ∈ cs, Rng x.1 ∧ Rng x.2) ∧ cs.length ≤ maxLen := by
  obtain ⟨c0, c1, c2, y0, y1, y2, m, rfl, rfl, rfl, hy0, hy1, hy2⟩ := open_agg3 Try.underlying24 (by kernel_rfl) Try.cellsZone hval h
  obtain ⟨s, h0, -, -⟩ := DataW.trod_string Try.underlying9 hy0
  obtain ⟨n, h1, -, hw⟩ := DataW.trod_int Try.underlying3 hy1
  obtain rfl := List.singleton_inj.1 h0
  obtain rfl := List.singleton_inj.1 h1
  rcases open_slice_pairs Try.underlying22 Try.underlying52 Try.cellsChange rfl rfl (by kernel_rfl) (by kernel_rfl) hy2 with ⟨h2, -⟩ | ⟨a, len, cap, m', n', V0, V1, D0, D1, P0, P1, h2, -, hl, hm, hmm, -, hc⟩
  · obtain rfl := List.singleton_inj.1 h2
    exact ⟨s, n, none, 0, [], rfl, fun i x hx => by simp at hx, bounds_i64 hw, fun x hx => (by cases hx), Nat.zero_le _⟩
  · obtain rfl := List.singleton_inj.1 h2
    obtain ⟨cs, hlen, hcs⟩ := list_of len (fun i => (iv (V0 i), iv (V1 i)))
    have hlm : len ≤ m' := by rw [hmm]; simp; exact hl
    have each : ∀ i x, cs[i]? = some x → W.cell? (a.add (i * 2)) = some (.int .i64 x.1) ∧ W.cell? (a.add (i * 2 + 1)) = some (.int .i64 x.2) ∧ Rng x.1 ∧ Rng x.2 := fun i x hx => by
      obtain ⟨hi, rfl⟩ := hcs i x hx
      obtain ⟨q0, q1, q2, q3⟩ := hc i (by omega)
      obtain ⟨n0, e0, -, w0⟩ := DataW.trod_int Try.underlying3 q2
      obtain ⟨n1, e1, -, w1⟩ := DataW.trod_int Try.underlying3 q3
      have f0 : V0 i = .int .i64 n0 := List.singleton_inj.1 e0
      have f1 : V1 i = .int .i64 n1 := List.singleton_inj.1 e1
      rw [f0] at q0
      rw [f1] at q1
      show W.cell? _ = some (.int .i64 (iv (V0 i))) ∧ W.cell? _ = some (.int .i64 (iv (V1 i))) ∧ Rng (iv (V0 i)) ∧ Rng (iv (V1 i))
      rw [f0, f1]
      exact ⟨q0, q1, bounds_i64 w0, bounds_i64 w1⟩
    refine ⟨s, n, some a, cap, cs, by rw [hlen], fun i x hx => ?_, bounds_i64 hw, fun x hx => ?_, by omega⟩
    · obtain ⟨q0, q1, -, -⟩ := each i x hx
      have h0 : 0 < cs.length := Nat.lt_of_le_of_lt (Nat.zero_le _) (List.getElem?_eq_some_iff.1 hx).1
      obtain ⟨g0, -, -, -⟩ := each 0 _ (List.getElem?_eq_getElem h0)
      obtain ⟨bl, off, spot⟩ := a
      have hspot : spot = none := by simpa [Addr.add] using World.cell?_spot g0
      subst hspot
      exact ⟨bl, off, rfl, by rw [← add_plain]; exact q0, by rw [Nat.add_assoc, ← add_plain]; exact q1⟩
    · obtain ⟨i, hi⟩ := List.getElem?_of_mem hx
      obtain ⟨-, -, r0, r1⟩ := each i x hi
      exact ⟨r0, r1⟩
/-- A window. -/
theorem open_span {H : Type} {enc : TypeId × Value → H} {W : World} {base : Nat} {v : Value} {d : DataW H} {ps : List MemPlace} (hval : Value.okWide Try.prog W .any base 26 v) (h : DataW.Trod enc Try.prog W 0 (fun _ => true) true 26 v d ps) :
    ∃ f t : Int, v = sv f t ∧ Rng f ∧ Rng t := by
  obtain ⟨c0, c1, y0, y1, m, rfl, rfl, rfl, hy0, hy1⟩ := open_agg2 Try.underlying26 (by kernel_rfl) Try.cellsSpan hval h
  obtain ⟨n0, h0, -, w0⟩ := DataW.trod_int Try.underlying3 hy0
  obtain ⟨n1, h1, -, w1⟩ := DataW.trod_int Try.underlying3 hy1
  obtain rfl := List.singleton_inj.1 h0
  obtain rfl := List.singleton_inj.1 h1
  exact ⟨n0, n1, rfl, bounds_i64 w0, bounds_i64 w1⟩
end Go.Proofs.Ytjmnohbgfkohpaa.Zn
