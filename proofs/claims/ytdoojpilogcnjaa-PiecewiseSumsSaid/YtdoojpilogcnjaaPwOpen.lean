/- An argument that is a list of arrays of three ints: what it looks like, and where its numbers lie. -/
import Derived.Test.YtdoojpilogcnjaaSpanBase
import Derived.Test.YtdoojpilogcnjaaRows
import Derived.ProofKit
import Derived.OpenShut
import Derived.Carry
import Derived.Lib.SmallJoins
import Derived.Deep.SlicePairs
import Derived.Test.YtdoojpilogcnjaaPwBase
set_option linter.unusedVariables false
set_option linter.unusedSimpArgs false
namespace Go.Proofs.Ytdoojpilogcnjaa.Sp
open Go.ChangeShapes Go.WideShapes Go.ChangeAt Go.RowKit Go.Deep Go.Joins
def Rg (x : Int) : Prop := -9223372036854775808 ≤ x ∧ x ≤ 9223372036854775807
theorem own : ownKnob Try.prog.godebug = none := by kernel_rfl
theorem laidOut : laidOutB Try.prog = true := by kernel_rfl
theorem Try.cellsSpan : Try.prog.cellsOf 50 = 2 := by kernel_rfl
theorem trodAll_below {H : Type} {enc : TypeId × Value → H} {P : Program} (hl : laidOutB P = true) {W W' : World} (hb : Below W.heap.size W W') :
    ∀ {ts : List TypeId} {vs : List Value} {ds : List (DataW H)} {ps : List MemPlace}, (∀ t ∈ ts, P.readableRec t = true ∧ t < P.types.size) → DataW.TrodAll enc P W 0 (fun _ => true) true ts vs ds ps → (∀ x ∈ ps, x.block < W.heap.size) →
      DataW.TrodAll enc P W' 0 (fun b => decide (b < W.heap.size)) true ts vs ds ps
  | [], [], [], _, _, h, _ => h
  | _ :: _, _ :: _, _ :: _, _, hT, ⟨p, q, h1, h2, e⟩, hlt => ⟨p, q, Below.trod hl (hT _ List.mem_cons_self).1 (hT _ List.mem_cons_self).2 h1 hb (fun x hx => hlt x (by rw [e]; exact List.mem_append_left _ hx)),
      trodAll_below hl hb (fun t ht => hT t (List.mem_cons_of_mem _ ht)) h2 (fun x hx => hlt x (by rw [e]; exact List.mem_append_right _ hx)), e⟩
/-- The list that a slice's cells spell. -/
theorem list_of (len : Nat) (V : Nat → Int × Int) : ∃ cs : List (Int × Int), cs.length = len ∧ ∀ i x, cs[i]? = some x → i < len ∧ x = V i :=
  ⟨(List.range len).map V, by simp, fun i x hx => by
    rw [List.getElem?_map] at hx
    have hi : i < len := by
      rcases Nat.lt_or_ge i len with h | h
      · exact h
      · rw [List.getElem?_eq_none (by simpa using h)] at hx; simp at hx
    rw [List.getElem?_range hi] at hx
    exact ⟨hi, (Option.some.inj hx).symm⟩⟩
/-- The number in a value. -/
def iv : Value → Int
  | .int _ n => n
  | _ => 0
/-- A list that came in: where it lies, its numbers, its length, its capacity. -/
structure In (a : Option Addr) (c : Nat) (xs : List Sn) (W : World) : Prop where
  at_ : SpansAt a xs W
  rg : ∀ x ∈ xs, Rg x.1 ∧ Rg x.2
  len : xs.length ≤ maxLen
  cap : xs.length ≤ c
  none : a = Option.none → c = 0
set_option maxRecDepth 1000000 in
theorem open_spans {H : Type} {enc : TypeId × Value → H} {W : World} {base : Nat} {v : Value} {d : DataW H} {ps : List MemPlace} (hval : Value.okWide Try.prog W .any base 34 v) (h : DataW.Trod enc Try.prog W 0 (fun _ => true) true 34 v d ps) :
    ∃ (a : Option Addr) (c : Nat) (xs : List Sn), v = .slice a xs.length c ∧ In a c xs W := by
  obtain ⟨a, len, cap, rfl⟩ := okWide_slice Try.underlying34 hval
  obtain ⟨fuel, h⟩ := h
  rcases open_slice_pairs Try.underlying34 Try.underlying50 Try.cellsSpan rfl rfl (by kernel_rfl) (by kernel_rfl) h with ⟨h2, -⟩ | ⟨a', len', cap', m', n', V0, V1, D0, D1, P0, P1, h2, -, hl, hm, hmm, -, hc⟩
  · have e := List.singleton_inj.1 (show [Value.slice a len cap] = [.slice none 0 0] from h2)
    cases e
    exact ⟨none, 0, [], rfl, fun i x hx => (by simp at hx), fun x hx => (by cases hx), Nat.zero_le _, Nat.le_refl _, fun _ => rfl⟩
  · have e := List.singleton_inj.1 (show [Value.slice a len cap] = [.slice (some a') len' cap'] from h2)
    cases e
    obtain ⟨cs, hlen, hcs⟩ := list_of len (fun i => (iv (V0 i), iv (V1 i)))
    have hlm : len ≤ m' := by rw [hmm]; simp; exact hl
    have each : ∀ i x, cs[i]? = some x → W.cell? (a'.add (i * 2)) = some (.int .i64 x.1) ∧ W.cell? (a'.add (i * 2 + 1)) = some (.int .i64 x.2) ∧ Rg x.1 ∧ Rg x.2 := fun i x hx => by
      obtain ⟨hi, rfl⟩ := hcs i x hx
      obtain ⟨q0, q1, q2, q3⟩ := hc i (by omega)
      obtain ⟨n0, e0, -, w0⟩ := DataW.trod_int Try.underlying3 q2
      obtain ⟨n1, e1, -, w1⟩ := DataW.trod_int Try.underlying3 q3
      have f0 : V0 i = .int .i64 n0 := List.singleton_inj.1 e0
      have f1 : V1 i = .int .i64 n1 := List.singleton_inj.1 e1
      rw [f0] at q0
      rw [f1] at q1
      show W.cell? _ = some (.int .i64 (iv (V0 i))) ∧ W.cell? _ = some (.int .i64 (iv (V1 i))) ∧ Rg (iv (V0 i)) ∧ Rg (iv (V1 i))
      rw [f0, f1]
      exact ⟨q0, q1, bounds_i64 w0, bounds_i64 w1⟩
    refine ⟨some a', cap, cs, by rw [hlen], fun i x hx => ?_, fun x hx => ?_, by omega, by omega, fun e => by cases e⟩
    · obtain ⟨q0, q1, -, -⟩ := each i x hx
      have h0 : 0 < cs.length := Nat.lt_of_le_of_lt (Nat.zero_le _) (List.getElem?_eq_some_iff.1 hx).1
      obtain ⟨g0, -, -, -⟩ := each 0 _ (List.getElem?_eq_getElem h0)
      obtain ⟨bl, off, spot⟩ := a'
      have hspot : spot = none := by simpa [Addr.add] using World.cell?_spot g0
      subst hspot
      have hadd : ∀ j, (⟨bl, off, none⟩ : Addr).add j = ⟨bl, off + j, none⟩ := fun j => by unfold Addr.add; split <;> simp_all
      exact ⟨bl, off, rfl, by rw [← hadd]; exact q0, by rw [Nat.add_assoc, ← hadd]; exact q1⟩
    · obtain ⟨i, hi⟩ := List.getElem?_of_mem hx
      obtain ⟨-, -, r0, r1⟩ := each i x hi
      exact ⟨r0, r1⟩
end Go.Proofs.Ytdoojpilogcnjaa.Sp
namespace Go.Proofs.Ytdoojpilogcnjaa.Pw
open Go.ChangeShapes Go.WideShapes Go.ChangeAt Go.RowKit Go.Deep Go.Joins Go.Proofs.Ytdoojpilogcnjaa.Sp
/-- A list that came in. -/
structure InP (a : Option Addr) (c : Nat) (l : List Pc) (W : World) : Prop where
  at_ : PcsAt a l W
  rg : ∀ x ∈ l, Sp.Rg x.1 ∧ Sp.Rg x.2.1 ∧ Sp.Rg x.2.2
  len : l.length ≤ maxLen
  cap : l.length ≤ c
  none : a = Option.none → c = 0
theorem pcs_of (len : Nat) (V : Nat → Pc) : ∃ cs : List Pc, cs.length = len ∧ ∀ i x, cs[i]? = some x → i < len ∧ x = V i :=
  ⟨(List.range len).map V, by simp, fun i x hx => by
    rw [List.getElem?_map] at hx
    have hi : i < len := by
      rcases Nat.lt_or_ge i len with h | h
      · exact h
      · rw [List.getElem?_eq_none (by simpa using h)] at hx; simp at hx
    rw [List.getElem?_range hi] at hx
    exact ⟨hi, (Option.some.inj hx).symm⟩⟩
theorem Try.underRows : Try.prog.underlying 25 = some (.slice 56) := by kernel_rfl
theorem Try.underRow : Try.prog.underlying 56 = some (.array 3 3) := by kernel_rfl
theorem Try.cellsRow : Try.prog.cellsOf 56 = 3 := by kernel_rfl
theorem Try.cellsInt1 : Try.prog.cellsOf 3 = 1 := by kernel_rfl
set_option maxRecDepth 1000000 in
theorem open_pcs {H : Type} {enc : TypeId × Value → H} {W : World} {base : Nat} {v : Value} {d : DataW H} {ps : List MemPlace} (hval : Value.okWide Try.prog W .any base 25 v) (h : DataW.Trod enc Try.prog W 0 (fun _ => true) true 25 v d ps) :
    ∃ (a : Option Addr) (c : Nat) (l : List Pc), v = .slice a l.length c ∧ InP a c l W := by
  obtain ⟨a, len, cap, rfl⟩ := okWide_slice Try.underRows hval
  obtain ⟨fuel, h⟩ := h
  rcases open_slice Try.underRows h with ⟨h2, -⟩ | ⟨a', len', cap', m', n', D, Pl, h2, -, hl, hm, hmm, -, hc⟩
  · have e := List.singleton_inj.1 (show [Value.slice a len cap] = [.slice none 0 0] from h2)
    cases e
    exact ⟨none, 0, [], rfl, fun i x hx => (by simp at hx), fun x hx => (by cases hx), Nat.zero_le _, Nat.le_refl _, fun _ => rfl⟩
  · have e := List.singleton_inj.1 (show [Value.slice a len cap] = [.slice (some a') len' cap'] from h2)
    cases e
    have hlm : len ≤ m' := by rw [hmm]; simp; exact hl
    have row : ∀ i, i < len → ∃ x : Pc, W.cell? (a'.add (i * 3)) = some (.int .i64 x.1) ∧ W.cell? (a'.add (i * 3 + 1)) = some (.int .i64 x.2.1) ∧ W.cell? (a'.add (i * 3 + 2)) = some (.int .i64 x.2.2) ∧ Sp.Rg x.1 ∧ Sp.Rg x.2.1 ∧ Sp.Rg x.2.2 := fun i hi => by
      obtain ⟨cs', h1, h3⟩ := hc i (by omega)
      rw [Try.cellsRow] at h1
      obtain ⟨-, hlen, hcell⟩ := World.cells?_some h1
      obtain ⟨xs, k, -, -, -, hxl, hf⟩ := DataW.trod_array Try.underRow h3
      match xs, hxl, cs', hlen with
      | [y0, y1, y2], _, [v0, v1, v2], _ =>
        have g0 := hf 0 (by decide)
        have g1 := hf 1 (by decide)
        have g2 := hf 2 (by decide)
        rw [Try.cellsInt1] at g0 g1 g2
        have e0 := hcell 0 (by omega)
        have e1 := hcell 1 (by omega)
        have e2 := hcell 2 (by omega)
        rw [add_add] at e0 e1 e2
        obtain ⟨n0, f0, -, w0⟩ := DataW.trod_int Try.underlying3 (show DataW.trod enc Try.prog W 0 (fun _ => true) true k 3 [v0] = some y0 from g0)
        obtain ⟨n1, f1, -, w1⟩ := DataW.trod_int Try.underlying3 (show DataW.trod enc Try.prog W 0 (fun _ => true) true k 3 [v1] = some y1 from g1)
        obtain ⟨n2, f2, -, w2⟩ := DataW.trod_int Try.underlying3 (show DataW.trod enc Try.prog W 0 (fun _ => true) true k 3 [v2] = some y2 from g2)
        obtain rfl := List.singleton_inj.1 f0
        obtain rfl := List.singleton_inj.1 f1
        obtain rfl := List.singleton_inj.1 f2
        exact ⟨(n0, n1, n2), e0, e1, e2, bounds_i64 w0, bounds_i64 w1, bounds_i64 w2⟩
    have hV : ∃ V : Nat → Pc, ∀ i, i < len → W.cell? (a'.add (i * 3)) = some (.int .i64 (V i).1) ∧ W.cell? (a'.add (i * 3 + 1)) = some (.int .i64 (V i).2.1) ∧ W.cell? (a'.add (i * 3 + 2)) = some (.int .i64 (V i).2.2) ∧ Sp.Rg (V i).1 ∧ Sp.Rg (V i).2.1 ∧ Sp.Rg (V i).2.2 := choose_lt row
    obtain ⟨V, hV⟩ := hV
    obtain ⟨cs, hlen, hcs⟩ := pcs_of len V
    have each : ∀ i x, cs[i]? = some x → W.cell? (a'.add (i * 3)) = some (.int .i64 x.1) ∧ W.cell? (a'.add (i * 3 + 1)) = some (.int .i64 x.2.1) ∧ W.cell? (a'.add (i * 3 + 2)) = some (.int .i64 x.2.2) ∧ Sp.Rg x.1 ∧ Sp.Rg x.2.1 ∧ Sp.Rg x.2.2 := fun i x hx => by
      obtain ⟨hi, rfl⟩ := hcs i x hx
      exact hV i hi
    refine ⟨some a', cap, cs, by rw [hlen], fun i x hx => ?_, fun x hx => ?_, by omega, by omega, fun e => by cases e⟩
    · obtain ⟨q0, q1, q2, -⟩ := each i x hx
      have h0 : 0 < cs.length := Nat.lt_of_le_of_lt (Nat.zero_le _) (List.getElem?_eq_some_iff.1 hx).1
      obtain ⟨g0, -, -, -⟩ := each 0 _ (List.getElem?_eq_getElem h0)
      obtain ⟨bl, off, spot⟩ := a'
      have hspot : spot = none := by simpa [Addr.add] using World.cell?_spot g0
      subst hspot
      have hadd : ∀ j, (⟨bl, off, none⟩ : Addr).add j = ⟨bl, off + j, none⟩ := fun j => by unfold Addr.add; split <;> simp_all
      exact ⟨bl, off, rfl, by rw [← hadd]; exact q0, by rw [Nat.add_assoc, ← hadd]; exact q1, by rw [Nat.add_assoc, ← hadd]; exact q2⟩
    · obtain ⟨i, hi⟩ := List.getElem?_of_mem hx
      obtain ⟨-, -, -, r0, r1, r2⟩ := each i x hi
      exact ⟨r0, r1, r2⟩
end Go.Proofs.Ytdoojpilogcnjaa.Pw
