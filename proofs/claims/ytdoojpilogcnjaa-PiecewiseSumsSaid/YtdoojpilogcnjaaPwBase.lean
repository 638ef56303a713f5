/- Lists of pieces in memory, those that came in and those that the call itself made; which function is valid. No condition but those that each names. -/
import Derived.Test.YtdoojpilogcnjaaSpanBase
import Derived.Test.YtdoojpilogcnjaaPwMath
import Derived.Deep.RegionHeld3
import Derived.Deep.Cut
set_option linter.unusedVariables false
set_option linter.unusedSimpArgs false
namespace Go.Proofs.Ytdoojpilogcnjaa.Pw
open Go.RowKit Go.Proofs.Ytdoojpilogcnjaa.Sp
theorem box_below {w w2 : World} {o : Obj} (hn : Below (w.alloc o).heap.size (w.alloc o) w2) : Below w.heap.size w w2 := (alloc_below w o).trans (hn.mono (alloc_below w o).size)
theorem frozen_kept {w w' : World} (hb : Below w.heap.size w w') {a : Addr} {v : Value} {k : Bool} (hf : w.frozen? a = k) (hc : w.cell? a = some v) : w'.frozen? a = k := (hb.frozen (World.block_lt_of_cell? w a hc)).trans hf
/-- A function by value; a piece by value. -/
abbrev fv (d : Int) (a : Option Addr) (n c : Nat) : Value := .agg #[.int .i64 d, .slice a n c]
abbrev pv (p : Pc) : Value := .agg #[.int .i64 p.1, .int .i64 p.2.1, .int .i64 p.2.2]
/-- Pieces in memory. -/
def PcsAt (a : Option Addr) (l : List Pc) (w : World) : Prop :=
  ∀ i x, l[i]? = some x → ∃ b off, a = some ⟨b, off, none⟩ ∧ w.cell? ⟨b, off + i * 3, none⟩ = some (.int .i64 x.1) ∧ w.cell? ⟨b, off + i * 3 + 1, none⟩ = some (.int .i64 x.2.1) ∧ w.cell? ⟨b, off + i * 3 + 2, none⟩ = some (.int .i64 x.2.2)
theorem PcsAt.below {a : Option Addr} {l : List Pc} {w w' : World} (h : PcsAt a l w) (k : Below w.heap.size w w') : PcsAt a l w' := fun i x hx => by
  obtain ⟨b, off, ha, h1, h2, h3⟩ := h i x hx
  exact ⟨b, off, ha, cell_kept k h1, cell_kept k h2, cell_kept k h3⟩
def flatP : List Pc → List Value
  | [] => []
  | (a, k, c) :: r => .int .i64 a :: .int .i64 k :: .int .i64 c :: flatP r
theorem flatP_length : ∀ l : List Pc, (flatP l).length = l.length * 3
  | [] => rfl
  | (a, k, c) :: r => by
    show (flatP r).length + 1 + 1 + 1 = (r.length + 1) * 3
    rw [flatP_length r]; omega
theorem flatP_append : ∀ l r : List Pc, flatP (l ++ r) = flatP l ++ flatP r
  | [], _ => rfl
  | (a, k, c) :: l, r => by
    show Value.int .i64 a :: .int .i64 k :: .int .i64 c :: flatP (l ++ r) = Value.int .i64 a :: .int .i64 k :: .int .i64 c :: (flatP l ++ flatP r)
    rw [flatP_append l r]
theorem flatP_get : ∀ (l : List Pc) (i : Nat) (x : Pc), l[i]? = some x → (flatP l)[i * 3]? = some (.int .i64 x.1) ∧ (flatP l)[i * 3 + 1]? = some (.int .i64 x.2.1) ∧ (flatP l)[i * 3 + 2]? = some (.int .i64 x.2.2)
  | [], i, x, h => by simp at h
  | (a, k, c) :: r, 0, x, h => by obtain rfl := Option.some.inj h; exact ⟨rfl, rfl, rfl⟩
  | (a, k, c) :: r, i + 1, x, h => by
    have h' := flatP_get r i x h
    rw [show (i + 1) * 3 = i * 3 + 1 + 1 + 1 by omega]
    exact h'
theorem flatP_cell1 : ∀ l : List Pc, ∀ u ∈ flatP l, u.oneCell' = true
  | [], u, hu => by cases hu
  | (a, k, c) :: r, u, hu => by
    rcases List.mem_cons.1 hu with rfl | hu
    · rfl
    · rcases List.mem_cons.1 hu with rfl | hu
      · rfl
      · rcases List.mem_cons.1 hu with rfl | hu
        · rfl
        · exact flatP_cell1 r u hu
/-- Pieces that the call itself made. -/
def RowP (w : World) (base : Nat) (v : Value) (l : List Pc) : Prop := w.ownsRow base 55 3 v l.length (flatP l)
theorem RowP.nil (w : World) (base : Nat) : RowP w base (.slice none 0 0) [] := World.ownsRow_nil _ _ _ _
theorem RowP.below {w w' : World} {base : Nat} {v : Value} {l : List Pc} (h : RowP w base v l) (k : Below w.heap.size w w') : RowP w' base v l := by
  refine ⟨h.1, ?_⟩
  rcases h.2 with hn | ⟨g, cap, cur, hv, hb, hg, rest⟩
  · exact .inl hn
  · exact .inr ⟨g, cap, cur, hv, hb, (k.block g (Array.getElem?_eq_some_iff.1 hg).1).trans hg, rest⟩
theorem RowP.lower {w : World} {base base' : Nat} {v : Value} {l : List Pc} (h : RowP w base v l) (hb : base' ≤ base) : RowP w base' v l := by
  refine ⟨h.1, ?_⟩
  rcases h.2 with hn | ⟨g, cap, cur, hv, hb2, rest⟩
  · exact .inl hn
  · exact .inr ⟨g, cap, cur, hv, Nat.le_trans hb hb2, rest⟩
theorem RowP.app {w : World} {base n m : Nat} {v : Value} {l r : List Pc} (hn : n = l.length) (hm : m = r.length) (h : w.ownsRow base 55 3 v (n + m) (flatP l ++ flatP r)) : RowP w base v (l ++ r) := by
  subst hn; subst hm
  unfold RowP
  rw [List.length_append, flatP_append]
  exact h
theorem RowP.pcs {w : World} {base : Nat} {v : Value} {l : List Pc} (h : RowP w base v l) : ∃ a cap, v = .slice a l.length cap ∧ PcsAt a l w ∧ l.length ≤ cap ∧ (a = none → cap = 0) := by
  rcases h.2 with ⟨hv, hn⟩ | ⟨g, cap, cur, hv, hb, hg, hc, rest⟩
  · refine ⟨none, 0, by rw [hv, hn], fun i x hx => ?_, by omega, fun _ => rfl⟩
    rw [List.eq_nil_of_length_eq_zero hn] at hx
    simp at hx
  · refine ⟨some ⟨g, 0, none⟩, cap, hv, fun i x hx => ⟨g, 0, rfl, ?_⟩, hc, fun e => by cases e⟩
    subst hv
    obtain ⟨e1, e2, e3⟩ := flatP_get l i x hx
    have c1 := World.ownsRow.cells h (g := g) rfl (i * 3) _ e1
    have c2 := World.ownsRow.cells h (g := g) rfl (i * 3 + 1) _ e2
    have c3 := World.ownsRow.cells h (g := g) rfl (i * 3 + 2) _ e3
    have e : ∀ j, (⟨g, 0, none⟩ : Addr).add j = ⟨g, 0 + j, none⟩ := fun j => by unfold Addr.add; split <;> simp_all
    rw [e] at c1 c2 c3
    exact ⟨c1, c2, c3⟩
theorem Try.infoP : (Try.prog.info? 55).map (fun i => (i.zero, i.size, i.bytes)) = some (some (.agg #[.int .i64 0, .int .i64 0, .int .i64 0]), 3, 24) := by kernel_rfl
theorem Try.underP : Try.prog.underlying 22 = some (.slice 55) := by kernel_rfl
/-- The box of a function that came by value. -/
abbrev fb (d : Int) (a : Option Addr) (n c : Nat) : Obj := .cells #[.int .i64 d, .slice a n c] 24
/-- Which pieces are valid, one by one. -/
def good (p : Pc) : Bool := decide (-1000000 ≤ p.2.2 ∧ p.2.2 ≤ 1000000) && decide (-1000000000000000000 ≤ p.2.1 ∧ p.2.1 ≤ 1000000000000000000) && decide (p.1 ≤ 1000000000000)
def chain : Pc → List Pc → Bool
  | _, [] => true
  | p, q :: l => good q && decide (p.1 < q.1) && chain q l
def okB : List Pc → Bool
  | [] => false
  | p :: l => good p && decide (p.1 = 0) && chain p l
theorem chain_iff : ∀ (l : List Pc) (p : Pc), chain p l = true ↔ (∀ q ∈ l, good q = true ∧ p.1 < q.1) ∧ Inc l
  | [], p => by unfold chain; exact ⟨fun _ => ⟨(fun q hq => by cases hq), List.Pairwise.nil⟩, fun _ => rfl⟩
  | q :: l, p => by
    unfold chain
    rw [Bool.and_eq_true, Bool.and_eq_true, decide_eq_true_eq, chain_iff l q]
    constructor
    · rintro ⟨⟨a, b⟩, c, d⟩
      refine ⟨fun r hr => ?_, List.pairwise_cons.2 ⟨fun r hr => (c r hr).2, d⟩⟩
      rcases List.mem_cons.1 hr with rfl | hr
      · exact ⟨a, b⟩
      · exact ⟨(c r hr).1, by have := (c r hr).2; omega⟩
    · rintro ⟨a, b⟩
      have b' := List.pairwise_cons.1 b
      exact ⟨a q List.mem_cons_self, fun r hr => ⟨(a r (List.mem_cons_of_mem _ hr)).1, b'.1 r hr⟩, b'.2⟩
theorem good_iff (p : Pc) : good p = true ↔ (-1000000 ≤ p.2.2 ∧ p.2.2 ≤ 1000000) ∧ (-1000000000000000000 ≤ p.2.1 ∧ p.2.1 ≤ 1000000000000000000) ∧ p.1 ≤ 1000000000000 := by
  unfold good
  rw [Bool.and_eq_true, Bool.and_eq_true, decide_eq_true_eq, decide_eq_true_eq, decide_eq_true_eq, and_assoc]
theorem okB_iff (l : List Pc) : okB l = true ↔ Ok l := by
  cases l with
  | nil => exact ⟨fun h => (by cases h), fun h => by obtain ⟨p, r, e, -⟩ := h.zero; cases e⟩
  | cons p l =>
    unfold okB
    rw [Bool.and_eq_true, Bool.and_eq_true, decide_eq_true_eq, chain_iff, good_iff]
    constructor
    · rintro ⟨⟨⟨a1, a2, a3⟩, b⟩, c, d⟩
      have all : ∀ q ∈ p :: l, good q = true := fun q hq => by
        rcases List.mem_cons.1 hq with rfl | hq
        · exact (good_iff q).2 ⟨a1, a2, a3⟩
        · exact (c q hq).1
      exact ⟨List.pairwise_cons.2 ⟨fun q hq => (c q hq).2, d⟩, ⟨p, l, rfl, b⟩, fun q hq => ((good_iff q).1 (all q hq)).2.2, fun q hq => ((good_iff q).1 (all q hq)).2.1, fun q hq => ((good_iff q).1 (all q hq)).1⟩
    · intro h
      have h' := List.pairwise_cons.1 h.inc
      have all : ∀ q ∈ p :: l, good q = true := fun q hq => (good_iff q).2 ⟨h.slope q hq, h.at_ q hq, h.top q hq⟩
      obtain ⟨q, r, e, hz⟩ := h.zero
      cases e
      exact ⟨⟨(good_iff p).1 (all p List.mem_cons_self), hz⟩, fun r hr => ⟨all r (List.mem_cons_of_mem _ hr), h'.1 r hr⟩, h'.2⟩
/-- A valid function. -/
def vdB (d : Int) (l : List Pc) : Bool := decide (1 ≤ d ∧ d ≤ 1000000 ∧ l.length ≤ 64) && okB l
theorem vd_ok {d : Int} {l : List Pc} (h : vdB d l = true) : Ok l ∧ 1 ≤ d ∧ d ≤ 1000000 ∧ l.length ≤ 64 := by
  unfold vdB at h
  rw [Bool.and_eq_true, decide_eq_true_eq, okB_iff] at h
  exact ⟨h.2, h.1⟩
/-- The index of the piece that belongs to an argument. -/
def ixf (x : Int) : List Pc → Nat → Nat → Nat
  | [], _, k => k
  | q :: l, i, k => ixf x l (i + 1) (if q.1 ≤ x then i else k)
def ix (l : List Pc) (x : Int) : Nat := ixf x l 0 0
theorem ixf_get (x : Int) : ∀ (l p : List Pc) (k : Nat) (u : Pc), p[k]? = some u → (p ++ l)[ixf x l p.length k]? = some (pcl x u l)
  | [], p, k, u, h => by rw [List.append_nil]; exact h
  | q :: l, p, k, u, h => by
    have e : p ++ q :: l = (p ++ [q]) ++ l := by simp
    rw [e]
    show ((p ++ [q]) ++ l)[ixf x l (p.length + 1) (if q.1 ≤ x then p.length else k)]? = some (pcl x (if q.1 ≤ x then q else u) l)
    have hl : (p ++ [q]).length = p.length + 1 := by simp
    by_cases c : q.1 ≤ x
    · rw [if_pos c, if_pos c, ← hl]
      exact ixf_get x l (p ++ [q]) p.length q (by simp)
    · rw [if_neg c, if_neg c, ← hl]
      exact ixf_get x l (p ++ [q]) k u (by rw [List.getElem?_append_left (List.getElem?_eq_some_iff.1 h).1]; exact h)
theorem ix_get {l : List Pc} (h : l ≠ []) (x : Int) : l[ix l x]? = some (pick l x) := by
  cases l with
  | nil => exact absurd rfl h
  | cons p l =>
    have e : ix (p :: l) x = ixf x l 1 0 := by
      show ixf x l 1 (if p.1 ≤ x then 0 else 0) = _
      rw [ite_self]
    rw [e]
    exact ixf_get x l [p] 0 p rfl
end Go.Proofs.Ytdoojpilogcnjaa.Pw
