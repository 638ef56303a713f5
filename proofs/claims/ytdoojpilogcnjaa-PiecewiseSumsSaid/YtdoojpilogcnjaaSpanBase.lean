/- Lists of spans in memory, those that came in and those that the call itself made. No condition but those that each names. -/
import Derived.Test.YtdoojpilogcnjaaProg
import Derived.Test.YtdoojpilogcnjaaSpanMath2
import Derived.WalkKit
import Derived.LoopTactic
import Derived.Deep.LoopGhost
import Derived.Handy
import Derived.Lib.Hide
import Derived.Deep.QuietTactic
import Derived.BigQuiet
import Derived.IntWalk
import Derived.OwnWalk
import Derived.Deep.AppendLies
set_option linter.unusedVariables false
set_option linter.unusedSimpArgs false
namespace Go.Proofs.Ytdoojpilogcnjaa.Sp
open Go.RowKit
theorem cell_kept {w w' : World} (hb : Below w.heap.size w w') {a : Addr} {v : Value} (hc : w.cell? a = some v) : w'.cell? a = some v := (hb.cell (World.block_lt_of_cell? w a hc)).trans hc
theorem ret_bool {a b : Bool} (h : a = b) : Ending.returned (.bool a) = .returned (.bool b) := by rw [h]
theorem ret_int {k : IntKind} {a b : Int} (h : a = b) : Ending.returned (.int k a) = .returned (.int k b) := by rw [h]
theorem below_drewN {B : Nat} {a w : World} (h : Below B a w) (n : Nat) : Below B a (w.drewN n) := h.trans ⟨rfl, rfl, rfl, Nat.le_refl _, fun _ _ => rfl⟩
theorem alloc_below (w : World) (o : Obj) : Below w.heap.size w (w.alloc o) := (Below.refl _ _).alloc (Nat.le_refl _) _
theorem list_two {α : Type} [DecidableEq α] {l r : List α} {n : Nat} (hl : l.length = n) (hr : r.length = n) (h : ∀ i, i < n → l[i]? = r[i]?) : l = r := by
  apply List.ext_getElem?
  intro i
  by_cases hi : i < n
  · exact h i hi
  · rw [List.getElem?_eq_none (by omega), List.getElem?_eq_none (by omega)]
/-- A span by value. -/
abbrev sv (f t : Int) : Value := .agg #[.int .i64 f, .int .i64 t]
/-- A list of spans, in memory. -/
def SpansAt (a : Option Addr) (l : List Sn) (w : World) : Prop :=
  ∀ i x, l[i]? = some x → ∃ b off, a = some ⟨b, off, none⟩ ∧ w.cell? ⟨b, off + i * 2, none⟩ = some (.int .i64 x.1) ∧ w.cell? ⟨b, off + i * 2 + 1, none⟩ = some (.int .i64 x.2)
theorem SpansAt.below {a : Option Addr} {l : List Sn} {w w' : World} (h : SpansAt a l w) (k : Below w.heap.size w w') : SpansAt a l w' := fun i x hx => by
  obtain ⟨b, off, ha, h1, h2⟩ := h i x hx
  exact ⟨b, off, ha, cell_kept k h1, cell_kept k h2⟩
theorem SpansAt.nil (a : Option Addr) (w : World) : SpansAt a [] w := fun i x hx => by simp at hx
/-- A part of a list. -/
theorem SpansAt.part {b o : Nat} {l : List Sn} {w : World} (h : SpansAt (some ⟨b, o, none⟩) l w) (k : Nat) {p : List Sn} (hp : ∀ i x, p[i]? = some x → l[k + i]? = some x) : SpansAt (some ⟨b, o + k * 2, none⟩) p w := fun i x hx => by
  obtain ⟨b', off, e, h1, h2⟩ := h (k + i) x (hp i x hx)
  cases e
  exact ⟨b, o + k * 2, rfl, by rw [show o + k * 2 + i * 2 = o + (k + i) * 2 by omega]; exact h1, by rw [show o + k * 2 + i * 2 + 1 = o + (k + i) * 2 + 1 by omega]; exact h2⟩
/-- Spans, cell by cell. -/
def flat : List Sn → List Value
  | [] => []
  | (d, n) :: r => .int .i64 d :: .int .i64 n :: flat r
theorem flat_length : ∀ l : List Sn, (flat l).length = l.length * 2
  | [] => rfl
  | (d, n) :: r => by
    show (flat r).length + 1 + 1 = (r.length + 1) * 2
    rw [flat_length r]; omega
theorem flat_append : ∀ l r : List Sn, flat (l ++ r) = flat l ++ flat r
  | [], _ => rfl
  | (d, n) :: l, r => by
    show Value.int .i64 d :: .int .i64 n :: flat (l ++ r) = Value.int .i64 d :: .int .i64 n :: (flat l ++ flat r)
    rw [flat_append l r]
theorem flat_get : ∀ (l : List Sn) (i : Nat) (x : Sn), l[i]? = some x → (flat l)[i * 2]? = some (.int .i64 x.1) ∧ (flat l)[i * 2 + 1]? = some (.int .i64 x.2)
  | [], i, x, h => by simp at h
  | (d, n) :: r, 0, x, h => by obtain rfl := Option.some.inj h; exact ⟨rfl, rfl⟩
  | (d, n) :: r, i + 1, x, h => by
    have h' := flat_get r i x h
    rw [show (i + 1) * 2 = i * 2 + 1 + 1 by omega]
    exact h'
theorem flat_cell1 : ∀ l : List Sn, ∀ u ∈ flat l, u.oneCell' = true
  | [], u, hu => by cases hu
  | (d, n) :: r, u, hu => by
    rcases List.mem_cons.1 hu with rfl | hu
    · rfl
    · rcases List.mem_cons.1 hu with rfl | hu
      · rfl
      · exact flat_cell1 r u hu
theorem flat_set : ∀ (l : List Sn) (i : Nat) (d n k : Int), l[i]? = some (d, n) → flat (l.set i (d, k)) = (flat l).set (i * 2 + 1) (.int .i64 k)
  | [], i, _, _, _, h => by simp at h
  | (e, m) :: r, 0, d, n, k, h => by
    have h' := Option.some.inj h
    simp only [Prod.mk.injEq] at h'
    obtain ⟨rfl, rfl⟩ := h'
    rfl
  | (e, m) :: r, i + 1, d, n, k, h => by
    rw [show (i + 1) * 2 + 1 = i * 2 + 1 + 1 + 1 by omega]
    show Value.int .i64 e :: .int .i64 m :: flat (r.set i (d, k)) = Value.int .i64 e :: .int .i64 m :: (flat r).set (i * 2 + 1) (.int .i64 k)
    rw [flat_set r i d n k h]
/-- A list of spans that the call itself made. -/
def RowS (w : World) (base : Nat) (v : Value) (l : List Sn) : Prop := w.ownsRow base 50 2 v l.length (flat l)
theorem RowS.nil (w : World) (base : Nat) : RowS w base (.slice none 0 0) [] := World.ownsRow_nil _ _ _ _
theorem RowS.below {w w' : World} {base : Nat} {v : Value} {l : List Sn} (h : RowS w base v l) (k : Below w.heap.size w w') : RowS w' base v l := by
  refine ⟨h.1, ?_⟩
  rcases h.2 with hn | ⟨g, cap, cur, hv, hb, hg, rest⟩
  · exact .inl hn
  · exact .inr ⟨g, cap, cur, hv, hb, (k.block g (Array.getElem?_eq_some_iff.1 hg).1).trans hg, rest⟩
theorem RowS.lower {w : World} {base base' : Nat} {v : Value} {l : List Sn} (h : RowS w base v l) (hb : base' ≤ base) : RowS w base' v l := by
  refine ⟨h.1, ?_⟩
  rcases h.2 with hn | ⟨g, cap, cur, hv, hb2, rest⟩
  · exact .inl hn
  · exact .inr ⟨g, cap, cur, hv, Nat.le_trans hb hb2, rest⟩
theorem RowS.push {w : World} {base : Nat} {v : Value} {l : List Sn} {d n : Int} (h : w.ownsRow base 50 2 v (l.length + 1) (flat l ++ [.int .i64 d, .int .i64 n])) : RowS w base v (l ++ [(d, n)]) := by
  unfold RowS
  rw [List.length_append, flat_append]
  exact h
theorem RowS.spans {w : World} {base : Nat} {v : Value} {l : List Sn} (h : RowS w base v l) : ∃ a cap, v = .slice a l.length cap ∧ SpansAt a l w := by
  rcases h.2 with ⟨hv, hn⟩ | ⟨g, cap, cur, hv, hb, hg, rest⟩
  · refine ⟨none, 0, by rw [hv, hn], fun i x hx => ?_⟩
    rw [List.eq_nil_of_length_eq_zero hn] at hx
    simp at hx
  · refine ⟨some ⟨g, 0, none⟩, cap, hv, fun i x hx => ⟨g, 0, rfl, ?_⟩⟩
    subst hv
    obtain ⟨e1, e2⟩ := flat_get l i x hx
    have c1 := World.ownsRow.cells h (g := g) rfl (i * 2) _ e1
    have c2 := World.ownsRow.cells h (g := g) rfl (i * 2 + 1) _ e2
    have e : ∀ j, (⟨g, 0, none⟩ : Addr).add j = ⟨g, 0 + j, none⟩ := fun j => by unfold Addr.add; split <;> simp_all
    rw [e] at c1 c2
    exact ⟨c1, c2⟩
theorem Try.infoS : (Try.prog.info? 50).map (fun i => (i.zero, i.size, i.bytes)) = some (some (.agg #[.int .i64 0, .int .i64 0]), 2, 16) := by kernel_rfl
theorem Try.underS : Try.prog.underlying 34 = some (.slice 50) := by kernel_rfl
theorem two_cells {w : World} {o : Obj} {d n : Int} (ho : o = .cells #[.int .i64 d, .int .i64 n] 50) : ∀ j u, ([Value.int .i64 d, .int .i64 n] : List Value)[j]? = some u → (w.alloc o).cell? ((⟨w.heap.size, 0, none⟩ : Addr).add j) = some u := fun j u hu => by
  subst ho
  exact World.news_of_block (cs := #[.int .i64 d, .int .i64 n]) (heap_alloc_new w _) j u hu
theorem two_one {d n : Int} : ∀ u ∈ ([Value.int .i64 d, .int .i64 n] : List Value), u.oneCell' = true := fun u hu => by
  simp at hu; rcases hu with rfl | rfl <;> rfl
theorem grown_below {w w1 : World} {o : Obj} {B base : Nat} {v : Value} {e sz n : Nat} {xs : List Value} (hown : (w.alloc o).ownsRow base e sz v n xs) (hg : (w.alloc o).grownBy w1 v.ownBlock) (hB : B ≤ w.heap.size) (hb : B ≤ base) : Below B w w1 :=
  ((Below.refl B w).alloc hB o).grown hg (by simp; omega) (fun k hk => by have := (hown.lt k hk).1; omega)
theorem row_grown {wr w1 : World} {o : Obj} {B : Nat} {w : World} {base : Nat} {v : Value} {e sz n : Nat} {xs : List Value} (hb : Below B w wr) (hB : B ≤ wr.heap.size) (hown : (wr.alloc o).ownsRow base e sz v n xs) (hg : (wr.alloc o).grownBy w1 v.ownBlock) (hbb : B ≤ base) : Below B w w1 :=
  hb.trans (grown_below hown hg hB hbb)
/-- The box of a span that came by value. -/
theorem box2 (w : World) (f t : Int) : Below w.heap.size w (w.alloc (.cells #[.int .i64 f, .int .i64 t] 50)) := alloc_below _ _
end Go.Proofs.Ytdoojpilogcnjaa.Sp
