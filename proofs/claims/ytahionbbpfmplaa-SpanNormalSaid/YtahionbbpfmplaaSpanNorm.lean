/- What the law SpanNormal needs beside the contracts: Normal's result with its capacity; lists with one set. Conditions: the list lies in memory as the argument says; it is short. -/
import Derived.Test.YtahionbbpfmplaaSpanShuf
namespace Go.Proofs.Ytahionbbpfmplaa.Sp
open Go.RowKit
theorem normal_at3 {n k : Nat} {xs : List Sn} (hn : Ln n xs) (hk : Ln k (norm xs)) (b1 : n ≤ 1000) : ∀ a c w, SpansAt a xs w → Calls Try.prog 15 #[.slice a n c] w fun r w' => ∃ a c, r = .returned (.slice a k c) ∧ SpansAt a (norm xs) w' ∧ SrcAt w' (.slice a k c) k (flat (norm xs)) ∧ Below w.heap.size w w' := fun a c w z => by
  unfold Ln at hn hk; subst hn; subst hk
  refine (normal_any a c xs w (by omega) z).mono fun r w' ⟨v, hr, hrow, hb⟩ => ?_
  obtain ⟨a', c', rfl, hz, -, hnone⟩ := hrow.cap
  exact ⟨a', c', hr, hz, hz.src hnone, hb⟩
theorem same_bool {n m : Nat} {xs ys : List Sn} (hn : Ln n xs) (hm : Ln m ys) (b1 : n ≤ 1000) : ∀ a1 c1 a2 c2 w, SpansAt a1 xs w → SpansAt a2 ys w → Calls Try.prog 14 #[.slice a1 n c1, .slice a2 m c2] w fun r w' => r = .returned (.bool (decide (xs = ys))) ∧ Below w.heap.size w w' := fun a1 c1 a2 c2 w z1 z2 => by
  unfold Ln at hn hm; subst hn; subst hm
  exact rsame_any a1 a2 c1 c2 xs ys w (by omega) z1 z2
theorem nf_decide (xs : List Sn) : decide (norm xs = xs) = decide (Nf xs) := by rw [Bool.eq_iff_iff, decide_eq_true_eq, decide_eq_true_eq, nf_iff]
/-- A source kept. -/
theorem SrcAt.below {w w' : World} {u : Value} {m : Nat} {news : List Value} (h : SrcAt w u m news) (k : Below w.heap.size w w') : SrcAt w' u m news := by
  rcases h with ⟨h1, h2, h3⟩ | ⟨ad, c, h1, h2⟩
  · exact .inl ⟨h1, h2, h3⟩
  · exact .inr ⟨ad, c, h1, fun j x hx => cell_kept k (h2 j x hx)⟩
theorem nf_prev {l : List Sn} (h : Nf l) {q : Nat} {x y : Sn} (hx : l[q + 1]? = some x) (hy : l[q]? = some y) : y.2 < x.1 := by
  obtain ⟨h1, e1⟩ := List.getElem?_eq_some_iff.1 hx
  obtain ⟨h2, e2⟩ := List.getElem?_eq_some_iff.1 hy
  have := List.pairwise_iff_getElem.1 h.1 q (q + 1) h2 h1 (by omega)
  rw [e1, e2] at this
  exact this
/-- Spans added that add nothing. -/
theorem more_el {sh xs : List Sn} {x : Sn} (h : ∀ y, y ∈ sh ↔ y ∈ xs) (hx : x ∈ xs) (n : Int) : El (sh ++ [x, (5, 5), (2305843009213693951, 3)]) n ↔ El xs n := by
  rw [el_append, el_mem h n]
  constructor
  · rintro (k | ⟨y, hy, py, a, b⟩)
    · exact k
    · rcases List.mem_cons.1 hy with rfl | hy
      · exact ⟨y, hx, py, a, b⟩
      · rcases List.mem_cons.1 hy with rfl | hy
        · have := py.2.2; simp only at this; omega
        · obtain rfl := List.mem_singleton.1 hy
          have := py.2.2; simp only at this; omega
  · exact .inl
theorem cells_three {w : World} (a b c d e f : Int) : ∀ i u, (flat [(a, b), (c, d), (e, f)])[i]? = some u → (w.alloc (.cells #[.int .i64 a, .int .i64 b, .int .i64 c, .int .i64 d, .int .i64 e, .int .i64 f] 33)).cell? ((⟨w.heap.size, 0, none⟩ : Addr).add i) = some u := fun i u hu =>
  World.news_of_block (cs := #[.int .i64 a, .int .i64 b, .int .i64 c, .int .i64 d, .int .i64 e, .int .i64 f]) (heap_alloc_new w _) i u hu
end Go.Proofs.Ytahionbbpfmplaa.Sp
