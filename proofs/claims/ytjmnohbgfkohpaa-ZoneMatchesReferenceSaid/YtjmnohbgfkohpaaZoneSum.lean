/- Portions in memory that the call itself made; and what the law's helper sum returns. Conditions: both lists lie in memory as the arguments say, each has at most 20 portions. -/
import Derived.Test.YtjmnohbgfkohpaaZoneRunning
import Derived.Deep.AppendLies
namespace Go.Proofs.Ytjmnohbgfkohpaa.Zn
open Go.RowKit
/-- Portions, cell by cell. -/
def flat : List (Int × Int) → List Value
  | [] => []
  | (d, n) :: r => .int .i64 d :: .int .i64 n :: flat r
theorem flat_length : ∀ l : List (Int × Int), (flat l).length = l.length * 2
  | [] => rfl
  | (d, n) :: r => by
    show (flat r).length + 1 + 1 = (r.length + 1) * 2
    rw [flat_length r]; omega
theorem flat_append : ∀ l r : List (Int × Int), flat (l ++ r) = flat l ++ flat r
  | [], _ => rfl
  | (d, n) :: l, r => by
    show Value.int .i64 d :: .int .i64 n :: flat (l ++ r) = Value.int .i64 d :: .int .i64 n :: (flat l ++ flat r)
    rw [flat_append l r]
theorem flat_get : ∀ (l : List (Int × Int)) (i : Nat) (x : Int × Int), l[i]? = some x → (flat l)[i * 2]? = some (.int .i64 x.1) ∧ (flat l)[i * 2 + 1]? = some (.int .i64 x.2)
  | [], i, x, h => by simp at h
  | (d, n) :: r, 0, x, h => by obtain rfl := Option.some.inj h; exact ⟨rfl, rfl⟩
  | (d, n) :: r, i + 1, x, h => by
    have h' := flat_get r i x h
    rw [show (i + 1) * 2 = i * 2 + 1 + 1 by omega]
    exact h'
/-- A list of portions that the call itself made. -/
def RowP (w : World) (base : Nat) (v : Value) (l : List (Int × Int)) : Prop := w.ownsRow base 46 2 v l.length (flat l)
theorem RowP.nil (w : World) (base : Nat) : RowP w base (.slice none 0 0) [] := World.ownsRow_nil _ _ _ _
theorem RowP.below {w w' : World} {base : Nat} {v : Value} {l : List (Int × Int)} (h : RowP w base v l) (k : Below w.heap.size w w') : RowP w' base v l := by
  refine ⟨h.1, ?_⟩
  rcases h.2 with hn | ⟨g, cap, cur, hv, hb, hg, rest⟩
  · exact .inl hn
  · exact .inr ⟨g, cap, cur, hv, hb, (k.block g (Array.getElem?_eq_some_iff.1 hg).1).trans hg, rest⟩
theorem RowP.push {w : World} {base : Nat} {v : Value} {l : List (Int × Int)} {d n : Int} (h : w.ownsRow base 46 2 v (l.length + 1) (flat l ++ [.int .i64 d, .int .i64 n])) : RowP w base v (l ++ [(d, n)]) := by
  unfold RowP
  rw [List.length_append, flat_append]
  exact h
theorem RowP.ports {w : World} {base : Nat} {v : Value} {l : List (Int × Int)} (h : RowP w base v l) : ∃ a cap, v = .slice a l.length cap ∧ PortsAt a l w := by
  rcases h.2 with ⟨hv, hn⟩ | ⟨g, cap, cur, hv, hb, hg, rest⟩
  · refine ⟨none, 0, by rw [hv, hn], fun i x hx => ?_⟩
    rw [List.eq_nil_of_length_eq_zero hn] at hx
    simp at hx
  · refine ⟨some ⟨g, 0, none⟩, cap, hv, fun i x hx => ⟨g, 0, rfl, ?_⟩⟩
    subst hv
    obtain ⟨e1, e2⟩ := flat_get l i x hx
    have c1 := World.ownsRow.cells h (g := g) rfl (i * 2) _ e1
    have c2 := World.ownsRow.cells h (g := g) rfl (i * 2 + 1) _ e2
    have e : ∀ j, (⟨g, 0, none⟩ : Addr).add j = ⟨g, 0 + j, none⟩ := fun j => by unfold Addr.add; split <;> simp_all
    rw [e] at c1 c2
    exact ⟨c1, c2⟩
theorem Try.infoP : (Try.prog.info? 46).map (fun i => (i.zero, i.size, i.bytes)) = some (some (.agg #[.int .i64 0, .int .i64 0]), 2, 16) := by kernel_rfl
theorem Try.underP : Try.prog.underlying 34 = some (.slice 46) := by kernel_rfl
theorem two_cells {w : World} {o : Obj} {d n : Int} (ho : o = .cells #[.int .i64 d, .int .i64 n] 46) : ∀ j u, ([Value.int .i64 d, .int .i64 n] : List Value)[j]? = some u → (w.alloc o).cell? ((⟨w.heap.size, 0, none⟩ : Addr).add j) = some u := fun j u hu => by
  subst ho
  exact World.news_of_block (cs := #[.int .i64 d, .int .i64 n]) (heap_alloc_new w _) j u hu
theorem two_one {d n : Int} : ∀ u ∈ ([Value.int .i64 d, .int .i64 n] : List Value), u.oneCell' = true := fun u hu => by
  simp at hu; rcases hu with rfl | rfl <;> rfl
theorem merge_nil (l : List (Int × Int)) : merge [] l = l := by unfold merge; rfl
theorem merge_nil2 (l : List (Int × Int)) : merge l [] = l := by cases l <;> (unfold merge; rfl)
theorem merge_left {x : Int × Int} {l r : List (Int × Int)} (h : ∀ y r', r = y :: r' → x.1 < y.1) : merge (x :: l) r = x :: merge l r := by
  cases r with
  | nil => rw [merge_nil2, merge_nil2]
  | cons y r' => rw [merge, if_pos (h y r' rfl)]
theorem merge_right {y : Int × Int} {l r : List (Int × Int)} (h : ∀ x l', l = x :: l' → y.1 < x.1) : merge l (y :: r) = y :: merge l r := by
  cases l with
  | nil => rw [merge_nil, merge_nil]
  | cons x l' => have := h x l' rfl; rw [merge, if_neg (by omega), if_pos this]
theorem merge_both {x y : Int × Int} {l r : List (Int × Int)} (h : x.1 = y.1) : merge (x :: l) (y :: r) = (x.1, x.2 + y.2) :: merge l r := by
  rw [merge, if_neg (by omega), if_neg (by omega)]
theorem drop_at {xs : List (Int × Int)} {i : Nat} {x : Int × Int} (h : xs[i]? = some x) : xs.drop i = x :: xs.drop (i + 1) := by
  obtain ⟨h1, he⟩ := List.getElem?_eq_some_iff.1 h
  rw [List.drop_eq_getElem_cons h1, he]
/-- The loop of sum, a round each. -/
def SumAt (xs ys acc : List (Int × Int)) (i k : Nat) : Prop := merge xs ys = acc ++ merge (xs.drop i) (ys.drop k) ∧ acc.length ≤ i + k
theorem SumAt.start (xs ys : List (Int × Int)) : SumAt xs ys [] 0 0 := ⟨rfl, Nat.le_refl _⟩
theorem SumAt.left {xs ys acc : List (Int × Int)} {i k : Nat} {x : Int × Int} (h : SumAt xs ys acc i k) (hx : xs[i]? = some x) (hy : ∀ y, ys[k]? = some y → x.1 < y.1) : SumAt xs ys (acc ++ [(x.1, x.2)]) (i + 1) k := by
  refine ⟨?_, by rw [List.length_append]; have := h.2; simp only [List.length_singleton]; omega⟩
  rw [h.1, drop_at hx, merge_left (fun y r' e => ?_), List.append_assoc]
  · rfl
  · refine hy y ?_
    have := congrArg (fun l => l[0]?) e
    simpa using this
theorem SumAt.right {xs ys acc : List (Int × Int)} {i k : Nat} {y : Int × Int} (h : SumAt xs ys acc i k) (hy : ys[k]? = some y) (hx : ∀ x, xs[i]? = some x → y.1 < x.1) : SumAt xs ys (acc ++ [(y.1, y.2)]) i (k + 1) := by
  refine ⟨?_, by rw [List.length_append]; have := h.2; simp only [List.length_singleton]; omega⟩
  rw [h.1, drop_at hy, merge_right (fun x l' e => ?_), List.append_assoc]
  · rfl
  · refine hx x ?_
    have := congrArg (fun l => l[0]?) e
    simpa using this
theorem SumAt.both {xs ys acc : List (Int × Int)} {i k : Nat} {x y : Int × Int} (h : SumAt xs ys acc i k) (hx : xs[i]? = some x) (hy : ys[k]? = some y) (e : x.1 = y.1) : SumAt xs ys (acc ++ [(x.1, x.2 + y.2)]) (i + 1) (k + 1) := by
  refine ⟨?_, by rw [List.length_append]; have := h.2; simp only [List.length_singleton]; omega⟩
  rw [h.1, drop_at hx, drop_at hy, merge_both e, List.append_assoc]
  rfl
theorem SumAt.done {xs ys acc : List (Int × Int)} {i k : Nat} (h : SumAt xs ys acc i k) (hi : xs.length ≤ i) (hk : ys.length ≤ k) : acc = merge xs ys := by
  rw [h.1, List.drop_eq_nil_of_le hi, List.drop_eq_nil_of_le hk, merge_nil, List.append_nil]
end Go.Proofs.Ytjmnohbgfkohpaa.Zn
