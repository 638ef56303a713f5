/- What the reference implementation's count does to portions that its caller made: one minute more on a day. Conditions: the portions are the caller's own, in increasing order of their days, at most 100. -/
import Derived.Test.YtjmnohbgfkohpaaZoneSum
import Derived.Deep.RegionLaw
namespace Go.Proofs.Ytjmnohbgfkohpaa.Zn
open Go.RowKit
/-- A source of cells: nil, or cells that lie there. -/
def SrcAt (w : World) (u : Value) (m : Nat) (news : List Value) : Prop :=
  (u = .slice none 0 0 ∧ m = 0 ∧ news = []) ∨ ∃ ad c, u = .slice (some ad) m c ∧ ∀ j x, news[j]? = some x → w.cell? (ad.add j) = some x
/-- append of a source onto a row of the call's own, at a step of a region that draws. -/
theorem step_src {P : Program} {ops : Array Oper} {o : Oper} {a : Act} {w : World} {K : Act → World → Prop} {Q : Exit → Act → World → Prop} {E : Prop} (hgd : o.guard = none) (s x : Operand) (t : TypeId)
    (ho : o.op = .call { callee := .builtin .append, args := #[s, x], argTypes := #[t, t] })
    (base : Nat) (e : TypeId) (i : TypeInfo) (z : Value) (size bytes : Nat) (ht : P.underlying t = some (.slice e)) (hi : P.info? e = some i) (hz : i.zero = some z)
    (hsize : i.size = size) (hby : i.bytes = bytes) (hzs : z.cells.size = size) (hsz : 0 < size)
    (v : Value) (n : Nat) (xs : List Value) (hs : a.eval s = v) (hown : w.ownsRow base e size v n xs)
    (u : Value) (m : Nat) (news : List Value) (hx : a.eval x = u) (hsrc : SrcAt w u m news) (hl : news.length = m * size) (h1 : ∀ u ∈ news, u.oneCell' = true)
    (h63 : n + m ≤ maxLen) (hbytes : (n + m) * bytes ≤ 140737488355328) (hbase : base ≤ w.heap.size)
    (h : ∀ v' w', w'.ownsRow base e size v' (n + m) (xs ++ news) → w.grownBy w' v.ownBlock → K (a.put o.dst v') w') :
    if Region.wanted o (yielded ops a.tmps) = true then Oper.wp P o a w K Q else E := by
  have hw : Region.wanted o (yielded ops a.tmps) = true := by simp [Region.wanted, hgd]
  rw [if_pos hw]
  rcases hsrc with ⟨hu, rfl, rfl⟩ | ⟨ad, c, hu, hc⟩
  · have hrun := run_append_owned_none (P := P) (w := w) base t o.type e i size ht hi v n xs hown
    have hx' : a.eval x = .slice none 0 0 := hx.trans hu
    unfold Oper.wp
    simp [execOp, ho, resolve, invoke, builtin, hs, hx', hrun, Result.andThen]
    have hh := h v w (by rw [List.append_nil]; exact hown) ⟨rfl, rfl, rfl, Nat.le_refl _, fun _ _ _ => rfl⟩
    exact hh
  · exact wp_append_own w s x t ho base e i z size bytes ht hi hz hsize hby hzs hsz v n xs hs hown ad m c news (hx.trans hu) hl hc h1 h63 hbytes hbase (fun v' w' g1 g2 _ => h v' w' g1 g2)
theorem flat_cell1 : ∀ l : List (Int × Int), ∀ u ∈ flat l, u.oneCell' = true
  | [], u, hu => by cases hu
  | (d, n) :: r, u, hu => by
    rcases List.mem_cons.1 hu with rfl | hu
    · rfl
    · rcases List.mem_cons.1 hu with rfl | hu
      · rfl
      · exact flat_cell1 r u hu
/-- One minute more: where the list parts. -/
theorem ins_split : ∀ (p q : List (Int × Int)) (d : Int), (∀ x ∈ p, x.1 < d) → ins (p ++ q) d = p ++ ins q d
  | [], _, _, _ => rfl
  | (e, n) :: p, q, d, h => by
    have h1 : e < d := h (e, n) List.mem_cons_self
    show (if d < e then _ else if d = e then _ else (e, n) :: ins (p ++ q) d) = _
    rw [if_neg (by omega), if_neg (by omega), ins_split p q d (fun x hx => h x (List.mem_cons_of_mem _ hx))]
    rfl
theorem ins_new : ∀ (q : List (Int × Int)) (d : Int), (∀ x, q[0]? = some x → d < x.1) → ins q d = (d, 1) :: q
  | [], _, _ => rfl
  | (e, n) :: q, d, h => by
    have h1 : d < e := h (e, n) rfl
    show (if d < e then _ else _) = _
    rw [if_pos h1]
theorem ins_same (q : List (Int × Int)) (d n : Int) : ins ((d, n) :: q) d = (d, n + 1) :: q := by
  show (if d < d then _ else if d = d then (d, n + 1) :: q else _) = _
  rw [if_neg (by omega), if_pos rfl]
theorem RowP.of {w : World} {base b0 : Nat} {v : Value} {m : Nat} {xs : List Value} {l : List (Int × Int)} (h : w.ownsRow b0 46 2 v m xs) (hm : m = l.length) (hx : xs = flat l) (hb : base ≤ b0) : RowP w base v l := by
  subst hm hx
  refine ⟨h.1, ?_⟩
  rcases h.2 with hn | ⟨g, cap, cur, hv, hg, rest⟩
  · exact .inl hn
  · exact .inr ⟨g, cap, cur, hv, by omega, rest⟩
/-- A minute more in place. -/
theorem flat_set : ∀ (l : List (Int × Int)) (i : Nat) (d n k : Int), l[i]? = some (d, n) → flat (l.set i (d, k)) = (flat l).set (i * 2 + 1) (.int .i64 k)
  | [], i, d, n, k, h => by simp at h
  | (e, m) :: r, 0, d, n, k, h => by obtain ⟨rfl, rfl⟩ := Prod.mk.injEq _ _ _ _ ▸ Option.some.inj h; rfl
  | (e, m) :: r, i + 1, d, n, k, h => by
    have h' := flat_set r i d n k h
    show Value.int .i64 e :: .int .i64 m :: flat (r.set i (d, k)) = _
    rw [h', show (i + 1) * 2 + 1 = i * 2 + 1 + 1 + 1 by omega]
    rfl
theorem RowP.bump {w : World} {base g n cap : Nat} {l : List (Int × Int)} {i : Nat} {d m k : Int} (h : RowP w base (.slice (some ⟨g, 0, none⟩) n cap) l) (hi : l[i]? = some (d, m)) : RowP (w.setCell ⟨g, i * 2 + 1, none⟩ (.int .i64 k)) base (.slice (some ⟨g, 0, none⟩) n cap) (l.set i (d, k)) := by
  unfold RowP at *
  rw [List.length_set, flat_set l i d m k hi]
  refine ⟨by rw [List.length_set]; exact h.1, ?_⟩
  rcases h.2 with ⟨hv, _⟩ | ⟨g', cap', cur, hv, hb, hg, hn, hm, hs, ht⟩
  · cases hv
  · cases hv
    refine .inr ⟨g, cap, cur.setIfInBounds (i * 2 + 1) (.int .i64 k), rfl, hb, heap_setCell_same w g _ cur _ _ hg, hn, hm, by rw [Array.size_setIfInBounds]; exact hs, ?_⟩
    rw [Array.toList_setIfInBounds, List.take_set, ht]
theorem RowP.free {w : World} {base g n cap : Nat} {l : List (Int × Int)} (h : RowP w base (.slice (some ⟨g, 0, none⟩) n cap) l) (j : Nat) : w.frozen? ⟨g, j, none⟩ = false := by
  rcases h.2 with ⟨hv, _⟩ | ⟨g', cap', cur, hv, hb, hg, rest⟩
  · cases hv
  · cases hv
    simp [World.frozen?, hg]
end Go.Proofs.Ytjmnohbgfkohpaa.Zn
