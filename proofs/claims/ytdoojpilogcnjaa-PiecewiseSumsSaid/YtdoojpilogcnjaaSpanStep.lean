/- Appends inside regions that draw their order, from whatever source. No condition but those that each names. -/
import Derived.Test.YtdoojpilogcnjaaSpanRef6
import Derived.Deep.RegionHeld3
import Derived.Deep.Cut
set_option linter.unusedVariables false
set_option linter.unusedSimpArgs false
namespace Go.Proofs.Ytdoojpilogcnjaa.Sp
open Go.RowKit
theorem wp_append_src {P : Program} {w : World} {o : Oper} {a : Act} {K : Act → World → Prop} {Q : Exit → Act → World → Prop} (s x : Operand) (t : TypeId)
    (ho : o.op = .call { callee := .builtin .append, args := #[s, x], argTypes := #[t, t] })
    (base : Nat) (e : TypeId) (i : TypeInfo) (z : Value) (size bytes : Nat) (ht : P.underlying t = some (.slice e)) (hi : P.info? e = some i) (hz : i.zero = some z)
    (hsize : i.size = size) (hby : i.bytes = bytes) (hzs : z.cells.size = size) (hsz : 0 < size)
    (v : Value) (n : Nat) (xs : List Value) (hs : a.eval s = v) (hown : w.ownsRow base e size v n xs)
    (u : Value) (m : Nat) (news : List Value) (hx : a.eval x = u) (hsrc : SrcAt w u m news) (hl : news.length = m * size) (h1 : ∀ u ∈ news, u.oneCell' = true)
    (h63 : n + m ≤ maxLen) (hbytes : (n + m) * bytes ≤ 140737488355328) (hbase : base ≤ w.heap.size)
    (h : ∀ v' w', w'.ownsRow base e size v' (n + m) (xs ++ news) → w.grownBy w' v.ownBlock → K (a.put o.dst v') w') : o.wp P a w K Q := by
  rcases hsrc with ⟨hu, rfl, rfl⟩ | ⟨ad, c, hu, hc⟩
  · have hrun := run_append_owned_none (P := P) (w := w) base t o.type e i size ht hi v n xs hown
    have hx' : a.eval x = .slice none 0 0 := hx.trans hu
    unfold Oper.wp
    simp [execOp, ho, resolve, invoke, builtin, hs, hx', hrun, Result.andThen]
    exact h v w (by rw [List.append_nil]; exact hown) ⟨rfl, rfl, rfl, Nat.le_refl _, fun _ _ _ => rfl⟩
  · exact wp_append_own w s x t ho base e i z size bytes ht hi hz hsize hby hzs hsz v n xs hs hown ad m c news (hx.trans hu) hl hc h1 h63 hbytes hbase (fun v' w' g1 g2 _ => h v' w' g1 g2)
theorem step_append_src {P : Program} {w : World} {ops : Array Oper} {o : Oper} {a : Act} {K : Act → World → Prop} {Q : Exit → Act → World → Prop} {E : Prop} (hgd : o.guard = none) (s x : Operand) (t : TypeId)
    (ho : o.op = .call { callee := .builtin .append, args := #[s, x], argTypes := #[t, t] })
    (base : Nat) (e : TypeId) (i : TypeInfo) (z : Value) (size bytes : Nat) (ht : P.underlying t = some (.slice e)) (hi : P.info? e = some i) (hz : i.zero = some z)
    (hsize : i.size = size) (hby : i.bytes = bytes) (hzs : z.cells.size = size) (hsz : 0 < size)
    (v : Value) (n : Nat) (xs : List Value) (hs : a.eval s = v) (hown : w.ownsRow base e size v n xs)
    (u : Value) (m : Nat) (news : List Value) (hx : a.eval x = u) (hsrc : SrcAt w u m news) (hl : news.length = m * size) (h1 : ∀ u ∈ news, u.oneCell' = true)
    (h63 : n + m ≤ maxLen) (hbytes : (n + m) * bytes ≤ 140737488355328) (hbase : base ≤ w.heap.size)
    (h : ∀ v' w', w'.ownsRow base e size v' (n + m) (xs ++ news) → w.grownBy w' v.ownBlock → K (a.put o.dst v') w') :
    if Region.wanted o (yielded ops a.tmps) = true then Oper.wp P o a w K Q else E := by
  have hw : Region.wanted o (yielded ops a.tmps) = true := by simp [Region.wanted, hgd]
  rw [if_pos hw]
  exact wp_append_src s x t ho base e i z size bytes ht hi hz hsize hby hzs hsz v n xs hs hown u m news hx hsrc hl h1 h63 hbytes hbase h
/-- A part of a list as a source. -/
theorem SpansAt.src_part {b o c : Nat} {l : List Sn} {w : World} (h : SpansAt (some ⟨b, o, none⟩) l w) (k : Nat) {p : List Sn} (hp : ∀ i x, p[i]? = some x → l[k + i]? = some x) : SrcAt w (.slice (some ⟨b, o + k * 2, none⟩) p.length c) p.length (flat p) :=
  (h.part k hp).src (fun e => by cases e)
theorem SpansAt.src_take {b o c : Nat} {l : List Sn} {w : World} (h : SpansAt (some ⟨b, o, none⟩) l w) {j : Nat} (hj : j ≤ l.length) : SrcAt w (.slice (some ⟨b, o, none⟩) j c) j (flat (l.take j)) := by
  have q := h.src_part (c := c) 0 (p := l.take j) (fun i x hx => by
    rw [Nat.zero_add]
    have hi : i < j := by have := (List.getElem?_eq_some_iff.1 hx).1; rw [List.length_take] at this; omega
    rw [List.getElem?_take_of_lt hi] at hx
    exact hx)
  rw [List.length_take, Nat.min_eq_left hj, Nat.zero_mul, Nat.add_zero] at q
  exact q
theorem SpansAt.src_drop {b o c : Nat} {l : List Sn} {w : World} (h : SpansAt (some ⟨b, o, none⟩) l w) (k : Nat) : SrcAt w (.slice (some ⟨b, o + k * 2, none⟩) (l.length - k) c) (l.length - k) (flat (l.drop k)) := by
  have q := h.src_part (c := c) k (p := l.drop k) (fun i x hx => by rw [List.getElem?_drop] at hx; exact hx)
  rw [List.length_drop] at q
  exact q
/-- .. where a slice's end at its capacity keeps its beginning. -/
theorem SpansAt.src_drop_if {b o c : Nat} {l : List Sn} {w : World} (h : SpansAt (some ⟨b, o, none⟩) l w) (k : Nat) (hc : l.length ≤ c) : SrcAt w (.slice (if c = k then some ⟨b, o, none⟩ else some ⟨b, o + k * 2, none⟩) (l.length - k) (c - k)) (l.length - k) (flat (l.drop k)) := by
  by_cases e : c = k
  · rw [if_pos e, List.drop_of_length_le (by omega)]
    exact .inr ⟨_, _, rfl, fun i u hu => by simp [flat] at hu⟩
  · rw [if_neg e]
    exact h.src_drop k
theorem ownsRow_empty {w : World} {base : Nat} (hb : base ≤ w.heap.size) : (w.alloc (.cells #[] 50)).ownsRow base 50 2 (.slice (some ⟨w.heap.size, 0, none⟩) 0 0) 0 [] := World.ownsRow_made w #[] 0 hb (Nat.zero_le _) rfl
theorem cells_two {w : World} (a b c d : Int) : ∀ i u, (flat [(a, b), (c, d)])[i]? = some u → (w.alloc (.cells #[.int .i64 a, .int .i64 b, .int .i64 c, .int .i64 d] 50)).cell? ((⟨w.heap.size, 0, none⟩ : Addr).add i) = some u := fun i u hu =>
  World.news_of_block (cs := #[.int .i64 a, .int .i64 b, .int .i64 c, .int .i64 d]) (heap_alloc_new w _) i u hu
theorem cells_lt {w : World} {g : Nat} {l : List Value} (h : ∀ i u, l[i]? = some u → w.cell? ((⟨g, 0, none⟩ : Addr).add i) = some u) {u : Value} (hu : l[0]? = some u) : g < w.heap.size := by
  have := World.block_lt_of_cell? w _ (h 0 u hu)
  simpa [Addr.add] using this
theorem cells_below {w w' : World} {a : Addr} {l : List Value} (h : ∀ i u, l[i]? = some u → w.cell? (a.add i) = some u) (k : Below w.heap.size w w') : ∀ i u, l[i]? = some u → w'.cell? (a.add i) = some u := fun i u hu => cell_kept k (h i u hu)
theorem cells_grown {w w' : World} {g : Nat} {v : Value} {l : List Value} (h : ∀ i u, l[i]? = some u → w.cell? ((⟨g, 0, none⟩ : Addr).add i) = some u) (k : w.grownBy w' v.ownBlock) (hn : ∀ b, v.ownBlock = some b → b ≠ g) : ∀ i u, l[i]? = some u → w'.cell? ((⟨g, 0, none⟩ : Addr).add i) = some u := fun i u hu =>
  k.cell (h i u hu) (fun e => hn _ e.symm (by unfold Addr.add; split <;> rfl))
theorem RowS.app2 {w : World} {base m : Nat} {v : Value} {l r : List Sn} (hm : m = r.length) (h : w.ownsRow base 50 2 v (l.length + m) (flat l ++ flat r)) : RowS w base v (l ++ r) := by
  subst hm; exact RowS.more h
/-- A list with one span divided. -/
def cut (l : List Sn) (j : Nat) (f m t : Int) : List Sn := l.take j ++ [(m, t), (f, m)] ++ l.drop (j + 1)
theorem cut_el {l : List Sn} {j : Nat} {f m t : Int} (hj : l[j]? = some (f, t)) (hp : Proper (f, t)) (h1 : f < m) (h2 : m < t) (n : Int) : El (cut l j f m t) n ↔ El l n := by
  obtain ⟨hlt, he⟩ := List.getElem?_eq_some_iff.1 hj
  have e : l = l.take j ++ (f, t) :: l.drop (j + 1) := by
    conv => lhs; rw [← List.take_append_drop j l]
    rw [List.drop_eq_getElem_cons hlt, he]
  have h := part_el (l.take j) (l.drop (j + 1)) (f, t) m hp h1 h2 n
  rw [← e] at h
  exact h
theorem cut_len {l : List Sn} {j : Nat} {f m t : Int} (hj : j < l.length) : (cut l j f m t).length = l.length + 1 := by
  unfold cut
  rw [List.length_append, List.length_append, List.length_take, List.length_drop, Nat.min_eq_left (by omega)]
  show j + 2 + _ = _
  omega
theorem cut_not {l : List Sn} {j : Nat} {f m t : Int} (h1 : f < m) (h2 : m < t) : ¬ Nf (cut l j f m t) := fun h => by
  have h3 := (List.pairwise_append.1 (List.pairwise_append.1 h.1).1).2.1
  have h4 := (List.pairwise_cons.1 h3).1 (f, m) List.mem_cons_self
  have h5 : t < f := h4
  omega
theorem cut_has {l : List Sn} {j : Nat} {f m t : Int} (hp : Proper (f, t)) (h1 : f < m) (h2 : m < t) : has (cut l j f m t) m = true ∧ has (cut l j f m t) (m - 1) = true := by
  obtain ⟨p1, p2, p3⟩ := hp
  simp only at p1 p2 p3
  rw [has_el, has_el]
  exact ⟨⟨(m, t), by unfold cut; simp, ⟨by show _ ≤ m; omega, p2, h2⟩, Int.le_refl _, h2⟩, ⟨(f, m), by unfold cut; simp, ⟨p1, by show m ≤ _; omega, h1⟩, by show f ≤ m - 1; omega, by show m - 1 < m; omega⟩⟩
end Go.Proofs.Ytdoojpilogcnjaa.Sp
