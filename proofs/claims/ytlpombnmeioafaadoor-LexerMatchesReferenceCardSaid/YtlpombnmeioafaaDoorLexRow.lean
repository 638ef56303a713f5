/- Tokens in memory: lists of tokens that lie in a row, rows that a call itself made, and what a loop over an iterator keeps. No condition. -/
import Derived.Test.YtlpombnmeioafaaDoorLexSeq
import Derived.Laws.OwnMore
import Derived.Maps.OwnIn
import Derived.Maps.AppendAt
set_option linter.unusedVariables false
set_option linter.unusedSimpArgs false
namespace Go.Proofs.YtlpombnmeioafaaDoor.Lx
open Go Go.RowKit Go.Shelf Go.PlainAid Go.Proofs.YtlpombnmeioafaaDoor.Zn
/-- A token: its kind, its text, its offset. -/
abbrev ATok := Nat × ByteArray × Nat
def toks (s : ByteArray) (ts : List Tok) : List ATok := ts.map fun t => (t.1, tx s t, t.2.1)
theorem toks_len (s : ByteArray) (ts : List Tok) : (toks s ts).length = ts.length := List.length_map _
theorem toks_app (s : ByteArray) (a b : List Tok) : toks s (a ++ b) = toks s a ++ toks s b := List.map_append
def flatT : List ATok → List Value
  | [] => []
  | t :: r => .int .i64 t.1 :: .string t.2.1 :: .int .i64 t.2.2 :: flatT r
theorem flatT_length : ∀ l : List ATok, (flatT l).length = l.length * 3
  | [] => rfl
  | t :: r => by
    show (flatT r).length + 1 + 1 + 1 = (r.length + 1) * 3
    rw [flatT_length r]; omega
theorem flatT_append : ∀ l r : List ATok, flatT (l ++ r) = flatT l ++ flatT r
  | [], _ => rfl
  | t :: l, r => by
    show Value.int .i64 t.1 :: .string t.2.1 :: .int .i64 t.2.2 :: flatT (l ++ r) = Value.int .i64 t.1 :: .string t.2.1 :: .int .i64 t.2.2 :: (flatT l ++ flatT r)
    rw [flatT_append l r]
theorem flatT_get : ∀ (l : List ATok) (i : Nat) (x : ATok), l[i]? = some x → (flatT l)[i * 3]? = some (.int .i64 x.1) ∧ (flatT l)[i * 3 + 1]? = some (.string x.2.1) ∧ (flatT l)[i * 3 + 2]? = some (.int .i64 x.2.2)
  | [], i, x, h => by simp at h
  | t :: r, 0, x, h => by obtain rfl := Option.some.inj h; exact ⟨rfl, rfl, rfl⟩
  | t :: r, i + 1, x, h => by
    have h' := flatT_get r i x h
    rw [show (i + 1) * 3 = i * 3 + 1 + 1 + 1 by omega]
    exact h'
theorem flatT_cell1 : ∀ l : List ATok, ∀ u ∈ flatT l, u.oneCell' = true
  | [], u, hu => by cases hu
  | t :: r, u, hu => by
    rcases List.mem_cons.1 hu with rfl | hu
    · rfl
    · rcases List.mem_cons.1 hu with rfl | hu
      · rfl
      · rcases List.mem_cons.1 hu with rfl | hu
        · rfl
        · exact flatT_cell1 r u hu
/-- A list of tokens lies there. -/
def TokAt (a : Option Addr) (l : List ATok) (w : World) : Prop := ∀ i x, l[i]? = some x → ∃ b o, a = some ⟨b, o, none⟩ ∧ w.cell? ⟨b, o + i * 3, none⟩ = some (.int .i64 x.1) ∧ w.cell? ⟨b, o + i * 3 + 1, none⟩ = some (.string x.2.1) ∧ w.cell? ⟨b, o + i * 3 + 2, none⟩ = some (.int .i64 x.2.2)
theorem TokAt.below {a : Option Addr} {l : List ATok} {w w' : World} (h : TokAt a l w) (k : Below w.heap.size w w') : TokAt a l w' := fun i x hx => by
  obtain ⟨b, off, ha, h1, h2, h3⟩ := h i x hx
  exact ⟨b, off, ha, cell_kept k h1, cell_kept k h2, cell_kept k h3⟩
theorem TokAt.nil (a : Option Addr) (w : World) : TokAt a [] w := fun i x hx => by simp at hx
/-- Tokens that the call itself made. -/
def RowT (w : World) (base : Nat) (v : Value) (l : List ATok) : Prop := w.ownsRow base 30 3 v l.length (flatT l)
theorem RowT.nil (w : World) (base : Nat) : RowT w base (.slice none 0 0) [] := World.ownsRow_nil _ _ _ _
theorem RowT.below {w w' : World} {base : Nat} {v : Value} {l : List ATok} (h : RowT w base v l) (k : Below w.heap.size w w') : RowT w' base v l := by
  refine ⟨h.1, ?_⟩
  rcases h.2 with hn | ⟨g, cap, cur, hv, hb, hg, rest⟩
  · exact .inl hn
  · exact .inr ⟨g, cap, cur, hv, hb, (k.block g (Array.getElem?_eq_some_iff.1 hg).1).trans hg, rest⟩
theorem RowT.lower {w : World} {base base' : Nat} {v : Value} {l : List ATok} (h : RowT w base v l) (hb : base' ≤ base) : RowT w base' v l := by
  refine ⟨h.1, ?_⟩
  rcases h.2 with hn | ⟨g, cap, cur, hv, hb2, rest⟩
  · exact .inl hn
  · exact .inr ⟨g, cap, cur, hv, Nat.le_trans hb hb2, rest⟩
theorem RowT.app {w : World} {base n m : Nat} {v : Value} {l r : List ATok} (hn : n = l.length) (hm : m = r.length) (h : w.ownsRow base 30 3 v (n + m) (flatT l ++ flatT r)) : RowT w base v (l ++ r) := by
  subst hn; subst hm
  unfold RowT
  rw [List.length_append, flatT_append]
  exact h
theorem RowT.toks {w : World} {base : Nat} {v : Value} {l : List ATok} (h : RowT w base v l) : ∃ a cap, v = .slice a l.length cap ∧ TokAt a l w ∧ l.length ≤ cap ∧ (a = none → cap = 0) ∧ (∀ b o, a = some ⟨b, o, none⟩ → base ≤ b) := by
  rcases h.2 with ⟨hv, hn⟩ | ⟨g, cap, cur, hv, hb, hg, hc, rest⟩
  · refine ⟨none, 0, by rw [hv, hn], fun i x hx => ?_, by omega, (fun _ => rfl), (fun _ _ e => by cases e)⟩
    rw [List.eq_nil_of_length_eq_zero hn] at hx
    simp at hx
  · refine ⟨some ⟨g, 0, none⟩, cap, hv, fun i x hx => ⟨g, 0, rfl, ?_⟩, hc, (fun e => by cases e), (fun b o e => by cases e; exact hb)⟩
    subst hv
    obtain ⟨e1, e2, e3⟩ := flatT_get l i x hx
    have c1 := World.ownsRow.cells h (g := g) rfl (i * 3) _ e1
    have c2 := World.ownsRow.cells h (g := g) rfl (i * 3 + 1) _ e2
    have c3 := World.ownsRow.cells h (g := g) rfl (i * 3 + 2) _ e3
    have e : ∀ j, (⟨g, 0, none⟩ : Addr).add j = ⟨g, 0 + j, none⟩ := fun j => by unfold Addr.add; split <;> simp_all
    rw [e] at c1 c2 c3
    exact ⟨c1, c2, c3⟩
theorem Tryd.infoT : (Tryd.prog.info? 30).map (fun i => (i.zero, i.size, i.bytes)) = some (some (.agg #[.int .i64 0, .string ⟨#[]⟩, .int .i64 0]), 3, 32) := by kernel_rfl
theorem Tryd.underT : Tryd.prog.underlying 23 = some (.slice 30) := by kernel_rfl
/-- Blocks up to rb and from base on are as they were. -/
structure Kp (rb base : Nat) (X Y : World) : Prop where
  os : Y.os = X.os
  tape : Y.tape = X.tape
  output : Y.output = X.output
  size : X.heap.size ≤ Y.heap.size
  block : ∀ k, k < X.heap.size → (k ≤ rb ∨ base ≤ k) → Y.heap[k]? = X.heap[k]?
section
variable {rb base : Nat} {X Y : World}
theorem Kp.of_below {B : Nat} (h : Below B X Y) (hB : X.heap.size ≤ B) : Kp rb base X Y := ⟨h.os, h.tape, h.output, h.size, fun k hk _ => h.block k (by omega)⟩
theorem Kp.of_turned {t : Nat} (h : Turned t X Y) (h1 : rb < t) (h2 : t < base) : Kp rb base X Y := ⟨h.os, h.tape, h.output, Nat.le_of_eq h.size.symm, fun k _ hk => h.block k (by omega)⟩
theorem Kp.trans {Z : World} (h : Kp rb base X Y) (k : Kp rb base Y Z) : Kp rb base X Z := ⟨k.os.trans h.os, k.tape.trans h.tape, k.output.trans h.output, Nat.le_trans h.size k.size, fun i hi hr => (k.block i (Nat.lt_of_lt_of_le hi h.size) hr).trans (h.block i hi hr)⟩
end
theorem frozen_block {X Y : World} {p : Addr} (h : Y.heap[p.block]? = X.heap[p.block]?) : Y.frozen? p = X.frozen? p := by unfold World.frozen?; rw [h]
theorem RowT.kp {rb base : Nat} {X Y : World} {v : Value} {l : List ATok} (h : RowT X base v l) (q : Kp rb base X Y) : RowT Y base v l := by
  refine ⟨h.1, ?_⟩
  rcases h.2 with hn | ⟨g, cap, cur, e1, e2, e3, rest⟩
  · exact .inl hn
  · exact .inr ⟨g, cap, cur, e1, e2, (q.block g (Array.getElem?_eq_some_iff.1 e3).1 (Or.inr e2)).trans e3, rest⟩
theorem alloc_below (w : World) (o : Obj) : Below w.heap.size w (w.alloc o) := (Below.refl _ _).alloc (Nat.le_refl _) _
/-- What the loop keeps: the boxes of the results, untouched; the tokens so far. -/
structure LexI (w : World) (x0 base : Nat) (acc : List ATok) (W : World) : Prop where
  r0 : W.cell? ⟨x0, 0, none⟩ = some (.slice none 0 0)
  r1 : W.cell? ⟨x0 + 1, 0, none⟩ = some (.int .i64 0)
  r2 : W.cell? ⟨x0 + 2, 0, none⟩ = some (.int .i64 0)
  z0 : W.frozen? ⟨x0, 0, none⟩ = false
  z1 : W.frozen? ⟨x0 + 1, 0, none⟩ = false
  z2 : W.frozen? ⟨x0 + 2, 0, none⟩ = false
  z3 : W.frozen? ⟨x0 + 3, 0, none⟩ = false
  row : ∃ v, W.cell? ⟨x0 + 3, 0, none⟩ = some v ∧ RowT W base v acc
  hb : Below w.heap.size w W
/-- .. and what it leaves where it is left: no tokens, an error, an offset. -/
structure LexX (w : World) (x0 : Nat) (er at_ : Nat) (W : World) : Prop where
  r0 : W.cell? ⟨x0, 0, none⟩ = some (.slice none 0 0)
  r1 : W.cell? ⟨x0 + 1, 0, none⟩ = some (.int .i64 er)
  r2 : W.cell? ⟨x0 + 2, 0, none⟩ = some (.int .i64 at_)
  hb : Below w.heap.size w W
section
variable {w : World} {x0 base er at_ : Nat} {acc : List ATok} {X Y : World}
theorem Kp.cell {p : Addr} {v : Value} {rb : Nat} (q : Kp rb base X Y) (hp : p.block ≤ rb) (hc : X.cell? p = some v) : Y.cell? p = some v := (World.cell?_of_block (w := X) (q.block p.block (World.block_lt_of_cell? X p hc) (.inl hp))).trans hc
theorem Kp.frozen {p : Addr} {v : Value} {rb : Nat} (q : Kp rb base X Y) (hp : p.block ≤ rb) (hc : X.cell? p = some v) (hf : X.frozen? p = false) : Y.frozen? p = false := (frozen_block (q.block p.block (World.block_lt_of_cell? X p hc) (.inl hp))).trans hf
theorem Kp.below {rb : Nat} (q : Kp rb base X Y) (h : Below w.heap.size w X) (hw : w.heap.size ≤ rb + 1) : Below w.heap.size w Y :=
  ⟨q.os.trans h.os, q.tape.trans h.tape, q.output.trans h.output, Nat.le_trans h.size q.size, fun i hi => (q.block i (Nat.lt_of_lt_of_le hi h.size) (.inl (by omega))).trans (h.block i hi)⟩
theorem LexI.kp (h : LexI w x0 base acc X) (q : Kp (x0 + 3) base X Y) (hw : w.heap.size ≤ x0) : LexI w x0 base acc Y := by
  obtain ⟨v, hv, hr⟩ := h.row
  exact ⟨q.cell (by show x0 ≤ _; omega) h.r0, q.cell (by show x0 + 1 ≤ _; omega) h.r1, q.cell (by show x0 + 2 ≤ _; omega) h.r2, q.frozen (by show x0 ≤ _; omega) h.r0 h.z0, q.frozen (by show x0 + 1 ≤ _; omega) h.r1 h.z1, q.frozen (by show x0 + 2 ≤ _; omega) h.r2 h.z2, q.frozen (Nat.le_refl _) hv h.z3,
    ⟨v, q.cell (Nat.le_refl _) hv, hr.kp q⟩, q.below h.hb (by omega)⟩
theorem LexX.kp (h : LexX w x0 er at_ X) (q : Kp (x0 + 3) base X Y) (hw : w.heap.size ≤ x0) : LexX w x0 er at_ Y :=
  ⟨q.cell (by show x0 ≤ _; omega) h.r0, q.cell (by show x0 + 1 ≤ _; omega) h.r1, q.cell (by show x0 + 2 ≤ _; omega) h.r2, q.below h.hb (by omega)⟩
theorem LexI.app {v v' : Value} {L : List ATok} {wc w' : World} (h : LexI w x0 base acc X) (hw : w.heap.size ≤ x0) (hrb : x0 + 3 < base) (kc : Below X.heap.size X wc) (hv : X.cell? ⟨x0 + 3, 0, none⟩ = some v) (hr : RowT wc base v acc) (hg : wc.grownBy w' v.ownBlock) (hown : RowT w' base v' (acc ++ L)) (mine : Nat → Prop) (hm : mine (x0 + 3)) (hm2 : ∀ i, base ≤ i → mine i) :
    Oth mine X (w'.setCell ⟨x0 + 3, 0, none⟩ v') ∧ LexI w x0 base (acc ++ L) (w'.setCell ⟨x0 + 3, 0, none⟩ v') := by
  have hlo : ∀ i, v.ownBlock = some i → base ≤ i := fun i hi => (World.ownsRow.lt hr i hi).1
  have I1 := h.kp (Kp.of_below kc (Nat.le_refl _)) hw
  have bl : ∀ i, i ≤ x0 + 3 → i < wc.heap.size → w'.heap[i]? = wc.heap[i]? := fun i hi hl => hg.block i hl (fun e => by have := hlo i e.symm; omega)
  have ce : ∀ {p : Addr} {u : Value}, p.block ≤ x0 + 3 → wc.cell? p = some u → w'.cell? p = some u := fun {p u} hp hc => (World.cell?_of_block (w := wc) (bl p.block hp (World.block_lt_of_cell? wc p hc))).trans hc
  have far : ∀ {p : Addr} {u : Value}, p.block < x0 + 3 → wc.cell? p = some u → (w'.setCell ⟨x0 + 3, 0, none⟩ v').cell? p = some u := fun {p u} hp hc => by
    rw [World.cell?_setCell_other _ _ _ _ (fun q => by rw [← q] at hp; exact absurd hp (Nat.lt_irrefl _))]
    exact ce (Nat.le_of_lt hp) hc
  have fr : ∀ {p : Addr} {u : Value}, p.block ≤ x0 + 3 → wc.cell? p = some u → wc.frozen? p = false → (w'.setCell ⟨x0 + 3, 0, none⟩ v').frozen? p = false := fun {p u} hp hc hf => by
    rw [World.frozen?_setCell]
    exact (frozen_block (bl p.block hp (World.block_lt_of_cell? wc p hc))).trans hf
  have hv1 := cell_kept kc hv
  refine ⟨((Oth.of_below kc (Nat.le_refl _)).grown hg (fun i hi => .inl (hm2 i (hlo i hi)))).setCell (.inl hm) _, ?_⟩
  refine ⟨far (by show x0 < _; omega) I1.r0, far (by show x0 + 1 < _; omega) I1.r1, far (by show x0 + 2 < _; omega) I1.r2, fr (by show x0 ≤ _; omega) I1.r0 I1.z0, fr (by show x0 + 1 ≤ _; omega) I1.r1 I1.z1, fr (by show x0 + 2 ≤ _; omega) I1.r2 I1.z2, fr (Nat.le_refl _) hv1 I1.z3, ⟨v', ?_, ?_⟩, ?_⟩
  · exact World.cell?_setCell_same' _ _ _ (by rw [ce (Nat.le_refl _) hv1]; rfl)
  · exact ownsRow_setCell_below hown (show x0 + 3 < base from hrb) _
  · refine Below.setCell ?_ (show w.heap.size ≤ x0 + 3 by omega) _
    exact I1.hb.grown hg I1.hb.size (fun i hi => by have := hlo i hi; omega)
end
theorem cutA_pre (acc pre rest : List Tok) (h : ∀ t ∈ pre, t.1 ≠ 0) (hl : acc.length + pre.length ≤ 2000) : cutA acc (pre ++ rest) = cutA (acc ++ pre) rest := by
  induction pre generalizing acc with
  | nil => simp
  | cons t pre ih =>
    simp only [List.length_cons] at hl
    rw [List.cons_append]
    show (if acc.length = 2000 then _ else if t.1 = 0 then _ else cutA (acc ++ [t]) (pre ++ rest)) = _
    rw [if_neg (by omega), if_neg (h t (List.mem_cons_self ..)), ih (acc ++ [t]) (fun u hu => h u (List.mem_cons_of_mem _ hu)) (by simp; omega), List.append_assoc]; rfl
end Go.Proofs.YtlpombnmeioafaaDoor.Lx
