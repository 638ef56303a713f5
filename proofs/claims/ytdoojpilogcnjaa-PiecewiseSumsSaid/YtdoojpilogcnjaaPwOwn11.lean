/- What the loop of the developers' combine keeps in memory. No condition but those that each names. -/
import Derived.Test.YtdoojpilogcnjaaPwOwn6
import Derived.Test.YtdoojpilogcnjaaPwOwn9
import Derived.Test.YtdoojpilogcnjaaPwOwn10
import Derived.Test.YtdoojpilogcnjaaPwOwn3
import Derived.Test.YtdoojpilogcnjaaPwRef4
import Derived.Test.YtdoojpilogcnjaaSpanStep
import Derived.Test.YtdoojpilogcnjaaZoneRound
set_option linter.unusedVariables false
set_option linter.unusedSimpArgs false
namespace Go.Proofs.Ytdoojpilogcnjaa.Pw
open Go Go.RowKit Go.Shelf Go.Proofs.Ytdoojpilogcnjaa.Sp Go.Proofs.Ytdoojpilogcnjaa.Zn
/-- Blocks up to rb and from base on are as they were. -/
structure Kp (rb base : Nat) (X Y : World) : Prop where
  os : Y.os = X.os
  tape : Y.tape = X.tape
  output : Y.output = X.output
  size : X.heap.size ≤ Y.heap.size
  block : ∀ k, k < X.heap.size → (k ≤ rb ∨ base ≤ k) → Y.heap[k]? = X.heap[k]?
section
variable {rb base : Nat} {X Y : World}
theorem Kp.of_below {B : Nat} (h : Below B X Y) (hB : X.heap.size ≤ B) : Kp rb base X Y := ⟨h.os, h.tape, h.output, h.size, fun k hk _ => h.block k (by omega)⟩
theorem Kp.of_turned {t : Nat} (h : Turned t X Y) (h1 : rb < t) (h2 : t < base) : Kp rb base X Y := ⟨h.os, h.tape, h.output, Nat.le_of_eq h.size.symm, fun k _ hk => h.block k (by omega)⟩
theorem Kp.trans {Z : World} (h : Kp rb base X Y) (k : Kp rb base Y Z) : Kp rb base X Z := ⟨k.os.trans h.os, k.tape.trans h.tape, k.output.trans h.output, Nat.le_trans h.size k.size, fun i hi hr => (k.block i (Nat.lt_of_lt_of_le hi h.size) hr).trans (h.block i hi hr)⟩
end
theorem frozen_block {X Y : World} {p : Addr} (h : Y.heap[p.block]? = X.heap[p.block]?) : Y.frozen? p = X.frozen? p := by unfold World.frozen?; rw [h]
/-- What the loop keeps: the boxes of both functions, of the way of joining, of the result; the pieces so far. -/
structure CmbI (w : World) (x0 rb base : Nat) (d e : Int) (a b : Option Addr) (n c m k jf : Nat) (acc : List Pc) (W : World) : Prop where
  f0 : W.cell? ⟨x0, 0, none⟩ = some (.int .i64 d)
  f1 : W.cell? ⟨x0, 1, none⟩ = some (.slice a n c)
  g0 : W.cell? ⟨x0 + 1, 0, none⟩ = some (.int .i64 e)
  g1 : W.cell? ⟨x0 + 1, 1, none⟩ = some (.slice b m k)
  j0 : W.cell? ⟨x0 + 2, 0, none⟩ = some (.func (.func jf) #[] #[])
  q0 : W.cell? ⟨x0 + 3, 0, none⟩ = some (.int .i64 0)
  q1 : W.cell? ⟨x0 + 3, 1, none⟩ = some (.slice none 0 0)
  y0 : W.frozen? ⟨x0 + 3, 0, none⟩ = false
  y1 : W.frozen? ⟨x0 + 3, 1, none⟩ = false
  r0 : W.cell? ⟨rb, 0, none⟩ = some (.int .i64 d)
  z1 : W.frozen? ⟨rb, 1, none⟩ = false
  row : ∃ v, W.cell? ⟨rb, 1, none⟩ = some v ∧ RowP W base v acc
  hb : Below w.heap.size w W
section
variable {w : World} {x0 rb base : Nat} {d e : Int} {a b : Option Addr} {n c m k jf : Nat} {acc : List Pc} {X Y : World}
theorem CmbI.kp (h : CmbI w x0 rb base d e a b n c m k jf acc X) (q : Kp rb base X Y) (hx : x0 + 3 < rb) (hw : w.heap.size ≤ x0) : CmbI w x0 rb base d e a b n c m k jf acc Y := by
  have bl : ∀ i, i ≤ rb → i < X.heap.size → Y.heap[i]? = X.heap[i]? := fun i hi hl => q.block i hl (Or.inl hi)
  have ce : ∀ {p : Addr} {v : Value}, p.block ≤ rb → X.cell? p = some v → Y.cell? p = some v := fun {p v} hp hc => (World.cell?_of_block (w := X) (bl p.block hp (World.block_lt_of_cell? X p hc))).trans hc
  have fr : ∀ {p : Addr} {v : Value}, p.block ≤ rb → X.cell? p = some v → X.frozen? p = false → Y.frozen? p = false := fun {p v} hp hc hf => (frozen_block (bl p.block hp (World.block_lt_of_cell? X p hc))).trans hf
  obtain ⟨v, hv, hr⟩ := h.row
  refine ⟨ce (by show x0 ≤ rb; omega) h.f0, ce (by show x0 ≤ rb; omega) h.f1, ce (by show x0 + 1 ≤ rb; omega) h.g0, ce (by show x0 + 1 ≤ rb; omega) h.g1, ce (by show x0 + 2 ≤ rb; omega) h.j0, ce (by show x0 + 3 ≤ rb; omega) h.q0, ce (by show x0 + 3 ≤ rb; omega) h.q1,
    fr (by show x0 + 3 ≤ rb; omega) h.q0 h.y0, fr (by show x0 + 3 ≤ rb; omega) h.q1 h.y1, ce (Nat.le_refl _) h.r0, fr (Nat.le_refl _) hv h.z1, ⟨v, ce (Nat.le_refl _) hv, ?_⟩, ?_⟩
  · refine ⟨hr.1, ?_⟩
    rcases hr.2 with hn | ⟨g, cap, cur, e1, e2, e3, rest⟩
    · exact .inl hn
    · exact .inr ⟨g, cap, cur, e1, e2, (q.block g (Array.getElem?_eq_some_iff.1 e3).1 (Or.inr e2)).trans e3, rest⟩
  · exact ⟨q.os.trans h.hb.os, q.tape.trans h.hb.tape, q.output.trans h.hb.output, Nat.le_trans h.hb.size q.size, fun i hi => (bl i (by omega) (Nat.lt_of_lt_of_le hi h.hb.size)).trans (h.hb.block i hi)⟩
theorem CmbI.app (h : CmbI w x0 rb base d e a b n c m k jf acc X) (hx : x0 + 3 < rb) (hw : w.heap.size ≤ x0) (hrb : rb < base) {wc w' : World} {v v' : Value} {L : List Pc} (kc : Below X.heap.size X wc) (hv : X.cell? ⟨rb, 1, none⟩ = some v) (hr : RowP wc base v acc) (hg : wc.grownBy w' v.ownBlock) (hown : RowP w' base v' (acc ++ L)) (mine : Nat → Prop) (hm : mine rb) (hm2 : ∀ i, base ≤ i → mine i) :
    Oth mine X (w'.setCell ⟨rb, 1, none⟩ v') ∧ CmbI w x0 rb base d e a b n c m k jf (acc ++ L) (w'.setCell ⟨rb, 1, none⟩ v') := by
  have hlo : ∀ i, v.ownBlock = some i → base ≤ i := fun i hi => (World.ownsRow.lt hr i hi).1
  have I1 := h.kp (Kp.of_below kc (Nat.le_refl _)) hx hw
  have bl : ∀ i, i ≤ rb → i < wc.heap.size → w'.heap[i]? = wc.heap[i]? := fun i hi hl => hg.block i hl (fun e => by have := hlo i e.symm; omega)
  have ce : ∀ {p : Addr} {u : Value}, p.block ≤ rb → wc.cell? p = some u → w'.cell? p = some u := fun {p u} hp hc => (World.cell?_of_block (w := wc) (bl p.block hp (World.block_lt_of_cell? wc p hc))).trans hc
  have far : ∀ {p : Addr} {u : Value}, p.block < rb → wc.cell? p = some u → (w'.setCell ⟨rb, 1, none⟩ v').cell? p = some u := fun {p u} hp hc => by
    rw [World.cell?_setCell_other _ _ _ _ (fun q => by rw [← q] at hp; exact absurd hp (Nat.lt_irrefl _))]
    exact ce (Nat.le_of_lt hp) hc
  have fr : ∀ {p : Addr} {u : Value}, p.block ≤ rb → wc.cell? p = some u → wc.frozen? p = false → (w'.setCell ⟨rb, 1, none⟩ v').frozen? p = false := fun {p u} hp hc hf => by
    rw [World.frozen?_setCell]
    exact (frozen_block (bl p.block hp (World.block_lt_of_cell? wc p hc))).trans hf
  have hv1 := Sp.cell_kept kc hv
  refine ⟨((Oth.of_below kc (Nat.le_refl _)).grown hg (fun i hi => .inl (hm2 i (hlo i hi)))).setCell (.inl hm) _, ?_⟩
  refine ⟨far (by show x0 < rb; omega) I1.f0, far (by show x0 < rb; omega) I1.f1, far (by show x0 + 1 < rb; omega) I1.g0, far (by show x0 + 1 < rb; omega) I1.g1, far (by show x0 + 2 < rb; omega) I1.j0, far (by show x0 + 3 < rb; omega) I1.q0, far (by show x0 + 3 < rb; omega) I1.q1,
    fr (by show x0 + 3 ≤ rb; omega) I1.q0 I1.y0, fr (by show x0 + 3 ≤ rb; omega) I1.q1 I1.y1, ?_, fr (Nat.le_refl _) hv1 I1.z1, ⟨v', ?_, ?_⟩, ?_⟩
  · rw [World.cell?_setCell_other _ _ _ _ (fun q => by cases q)]
    exact ce (Nat.le_refl _) I1.r0
  · exact World.cell?_setCell_same' _ _ _ (by rw [ce (Nat.le_refl _) hv1]; rfl)
  · exact ownsRow_setCell_below hown (show rb < base from hrb) _
  · refine Below.setCell ?_ (show w.heap.size ≤ rb by omega) _
    exact I1.hb.grown hg I1.hb.size (fun i hi => by have := hlo i hi; omega)
end
/-- A function of two functions, or its error. -/
def cmbT (d e : Int) (l r M : List Pc) : Int × List Pc × Int := if wrg d e l r ≠ 0 then (0, [], wrg d e l r) else if 64 < M.length then (0, [], 2) else if vdB d M = true then (d, M, 0) else (0, [], 3)
def CmbPost (w : World) (T : Int × List Pc × Int) (res : Ending) (w' : World) : Prop := ∃ a c, res = .returned (.tuple #[fv T.1 a T.2.1.length c, .int .i64 T.2.2]) ∧ PcsAt a T.2.1 w' ∧ (a = none → c = 0) ∧ (∀ b o, a = some ⟨b, o, none⟩ → w.heap.size ≤ b) ∧ Below w.heap.size w w'
theorem CmbPost.none {w w' : World} {T : Int × List Pc × Int} {E : Int} {res : Ending} (h : T = (0, [], E)) (hr : res = .returned (.tuple #[fv 0 none 0 0, .int .i64 E])) (hb : Below w.heap.size w w') : CmbPost w T res w' := by
  subst h
  exact ⟨Option.none, 0, hr, fun i x hx => by simp at hx, fun _ => rfl, (fun b o e => by cases e), hb⟩
end Go.Proofs.Ytdoojpilogcnjaa.Pw
