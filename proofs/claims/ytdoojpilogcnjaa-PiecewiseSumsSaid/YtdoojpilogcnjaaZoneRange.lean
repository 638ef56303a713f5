/- A range over a function, for an iterator that keeps blocks of its own between two rounds or ranges over a function itself: what a round may change is named block by block. No condition but those that each names. -/
import Derived.RangeFuncRecord
import Derived.RangeFuncLeaves
import Derived.Below
import Derived.Deep.QuietTactic
set_option linter.unusedVariables false
set_option linter.unusedSimpArgs false
namespace Go.Proofs.Ytdoojpilogcnjaa.Zn
open Go Go.RowKit
/-- All blocks but those of which `mine` holds are as they were. -/
structure Oth (mine : Nat → Prop) (W X : World) : Prop where
  os : X.os = W.os
  tape : X.tape = W.tape
  output : X.output = W.output
  size : W.heap.size ≤ X.heap.size
  block : ∀ k, k < W.heap.size → ¬ mine k → X.heap[k]? = W.heap[k]?
section
variable {mine mine' : Nat → Prop} {W X Y : World}
theorem Oth.refl (mine : Nat → Prop) (W : World) : Oth mine W W := ⟨rfl, rfl, rfl, Nat.le_refl _, fun _ _ _ => rfl⟩
theorem Oth.trans (h : Oth mine W X) (k : Oth mine X Y) : Oth mine W Y :=
  ⟨k.os.trans h.os, k.tape.trans h.tape, k.output.trans h.output, Nat.le_trans h.size k.size, fun i hi hm => (k.block i (Nat.lt_of_lt_of_le hi h.size) hm).trans (h.block i hi hm)⟩
theorem Oth.mono (h : Oth mine W X) (hm : ∀ k, k < W.heap.size → mine k → mine' k) : Oth mine' W X :=
  ⟨h.os, h.tape, h.output, h.size, fun k hk hn => h.block k hk (fun e => hn (hm k hk e))⟩
theorem Oth.of_below {B : Nat} (h : Below B W X) (hB : W.heap.size ≤ B) : Oth mine W X :=
  ⟨h.os, h.tape, h.output, h.size, fun k hk _ => h.block k (by omega)⟩
theorem Oth.call (h : Oth mine W X) (k : Below X.heap.size X Y) : Oth mine W Y := h.trans (Oth.of_below k (Nat.le_refl _))
theorem Oth.alloc (h : Oth mine W X) (o : Obj) : Oth mine W (X.alloc o) := h.call ((Below.refl _ _).alloc (Nat.le_refl _) _)
theorem Oth.drew (h : Oth mine W X) : Oth mine W X.drew := h.trans ⟨rfl, rfl, rfl, Nat.le_refl _, fun _ _ _ => rfl⟩
theorem Oth.drewN (h : Oth mine W X) (n : Nat) : Oth mine W (X.drewN n) := h.trans ⟨rfl, rfl, rfl, Nat.le_refl _, fun _ _ _ => rfl⟩
theorem Oth.grown {row : Option Nat} (h : Oth mine W X) (g : X.grownBy Y row) (hr : ∀ k, row = some k → mine k ∨ W.heap.size ≤ k) : Oth mine W Y :=
  ⟨g.os.trans h.os, g.tape.trans h.tape, g.output.trans h.output, Nat.le_trans h.size g.size, fun k hk hm =>
    (g.block k (Nat.lt_of_lt_of_le hk h.size) (fun e => by
      rcases hr k e.symm with a | a
      · exact hm a
      · omega)).trans (h.block k hk hm)⟩
theorem Oth.setCell (h : Oth mine W X) {p : Addr} (hp : mine p.block ∨ W.heap.size ≤ p.block) (u : Value) : Oth mine W (X.setCell p u) :=
  ⟨h.os, h.tape, h.output, Nat.le_trans h.size (by simp [World.setCell]), fun k hk hm =>
    (Below.heap_setCell X p u k (fun e => by
      rcases hp with a | a
      · exact hm (e ▸ a)
      · omega)).trans (h.block k hk hm)⟩
theorem Oth.putObj (h : Oth mine W X) {l : Nat} (hp : mine l ∨ W.heap.size ≤ l) (o : Obj) : Oth mine W (X.putObj l o) :=
  ⟨h.os, h.tape, h.output, Nat.le_trans h.size (by simp), fun k hk hm =>
    (World.putObj_heap_other (fun e => by
      rcases hp with a | a
      · exact hm (e ▸ a)
      · omega)).trans (h.block k hk hm)⟩
theorem Oth.below (h : Oth mine W X) {B : Nat} (hB : B ≤ W.heap.size) (hm : ∀ k, mine k → B ≤ k) : Below B W X :=
  ⟨h.os, h.tape, h.output, h.size, fun k hk => h.block k (by omega) (fun e => by have := hm k e; omega)⟩
theorem Oth.same (h : Oth mine W X) {k : Nat} {o : Obj} (hk : W.heap[k]? = some o) (hm : ¬ mine k) : X.heap[k]? = some o :=
  (h.block k (Array.getElem?_eq_some_iff.1 hk).1 hm).trans hk
theorem Oth.cell (h : Oth mine W X) {p : Addr} {v : Value} (hc : W.cell? p = some v) (hm : ¬ mine p.block) : X.cell? p = some v :=
  (World.cell?_of_block (w := W) (h.block p.block (World.block_lt_of_cell? W p hc) hm)).trans hc
end
/-- A call of yield, under whichever fence the walk goes. -/
def Yld (P : Program) (l : Nat) (args : Array Value) (X : World) (R : Ending → World → Prop) : Prop :=
  ∃ fn tmps assign body, (Instr.yield l args).run P X = .ok (.round l fn tmps assign body) X ∧ RoundIn Fence.wide 0 P l fn tmps assign body X R
theorem round_wide {m l : Nat} {P : Program} {f : FuncId} {tmps : Array Value} {assign body : Code} {w : World} {R : Ending → World → Prop} (h : RoundIn Fence.wide 0 P l f tmps assign body w R) : RoundIn Fence.wide m P l f tmps assign body w R :=
  ⟨h.1, fun c cs _ => h.2 c cs (room_wide _)⟩
theorem round_inner {m l l2 : Nat} {P : Program} {f : FuncId} {tmps : Array Value} {assign body : Code} {w : World} {R : Ending → World → Prop} (h : RoundIn Fence.wide 0 P l f tmps assign body w R) : RoundIn (Fence.wide.inRound l2) m P l f tmps assign body w R :=
  ⟨h.1, fun c cs _ => h.2 c cs (room_wide _)⟩
/-- An iterator, called in W at the yield of loop l, gives xs, one by one; or it stops where a round has said so. -/
def SeqAt {α : Type} (P : Program) (g : Nat) (lb : Array Value) (encs : α → Array Value) (mine : Nat → Prop) (xs : List α) (l : Nat) (W : World) : Prop :=
  ∀ (J Jx : List α → World → Prop), (∀ s X Y, J s X → Below W.heap.size X Y → J s Y) → (∀ s X Y, Jx s X → Below W.heap.size X Y → Jx s Y) →
    (∀ pre x rest X, xs = pre ++ x :: rest → J pre X → Yld P l (encs x) X fun e Y => (e = .returned (.bool true) ∧ J (pre ++ [x]) Y ∧ Oth mine X Y) ∨ (e = .returned (.bool false) ∧ Jx (pre ++ [x]) Y ∧ Oth mine X Y)) →
    J [] W → Calls P g (#[.func (.yield l) #[] #[]] ++ lb) W fun e Y => (∃ v, e = .returned v) ∧ (J xs Y ∨ ∃ pre, Jx pre Y)
/-- How a round's body may be left: it goes on, or it returns. -/
def RPost {α : Type} (mine : Nat → Prop) (I Ix : List α → World → Prop) (s : List α) (X : World) : Exit → Act → World → Prop
  | .normal, _, Y => Oth mine X Y ∧ I s Y
  | .ret, _, Y => Oth mine X Y ∧ Ix s Y
  | .exit _, _, _ => False
  | .goto _, _, _ => False
  | .panic _, _, _ => False
  | .outgrown, _, _ => False
/-- Block l alone may have turned, and it lies there. -/
structure Turned (l : Nat) (X Y : World) : Prop where
  os : Y.os = X.os
  tape : Y.tape = X.tape
  output : Y.output = X.output
  size : Y.heap.size = X.heap.size
  block : ∀ k, k ≠ l → Y.heap[k]? = X.heap[k]?
theorem Turned.putObj (l : Nat) (X : World) (o : Obj) : Turned l X (X.putObj l o) := ⟨rfl, rfl, rfl, by simp, fun _ h => World.putObj_heap_other h⟩
theorem Turned.below {l : Nat} {X Y : World} (h : Turned l X Y) {B : Nat} (hB : B ≤ l) : Below B X Y := ⟨h.os, h.tape, h.output, Nat.le_of_eq h.size.symm, fun k hk => h.block k (by omega)⟩
theorem Turned.cell {l : Nat} {X Y : World} (h : Turned l X Y) {p : Addr} {v : Value} (hc : X.cell? p = some v) (hp : p.block ≠ l) : Y.cell? p = some v := (World.cell?_of_block (w := X) (h.block p.block hp)).trans hc
/-- **The statement, outside of any round.** D: the block for the rounds' deferred calls; the record lies behind it. -/
theorem range_outer {α : Type} {n : Nat} {P : Program} {g : Operand} {ps : Array Tmp} {assign body : Code} {Q : Exit → Act → World → Prop} {a : Act} {w : World}
    {gf : Nat} {lb : Array Value} (hg : a.eval g = .func (.func gf) #[] lb) (eg : ∀ args w, (callFunc gf args).run P w = .ok (.enter gf args) w)
    {encs : α → Array Value} (hps : ∀ x, (encs x).size = ps.size) (mine : Nat → Prop) (hm : ∀ k, mine k → k < w.heap.size) (xs : List α)
    (hseq : ∀ W, Below w.heap.size w W → W.heap.size = w.heap.size + 2 → SeqAt P gf lb encs (fun k => mine k ∨ k = w.heap.size + 1) xs (w.heap.size + 1) W)
    (I Ix : List α → World → Prop) (hI : ∀ s X Y, I s X → Below w.heap.size X Y → I s Y) (hIx : ∀ s X Y, Ix s X → Below w.heap.size X Y → Ix s Y) (h0 : I [] w)
    (hround : ∀ pre x rest X, xs = pre ++ x :: rest → I pre X → w.heap.size + 1 < X.heap.size →
      assign.wpIn (Fence.wide.inRound (w.heap.size + 1)) 0 P (Exit.then (fun a₁ X₁ => Oth (fun _ => False) X X₁ ∧ ∀ X₂, Turned (w.heap.size + 1) X₁ X₂ → body.wpIn (Fence.wide.inRound (w.heap.size + 1)) 0 P (RPost mine I Ix (pre ++ [x]) X₂) a₁ X₂) (fun _ _ _ => False))
        { tmps := (ps.zip (encs x)).foldl (fun t (p, v) => t.setIfInBounds p v) a.tmps, defers := [] } X)
    (hdone : ∀ Y, I xs Y → w.heap.size < Y.heap.size → Y.heap[w.heap.size]? = some (.deferred (some [])) → Q .normal { a with defers := { target := .collected w.heap.size, args := #[] } :: a.defers } Y)
    (hstop : ∀ pre Y, Ix pre Y → w.heap.size < Y.heap.size → Y.heap[w.heap.size]? = some (.deferred (some [])) → Code.ret.wpIn Fence.wide n P Q { a with defers := { target := .collected w.heap.size, args := #[] } :: a.defers } Y) :
    (Code.rangeFunc g ps assign body).wpIn Fence.wide n P Q a w := by
  refine wpIn_rangeFunc (fun fn _ => ?_)
  obtain ⟨rec, hrec⟩ : ∃ rec : LoopState → Option Code → Loop, rec = fun st pe => { state := st, pending := pe, fn, tmps := a.tmps, params := ps, assign, body, defers := w.heap.size } := ⟨_, rfl⟩
  obtain ⟨W1, hW1⟩ : ∃ W1, (w.alloc (.deferred (some []))).alloc (.loop (rec .ready none)) = W1 := ⟨_, rfl⟩
  have hsz : W1.heap.size = w.heap.size + 2 := by rw [← hW1]; simp
  have hbel : Below w.heap.size w W1 := by rw [← hW1]; exact ((Below.refl _ w).alloc (Nat.le_refl _) _).alloc (by simp) _
  have hrl : W1.heap[w.heap.size + 1]? = some (.loop (rec .ready none)) := by
    rw [← hW1]
    have h := World.alloc_heap_new (w.alloc (.deferred (some []))) (.loop (rec .ready none))
    rwa [World.size_alloc] at h
  have hde : W1.heap[w.heap.size]? = some (.deferred (some [])) := by
    rw [← hW1]
    exact (Below.heap_alloc _ _ _ (by simp)).trans (World.alloc_heap_new w _)
  refine ⟨w.heap.size + 1, [{ target := .collected w.heap.size, args := #[] }], W1, { target := .fn (.func gf) lb, args := #[.func (.yield (w.heap.size + 1)) #[] #[]] }, W1, gf, #[.func (.yield (w.heap.size + 1)) #[] #[]] ++ lb, W1, ?_, ?_, fun _ _ => trivial, ?_, fun h => by simp [Fence.wide] at h, ?_⟩
  · rw [← hW1, hrec]; exact run_enterLoop_outer _ _ _ _ _
  · simp only [resolve, hg]
    simp [go_sem]
  · simp [invoke, go_sem, eg]
  · refine callsIn_wide.2 ((hseq W1 hbel hsz
      (fun s X => I s X ∧ X.heap[w.heap.size + 1]? = some (.loop (rec .ready none)) ∧ X.heap[w.heap.size]? = some (.deferred (some [])))
      (fun s X => Ix s X ∧ X.heap[w.heap.size + 1]? = some (.loop (rec .done (some .ret))) ∧ X.heap[w.heap.size]? = some (.deferred (some [])))
      (fun s X Y hs k => ⟨hI s X Y hs.1 (k.mono (by omega)), (k.block _ (by omega)).trans hs.2.1, (k.block _ (by omega)).trans hs.2.2⟩)
      (fun s X Y hs k => ⟨hIx s X Y hs.1 (k.mono (by omega)), (k.block _ (by omega)).trans hs.2.1, (k.block _ (by omega)).trans hs.2.2⟩)
      ?_ ⟨hI _ _ _ h0 hbel, hrl, hde⟩).mono ?_)
    · rintro pre x rest X hx ⟨hi, hl, hd⟩
      have hlt : w.heap.size + 1 < X.heap.size := (Array.getElem?_eq_some_iff.1 hl).1
      have hy := run_yield (P := P) (args := encs x) hl (by rw [hrec]; exact hps x)
      rw [hrec] at hy
      refine ⟨fn, _, assign, body, hy, roundIn_of_wpIn trivial (wpIn_mono (hround pre x rest X hx hi hlt) ?_)⟩
      clear hy
      intro e a₁ X₁ he
      cases e with
      | normal =>
        obtain ⟨o1, hb⟩ := he
        have hl1 := o1.same hl (fun h => h)
        have hd1 := o1.same hd (fun h => h)
        have hlt1 : w.heap.size + 1 < X₁.heap.size := (Array.getElem?_eq_some_iff.1 hl1).1
        have hl2 : (X₁.putObj (w.heap.size + 1) (.loop { rec .ready none with state := .busy })).heap[w.heap.size + 1]? = some (.loop { rec .ready none with state := .busy }) := World.putObj_heap_same hlt1
        have hd2 : (X₁.putObj (w.heap.size + 1) (.loop { rec .ready none with state := .busy })).heap[w.heap.size]? = some (.deferred (some [])) := (World.putObj_heap_other (by omega)).trans hd1
        refine ⟨_, run_beginRound hl1 (by rw [hrec]), wpIn_mono (hb _ (Turned.putObj _ _ _)) ?_⟩
        have hO : Oth (fun k => mine k ∨ k = w.heap.size + 1) X (X₁.putObj (w.heap.size + 1) (.loop { rec .ready none with state := .busy })) := (o1.mono (fun _ _ h => h.elim)).putObj (.inl (.inr rfl)) _
        intro e3 a3 X3 h3
        have fin : ∀ jump : Option Code, Oth mine (X₁.putObj (w.heap.size + 1) (.loop { rec .ready none with state := .busy })) X3 →
            (Instr.endRound (w.heap.size + 1) jump).run P X3 = .ok (.bool jump.isNone) (X3.putObj (w.heap.size + 1) (.loop (rec (if jump.isNone then .ready else .done) jump))) ∧
            (X3.putObj (w.heap.size + 1) (.loop (rec (if jump.isNone then .ready else .done) jump))).heap[w.heap.size + 1]? = some (.loop (rec (if jump.isNone then .ready else .done) jump)) ∧
            (X3.putObj (w.heap.size + 1) (.loop (rec (if jump.isNone then .ready else .done) jump))).heap[w.heap.size]? = some (.deferred (some [])) ∧
            Oth (fun k => mine k ∨ k = w.heap.size + 1) X (X3.putObj (w.heap.size + 1) (.loop (rec (if jump.isNone then .ready else .done) jump))) := fun jump o3 => by
          have hl3 := o3.same hl2 (fun h => by have := hm _ h; omega)
          have hd3 := o3.same hd2 (fun h => by have := hm _ h; omega)
          have hr := run_endRound (P := P) jump hl3
          rw [hrec] at hr ⊢
          exact ⟨hr, World.putObj_heap_same (Array.getElem?_eq_some_iff.1 hl3).1, (World.putObj_heap_other (by omega)).trans hd3, (hO.trans (o3.mono (fun _ _ h => .inl h))).putObj (.inl (.inr rfl)) _⟩
        cases e3 with
        | normal =>
          obtain ⟨o3, hi3⟩ := h3
          obtain ⟨hr, hl4, hd4, ho4⟩ := fin none o3
          exact ⟨_, _, hr, .inl ⟨rfl, ⟨hI _ _ _ hi3 ((Turned.putObj _ _ _).below (by omega)), hl4, hd4⟩, ho4⟩⟩
        | ret =>
          obtain ⟨o3, hi3⟩ := h3
          obtain ⟨hr, hl4, hd4, ho4⟩ := fin (some .ret) o3
          exact ⟨_, _, hr, .inr ⟨rfl, ⟨hIx _ _ _ hi3 ((Turned.putObj _ _ _).below (by omega)), hl4, hd4⟩, ho4⟩⟩
        | exit id => exact h3.elim
        | goto t => exact h3.elim
        | panic ch => exact h3.elim
        | outgrown => exact h3.elim
      | ret => exact he.elim
      | exit id => exact he.elim
      | goto t => exact he.elim
      | panic ch => exact he.elim
      | outgrown => exact he.elim
    · rintro e Y ⟨⟨v, rfl⟩, (⟨hi, hl, hd⟩ | ⟨pre, hi, hl, hd⟩)⟩
      · refine ⟨none, Y.putObj (w.heap.size + 1) (.loop { rec .ready none with state := .exhausted }), ?_, hdone _ (hI _ _ _ hi ((Turned.putObj _ _ _).below (by omega))) ?_ ((World.putObj_heap_other (k := w.heap.size) (r := w.heap.size + 1) (by omega)).trans hd)⟩
        · have h := run_endLoop (P := P) hl (by rw [hrec]; simp)
          rw [hrec] at h ⊢; exact h
        · have := (Array.getElem?_eq_some_iff.1 hd).1; simpa using this
      · refine ⟨some .ret, Y.putObj (w.heap.size + 1) (.loop { rec .done (some .ret) with state := .exhausted }), ?_, hstop pre _ (hIx _ _ _ hi ((Turned.putObj _ _ _).below (by omega))) ?_ ((World.putObj_heap_other (k := w.heap.size) (r := w.heap.size + 1) (by omega)).trans hd)⟩
        · have h := run_endLoop (P := P) hl (by rw [hrec]; simp)
          rw [hrec] at h ⊢; exact h
        · have := (Array.getElem?_eq_some_iff.1 hd).1; simpa using this
end Go.Proofs.Ytdoojpilogcnjaa.Zn
