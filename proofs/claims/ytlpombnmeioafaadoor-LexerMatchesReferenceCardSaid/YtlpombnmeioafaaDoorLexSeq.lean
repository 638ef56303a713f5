/- A range over a function whose body appends; and what the lexer's iterator gives, one by one, to whatever loop. Conditions: the tables of classes and symbols hold what their initialisers lay; a source of at most 7000 bytes; the loop's body leaves the tables and the iterator's own blocks alone. -/
import Derived.Test.YtlpombnmeioafaaDoorZoneRange
import Derived.Test.YtlpombnmeioafaaDoorLexGap
import Derived.Shelf.Abstract
import Derived.Shelf.RegionOpen
import Derived.RangeFuncCalls
import Derived.OwnWalkIn
import Derived.TacticsInMore
import Derived.LoopNIn
import Derived.LoopIn
import Derived.Sort.LoopGhostIn
import Derived.Sort.QuietTacIn
import Derived.Sort.BigQuietIn
import Derived.Sort.CutIn
import Derived.Laws.DeepStrings4
set_option linter.unusedVariables false
set_option linter.unusedSimpArgs false
namespace Go.Proofs.YtlpombnmeioafaaDoor.Zn
open Go Go.RowKit
/-- An iterator, called in W at the yield of loop l, gives xs, one by one; or it stops where a round has said so. -/
def SeqAt2 {α : Type} (P : Program) (g : Nat) (lb : Array Value) (encs : α → Array Value) (mine : Nat → Prop) (xs : List α) (l : Nat) (W : World) : Prop :=
  ∀ (J Jx : List α → World → Prop), (∀ s X Y, J s X → Below X.heap.size X Y → J s Y) → (∀ s X Y, Jx s X → Below X.heap.size X Y → Jx s Y) →
    (∀ pre x rest X, xs = pre ++ x :: rest → J pre X → Yld P l (encs x) X fun e Y => (e = .returned (.bool true) ∧ J (pre ++ [x]) Y ∧ Oth mine X Y) ∨ (e = .returned (.bool false) ∧ Jx (pre ++ [x]) Y ∧ Oth mine X Y)) →
    J [] W → Calls P g (#[.func (.yield l) #[] #[]] ++ lb) W fun e Y => (∃ v, e = .returned v) ∧ (J xs Y ∨ ∃ pre, Jx pre Y)
/-- **The statement, outside of any round.** D: the block for the rounds' deferred calls; the record lies behind it. -/
theorem range_outer2 {α : Type} {n : Nat} {P : Program} {g : Operand} {ps : Array Tmp} {assign body : Code} {Q : Exit → Act → World → Prop} {a : Act} {w : World}
    {gf : Nat} {lb : Array Value} (hg : a.eval g = .func (.func gf) #[] lb) (eg : ∀ args w, (callFunc gf args).run P w = .ok (.enter gf args) w)
    {encs : α → Array Value} (hps : ∀ x, (encs x).size = ps.size) (mine : Nat → Prop) (hm : ∀ k, mine k → k ≠ w.heap.size ∧ k ≠ w.heap.size + 1) (xs : List α)
    (hseq : ∀ W, Below w.heap.size w W → W.heap.size = w.heap.size + 2 → SeqAt2 P gf lb encs (fun k => mine k ∨ k = w.heap.size + 1) xs (w.heap.size + 1) W)
    (I Ix : List α → World → Prop) (hI : ∀ s X Y, I s X → Below X.heap.size X Y → I s Y) (hIx : ∀ s X Y, Ix s X → Below X.heap.size X Y → Ix s Y) (hIt : ∀ s X Y, I s X → Turned (w.heap.size + 1) X Y → I s Y) (hIxt : ∀ s X Y, Ix s X → Turned (w.heap.size + 1) X Y → Ix s Y) (h0 : I [] w)
    (hround : ∀ pre x rest X, xs = pre ++ x :: rest → I pre X → w.heap.size + 1 < X.heap.size →
      assign.wpIn (Fence.wide.inRound (w.heap.size + 1)) 0 P (Exit.then (fun a₁ X₁ => Oth (fun _ => False) X X₁ ∧ ∀ X₂, Turned (w.heap.size + 1) X₁ X₂ → body.wpIn (Fence.wide.inRound (w.heap.size + 1)) 0 P (RPost mine I Ix (pre ++ [x]) X₂) a₁ X₂) (fun _ _ _ => False))
        { tmps := (ps.zip (encs x)).foldl (fun t (p, v) => t.setIfInBounds p v) a.tmps, defers := [] } X)
    (hdone : ∀ Y, I xs Y → w.heap.size < Y.heap.size → Y.heap[w.heap.size]? = some (.deferred (some [])) → Q .normal { a with defers := { target := .collected w.heap.size, args := #[] } :: a.defers } Y)
    (hstop : ∀ pre Y, Ix pre Y → w.heap.size < Y.heap.size → Y.heap[w.heap.size]? = some (.deferred (some [])) → Code.ret.wpIn Fence.wide n P Q { a with defers := { target := .collected w.heap.size, args := #[] } :: a.defers } Y) :
    (Code.rangeFunc g ps assign body).wpIn Fence.wide n P Q a w := by
  refine wpIn_rangeFunc (fun fn _ => ?_)
  obtain ⟨rec, hrec⟩ : ∃ rec : LoopState → Option Code → Loop, rec = fun st pe => { state := st, pending := pe, fn, tmps := a.tmps, params := ps, assign, body, defers := w.heap.size } := ⟨_, rfl⟩
  obtain ⟨W1, hW1⟩ : ∃ W1, (w.alloc (.deferred (some []))).alloc (.loop (rec .ready none)) = W1 := ⟨_, rfl⟩
  have hsz : W1.heap.size = w.heap.size + 2 := by rw [← hW1]; simp
  have hbel : Below w.heap.size w W1 := by rw [← hW1]; exact ((Below.refl _ w).alloc (Nat.le_refl _) _).alloc (by simp) _
  have hrl : W1.heap[w.heap.size + 1]? = some (.loop (rec .ready none)) := by
    rw [← hW1]
    have h := World.alloc_heap_new (w.alloc (.deferred (some []))) (.loop (rec .ready none))
    rwa [World.size_alloc] at h
  have hde : W1.heap[w.heap.size]? = some (.deferred (some [])) := by
    rw [← hW1]
    exact (Below.heap_alloc _ _ _ (by simp)).trans (World.alloc_heap_new w _)
  refine ⟨w.heap.size + 1, [{ target := .collected w.heap.size, args := #[] }], W1, { target := .fn (.func gf) lb, args := #[.func (.yield (w.heap.size + 1)) #[] #[]] }, W1, gf, #[.func (.yield (w.heap.size + 1)) #[] #[]] ++ lb, W1, ?_, ?_, fun _ _ => trivial, ?_, fun h => by simp [Fence.wide] at h, ?_⟩
  · rw [← hW1, hrec]; exact run_enterLoop_outer _ _ _ _ _
  · simp only [resolve, hg]
    simp [go_sem]
  · simp [invoke, go_sem, eg]
  · refine callsIn_wide.2 ((hseq W1 hbel hsz
      (fun s X => I s X ∧ X.heap[w.heap.size + 1]? = some (.loop (rec .ready none)) ∧ X.heap[w.heap.size]? = some (.deferred (some [])))
      (fun s X => Ix s X ∧ X.heap[w.heap.size + 1]? = some (.loop (rec .done (some .ret))) ∧ X.heap[w.heap.size]? = some (.deferred (some [])))
      (fun s X Y hs k => ⟨hI s X Y hs.1 k, (k.block _ (Array.getElem?_eq_some_iff.1 hs.2.1).1).trans hs.2.1, (k.block _ (Array.getElem?_eq_some_iff.1 hs.2.2).1).trans hs.2.2⟩)
      (fun s X Y hs k => ⟨hIx s X Y hs.1 k, (k.block _ (Array.getElem?_eq_some_iff.1 hs.2.1).1).trans hs.2.1, (k.block _ (Array.getElem?_eq_some_iff.1 hs.2.2).1).trans hs.2.2⟩)
      ?_ ⟨hI _ _ _ h0 hbel, hrl, hde⟩).mono ?_)
    · rintro pre x rest X hx ⟨hi, hl, hd⟩
      have hlt : w.heap.size + 1 < X.heap.size := (Array.getElem?_eq_some_iff.1 hl).1
      have hy := run_yield (P := P) (args := encs x) hl (by rw [hrec]; exact hps x)
      rw [hrec] at hy
      refine ⟨fn, _, assign, body, hy, roundIn_of_wpIn trivial (wpIn_mono (hround pre x rest X hx hi hlt) ?_)⟩
      clear hy
      intro e a₁ X₁ he
      cases e with
      | normal =>
        obtain ⟨o1, hb⟩ := he
        have hl1 := o1.same hl (fun h => h)
        have hd1 := o1.same hd (fun h => h)
        have hlt1 : w.heap.size + 1 < X₁.heap.size := (Array.getElem?_eq_some_iff.1 hl1).1
        have hl2 : (X₁.putObj (w.heap.size + 1) (.loop { rec .ready none with state := .busy })).heap[w.heap.size + 1]? = some (.loop { rec .ready none with state := .busy }) := World.putObj_heap_same hlt1
        have hd2 : (X₁.putObj (w.heap.size + 1) (.loop { rec .ready none with state := .busy })).heap[w.heap.size]? = some (.deferred (some [])) := (World.putObj_heap_other (by omega)).trans hd1
        refine ⟨_, run_beginRound hl1 (by rw [hrec]), wpIn_mono (hb _ (Turned.putObj _ _ _)) ?_⟩
        have hO : Oth (fun k => mine k ∨ k = w.heap.size + 1) X (X₁.putObj (w.heap.size + 1) (.loop { rec .ready none with state := .busy })) := (o1.mono (fun _ _ h => h.elim)).putObj (.inl (.inr rfl)) _
        intro e3 a3 X3 h3
        have fin : ∀ jump : Option Code, Oth mine (X₁.putObj (w.heap.size + 1) (.loop { rec .ready none with state := .busy })) X3 →
            (Instr.endRound (w.heap.size + 1) jump).run P X3 = .ok (.bool jump.isNone) (X3.putObj (w.heap.size + 1) (.loop (rec (if jump.isNone then .ready else .done) jump))) ∧
            (X3.putObj (w.heap.size + 1) (.loop (rec (if jump.isNone then .ready else .done) jump))).heap[w.heap.size + 1]? = some (.loop (rec (if jump.isNone then .ready else .done) jump)) ∧
            (X3.putObj (w.heap.size + 1) (.loop (rec (if jump.isNone then .ready else .done) jump))).heap[w.heap.size]? = some (.deferred (some [])) ∧
            Oth (fun k => mine k ∨ k = w.heap.size + 1) X (X3.putObj (w.heap.size + 1) (.loop (rec (if jump.isNone then .ready else .done) jump))) := fun jump o3 => by
          have hl3 := o3.same hl2 (fun h => by have := hm _ h; omega)
          have hd3 := o3.same hd2 (fun h => by have := hm _ h; omega)
          have hr := run_endRound (P := P) jump hl3
          rw [hrec] at hr ⊢
          exact ⟨hr, World.putObj_heap_same (Array.getElem?_eq_some_iff.1 hl3).1, (World.putObj_heap_other (by omega)).trans hd3, (hO.trans (o3.mono (fun _ _ h => .inl h))).putObj (.inl (.inr rfl)) _⟩
        cases e3 with
        | normal =>
          obtain ⟨o3, hi3⟩ := h3
          obtain ⟨hr, hl4, hd4, ho4⟩ := fin none o3
          exact ⟨_, _, hr, .inl ⟨rfl, ⟨hIt _ _ _ hi3 (Turned.putObj _ _ _), hl4, hd4⟩, ho4⟩⟩
        | ret =>
          obtain ⟨o3, hi3⟩ := h3
          obtain ⟨hr, hl4, hd4, ho4⟩ := fin (some .ret) o3
          exact ⟨_, _, hr, .inr ⟨rfl, ⟨hIxt _ _ _ hi3 (Turned.putObj _ _ _), hl4, hd4⟩, ho4⟩⟩
        | exit id => exact h3.elim
        | goto t => exact h3.elim
        | panic ch => exact h3.elim
        | outgrown => exact h3.elim
      | ret => exact he.elim
      | exit id => exact he.elim
      | goto t => exact he.elim
      | panic ch => exact he.elim
      | outgrown => exact he.elim
    · rintro e Y ⟨⟨v, rfl⟩, (⟨hi, hl, hd⟩ | ⟨pre, hi, hl, hd⟩)⟩
      · refine ⟨none, Y.putObj (w.heap.size + 1) (.loop { rec .ready none with state := .exhausted }), ?_, hdone _ (hIt _ _ _ hi (Turned.putObj _ _ _)) ?_ ((World.putObj_heap_other (k := w.heap.size) (r := w.heap.size + 1) (by omega)).trans hd)⟩
        · have h := run_endLoop (P := P) hl (by rw [hrec]; simp)
          rw [hrec] at h ⊢; exact h
        · have := (Array.getElem?_eq_some_iff.1 hd).1; simpa using this
      · refine ⟨some .ret, Y.putObj (w.heap.size + 1) (.loop { rec .done (some .ret) with state := .exhausted }), ?_, hstop pre _ (hIxt _ _ _ hi (Turned.putObj _ _ _)) ?_ ((World.putObj_heap_other (k := w.heap.size) (r := w.heap.size + 1) (by omega)).trans hd)⟩
        · have h := run_endLoop (P := P) hl (by rw [hrec]; simp)
          rw [hrec] at h ⊢; exact h
        · have := (Array.getElem?_eq_some_iff.1 hd).1; simpa using this
end Go.Proofs.YtlpombnmeioafaaDoor.Zn
namespace Go.Proofs.YtlpombnmeioafaaDoor.Lx
open Go Go.RowKit Go.Shelf Go.PlainAid Go.Proofs.YtlpombnmeioafaaDoor.Zn
attribute [local go_sem] Oper.semAt_some
theorem tokensOf_any (s : ByteArray) (w : World) : Calls Tryd.prog 19 #[.string s] w fun r w' => r = .returned (.func (.func 22) #[] #[.pointer (some ⟨w.heap.size, 0, none⟩)]) ∧ w' = w.alloc (.cells #[.string s] 9) := by
  go_enter Tryd.func19, Tryd.ntmps19
  go_wp2
  go_ret
  exact ⟨rfl, rfl⟩
theorem slice_both (s : ByteArray) (k n : Nat) (h : k + n ≤ s.size) (w : World) : (Instr.slice 9 (.string s) (some (.int .i64 k)) (some (.int .i64 ((k : Int) + (n : Int)))) none).run Tryd.prog w = .ok (.string (s.extract k (k + n))) w := by
  rw [run_slice_string_if _ _ _ _ _ _ _ Tryd.underlying9, if_pos (by omega), if_pos (by omega)]; rfl
/-- A token, as a value. -/
abbrev tv (k : Nat) (t : ByteArray) (a : Nat) : Value := .agg #[.int .i64 k, .string t, .int .i64 a]
abbrev tx (s : ByteArray) (t : Tok) : ByteArray := s.extract t.2.1 (t.2.1 + t.2.2)
/-- A token, handed to a loop's body. -/
abbrev encTok (s : ByteArray) (t : Tok) : Array Value := #[tv t.1 (tx s t) t.2.1]
theorem Drw.oth {X Y : World} (h : Drw X Y) (mine : Nat → Prop) : Oth mine X Y := Oth.of_below h.below (Nat.le_refl _)
theorem Tabs.oth {mine : Nat → Prop} {X Y : World} (h : Tabs X) (k : Oth mine X Y) (h0 : ¬ mine 0) (h1 : ¬ mine 1) : Tabs Y := ⟨fun i hi => k.cell (h.c i hi) h0, fun j v hv => k.cell (h.s j v hv) h1⟩
set_option maxHeartbeats 4000000 in
set_option maxRecDepth 100000 in
theorem lex_seq (s : ByteArray) (hs : s.size ≤ 7000) (W : World) (hT : Tabs W) (gx : Nat) (hc : W.cell? ⟨gx, 0, none⟩ = some (.string s)) (mine : Nat → Prop) (hm : ∀ i, mine i → i ≠ gx ∧ i ≠ 0 ∧ i ≠ 1) (lp : Nat) :
    SeqAt2 Tryd.prog 22 #[.pointer (some ⟨gx, 0, none⟩)] (encTok s) mine (all (bl s)) lp W := by
  intro J Jx hJ hJx hY hJ0
  have HY := Lib.hid hY
  have HJ := Lib.hid hJ
  have HM := Lib.hid hm
  have HT := Lib.hid hT
  have hw0 := nx_len (bl s) 0 (Nat.zero_le _)
  rw [bl_len] at hw0
  have HG := Lib.hid (fun m k (hk : k ≤ s.size) w (h : Tabs w) => (callsIn_wide (n := m)).2 (afterGap_any s k w hs hk h))
  have HG0 : Hid (∀ m w, Tabs w → CallsIn Fence.wide m Tryd.prog 23 #[.string s, .int .i64 0] w fun e w' => e = .returned (.int .i64 (nx (bl s) 0)) ∧ Drw w w') := Lib.hid (fun m w h => HG.out m 0 (Nat.zero_le _) w h)
  have HMS := Lib.hid (fun m k (hk : k < s.size) κ n (hq : meas ((bl s).drop k) = (κ, n)) w (h : Tabs w) => (callsIn_wide (n := m)).2 (show Calls Tryd.prog 24 #[.string (s.extract k s.size)] w fun e w' => e = .returned (.tuple #[.int .i64 κ, .int .i64 n]) ∧ Drw w w' by
    have h2 := measure_any (s.extract k s.size) w (by rw [extract_size']; omega) (by rw [extract_size']; omega) h
    rw [bl_rest s k (by omega), hq] at h2
    exact h2))
  clear hY hJ hJx hm hT
  have HC := Lib.hid hc
  have hf1 : Fence.wide.fn 23 := trivial
  have hf2 : Fence.wide.fn 24 := trivial
  have hdep : Fence.wide.depth = none := rfl
  refine (callsIn_wide (n := 3)).1 ?_
  refine callsIn_of_wp Tryd.func22 rfl trivial ?_ rfl
  simp only [Tryd.ntmps22, List.size_toArray, List.length_cons, List.length_nil, Nat.reduceAdd, Nat.reduceSub, Array.replicate_succ, Array.replicate_zero, List.push_toArray, List.append_toArray, List.nil_append, List.cons_append]
  gi_wp2_with (gi_at_call 23; ((with_reducible refine (HG0.out _ _ HT.out).mono ?_); rintro e w1 ⟨rfl, hd⟩); have HD := Lib.hid hd; clear hd)
  have hJ1 := HJ.out _ _ _ hJ0 HD.out.below
  have hO1 : Oth mine W w1 := HD.out.oth mine
  clear hJ0 hc HG0
  gi_loopg [3] (s.size + 1 - nx (bl s) 0) (fun g s3 wx => ∃ k : Nat, g = s.size + 1 - k ∧ k ≤ s.size ∧ s3 = .int .i64 k ∧ Hid (∃ pre, all (bl s) = pre ++ from_ (bl s) k ∧ J pre wx) ∧ Hid (Oth mine W wx))
  case atStart => exact ⟨nx (bl s) 0, rfl, hw0, rfl, Lib.hid ⟨[], rfl, hJ1⟩, Lib.hid hO1⟩
  case round =>
    clear hJ1 hO1 hw0 HD
    obtain ⟨k, hg, hk, rfl, HP, HO⟩ := hrel
    have HGK := Lib.hid hg
    clear hg
    have hcx := HO.out.cell HC.out (fun h => (HM.out _ h).1 rfl)
    have HTX := Lib.hid (HT.out.oth HO.out (fun h => (HM.out _ h).2.1 rfl) (fun h => (HM.out _ h).2.2 rfl))
    by_cases hlt : k < s.size
    · obtain ⟨κ, n, hq⟩ : ∃ κ n, meas ((bl s).drop k) = (κ, n) := ⟨_, _, rfl⟩
      have hn : k + n ≤ s.size ∧ (κ = 0 → n = 0) ∧ (κ ≠ 0 → 0 < n) := by
        by_cases h0 : κ = 0
        · subst h0; have := meas_zero hq; exact ⟨by omega, fun _ => this, fun h => absurd rfl h⟩
        · have := meas_facts hq h0; rw [List.length_drop, bl_len] at this; exact ⟨by omega, fun h => absurd h h0, fun _ => by omega⟩
      have HFC := Lib.hid (show from_ (bl s) k = (κ, k, n) :: (if κ = 0 then [] else from_ (bl s) (nx (bl s) (k + n))) by
        rw [from_cons (by rw [bl_len]; exact hlt), hq])
      have HK := Lib.hid (fun m => HMS.out m k hlt κ n hq wr HTX.out)
      obtain ⟨hn1, hn2, hn3⟩ := hn
      have HN := Lib.hid (And.intro hn2 hn3)
      have w1' : IntKind.i64.wrap ((k : Int) + (n : Int)) = ((k + n : Nat) : Int) := by rw [IntWalk.i64_in _ (by omega)]; rfl
      have hi0 : (0 : Int) ≤ (k : Int) := by omega
      have hsl := slice_both s k n hn1
      clear hq hn2 hn3
      gi_upto_region 3 with (gi_at_call 24; ((with_reducible refine (HK.out _).mono ?_); rintro e w2 ⟨rfl, hd⟩); have HD := Lib.hid hd; clear hd)
      have hc2 := cell_kept HD.out.below hcx
      clear hcx
      obtain ⟨pre, hp1, hp2⟩ := HP.out
      have hp3 := HJ.out _ _ _ hp2 HD.out.below
      have HO2 := Lib.hid (HO.out.trans (HD.out.oth mine))
      have hp4 := hp1
      rw [HFC.out] at hp4
      obtain ⟨fn, tmps, assign, body, hy, hR⟩ := HY.out pre (κ, k, n) _ w2 hp4 hp3
      have hy' : (Instr.yield lp #[tv κ (s.extract k (k + n)) k]).run Tryd.prog w2 = .ok (.round lp fn tmps assign body) w2 := hy
      have HR := Lib.hid hR
      have HPQ := Lib.hid hp4
      clear hy hR hp1 hp2 hp3 hp4
      by_cases h0 : κ = 0
      · have hb0 : ((κ : Int) == 0) = true := by rw [h0]; rfl
        have HE0 := Lib.hid h0
        clear h0
        gi_wp2
        refine (round_wide HR.out).mono ?_
        rintro e W3 (⟨rfl, hJ3, hO3⟩ | ⟨rfl, hJ3, hO3⟩)
        · have HE := Lib.hid (show J (all (bl s)) W3 by rw [HPQ.out, if_pos HE0.out]; exact hJ3)
          clear hJ3 hO3 hy' hc2
          gi_wp2
          refine bodyPost_ret (results_none rfl _ _ _) rfl ?_
          exact ⟨⟨_, rfl⟩, .inl HE.out⟩
        · have HE := Lib.hid hJ3
          clear hJ3 hO3 hy' hc2
          gi_wp2
          refine bodyPost_ret (results_none rfl _ _ _) rfl ?_
          exact ⟨⟨_, rfl⟩, .inr ⟨_, HE.out⟩⟩
      · have hb0 : ((κ : Int) == 0) = false := by simpa using h0
        have HE0 := Lib.hid h0
        clear h0
        gi_wp2
        refine (round_wide HR.out).mono ?_
        rintro e W3 (⟨rfl, hJ3, hO3⟩ | ⟨rfl, hJ3, hO3⟩)
        · have HE := Lib.hid (show J (pre ++ [(κ, k, n)]) W3 from hJ3)
          have HO3 := Lib.hid (HO2.out.trans hO3)
          have hc3 := hO3.cell hc2 (fun h => (HM.out _ h).1 rfl)
          have HT3 := Lib.hid (HT.out.oth HO3.out (fun h => (HM.out _ h).2.1 rfl) (fun h => (HM.out _ h).2.2 rfl))
          have HG3 : Hid (∀ m, CallsIn Fence.wide m Tryd.prog 23 #[.string s, .int .i64 ((k : Int) + (n : Int))] W3 fun e w' => e = .returned (.int .i64 (nx (bl s) (k + n))) ∧ Drw W3 w') := Lib.hid (fun m => HG.out m (k + n) hn1 W3 HT3.out)
          clear hJ3 hO3 hy' hc2
          gi_wp2_with (gi_at_call 23; ((with_reducible refine (HG3.out _).mono ?_); rintro e w4 ⟨rfl, hd⟩); have HD4 := Lib.hid hd; clear hd)
          have hnl := nx_len (bl s) (k + n) (by rw [bl_len]; exact hn1)
          rw [bl_len] at hnl
          have hnl2 := nx_le (bl s) (k + n)
          have hnp := HN.out.2 HE0.out
          have hgk := HGK.out
          gi_roundg (s.size + 1 - nx (bl s) (k + n))
          case measure => omega
          case rel => exact ⟨nx (bl s) (k + n), rfl, hnl, rfl, Lib.hid ⟨pre ++ [(κ, k, n)], by rw [HPQ.out, if_neg HE0.out]; simp, HJ.out _ _ _ HE.out HD4.out.below⟩, Lib.hid (HO3.out.trans (HD4.out.oth mine))⟩
        · have HE := Lib.hid hJ3
          clear hJ3 hO3 hy' hc2
          gi_wp2
          refine bodyPost_ret (results_none rfl _ _ _) rfl ?_
          exact ⟨⟨_, rfl⟩, .inr ⟨_, HE.out⟩⟩
    · have HE := Lib.hid (show J (all (bl s)) wr by
        obtain ⟨pre, hp1, hp2⟩ := HP.out
        rw [from_nil (by rw [bl_len]; omega), List.append_nil] at hp1
        rw [hp1]; exact hp2)
      gi_wp2
      go_end0
      exact ⟨⟨_, rfl⟩, .inl HE.out⟩
end Go.Proofs.YtlpombnmeioafaaDoor.Lx
