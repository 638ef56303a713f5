/- What the developers' stretches gives, one by one, to whatever loop. Conditions: the pieces lie in memory as the argument says; the loop's body leaves them and the iterator's own blocks alone. -/
import Derived.Test.YtdoojpilogcnjaaZoneRange
import Derived.Test.YtdoojpilogcnjaaPwOwn8
import Derived.Test.YtdoojpilogcnjaaPwMath3
import Derived.Shelf.Abstract
import Derived.Shelf.RegionOpen
import Derived.RangeFuncCalls
import Derived.OwnWalkIn
import Derived.TacticsInMore
import Derived.LoopNIn
import Derived.LoopIn
import Derived.Sort.LoopGhostIn
import Derived.Sort.QuietTacIn
import Derived.Sort.BigQuietIn
set_option linter.unusedVariables false
set_option linter.unusedSimpArgs false
namespace Go.Proofs.Ytdoojpilogcnjaa.Zn
open Go Go.RowKit
/-- An iterator, called in W at the yield of loop l, gives xs, one by one; or it stops where a round has said so. -/
def SeqAt2 {α : Type} (P : Program) (g : Nat) (lb : Array Value) (encs : α → Array Value) (mine : Nat → Prop) (xs : List α) (l : Nat) (W : World) : Prop :=
  ∀ (J Jx : List α → World → Prop), (∀ s X Y, J s X → Below X.heap.size X Y → J s Y) → (∀ s X Y, Jx s X → Below X.heap.size X Y → Jx s Y) →
    (∀ pre x rest X, xs = pre ++ x :: rest → J pre X → Yld P l (encs x) X fun e Y => (e = .returned (.bool true) ∧ J (pre ++ [x]) Y ∧ Oth mine X Y) ∨ (e = .returned (.bool false) ∧ Jx (pre ++ [x]) Y ∧ Oth mine X Y)) →
    J [] W → Calls P g (#[.func (.yield l) #[] #[]] ++ lb) W fun e Y => (∃ v, e = .returned v) ∧ (J xs Y ∨ ∃ pre, Jx pre Y)
/-- **The statement, outside of any round.** D: the block for the rounds' deferred calls; the record lies behind it. -/
theorem range_outer2 {α : Type} {n : Nat} {P : Program} {g : Operand} {ps : Array Tmp} {assign body : Code} {Q : Exit → Act → World → Prop} {a : Act} {w : World}
    {gf : Nat} {lb : Array Value} (hg : a.eval g = .func (.func gf) #[] lb) (eg : ∀ args w, (callFunc gf args).run P w = .ok (.enter gf args) w)
    {encs : α → Array Value} (hps : ∀ x, (encs x).size = ps.size) (mine : Nat → Prop) (hm : ∀ k, mine k → k ≠ w.heap.size ∧ k ≠ w.heap.size + 1) (xs : List α)
    (hseq : ∀ W, Below w.heap.size w W → W.heap.size = w.heap.size + 2 → SeqAt2 P gf lb encs (fun k => mine k ∨ k = w.heap.size + 1) xs (w.heap.size + 1) W)
    (I Ix : List α → World → Prop) (hI : ∀ s X Y, I s X → Below X.heap.size X Y → I s Y) (hIx : ∀ s X Y, Ix s X → Below X.heap.size X Y → Ix s Y) (hIt : ∀ s X Y, I s X → Turned (w.heap.size + 1) X Y → I s Y) (hIxt : ∀ s X Y, Ix s X → Turned (w.heap.size + 1) X Y → Ix s Y) (h0 : I [] w)
    (hround : ∀ pre x rest X, xs = pre ++ x :: rest → I pre X → w.heap.size + 1 < X.heap.size →
      assign.wpIn (Fence.wide.inRound (w.heap.size + 1)) 0 P (Exit.then (fun a₁ X₁ => Oth (fun _ => False) X X₁ ∧ ∀ X₂, Turned (w.heap.size + 1) X₁ X₂ → body.wpIn (Fence.wide.inRound (w.heap.size + 1)) 0 P (RPost mine I Ix (pre ++ [x]) X₂) a₁ X₂) (fun _ _ _ => False))
        { tmps := (ps.zip (encs x)).foldl (fun t (p, v) => t.setIfInBounds p v) a.tmps, defers := [] } X)
    (hdone : ∀ Y, I xs Y → w.heap.size < Y.heap.size → Y.heap[w.heap.size]? = some (.deferred (some [])) → Q .normal { a with defers := { target := .collected w.heap.size, args := #[] } :: a.defers } Y)
    (hstop : ∀ pre Y, Ix pre Y → w.heap.size < Y.heap.size → Y.heap[w.heap.size]? = some (.deferred (some [])) → Code.ret.wpIn Fence.wide n P Q { a with defers := { target := .collected w.heap.size, args := #[] } :: a.defers } Y) :
    (Code.rangeFunc g ps assign body).wpIn Fence.wide n P Q a w := by
  refine wpIn_rangeFunc (fun fn _ => ?_)
  obtain ⟨rec, hrec⟩ : ∃ rec : LoopState → Option Code → Loop, rec = fun st pe => { state := st, pending := pe, fn, tmps := a.tmps, params := ps, assign, body, defers := w.heap.size } := ⟨_, rfl⟩
  obtain ⟨W1, hW1⟩ : ∃ W1, (w.alloc (.deferred (some []))).alloc (.loop (rec .ready none)) = W1 := ⟨_, rfl⟩
  have hsz : W1.heap.size = w.heap.size + 2 := by rw [← hW1]; simp
  have hbel : Below w.heap.size w W1 := by rw [← hW1]; exact ((Below.refl _ w).alloc (Nat.le_refl _) _).alloc (by simp) _
  have hrl : W1.heap[w.heap.size + 1]? = some (.loop (rec .ready none)) := by
    rw [← hW1]
    have h := World.alloc_heap_new (w.alloc (.deferred (some []))) (.loop (rec .ready none))
    rwa [World.size_alloc] at h
  have hde : W1.heap[w.heap.size]? = some (.deferred (some [])) := by
    rw [← hW1]
    exact (Below.heap_alloc _ _ _ (by simp)).trans (World.alloc_heap_new w _)
  refine ⟨w.heap.size + 1, [{ target := .collected w.heap.size, args := #[] }], W1, { target := .fn (.func gf) lb, args := #[.func (.yield (w.heap.size + 1)) #[] #[]] }, W1, gf, #[.func (.yield (w.heap.size + 1)) #[] #[]] ++ lb, W1, ?_, ?_, fun _ _ => trivial, ?_, fun h => by simp [Fence.wide] at h, ?_⟩
  · rw [← hW1, hrec]; exact run_enterLoop_outer _ _ _ _ _
  · simp only [resolve, hg]
    simp [go_sem]
  · simp [invoke, go_sem, eg]
  · refine callsIn_wide.2 ((hseq W1 hbel hsz
      (fun s X => I s X ∧ X.heap[w.heap.size + 1]? = some (.loop (rec .ready none)) ∧ X.heap[w.heap.size]? = some (.deferred (some [])))
      (fun s X => Ix s X ∧ X.heap[w.heap.size + 1]? = some (.loop (rec .done (some .ret))) ∧ X.heap[w.heap.size]? = some (.deferred (some [])))
      (fun s X Y hs k => ⟨hI s X Y hs.1 k, (k.block _ (Array.getElem?_eq_some_iff.1 hs.2.1).1).trans hs.2.1, (k.block _ (Array.getElem?_eq_some_iff.1 hs.2.2).1).trans hs.2.2⟩)
      (fun s X Y hs k => ⟨hIx s X Y hs.1 k, (k.block _ (Array.getElem?_eq_some_iff.1 hs.2.1).1).trans hs.2.1, (k.block _ (Array.getElem?_eq_some_iff.1 hs.2.2).1).trans hs.2.2⟩)
      ?_ ⟨hI _ _ _ h0 hbel, hrl, hde⟩).mono ?_)
    · rintro pre x rest X hx ⟨hi, hl, hd⟩
      have hlt : w.heap.size + 1 < X.heap.size := (Array.getElem?_eq_some_iff.1 hl).1
      have hy := run_yield (P := P) (args := encs x) hl (by rw [hrec]; exact hps x)
      rw [hrec] at hy
      refine ⟨fn, _, assign, body, hy, roundIn_of_wpIn trivial (wpIn_mono (hround pre x rest X hx hi hlt) ?_)⟩
      clear hy
      intro e a₁ X₁ he
      cases e with
      | normal =>
        obtain ⟨o1, hb⟩ := he
        have hl1 := o1.same hl (fun h => h)
        have hd1 := o1.same hd (fun h => h)
        have hlt1 : w.heap.size + 1 < X₁.heap.size := (Array.getElem?_eq_some_iff.1 hl1).1
        have hl2 : (X₁.putObj (w.heap.size + 1) (.loop { rec .ready none with state := .busy })).heap[w.heap.size + 1]? = some (.loop { rec .ready none with state := .busy }) := World.putObj_heap_same hlt1
        have hd2 : (X₁.putObj (w.heap.size + 1) (.loop { rec .ready none with state := .busy })).heap[w.heap.size]? = some (.deferred (some [])) := (World.putObj_heap_other (by omega)).trans hd1
        refine ⟨_, run_beginRound hl1 (by rw [hrec]), wpIn_mono (hb _ (Turned.putObj _ _ _)) ?_⟩
        have hO : Oth (fun k => mine k ∨ k = w.heap.size + 1) X (X₁.putObj (w.heap.size + 1) (.loop { rec .ready none with state := .busy })) := (o1.mono (fun _ _ h => h.elim)).putObj (.inl (.inr rfl)) _
        intro e3 a3 X3 h3
        have fin : ∀ jump : Option Code, Oth mine (X₁.putObj (w.heap.size + 1) (.loop { rec .ready none with state := .busy })) X3 →
            (Instr.endRound (w.heap.size + 1) jump).run P X3 = .ok (.bool jump.isNone) (X3.putObj (w.heap.size + 1) (.loop (rec (if jump.isNone then .ready else .done) jump))) ∧
            (X3.putObj (w.heap.size + 1) (.loop (rec (if jump.isNone then .ready else .done) jump))).heap[w.heap.size + 1]? = some (.loop (rec (if jump.isNone then .ready else .done) jump)) ∧
            (X3.putObj (w.heap.size + 1) (.loop (rec (if jump.isNone then .ready else .done) jump))).heap[w.heap.size]? = some (.deferred (some [])) ∧
            Oth (fun k => mine k ∨ k = w.heap.size + 1) X (X3.putObj (w.heap.size + 1) (.loop (rec (if jump.isNone then .ready else .done) jump))) := fun jump o3 => by
          have hl3 := o3.same hl2 (fun h => by have := hm _ h; omega)
          have hd3 := o3.same hd2 (fun h => by have := hm _ h; omega)
          have hr := run_endRound (P := P) jump hl3
          rw [hrec] at hr ⊢
          exact ⟨hr, World.putObj_heap_same (Array.getElem?_eq_some_iff.1 hl3).1, (World.putObj_heap_other (by omega)).trans hd3, (hO.trans (o3.mono (fun _ _ h => .inl h))).putObj (.inl (.inr rfl)) _⟩
        cases e3 with
        | normal =>
          obtain ⟨o3, hi3⟩ := h3
          obtain ⟨hr, hl4, hd4, ho4⟩ := fin none o3
          exact ⟨_, _, hr, .inl ⟨rfl, ⟨hIt _ _ _ hi3 (Turned.putObj _ _ _), hl4, hd4⟩, ho4⟩⟩
        | ret =>
          obtain ⟨o3, hi3⟩ := h3
          obtain ⟨hr, hl4, hd4, ho4⟩ := fin (some .ret) o3
          exact ⟨_, _, hr, .inr ⟨rfl, ⟨hIxt _ _ _ hi3 (Turned.putObj _ _ _), hl4, hd4⟩, ho4⟩⟩
        | exit id => exact h3.elim
        | goto t => exact h3.elim
        | panic ch => exact h3.elim
        | outgrown => exact h3.elim
      | ret => exact he.elim
      | exit id => exact he.elim
      | goto t => exact he.elim
      | panic ch => exact he.elim
      | outgrown => exact he.elim
    · rintro e Y ⟨⟨v, rfl⟩, (⟨hi, hl, hd⟩ | ⟨pre, hi, hl, hd⟩)⟩
      · refine ⟨none, Y.putObj (w.heap.size + 1) (.loop { rec .ready none with state := .exhausted }), ?_, hdone _ (hIt _ _ _ hi (Turned.putObj _ _ _)) ?_ ((World.putObj_heap_other (k := w.heap.size) (r := w.heap.size + 1) (by omega)).trans hd)⟩
        · have h := run_endLoop (P := P) hl (by rw [hrec]; simp)
          rw [hrec] at h ⊢; exact h
        · have := (Array.getElem?_eq_some_iff.1 hd).1; simpa using this
      · refine ⟨some .ret, Y.putObj (w.heap.size + 1) (.loop { rec .done (some .ret) with state := .exhausted }), ?_, hstop pre _ (hIxt _ _ _ hi (Turned.putObj _ _ _)) ?_ ((World.putObj_heap_other (k := w.heap.size) (r := w.heap.size + 1) (by omega)).trans hd)⟩
        · have h := run_endLoop (P := P) hl (by rw [hrec]; simp)
          rw [hrec] at h ⊢; exact h
        · have := (Array.getElem?_eq_some_iff.1 hd).1; simpa using this
end Go.Proofs.Ytdoojpilogcnjaa.Zn
namespace Go.Proofs.Ytdoojpilogcnjaa.Pw
open Go Go.RowKit Go.Shelf Go.Proofs.Ytdoojpilogcnjaa.Sp Go.Proofs.Ytdoojpilogcnjaa.Zn
attribute [local go_sem] Oper.semAt_some
/-- A list's box. -/
abbrev lb (a : Option Addr) (n c : Nat) : Obj := .cells #[.slice a n c] 22
theorem pstretches_any (a : Option Addr) (n c : Nat) (w : World) : Calls Try.prog 38 #[.slice a n c] w fun r w' => r = .returned (.func (.func 53) #[] #[.pointer (some ⟨w.heap.size, 0, none⟩)]) ∧ w' = w.alloc (lb a n c) := by
  go_enter Try.func38, Try.ntmps38
  go_wp2
  go_ret
  exact ⟨rfl, rfl⟩
/-- A stretch, handed to a loop's body. -/
abbrev encStr (p : Int × Int) : Array Value := #[sv p.1 (p.2 + 1)]
theorem strs_split {S : List Int} {i : Nat} {s : Int} (h : S[i]? = some s) : strs S = (strs S).take i ++ (s, lastOf S i) :: (strs S).drop (i + 1) ∧ (strs S).take i ++ [(s, lastOf S i)] = (strs S).take (i + 1) := by
  have e := strs_get S i s h
  obtain ⟨hi, he⟩ := List.getElem?_eq_some_iff.1 e
  constructor
  · conv => lhs; rw [← List.take_append_drop i (strs S), List.drop_eq_getElem_cons hi, he]
  · rw [List.take_add_one, e]; rfl
set_option maxHeartbeats 4000000 in
set_option maxRecDepth 100000 in
theorem pstr_seq (a : Option Addr) (c : Nat) (l : List Pc) (h0 : 0 < l.length) (h1 : l.length ≤ 1000) (St : List Int) (hS : Up St) (hmem : ∀ x, x ∈ St ↔ ∃ p ∈ l, p.1 = x) (w0 : World) (z : PcsAt a l w0) (W : World) (hb : Below w0.heap.size w0 W)
    (gx : Nat) (hc : W.cell? ⟨gx, 0, none⟩ = some (.slice a l.length c)) (mine : Nat → Prop) (hm : ∀ i, mine i → i ≠ W.heap.size) (lp : Nat) :
    SeqAt2 Try.prog 53 #[.pointer (some ⟨gx, 0, none⟩)] encStr mine (strs St) lp W := by
  intro J Jx hJ hJx hY hJ0
  have HY := Lib.hid hY
  have HJ := Lib.hid hJ
  have HJX := Lib.hid hJx
  have HM := Lib.hid hm
  have HSK := Lib.hid (fun m => (callsIn_wide (n := m)).2 (psorted_any a c l W h0 h1 (z.below hb)))
  have HU := Lib.hid (And.intro hS hmem)
  clear hY hJ hJx hm z hS hmem
  obtain ⟨n, hn⟩ : ∃ n, n = l.length := ⟨_, rfl⟩
  have HL := Lib.hid h1
  rw [← hn] at HSK hc
  clear hn h0 h1 hb
  have hf1 : Fence.wide.fn 54 := trivial
  have hdep : Fence.wide.depth = none := rfl
  refine (callsIn_wide (n := 3)).1 ?_
  refine callsIn_of_wp Try.func53 rfl trivial ?_ rfl
  simp only [Try.ntmps53, List.size_toArray, List.length_cons, List.length_nil, Nat.reduceAdd, Nat.reduceSub, Array.replicate_succ, Array.replicate_zero, List.push_toArray, List.append_toArray, List.nil_append, List.cons_append]
  gi_wp2_with (gi_at_call 54; ((with_reducible refine (HSK.out _).mono ?_); rintro e w1 ⟨g, cc, S, rfl, hi, hs, hb1, hg, hSn⟩); have HI := Lib.hid hi; have HB1 := Lib.hid hb1; have HG := Lib.hid hg; have HSN := Lib.hid hSn; obtain rfl : S = St := up_ext hs.1 HU.out.1 (fun x => (hs.2 x).trans (HU.out.2 x).symm); clear hi hb1 hs hg hSn; obtain ⟨N, hN⟩ : ∃ N, N = S.length := ⟨_, rfl⟩; have HN := Lib.hid hN; rw [← hN]; clear hN)
  have hJ1 := HJ.out _ _ _ hJ0 HB1.out
  clear hJ0 hc HSK
  gi_loopg [11] N (fun k s11 wx => ∃ i : Nat, i + k = N ∧ s11 = .int .i64 i ∧ Hid (J ((strs S).take i) wx) ∧ Hid (Oth mine w1 wx))
  case atStart => exact ⟨0, by omega, rfl, (show J ((strs S).take 0) w1 by rw [List.take_zero]; exact hJ1), Oth.refl _ _⟩
  case round =>
    clear hJ1
    obtain ⟨i, hi, rfl, HP, HO⟩ := hrel
    cases gk with
    | zero =>
      have hlt : ¬ (i : Int) < (N : Int) := by omega
      have HE := Lib.hid (show J (strs S) wr by
        have h := HP.out
        rwa [List.take_of_length_le (by rw [strs_len]; have := HN.out; omega)] at h)
      gi_wp2
      go_end0
      exact ⟨⟨_, rfl⟩, .inl HE.out⟩
    | succ k =>
      have hlt : (i : Int) < (N : Int) := by omega
      have hi0 : (0 : Int) ≤ (i : Int) := by omega
      have hw1 : IntKind.i64.wrap ((i : Int) + 1) = (i : Int) + 1 := IntWalk.i64_in _ (by have := HN.out; have := HSN.out; have := HL.out; omega)
      obtain ⟨s, hs⟩ : ∃ s, S[i]? = some s := ⟨_, List.getElem?_eq_getElem (by have := HN.out; omega)⟩
      have hnm : ¬ mine g := fun h => HM.out _ h HG.out
      obtain ⟨b2, o2, e, hc2⟩ := HI.out i s hs
      cases e
      have k0 := HO.out.cell hc2 hnm
      rw [Nat.zero_add] at k0
      obtain ⟨hsp, htk⟩ := strs_split hs
      have HSP := Lib.hid (And.intro hsp htk)
      clear hsp htk hc2
      cases ht : S[i + 1]? with
      | none =>
        have hlt2 : ¬ (i : Int) + 1 < (N : Int) := by
          have := List.getElem?_eq_none_iff.1 ht
          have := HN.out
          omega
        have hE : lastOf S i + 1 = 1000000000001 := by rw [lastOf_none ht]; rfl
        obtain ⟨fn, tmps, assign, body, hy, hR⟩ := HY.out _ _ _ wr HSP.out.1 HP.out
        have hy' : (Instr.yield lp #[sv s 1000000000001]).run Try.prog wr = .ok (.round lp fn tmps assign body) wr := by rw [← hE]; exact hy
        have HR := Lib.hid hR
        clear hy hR hs ht hE
        gi_wp2
        refine (round_wide HR.out).mono ?_
        rintro e W3 (⟨rfl, hJ3, hO3⟩ | ⟨rfl, hJ3, hO3⟩)
        · have HE := Lib.hid (show J ((strs S).take (i + 1)) W3 by rw [← HSP.out.2]; exact hJ3)
          have HO4 := Lib.hid (HO.out.trans hO3)
          clear hJ3 hO3 hy' k0
          gi_wp2
          gi_roundg k
          case measure => omega
          case rel => exact ⟨i + 1, by omega, by go_num, HE, HO4⟩
        · have HE := Lib.hid hJ3
          clear hJ3 hO3 hy' k0
          gi_wp2
          refine bodyPost_ret (results_none rfl _ _ _) rfl ?_
          exact ⟨⟨_, rfl⟩, .inr ⟨_, HE.out⟩⟩
      | some t =>
        have hlt2 : (i : Int) + 1 < (N : Int) := by
          have := (List.getElem?_eq_some_iff.1 ht).1
          have := HN.out
          omega
        have hi1 : (0 : Int) ≤ (i : Int) + 1 := by omega
        have hE : lastOf S i + 1 = t := by rw [lastOf_some ht]; omega
        obtain ⟨b3, o3, e, hc3⟩ := HI.out (i + 1) t ht
        cases e
        have k1 := HO.out.cell hc3 hnm
        rw [Nat.zero_add] at k1
        obtain ⟨fn, tmps, assign, body, hy, hR⟩ := HY.out _ _ _ wr HSP.out.1 HP.out
        have hy' : (Instr.yield lp #[sv s t]).run Try.prog wr = .ok (.round lp fn tmps assign body) wr := by rw [← hE]; exact hy
        have HR := Lib.hid hR
        clear hy hR hs ht hE hc3
        gi_wp2
        refine (round_wide HR.out).mono ?_
        rintro e W3 (⟨rfl, hJ3, hO3⟩ | ⟨rfl, hJ3, hO3⟩)
        · have HE := Lib.hid (show J ((strs S).take (i + 1)) W3 by rw [← HSP.out.2]; exact hJ3)
          have HO4 := Lib.hid (HO.out.trans hO3)
          clear hJ3 hO3 hy' k0 k1
          gi_wp2
          gi_roundg k
          case measure => omega
          case rel => exact ⟨i + 1, by omega, by go_num, HE, HO4⟩
        · have HE := Lib.hid hJ3
          clear hJ3 hO3 hy' k0 k1
          gi_wp2
          refine bodyPost_ret (results_none rfl _ _ _) rfl ?_
          exact ⟨⟨_, rfl⟩, .inr ⟨_, HE.out⟩⟩
end Go.Proofs.Ytdoojpilogcnjaa.Pw
