/- What Lex returns for a text, as plain mathematics: chains of tokens, where they end, how they are cut, joined, and set apart by other gaps. No condition. -/
import Derived.Test.YtlpombnmeioafaaDoorLexMath
set_option linter.unusedVariables false
set_option linter.unusedSimpArgs false
namespace Go.Proofs.YtlpombnmeioafaaDoor.Lx
/-- kind, offset, size -/
abbrev Tok := Nat × Nat × Nat
/-- The next offset behind a gap. -/
def nx (L : List Int) (e : Nat) : Nat := e + gapN false (L.drop e)
def tk (L : List Int) : Nat → Nat → List Tok
  | 0, _ => []
  | f + 1, at_ => if L.length ≤ at_ then [] else ((meas (L.drop at_)).1, at_, (meas (L.drop at_)).2) :: (if (meas (L.drop at_)).1 = 0 then [] else tk L f (nx L (at_ + (meas (L.drop at_)).2)))
/-- The tokens from an offset behind a gap on; the last one has the kind 0 where no token begins. -/
def from_ (L : List Int) (at_ : Nat) : List Tok := tk L (L.length + 1 - at_) at_
def all (L : List Int) : List Tok := from_ L (nx L 0)
def cutA : List Tok → List Tok → List Tok × Nat × Nat
  | acc, [] => (acc, 0, 0)
  | acc, t :: ts => if acc.length = 2000 then ([], 2, t.2.1) else if t.1 = 0 then ([], 61, t.2.1) else cutA (acc ++ [t]) ts
/-- What Lex returns. -/
def lexL (L : List Int) : List Tok × Nat × Nat := if 6000 < L.length then ([], 2, 0) else cutA [] (all L)
theorem nx_le (L : List Int) (e : Nat) : e ≤ nx L e := Nat.le_add_right _ _
theorem nx_len (L : List Int) (e : Nat) (h : e ≤ L.length) : nx L e ≤ L.length := by
  unfold nx; have := gapN_le false (L.drop e); rw [List.length_drop] at this; omega
theorem meas_n {l : List Int} (h : (meas l).1 ≠ 0) : 0 < (meas l).2 ∧ (meas l).2 ≤ l.length := by
  have := meas_facts (l := l) (k := (meas l).1) (n := (meas l).2) rfl h; omega
theorem tk_fuel (L : List Int) (f f' at_ : Nat) (h : L.length < f + at_) (h' : L.length < f' + at_) : tk L f at_ = tk L f' at_ := by
  induction f generalizing f' at_ with
  | zero =>
    cases f' with
    | zero => rfl
    | succ f' => unfold tk; rw [if_pos (by omega)]
  | succ f ih =>
    cases f' with
    | zero => unfold tk; rw [if_pos (by omega)]
    | succ f' =>
      unfold tk
      by_cases h1 : L.length ≤ at_
      · rw [if_pos h1, if_pos h1]
      · rw [if_neg h1, if_neg h1]
        by_cases h2 : (meas (L.drop at_)).1 = 0
        · rw [if_pos h2, if_pos h2]
        · rw [if_neg h2, if_neg h2]
          have := meas_n h2
          have := nx_le L (at_ + (meas (L.drop at_)).2)
          rw [ih f' _ (by omega) (by omega)]
theorem from_nil {L : List Int} {a : Nat} (h : L.length ≤ a) : from_ L a = [] := by
  unfold from_
  rcases Nat.eq_zero_or_pos (L.length + 1 - a) with e | e
  · rw [e]; rfl
  · obtain ⟨f, hf⟩ : ∃ f, L.length + 1 - a = f + 1 := ⟨_, (Nat.succ_pred_eq_of_pos e).symm⟩
    rw [hf]; unfold tk; rw [if_pos h]
theorem from_cons {L : List Int} {a : Nat} (h : a < L.length) : from_ L a = ((meas (L.drop a)).1, a, (meas (L.drop a)).2) :: (if (meas (L.drop a)).1 = 0 then [] else from_ L (nx L (a + (meas (L.drop a)).2))) := by
  have e : L.length + 1 - a = (L.length - a) + 1 := by omega
  have h1 : from_ L a = tk L ((L.length - a) + 1) a := by unfold from_; rw [e]
  rw [h1]
  unfold tk
  rw [if_neg (by omega)]
  by_cases h2 : (meas (L.drop a)).1 = 0
  · rw [if_pos h2, if_pos h2]
  · rw [if_neg h2, if_neg h2]
    have := meas_n h2
    have := nx_le L (a + (meas (L.drop a)).2)
    unfold from_
    rw [tk_fuel L _ (L.length + 1 - nx L (a + (meas (L.drop a)).2)) _ (by omega) (by omega)]
/-- A chain of tokens, each behind the gap that follows the one before. -/
def Chn (L : List Int) : Nat → List Tok → Nat → Prop
  | e, [], e' => e' = e
  | e, t :: ts, e' => t.2.1 = nx L e ∧ t.2.1 < L.length ∧ meas (L.drop t.2.1) = (t.1, t.2.2) ∧ t.1 ≠ 0 ∧ Chn L (t.2.1 + t.2.2) ts e'
theorem Chn.le {L : List Int} {e e' : Nat} {ts : List Tok} (h : Chn L e ts e') : e ≤ e' := by
  induction ts generalizing e with
  | nil => exact Nat.le_of_eq (show e' = e from h).symm
  | cons t ts ih => obtain ⟨h1, _, _, _, h5⟩ := h; have := ih h5; have := nx_le L e; omega
theorem Chn.len {L : List Int} {e e' : Nat} {ts : List Tok} (h : Chn L e ts e') (he : e ≤ L.length) : e' ≤ L.length := by
  induction ts generalizing e with
  | nil => exact (show e' = e from h) ▸ he
  | cons t ts ih =>
    obtain ⟨h1, h2, h3, h4, h5⟩ := h
    have := meas_facts h3 h4
    rw [List.length_drop] at this
    exact ih h5 (by omega)
theorem Chn.app {L : List Int} {e e1 e2 : Nat} {l m : List Tok} (h : Chn L e l e1) (k : Chn L e1 m e2) : Chn L e (l ++ m) e2 := by
  induction l generalizing e with
  | nil => have : e1 = e := h; subst this; exact k
  | cons t l ih => obtain ⟨h1, h2, h3, h4, h5⟩ := h; exact ⟨h1, h2, h3, h4, ih h5⟩
theorem Chn.snoc {L : List Int} {e e1 : Nat} {l : List Tok} {t : Tok} (h : Chn L e l e1) (h1 : t.2.1 = nx L e1) (h2 : t.2.1 < L.length) (h3 : meas (L.drop t.2.1) = (t.1, t.2.2)) (h4 : t.1 ≠ 0) : Chn L e (l ++ [t]) (t.2.1 + t.2.2) :=
  h.app ⟨h1, h2, h3, h4, rfl⟩
/-- A source without errors, and its tokens. -/
def Ok (L : List Int) (ts : List Tok) : Prop := L.length ≤ 6000 ∧ ts.length ≤ 2000 ∧ ∃ e', Chn L 0 ts e' ∧ nx L e' = L.length
theorem cut_ok {L : List Int} {e e' : Nat} {acc ts : List Tok} (h : Chn L e ts e') (h1 : nx L e' = L.length) (h2 : acc.length + ts.length ≤ 2000) : cutA acc (from_ L (nx L e)) = (acc ++ ts, 0, 0) := by
  induction ts generalizing e acc with
  | nil =>
    have : e' = e := h
    subst this
    rw [from_nil (by omega)]; simp [cutA]
  | cons t ts ih =>
    obtain ⟨k1, k2, k3, k4, k5⟩ := h
    rw [← k1, from_cons k2, k3, if_neg k4]
    simp only [List.length_cons] at h2
    unfold cutA
    rw [if_neg (by omega), if_neg k4, ih k5 (by simp; omega)]
    simp
theorem ok_lex {L : List Int} {ts : List Tok} (h : Ok L ts) : lexL L = (ts, 0, 0) := by
  obtain ⟨h1, h2, e', h3, h4⟩ := h
  unfold lexL
  rw [if_neg (by omega)]
  have := cut_ok (acc := []) h3 h4 (by simpa using h2)
  simpa [all] using this
/-- What the cutting comes to. -/
theorem cut_any (L : List Int) (n : Nat) : ∀ e acc, L.length < n + e → e ≤ L.length → Chn L 0 acc e → acc.length ≤ 2000 →
    (∃ ts e', cutA acc (from_ L (nx L e)) = (ts, 0, 0) ∧ Chn L 0 ts e' ∧ nx L e' = L.length ∧ ts.length ≤ 2000) ∨
    (∃ ts e' er at_, cutA acc (from_ L (nx L e)) = ([], er, at_) ∧ at_ < L.length ∧ Chn L 0 ts e' ∧ nx L e' = at_ ∧ ts.length ≤ 2000 ∧ (er = 61 ∨ er = 2 ∧ ts.length = 2000)) := by
  induction n with
  | zero => intro e acc h1 h2; omega
  | succ n ih =>
    intro e acc h1 h2 h3 h4
    have hle := nx_len L e h2
    rcases Nat.lt_or_ge (nx L e) L.length with hlt | hge
    · rw [from_cons hlt]
      by_cases ha : acc.length = 2000
      · exact .inr ⟨acc, e, 2, nx L e, by unfold cutA; rw [if_pos ha], hlt, h3, rfl, h4, .inr ⟨rfl, ha⟩⟩
      · by_cases hk : (meas (L.drop (nx L e))).1 = 0
        · exact .inr ⟨acc, e, 61, nx L e, by unfold cutA; rw [if_neg ha, if_pos hk], hlt, h3, rfl, h4, .inl rfl⟩
        · have hn := meas_n hk
          rw [List.length_drop] at hn
          have := nx_le L e
          have hs : Chn L 0 (acc ++ [((meas (L.drop (nx L e))).1, nx L e, (meas (L.drop (nx L e))).2)]) (nx L e + (meas (L.drop (nx L e))).2) := h3.snoc (t := ((meas (L.drop (nx L e))).1, nx L e, (meas (L.drop (nx L e))).2)) rfl hlt rfl hk
          have e1 : cutA acc (((meas (L.drop (nx L e))).1, nx L e, (meas (L.drop (nx L e))).2) :: (if (meas (L.drop (nx L e))).1 = 0 then [] else from_ L (nx L (nx L e + (meas (L.drop (nx L e))).2)))) = cutA (acc ++ [((meas (L.drop (nx L e))).1, nx L e, (meas (L.drop (nx L e))).2)]) (from_ L (nx L (nx L e + (meas (L.drop (nx L e))).2))) := by
            rw [cutA, if_neg ha, if_neg hk, if_neg hk]
          rw [e1]
          exact ih _ _ (by omega) (by omega) hs (by simp; omega)
    · rw [from_nil hge]
      exact .inl ⟨acc, e, rfl, h3, by omega, h4⟩
theorem lex_cases (L : List Int) : (∃ ts, lexL L = (ts, 0, 0) ∧ Ok L ts) ∨ (6000 < L.length ∧ lexL L = ([], 2, 0)) ∨
    (∃ ts e' er at_, L.length ≤ 6000 ∧ lexL L = ([], er, at_) ∧ at_ < L.length ∧ Chn L 0 ts e' ∧ nx L e' = at_ ∧ ts.length ≤ 2000 ∧ (er = 61 ∨ er = 2 ∧ ts.length = 2000)) := by
  unfold lexL
  by_cases h : 6000 < L.length
  · exact .inr (.inl ⟨h, by rw [if_pos h]⟩)
  · rw [if_neg h]
    rcases cut_any L (L.length + 1) 0 [] (by omega) (by omega) rfl (by simp) with ⟨ts, e', h1, h2, h3, h4⟩ | ⟨ts, e', er, at_, h1, h2, h3, h4, h5, h6⟩
    · exact .inl ⟨ts, h1, by omega, h4, e', h2, h3⟩
    · exact .inr (.inr ⟨ts, e', er, at_, by omega, h1, h2, h3, h4, h5, h6⟩)
/-! ### Cutting behind a chain -/
theorem nx_take {L : List Int} {e m : Nat} (h : nx L e ≤ m) : nx (L.take m) e = nx L e := by
  unfold nx at h ⊢
  rw [List.drop_take, gapN_take _ _ _ (by omega)]
theorem Chn.take {L : List Int} {e e' m : Nat} {ts : List Tok} (h : Chn L e ts e') (hm : e' ≤ m) : Chn (L.take m) e ts e' := by
  induction ts generalizing e with
  | nil => exact h
  | cons t ts ih =>
    obtain ⟨h1, h2, h3, h4, h5⟩ := h
    have hle := h5.le
    have hf := meas_facts h3 h4
    refine ⟨?_, ?_, ?_, h4, ih h5⟩
    · rw [nx_take (by omega)]; exact h1
    · rw [List.length_take]; omega
    · rw [List.drop_take]; exact meas_take h3 h4 (by omega)
theorem Chn.part {L : List Int} {e e' : Nat} {ts : List Tok} (h : Chn L e ts e') {k : Nat} {t : Tok} (hk : ts[k]? = some t) : Chn L e (ts.take (k + 1)) (t.2.1 + t.2.2) := by
  induction ts generalizing e k with
  | nil => simp at hk
  | cons u ts ih =>
    obtain ⟨h1, h2, h3, h4, h5⟩ := h
    cases k with
    | zero =>
      obtain rfl : u = t := by simpa using hk
      exact ⟨h1, h2, h3, h4, rfl⟩
    | succ k => exact ⟨h1, h2, h3, h4, ih h5 (by simpa using hk)⟩
theorem ok_prefix {L : List Int} {ts : List Tok} (h : Ok L ts) {k : Nat} {t : Tok} (hk : ts[k]? = some t) : Ok (L.take (t.2.1 + t.2.2)) (ts.take (k + 1)) := by
  obtain ⟨h1, h2, e', h3, h4⟩ := h
  have hp := h3.part hk
  have hl := hp.len (Nat.zero_le _)
  refine ⟨by rw [List.length_take]; omega, by rw [List.length_take]; omega, t.2.1 + t.2.2, hp.take (Nat.le_refl _), ?_⟩
  unfold nx
  rw [List.drop_of_length_le (by rw [List.length_take]; omega), List.length_take]
  simp only [gapN]; omega
theorem ok_before {L : List Int} {ts : List Tok} {e' : Nat} (hL : L.length ≤ 6000) (h : Chn L 0 ts e') (hn : ts.length ≤ 2000) (hat : nx L e' ≤ L.length) : Ok (L.take (nx L e')) ts := by
  refine ⟨by rw [List.length_take]; omega, hn, e', h.take (nx_le _ _), ?_⟩
  rw [nx_take (Nat.le_refl _), List.length_take]; omega
/-! ### Tokens of a chain -/
theorem Chn.get {L : List Int} {e e' : Nat} {ts : List Tok} (h : Chn L e ts e') {k : Nat} {t : Tok} (hk : ts[k]? = some t) : ∃ e1, Chn L e (ts.take k) e1 ∧ t.2.1 = nx L e1 ∧ t.2.1 < L.length ∧ meas (L.drop t.2.1) = (t.1, t.2.2) ∧ t.1 ≠ 0 ∧ t.2.1 + t.2.2 ≤ e' := by
  induction ts generalizing e k with
  | nil => simp at hk
  | cons u ts ih =>
    obtain ⟨h1, h2, h3, h4, h5⟩ := h
    cases k with
    | zero =>
      obtain rfl : u = t := by simpa using hk
      exact ⟨e, rfl, h1, h2, h3, h4, h5.le⟩
    | succ k =>
      obtain ⟨e1, q1, q2⟩ := ih h5 (by simpa using hk)
      exact ⟨e1, ⟨h1, h2, h3, h4, q1⟩, q2⟩
theorem gap_part {L : List Int} {e : Nat} (he : e ≤ L.length) : gapN false ((L.drop e).take (nx L e - e)) = ((L.drop e).take (nx L e - e)).length := by
  have h := gapN_le false (L.drop e)
  have e1 : nx L e - e = gapN false (L.drop e) := by unfold nx; omega
  rw [e1, gapN_take _ _ _ (Nat.le_refl _), List.length_take]; omega
/-! ### Going on behind a chain -/
theorem drop_app_le {a r : List Int} {k : Nat} (h : k ≤ a.length) : (a ++ r).drop k = a.drop k ++ r := List.drop_append_of_le_length h
theorem head_white {c : Int} {r : List Int} (h : white c = true) : (c :: r).head? ≠ some 47 := by
  rcases white_cases h with rfl | rfl | rfl | rfl <;> simp
theorem Chn.more {A : List Int} {e e' : Nat} {ts : List Tok} {c : Int} {r : List Int} (h : Chn A e ts e') (he : e ≤ A.length) (hc : white c = true) : Chn (A ++ c :: r) e ts e' := by
  induction ts generalizing e with
  | nil => exact h
  | cons t ts ih =>
    obtain ⟨h1, h2, h3, h4, h5⟩ := h
    have hf := meas_facts h3 h4
    rw [List.length_drop] at hf
    refine ⟨?_, ?_, ?_, h4, ih h5 (by omega)⟩
    · have hn : gapN false (A.drop e) < (A.drop e).length := by rw [List.length_drop]; unfold nx at h1; omega
      unfold nx at h1 ⊢
      rw [drop_app_le he, gapN_in _ _ _ hn (head_white hc)]; exact h1
    · simp; omega
    · rw [drop_app_le (by omega), meas_app _ _ hc (by
        intro e0
        have := congrArg List.length e0
        rw [List.length_drop] at this; simp at this; omega)]
      exact h3
/-- One more token behind another gap. -/
theorem Chn.next {A g w : List Int} {ts : List Tok} {k : Nat} (h : Chn A 0 ts A.length) {c : Int} {g' : List Int} (hg : g = c :: g') (hc : white c = true) (hgw : gapN false (g ++ w) = g.length) (hw : meas w = (k, w.length)) (hk : k ≠ 0) :
    Chn (A ++ (g ++ w)) 0 (ts ++ [(k, A.length + g.length, w.length)]) (A ++ (g ++ w)).length := by
  have hf := meas_facts hw hk
  have h1 : Chn (A ++ (g ++ w)) 0 ts A.length := by subst hg; exact h.more (Nat.zero_le _) hc
  have h2 := h1.snoc (t := (k, A.length + g.length, w.length))
    (by unfold nx; rw [drop_app_le (Nat.le_refl _), List.drop_length, List.nil_append, hgw])
    (by simp; omega)
    (by
      show meas ((A ++ (g ++ w)).drop (A.length + g.length)) = (k, w.length)
      rw [← List.append_assoc, List.drop_append, List.drop_of_length_le (by simp)]; simp [hw])
    hk
  have e1 : (A ++ (g ++ w)).length = A.length + g.length + w.length := by simp; omega
  rw [e1]; exact h2
theorem gap_tok {L : List Int} {e : Nat} (m : Nat) : gapN false ((L.drop (nx L e)).take m) = 0 := by
  have h := gapN_end false (L.drop e)
  rw [List.drop_drop] at h
  have h' : gapN false (L.drop (nx L e)) = 0 := h
  rw [gapN_take _ _ _ (by omega)]; exact h'
theorem ok_end {A : List Int} {ts : List Tok} (h : Chn A 0 ts A.length) (h1 : A.length ≤ 6000) (h2 : ts.length ≤ 2000) : Ok A ts :=
  ⟨h1, h2, A.length, h, by unfold nx; rw [List.drop_length]; simp [gapN]⟩
/-! ### Two texts joined -/
def shift (by_ : Nat) (ts : List Tok) : List Tok := ts.map fun t => (t.1, t.2.1 + by_, t.2.2)
theorem nx_shift (P B : List Int) (e : Nat) : nx (P ++ B) (P.length + e) = P.length + nx B e := by
  unfold nx; rw [List.drop_append, List.drop_of_length_le (by omega)]; simp [Nat.add_assoc]
theorem Chn.shift {P B : List Int} {e e' : Nat} {ts : List Tok} (h : Chn B e ts e') : Chn (P ++ B) (P.length + e) (shift P.length ts) (P.length + e') := by
  induction ts generalizing e with
  | nil => have : e' = e := h; subst this; rfl
  | cons t ts ih =>
    obtain ⟨h1, h2, h3, h4, h5⟩ := h
    refine ⟨?_, ?_, ?_, h4, ?_⟩
    · rw [nx_shift]; show t.2.1 + P.length = _; omega
    · show t.2.1 + P.length < _; simp; omega
    · show meas ((P ++ B).drop (t.2.1 + P.length)) = _
      rw [Nat.add_comm, List.drop_append, List.drop_of_length_le (by omega)]; simpa using h3
    · have := ih h5
      have e1 : t.2.1 + P.length + t.2.2 = P.length + (t.2.1 + t.2.2) := by omega
      show Chn (P ++ B) (t.2.1 + P.length + t.2.2) _ _
      rw [e1]; exact this
theorem Chn.start {L : List Int} {e f e' : Nat} {t : Tok} {ts : List Tok} (h : Chn L e (t :: ts) e') (hn : nx L f = nx L e) : Chn L f (t :: ts) e' := ⟨h.1.trans hn.symm, h.2⟩
theorem ok_concat {A B : List Int} {l m : List Tok} (h : Ok A l) (k : Ok B m) (h1 : A.length + B.length + 1 ≤ 6000) (h2 : l.length + m.length ≤ 2000) : Ok (A ++ 10 :: B) (l ++ shift (A.length + 1) m) := by
  obtain ⟨-, -, e1, a1, a2⟩ := h
  obtain ⟨-, -, e2, b1, b2⟩ := k
  have hl := a1.len (Nat.zero_le _)
  have c1 : Chn (A ++ 10 :: B) 0 l e1 := a1.more (Nat.zero_le _) rfl
  have hP : A ++ 10 :: B = (A ++ [10]) ++ B := by simp
  have hPl : (A ++ [(10 : Int)]).length = A.length + 1 := by simp
  have c2 : Chn (A ++ 10 :: B) (A.length + 1) (shift (A.length + 1) m) (A.length + 1 + e2) := by
    have := b1.shift (P := A ++ [10])
    rw [hPl] at this; rw [hP]; exact this
  have hg : nx (A ++ 10 :: B) e1 = A.length + 1 + nx B 0 := by
    unfold nx
    rw [drop_app_le hl, gapN_over _ _ _ (by unfold nx at a2; rw [List.length_drop]; omega), List.length_drop, List.drop_zero]
    omega
  have hg2 : nx (A ++ 10 :: B) (A.length + 1) = A.length + 1 + nx B 0 := by
    have := nx_shift (A ++ [10]) B 0
    rw [hPl] at this; rw [hP]; exact this
  have hend : ∀ e, nx (A ++ 10 :: B) (A.length + 1 + e) = A.length + 1 + nx B e := fun e => by
    have := nx_shift (A ++ [10]) B e
    rw [hPl] at this; rw [hP]; exact this
  refine ⟨by simp; omega, by simp [Lx.shift]; omega, ?_⟩
  cases m with
  | nil =>
    have : e2 = 0 := b1
    subst this
    refine ⟨e1, by simpa [Lx.shift] using c1, ?_⟩
    rw [hg, b2]; simp; omega
  | cons t m =>
    refine ⟨_, c1.app (Chn.start c2 (by rw [hg, hg2])), ?_⟩
    rw [hend, b2]; simp; omega
/-! ### Words -/
theorem runL_rep (p : Int → Bool) (c : Int) (n : Nat) (h : p c = true) : runL p (List.replicate n c) = n := by
  induction n with
  | zero => rfl
  | succ n ih => rw [List.replicate_succ]; simp [runL, h, ih]
theorem runL_rep0 (p : Int → Bool) (c : Int) (n : Nat) (h : p c = false) : runL p (List.replicate n c) = 0 := by
  cases n with
  | zero => rfl
  | succ n => rw [List.replicate_succ]; simp [runL, h]
theorem gap_none (c : Int) (n : Nat) (h : white c = false) (h' : c ≠ 47) : gapN false (List.replicate n c) = 0 := by
  cases n with
  | zero => rfl
  | succ n => rw [List.replicate_succ]; simp [gapN, h, h']
/-- A text that is one token, and one at whose beginning there is none. -/
theorem lex_one {L : List Int} {k : Nat} (h0 : L.length ≤ 6000) (h1 : gapN false L = 0) (h2 : meas L = (k, L.length)) (hk : k ≠ 0) : lexL L = ([(k, 0, L.length)], 0, 0) := by
  have hf := meas_facts h2 hk
  refine ok_lex ⟨h0, by simp, L.length, ⟨?_, hf.2.2.1, by simpa using h2, hk, by simp [Chn]⟩, ?_⟩
  · simp [nx, h1]
  · unfold nx; rw [List.drop_length]; simp [gapN]
theorem lex_bad {L : List Int} {n : Nat} (h0 : L.length ≤ 6000) (hp : 0 < L.length) (h1 : gapN false L = 0) (h2 : meas L = (0, n)) : lexL L = ([], 61, 0) := by
  unfold lexL all
  have e : nx L 0 = 0 := by simp [nx, h1]
  rw [if_neg (by omega), e, from_cons hp, List.drop_zero, h2]
  simp [cutA]
end Go.Proofs.YtlpombnmeioafaaDoor.Lx
