/- Gaps and tokens of a text, as plain mathematics: what a gap, a run, a form and a token are, and where they depend on no more than a part of the text. No condition. -/
set_option linter.unusedVariables false
set_option linter.unusedSimpArgs false
namespace Go.Proofs.YtlpombnmeioafaaDoor.Lx
def white (c : Int) : Bool := c == 32 || c == 9 || c == 10 || c == 13
def dg (c : Int) : Bool := decide (48 ≤ c) && decide (c ≤ 57)
def up (c : Int) : Bool := decide (65 ≤ c) && decide (c ≤ 90)
def lo (c : Int) : Bool := decide (97 ≤ c) && decide (c ≤ 122)
def us (c : Int) : Bool := c == 95
def nm (c : Int) : Bool := dg c || us c || lo c
def wd (c : Int) : Bool := nm c || up c
/-- How many items a list begins with of which p holds. -/
def runL (p : Int → Bool) : List Int → Nat
  | [] => 0
  | c :: l => if p c then runL p l + 1 else 0
/-- A text begins with a form: 100 stands for any digit. -/
def fit : List Int → List Int → Bool
  | [], _ => true
  | _ :: _, [] => false
  | f :: fs, c :: l => (if f = 100 then dg c else c == f) && fit fs l
def pre : List Int → List Int → Bool
  | [], _ => true
  | _ :: _, [] => false
  | a :: p, c :: l => c == a && pre p l
def dateF : List Int := [100, 100, 100, 100, 45, 100, 100, 45, 100, 100]
def centsF : List Int := [46, 100, 100]
def symbols : List (List Int) := [[61, 61], [33, 61], [60, 61], [62, 61], [60], [62], [43], [45], [42], [47], [40], [41], [123], [125], [58], [59], [44]]
def mName (l : List Int) : Nat × Nat := if 16 < runL wd l ∨ runL nm l ≠ runL wd l then (0, 0) else (1, runL wd l)
def mCur (l : List Int) : Nat × Nat := if runL wd l ≠ 3 ∨ runL up l ≠ 3 then (0, 0) else (2, 3)
def mForm (l : List Int) : Nat × Nat :=
  if fit dateF l = true then (5, 10)
  else if 1 < runL dg l ∧ l.head? = some 48 then (0, 0)
  else if runL dg l ≤ 10 ∧ fit centsF (l.drop (runL dg l)) = true then (4, runL dg l + 3)
  else if runL dg l ≤ 12 then (3, runL dg l) else (0, 0)
/-- A token of digits can't go on with this. -/
def stuck : List Int → Bool
  | [] => false
  | c :: _ => c == 46 || wd c
def mDig (l : List Int) : Nat × Nat := if stuck (l.drop (mForm l).2) = true then (0, 0) else mForm l
def mSymIn : List (List Int) → List Int → Nat × Nat
  | [], _ => (0, 0)
  | p :: S, l => if pre p l = true then (6, p.length) else mSymIn S l
def mSym (l : List Int) : Nat × Nat := mSymIn symbols l
/-- The kind and the size of the token with which a text begins; (0, 0) if there is none. -/
def meas : List Int → Nat × Nat
  | [] => (0, 0)
  | c :: l => if lo c = true then mName (c :: l) else if up c = true then mCur (c :: l) else if dg c = true then mDig (c :: l) else mSym (c :: l)
/-- The size of the gap with which a text begins; true: in a comment. -/
def gapN : Bool → List Int → Nat
  | _, [] => 0
  | true, c :: l => if c = 10 then gapN false l + 1 else gapN true l + 1
  | false, c :: l => if white c = true then gapN false l + 1 else if c = 47 ∧ l.head? = some 47 then gapN true l + 1 else 0
/-! ### Runs -/
theorem runL_le (p : Int → Bool) (l : List Int) : runL p l ≤ l.length := by
  induction l with
  | nil => exact Nat.le_refl _
  | cons c l ih => unfold runL; split <;> simp <;> omega
theorem runL_take (p : Int → Bool) (l : List Int) (m : Nat) : runL p (l.take m) = min (runL p l) m := by
  induction l generalizing m with
  | nil => simp [runL]
  | cons c l ih =>
    cases m with
    | zero => simp [runL]
    | succ m =>
      rw [List.take_succ_cons]
      unfold runL
      split
      · rw [ih]; omega
      · simp
theorem runL_app (p : Int → Bool) (a : List Int) (c : Int) (r : List Int) (h : p c = false) : runL p (a ++ c :: r) = runL p a := by
  induction a with
  | nil => simp [runL, h]
  | cons d a ih => simp only [List.cons_append, runL, ih]
theorem runL_mk (p : Int → Bool) (l : List Int) (k : Nat) (h : ∀ i, i < k → ∃ c, l[i]? = some c ∧ p c = true) (hk : ∀ c, l[k]? = some c → p c = false) : runL p l = k := by
  induction k generalizing l with
  | zero =>
    cases l with
    | nil => rfl
    | cons c l => have := hk c rfl; simp [runL, this]
  | succ k ih =>
    cases l with
    | nil => obtain ⟨c, hc, _⟩ := h 0 (by omega); simp at hc
    | cons c l =>
      obtain ⟨d, hd, hp⟩ := h 0 (by omega)
      obtain rfl : c = d := by simpa using hd
      simp only [runL, hp, if_true]
      rw [ih l (fun i hi => by have := h (i + 1) (by omega); simpa using this) (fun c hc => hk c (by simpa using hc))]
theorem runL_get (p : Int → Bool) (l : List Int) (i : Nat) (h : i < runL p l) : ∃ c, l[i]? = some c ∧ p c = true := by
  induction l generalizing i with
  | nil => simp [runL] at h
  | cons c l ih =>
    unfold runL at h
    split at h
    · cases i with
      | zero => exact ⟨c, rfl, by assumption⟩
      | succ i => have := ih i (by omega); simpa using this
    · omega
theorem runL_end (p : Int → Bool) (l : List Int) (c : Int) (h : l[runL p l]? = some c) : p c = false := by
  induction l with
  | nil => simp [runL] at h
  | cons d l ih =>
    unfold runL at h
    split at h
    · exact ih (by simpa using h)
    · have : d = c := by simpa using h
      subst this
      cases hp : p d with
      | false => rfl
      | true => contradiction
/-! ### Forms and beginnings -/
theorem fit_len (F l : List Int) (h : fit F l = true) : F.length ≤ l.length := by
  induction F generalizing l with
  | nil => simp
  | cons f F ih =>
    cases l with
    | nil => simp [fit] at h
    | cons c l => simp only [fit, Bool.and_eq_true] at h; have := ih l h.2; simp; omega
theorem fit_take (F l : List Int) (m : Nat) (h : F.length ≤ m) : fit F (l.take m) = fit F l := by
  induction F generalizing l m with
  | nil => simp [fit]
  | cons f F ih =>
    cases m with
    | zero => simp at h
    | succ m =>
      cases l with
      | nil => simp
      | cons c l => rw [List.take_succ_cons]; simp only [fit]; rw [ih l m (by simpa using h)]
theorem fit_take_of (F l : List Int) (m : Nat) (h : fit F (l.take m) = true) : fit F l = true := by
  induction F generalizing l m with
  | nil => simp [fit]
  | cons f F ih =>
    cases m with
    | zero => simp [fit] at h
    | succ m =>
      cases l with
      | nil => simp [fit] at h
      | cons c l =>
        rw [List.take_succ_cons] at h
        simp only [fit, Bool.and_eq_true] at h ⊢
        exact ⟨h.1, ih l m h.2⟩
theorem fit_app (F a : List Int) (c : Int) (r : List Int) (h : ∀ f ∈ F, (if f = 100 then dg c else c == f) = false) : fit F (a ++ c :: r) = fit F a := by
  induction F generalizing a with
  | nil => simp [fit]
  | cons f F ih =>
    cases a with
    | nil => simp only [List.nil_append, fit, h f (List.mem_cons_self ..), Bool.false_and]
    | cons d a => simp only [List.cons_append, fit]; rw [ih a (fun g hg => h g (List.mem_cons_of_mem _ hg))]
theorem pre_len (F l : List Int) (h : pre F l = true) : F.length ≤ l.length := by
  induction F generalizing l with
  | nil => simp
  | cons f F ih =>
    cases l with
    | nil => simp [pre] at h
    | cons c l => simp only [pre, Bool.and_eq_true] at h; have := ih l h.2; simp; omega
theorem pre_take (F l : List Int) (m : Nat) (h : F.length ≤ m) : pre F (l.take m) = pre F l := by
  induction F generalizing l m with
  | nil => simp [pre]
  | cons f F ih =>
    cases m with
    | zero => simp at h
    | succ m =>
      cases l with
      | nil => simp
      | cons c l => rw [List.take_succ_cons]; simp only [pre]; rw [ih l m (by simpa using h)]
theorem pre_take_of (F l : List Int) (m : Nat) (h : pre F (l.take m) = true) : pre F l = true := by
  induction F generalizing l m with
  | nil => simp [pre]
  | cons f F ih =>
    cases m with
    | zero => simp [pre] at h
    | succ m =>
      cases l with
      | nil => simp [pre] at h
      | cons c l =>
        rw [List.take_succ_cons] at h
        simp only [pre, Bool.and_eq_true] at h ⊢
        exact ⟨h.1, ih l m h.2⟩
theorem pre_app (F a : List Int) (c : Int) (r : List Int) (h : ∀ f ∈ F, (c == f) = false) : pre F (a ++ c :: r) = pre F a := by
  induction F generalizing a with
  | nil => simp [pre]
  | cons f F ih =>
    cases a with
    | nil => simp only [List.nil_append, pre, h f (List.mem_cons_self ..), Bool.false_and]
    | cons d a => simp only [List.cons_append, pre]; rw [ih a (fun g hg => h g (List.mem_cons_of_mem _ hg))]
/-! ### White bytes -/
theorem white_cases {c : Int} (h : white c = true) : c = 32 ∨ c = 9 ∨ c = 10 ∨ c = 13 := by
  unfold white at h; simp only [Bool.or_eq_true, beq_iff_eq] at h; omega
theorem white_wd {c : Int} (h : white c = true) : wd c = false := by rcases white_cases h with rfl | rfl | rfl | rfl <;> rfl
theorem white_nm {c : Int} (h : white c = true) : nm c = false := by rcases white_cases h with rfl | rfl | rfl | rfl <;> rfl
theorem white_up {c : Int} (h : white c = true) : up c = false := by rcases white_cases h with rfl | rfl | rfl | rfl <;> rfl
theorem white_lo {c : Int} (h : white c = true) : lo c = false := by rcases white_cases h with rfl | rfl | rfl | rfl <;> rfl
theorem white_dg {c : Int} (h : white c = true) : dg c = false := by rcases white_cases h with rfl | rfl | rfl | rfl <;> rfl
theorem white_date {c : Int} (h : white c = true) : ∀ f ∈ dateF, (if f = 100 then dg c else c == f) = false := by rcases white_cases h with rfl | rfl | rfl | rfl <;> decide
theorem white_cents {c : Int} (h : white c = true) : ∀ f ∈ centsF, (if f = 100 then dg c else c == f) = false := by rcases white_cases h with rfl | rfl | rfl | rfl <;> decide
theorem white_syms {c : Int} (h : white c = true) : ∀ p ∈ symbols, ∀ f ∈ p, (c == f) = false := by rcases white_cases h with rfl | rfl | rfl | rfl <;> decide
theorem stuck_app (a : List Int) {c : Int} (r : List Int) (h : white c = true) : stuck (a ++ c :: r) = stuck a := by
  cases a with
  | nil => rcases white_cases h with rfl | rfl | rfl | rfl <;> rfl
  | cons d a => rfl
/-! ### Tokens, where the text goes on with a white byte -/
theorem mForm_le (l : List Int) : (mForm l).2 ≤ l.length := by
  have h1 := runL_le dg l
  unfold mForm
  split
  · have := fit_len _ _ (by assumption : fit dateF l = true); simpa [dateF] using this
  · split
    · simp
    · split
      · rename_i h; have := fit_len _ _ h.2; simp [centsF] at this; simp; omega
      · split <;> simp <;> omega
theorem mForm_app (a : List Int) {c : Int} (r : List Int) (h : white c = true) (ha : a ≠ []) : mForm (a ++ c :: r) = mForm a := by
  have h1 := runL_app dg a c r (white_dg h)
  have h2 := fit_app dateF a c r (white_date h)
  have h3 : (a ++ c :: r).head? = a.head? := by cases a with | nil => exact absurd rfl ha | cons d a => rfl
  have h4 : fit centsF ((a ++ c :: r).drop (runL dg a)) = fit centsF (a.drop (runL dg a)) := by
    rw [List.drop_append_of_le_length (runL_le _ _)]; exact fit_app _ _ _ _ (white_cents h)
  unfold mForm
  rw [h1, h2, h3, h4]
theorem mSymIn_app (S : List (List Int)) (a : List Int) (c : Int) (r : List Int) (h : ∀ p ∈ S, ∀ f ∈ p, (c == f) = false) : mSymIn S (a ++ c :: r) = mSymIn S a := by
  induction S with
  | nil => rfl
  | cons p S ih => simp only [mSymIn]; rw [pre_app p a c r (h p (List.mem_cons_self ..)), ih (fun q hq => h q (List.mem_cons_of_mem _ hq))]
theorem meas_app (a : List Int) {c : Int} (r : List Int) (h : white c = true) (ha : a ≠ []) : meas (a ++ c :: r) = meas a := by
  cases a with
  | nil => exact absurd rfl ha
  | cons d a =>
    have e1 : mName (d :: a ++ c :: r) = mName (d :: a) := by unfold mName; rw [runL_app wd _ c r (white_wd h), runL_app nm _ c r (white_nm h)]
    have e2 : mCur (d :: a ++ c :: r) = mCur (d :: a) := by unfold mCur; rw [runL_app wd _ c r (white_wd h), runL_app up _ c r (white_up h)]
    have e3 : mDig (d :: a ++ c :: r) = mDig (d :: a) := by
      unfold mDig
      rw [mForm_app _ r h ha, List.drop_append_of_le_length (mForm_le _), stuck_app _ r h]
    have e4 : mSym (d :: a ++ c :: r) = mSym (d :: a) := mSymIn_app _ _ _ _ (white_syms h)
    show (if lo d = true then mName (d :: a ++ c :: r) else if up d = true then mCur (d :: a ++ c :: r) else if dg d = true then mDig (d :: a ++ c :: r) else mSym (d :: a ++ c :: r)) = _
    rw [e1, e2, e3, e4]; rfl
/-! ### Tokens, where the text is cut behind them -/
theorem mName_take {l : List Int} {n m : Nat} {k : Nat} (h : mName l = (k, n)) (hk : k ≠ 0) (hm : n ≤ m) : mName (l.take m) = (k, n) := by
  unfold mName at h
  split at h
  · injection h with h; exact absurd h.symm hk
  · rename_i hh
    injection h with ha hb
    subst ha; subst hb
    unfold mName
    rw [runL_take, runL_take]
    have e1 : min (runL wd l) m = runL wd l := by omega
    have e2 : min (runL nm l) m = runL wd l := by omega
    rw [e1, e2, if_neg (by omega)]
theorem mCur_take {l : List Int} {n m : Nat} {k : Nat} (h : mCur l = (k, n)) (hk : k ≠ 0) (hm : n ≤ m) : mCur (l.take m) = (k, n) := by
  unfold mCur at h
  split at h
  · injection h with h; exact absurd h.symm hk
  · rename_i hh
    injection h with ha hb
    subst ha; subst hb
    unfold mCur
    rw [runL_take, runL_take, if_neg (by omega)]
theorem mForm_take {l : List Int} {n m : Nat} {k : Nat} (h : mForm l = (k, n)) (hk : k ≠ 0) (hm : n ≤ m) (hn : 0 < n) : mForm (l.take m) = (k, n) := by
  unfold mForm at h ⊢
  split at h
  · rename_i hd
    injection h with ha hb
    subst ha; subst hb
    rw [fit_take dateF l m (by simpa [dateF] using hm), if_pos hd]
  · rename_i hd
    have hd' : ¬ fit dateF (l.take m) = true := fun h' => hd (fit_take_of _ _ _ h')
    rw [if_neg hd', runL_take]
    split at h
    · injection h with h; exact absurd h.symm hk
    · rename_i hz
      have hh : (l.take m).head? = l.head? := by
        cases l with
        | nil => simp
        | cons c l => cases m with
          | zero => omega
          | succ m => rfl
      split at h
      · rename_i hc
        injection h with ha hb
        subst ha; subst hb
        have e1 : min (runL dg l) m = runL dg l := by omega
        rw [e1, hh, if_neg hz, List.drop_take, fit_take centsF _ _ (by simp [centsF]; omega), if_pos hc]
      · rename_i hc
        split at h
        · rename_i hs
          injection h with ha hb
          subst ha; subst hb
          have e1 : min (runL dg l) m = runL dg l := by omega
          rw [e1, hh, if_neg hz, if_neg (fun hx => hc ⟨hx.1, by rw [List.drop_take] at hx; exact fit_take_of _ _ _ hx.2⟩), if_pos hs]
        · injection h with h; exact absurd h.symm hk
theorem stuck_take (l : List Int) (m : Nat) (h : stuck l = false) : stuck (l.take m) = false := by
  cases l with
  | nil => simpa using h
  | cons c l => cases m with
    | zero => rfl
    | succ m => exact h
theorem mSymIn_take (S : List (List Int)) {l : List Int} {n m : Nat} {k : Nat} (h : mSymIn S l = (k, n)) (hk : k ≠ 0) (hm : n ≤ m) : mSymIn S (l.take m) = (k, n) := by
  induction S with
  | nil => simp only [mSymIn] at h; injection h with h; exact absurd h.symm hk
  | cons p S ih =>
    simp only [mSymIn] at h ⊢
    split at h
    · rename_i hp
      injection h with ha hb
      rw [pre_take p l m (by omega), if_pos hp, ha, hb]
    · rename_i hp
      rw [if_neg (fun h' => hp (pre_take_of _ _ _ h')), ih h]
theorem mSymIn_facts (S : List (List Int)) {l : List Int} {k n : Nat} (hS : ∀ p ∈ S, p ≠ []) (h : mSymIn S l = (k, n)) (hk : k ≠ 0) : k = 6 ∧ 0 < n ∧ n ≤ l.length := by
  induction S with
  | nil => simp only [mSymIn] at h; injection h with h; exact absurd h.symm hk
  | cons p S ih =>
    simp only [mSymIn] at h
    split at h
    · rename_i hp
      injection h with ha hb
      have := pre_len _ _ hp
      have h0 : 0 < p.length := List.length_pos_iff.2 (hS p (List.mem_cons_self ..))
      omega
    · exact ih (fun q hq => hS q (List.mem_cons_of_mem _ hq)) h
theorem mForm_kind (l : List Int) {k n : Nat} (h : mForm l = (k, n)) (hk : k ≠ 0) : 3 ≤ k ∧ k ≤ 5 := by
  unfold mForm at h
  split at h
  · injection h with h; omega
  · split at h
    · injection h with h; omega
    · split at h
      · injection h with h; omega
      · split at h
        · injection h with h; omega
        · injection h with h; omega
theorem meas_facts {l : List Int} {k n : Nat} (h : meas l = (k, n)) (hk : k ≠ 0) : 1 ≤ k ∧ k ≤ 6 ∧ 0 < n ∧ n ≤ l.length := by
  cases l with
  | nil => simp only [meas] at h; injection h with h; exact absurd h.symm hk
  | cons c l =>
    simp only [meas] at h
    split at h
    · rename_i hc
      have hr : 0 < runL wd (c :: l) := by simp [runL, wd, nm, hc]
      have := runL_le wd (c :: l)
      unfold mName at h
      split at h <;> injection h with h1 h2 <;> omega
    · split at h
      · have := runL_le wd (c :: l)
        unfold mCur at h
        split at h <;> injection h with h1 h2 <;> omega
      · split at h
        · rename_i hc
          unfold mDig at h
          split at h
          · injection h with h1 h2; omega
          · rename_i hs
            have hf := mForm_le (c :: l)
            have hkd := mForm_kind _ h hk
            rw [h] at hf hs
            refine ⟨by omega, by omega, ?_, hf⟩
            rcases Nat.eq_zero_or_pos n with e | e
            · subst e
              exfalso
              apply hs
              simp [stuck, wd, nm, hc]
            · exact e
        · have := mSymIn_facts symbols (by decide) h hk
          omega
theorem meas_zero {l : List Int} {n : Nat} (h : meas l = (0, n)) : n = 0 := by
  cases l with
  | nil => simp only [meas] at h; injection h with _ h; exact h.symm
  | cons c l =>
    simp only [meas] at h
    split at h
    · unfold mName at h; split at h <;> injection h with h1 h2 <;> omega
    · split at h
      · unfold mCur at h; split at h <;> injection h with h1 h2 <;> omega
      · split at h
        · unfold mDig at h
          split at h
          · injection h with h1 h2; omega
          · unfold mForm at h
            split at h
            · injection h with h1 h2; omega
            · split at h
              · injection h with h1 h2; omega
              · split at h
                · injection h with h1 h2; omega
                · split at h <;> injection h with h1 h2 <;> omega
        · unfold mSym at h
          generalize symbols = S at h
          induction S with
          | nil => simp only [mSymIn] at h; injection h with _ h; exact h.symm
          | cons p S ih =>
            simp only [mSymIn] at h
            split at h
            · injection h with h1 h2; omega
            · exact ih h
theorem meas_take {l : List Int} {k n m : Nat} (h : meas l = (k, n)) (hk : k ≠ 0) (hm : n ≤ m) : meas (l.take m) = (k, n) := by
  have hf := meas_facts h hk
  cases l with
  | nil => simp only [meas] at h; injection h with h; exact absurd h.symm hk
  | cons c l =>
    obtain ⟨m, rfl⟩ : ∃ q, m = q + 1 := ⟨m - 1, by omega⟩
    have e : ∀ q : Nat, meas ((c :: l).take (q + 1)) = if lo c = true then mName ((c :: l).take (q + 1)) else if up c = true then mCur ((c :: l).take (q + 1)) else if dg c = true then mDig ((c :: l).take (q + 1)) else mSym ((c :: l).take (q + 1)) := fun q => by rw [List.take_succ_cons]; rfl
    rw [e]
    simp only [meas] at h
    split at h
    · rename_i hc; rw [if_pos hc]; exact mName_take h hk hm
    · rename_i hc
      rw [if_neg hc]
      split at h
      · rename_i hc; rw [if_pos hc]; exact mCur_take h hk hm
      · rename_i hc
        rw [if_neg hc]
        split at h
        · rename_i hc
          rw [if_pos hc]
          unfold mDig at h ⊢
          split at h
          · injection h with h; exact absurd h.symm hk
          · rename_i hs
            rw [mForm_take h hk hm hf.2.2.1]
            rw [h] at hs
            have hs' : stuck ((c :: l).drop n) = false := by simpa using hs
            rw [List.drop_take, stuck_take _ _ hs', if_neg (by simp)]
        · rename_i hc
          rw [if_neg hc]
          exact mSymIn_take _ h hk hm
/-! ### Gaps -/
theorem gapN_le (b : Bool) (l : List Int) : gapN b l ≤ l.length := by
  induction l generalizing b with
  | nil => cases b <;> simp [gapN]
  | cons c l ih =>
    have h1 := ih true
    have h2 := ih false
    cases b
    · unfold gapN; split
      · simp; omega
      · split <;> simp <;> omega
    · unfold gapN; split <;> simp <;> omega
/-- Where a gap ends, no other begins. -/
theorem gapN_end (b : Bool) (l : List Int) : gapN false (l.drop (gapN b l)) = 0 := by
  induction l generalizing b with
  | nil => cases b <;> simp [gapN]
  | cons c l ih =>
    cases b
    · by_cases h1 : white c = true
      · have e : gapN false (c :: l) = gapN false l + 1 := by simp [gapN, h1]
        rw [e, List.drop_succ_cons]; exact ih false
      · by_cases h2 : c = 47 ∧ l.head? = some 47
        · have e : gapN false (c :: l) = gapN true l + 1 := by simp only [gapN]; rw [if_neg h1, if_pos h2]
          rw [e, List.drop_succ_cons]; exact ih true
        · have e : gapN false (c :: l) = 0 := by simp only [gapN]; rw [if_neg h1, if_neg h2]
          rw [e]; exact e
    · by_cases h1 : c = 10
      · have e : gapN true (c :: l) = gapN false l + 1 := by simp [gapN, h1]
        rw [e, List.drop_succ_cons]; exact ih false
      · have e : gapN true (c :: l) = gapN true l + 1 := by simp [gapN, h1]
        rw [e, List.drop_succ_cons]; exact ih true
theorem gapN_take (b : Bool) (l : List Int) (m : Nat) (h : gapN b l ≤ m) : gapN b (l.take m) = gapN b l := by
  induction l generalizing b m with
  | nil => simp
  | cons c l ih =>
    cases m with
    | zero =>
      have : gapN b (c :: l) = 0 := by omega
      rw [this]; cases b <;> rfl
    | succ m =>
      rw [List.take_succ_cons]
      cases b
      · by_cases h1 : white c = true
        · simp only [gapN, if_pos h1] at h ⊢; rw [ih false m (by omega)]
        · by_cases h2 : c = 47 ∧ l.head? = some 47
          · simp only [gapN, if_neg h1, if_pos h2] at h ⊢
            have hm : 0 < m := by
              rcases l with _ | ⟨d, l⟩
              · simp at h2
              · have : gapN true (d :: l) ≠ 0 := by unfold gapN; split <;> simp
                omega
            have h3 : c = 47 ∧ (l.take m).head? = some 47 := ⟨h2.1, by
              rcases l with _ | ⟨d, l⟩
              · simp at h2
              · obtain ⟨m, rfl⟩ : ∃ q, m = q + 1 := ⟨m - 1, by omega⟩
                exact h2.2⟩
            rw [if_pos h3, ih true m (by omega)]
          · have h3 : ¬ (c = 47 ∧ (l.take m).head? = some 47) := fun h3 => h2 ⟨h3.1, by
              rcases l with _ | ⟨d, l⟩
              · simp at h3
              · cases m with
                | zero => simp at h3
                | succ m => exact h3.2⟩
            simp only [gapN, if_neg h1, if_neg h2, if_neg h3]
      · by_cases h1 : c = 10
        · simp only [gapN, if_pos h1] at h ⊢; rw [ih false m (by omega)]
        · simp only [gapN, if_neg h1] at h ⊢; rw [ih true m (by omega)]
/-- A gap that ends within a text ends there whatever follows, unless a slash follows. -/
theorem gapN_in (b : Bool) (a r : List Int) (h : gapN b a < a.length) (hr : r.head? ≠ some 47) : gapN b (a ++ r) = gapN b a := by
  induction a generalizing b with
  | nil => simp at h
  | cons c a ih =>
    rw [List.cons_append]
    cases b
    · by_cases h1 : white c = true
      · simp only [gapN, if_pos h1, List.length_cons] at h ⊢; rw [ih false (by omega)]
      · by_cases h2 : c = 47 ∧ a.head? = some 47
        · have h3 : c = 47 ∧ (a ++ r).head? = some 47 := ⟨h2.1, by
            rcases a with _ | ⟨d, a⟩
            · simp at h2
            · exact h2.2⟩
          simp only [gapN, if_neg h1, if_pos h2, if_pos h3, List.length_cons] at h ⊢; rw [ih true (by omega)]
        · have h3 : ¬ (c = 47 ∧ (a ++ r).head? = some 47) := fun h3 => by
            rcases a with _ | ⟨d, a⟩
            · exact hr h3.2
            · exact h2 ⟨h3.1, h3.2⟩
          simp only [gapN, if_neg h1, if_neg h2, if_neg h3]
    · by_cases h1 : c = 10
      · simp only [gapN, if_pos h1, List.length_cons] at h ⊢; rw [ih false (by omega)]
      · simp only [gapN, if_neg h1, List.length_cons] at h ⊢; rw [ih true (by omega)]
/-- A text that is a gap, and a line feed behind it. -/
theorem gapN_over (b : Bool) (a r : List Int) (h : gapN b a = a.length) : gapN b (a ++ 10 :: r) = a.length + 1 + gapN false r := by
  induction a generalizing b with
  | nil => cases b <;> simp [gapN, white] <;> omega
  | cons c a ih =>
    rw [List.cons_append]
    cases b
    · by_cases h1 : white c = true
      · simp only [gapN, if_pos h1, List.length_cons] at h ⊢; rw [ih false (by omega)]; omega
      · by_cases h2 : c = 47 ∧ a.head? = some 47
        · have h3 : c = 47 ∧ (a ++ 10 :: r).head? = some 47 := ⟨h2.1, by
            rcases a with _ | ⟨d, a⟩
            · simp at h2
            · exact h2.2⟩
          simp only [gapN, if_neg h1, if_pos h2, if_pos h3, List.length_cons] at h ⊢; rw [ih true (by omega)]; omega
        · simp only [gapN, if_neg h1, if_neg h2, List.length_cons] at h; omega
    · by_cases h1 : c = 10
      · simp only [gapN, if_pos h1, List.length_cons] at h ⊢; rw [ih false (by omega)]; omega
      · simp only [gapN, if_neg h1, List.length_cons] at h ⊢; rw [ih true (by omega)]; omega
/-- A comment goes on to the next line feed. -/
theorem gapN_true (l : List Int) : gapN true l = runL (fun c => c != 10) l + gapN false (l.drop (runL (fun c => c != 10) l)) := by
  induction l with
  | nil => simp [gapN, runL]
  | cons c l ih =>
    by_cases h : c = 10
    · subst h; simp [gapN, runL, white]
    · have e : runL (fun c => c != 10) (c :: l) = runL (fun c => c != 10) l + 1 := by simp [runL, h]
      rw [e, List.drop_succ_cons]
      simp only [gapN, if_neg h]; omega
theorem gapN_comment (l : List Int) (h : pre [47, 47] l = true) : gapN false l = runL (fun c => c != 10) l + gapN false (l.drop (runL (fun c => c != 10) l)) := by
  rcases l with _ | ⟨c, l⟩
  · simp [pre] at h
  rcases l with _ | ⟨d, l⟩
  · simp [pre] at h
  simp only [pre, Bool.and_eq_true, beq_iff_eq] at h
  obtain ⟨rfl, rfl, -⟩ := h
  have e : gapN false (47 :: 47 :: l) = gapN true (47 :: l) + 1 := rfl
  rw [e, gapN_true]
  have e2 : runL (fun c => c != 10) (47 :: 47 :: l) = runL (fun c => c != 10) (47 :: l) + 1 := rfl
  rw [e2, List.drop_succ_cons]; omega
theorem gapN_white {c : Int} {l : List Int} (h : white c = true) : gapN false (c :: l) = gapN false l + 1 := by simp [gapN, h]
theorem gapN_none {l : List Int} (h1 : ∀ c, l.head? = some c → white c = false) (h2 : pre [47, 47] l = false) : gapN false l = 0 := by
  rcases l with _ | ⟨c, l⟩
  · rfl
  have hw := h1 c rfl
  simp only [gapN, hw]
  rw [if_neg (by simp), if_neg]
  rintro ⟨rfl, h⟩
  rcases l with _ | ⟨d, l⟩
  · simp at h
  · obtain rfl : d = 47 := by simpa using h
    simp [pre] at h2
end Go.Proofs.YtlpombnmeioafaaDoor.Lx
