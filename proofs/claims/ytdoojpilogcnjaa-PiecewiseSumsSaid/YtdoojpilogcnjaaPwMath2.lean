/- Plain mathematics of piecewise linear functions, second part: stretches between starts, the first argument at which one line is below another, the lesser function. No condition but those that each names; it speaks of integers and lists alone. -/
import Derived.Test.YtdoojpilogcnjaaPwMath
set_option linter.unusedVariables false
set_option linter.unusedSimpArgs false
namespace Go.Proofs.Ytdoojpilogcnjaa.Pw
/-- The stretches between starts: their first and last arguments. -/
def strs : List Int → List (Int × Int)
  | [] => []
  | [s] => [(s, 1000000000000)]
  | s :: t :: r => (s, t - 1) :: strs (t :: r)
theorem strs_fst : ∀ S : List Int, (strs S).map Prod.fst = S
  | [] => rfl
  | [s] => rfl
  | s :: t :: r => by
    show s :: (strs (t :: r)).map Prod.fst = _
    rw [strs_fst (t :: r)]
theorem strs_len (S : List Int) : (strs S).length = S.length := by
  rw [← List.length_map (f := Prod.fst), strs_fst]
theorem strs_uniq {S : List Int} (h : Up S) {p q : Int × Int} (hp : p ∈ strs S) (hq : q ∈ strs S) (e : p.1 = q.1) : p = q := by
  have hm : ((strs S).map Prod.fst).Pairwise (· < ·) := by rw [strs_fst]; exact h
  have hm' := List.pairwise_map.1 hm
  obtain ⟨i, hi, rfl⟩ := List.getElem_of_mem hp
  obtain ⟨j, hj, rfl⟩ := List.getElem_of_mem hq
  rcases Nat.lt_trichotomy i j with g | g | g
  · have := List.pairwise_iff_getElem.1 hm' i j hi hj g; omega
  · subst g; rfl
  · have := List.pairwise_iff_getElem.1 hm' j i hj hi g; omega
theorem strs_spec : ∀ S : List Int, Up S → (∀ u ∈ S, u ≤ 1000000000000) → ∀ p ∈ strs S, p.1 ∈ S ∧ p.1 ≤ p.2 ∧ p.2 ≤ 1000000000000 ∧ ∀ u ∈ S, u ≤ p.2 → u ≤ p.1
  | [], _, _, p, hp => by cases hp
  | [s], _, ht, p, hp => by
    obtain rfl := List.mem_singleton.1 hp
    exact ⟨List.mem_cons_self, ht s List.mem_cons_self, Int.le_refl _, fun u hu _ => by obtain rfl := List.mem_singleton.1 hu; exact Int.le_refl _⟩
  | s :: t :: r, h, ht, p, hp => by
    have h1 := List.pairwise_cons.1 h
    have h2 := List.pairwise_cons.1 h1.2
    have hst := h1.1 t List.mem_cons_self
    rcases List.mem_cons.1 hp with rfl | hp
    · refine ⟨List.mem_cons_self, by show s ≤ t - 1; omega, by have := ht t (by simp); show t - 1 ≤ _; omega, fun u hu hle => ?_⟩
      have hle' : u ≤ t - 1 := hle
      rcases List.mem_cons.1 hu with rfl | hu
      · exact Int.le_refl _
      · rcases List.mem_cons.1 hu with rfl | hu
        · omega
        · have := h2.1 u hu; omega
    · obtain ⟨a, b, c, d⟩ := strs_spec (t :: r) h1.2 (fun u hu => ht u (List.mem_cons_of_mem _ hu)) p hp
      refine ⟨List.mem_cons_of_mem _ a, b, c, fun u hu hle => ?_⟩
      rcases List.mem_cons.1 hu with rfl | hu
      · have := h1.1 p.1 a; omega
      · exact d u hu hle
theorem strs_at : ∀ S : List Int, Up S → ∀ {x u : Int}, u ∈ S → u ≤ x → x ≤ 1000000000000 → ∃ p ∈ strs S, p.1 ≤ x ∧ x ≤ p.2
  | [], _, x, u, hu, _, _ => by cases hu
  | [s], _, x, u, hu, hux, hx => by
    obtain rfl := List.mem_singleton.1 hu
    exact ⟨(u, _), List.mem_cons_self, hux, hx⟩
  | s :: t :: r, h, x, u, hu, hux, hx => by
    have h1 := List.pairwise_cons.1 h
    rcases Int.lt_or_le x t with g | g
    · refine ⟨(s, t - 1), List.mem_cons_self, ?_, by show x ≤ t - 1; omega⟩
      rcases List.mem_cons.1 hu with rfl | hu
      · exact hux
      · have := h1.1 u hu; show s ≤ x; omega
    · obtain ⟨p, hp, a, b⟩ := strs_at (t :: r) h1.2 (u := t) List.mem_cons_self g hx
      exact ⟨p, List.mem_cons_of_mem _ hp, a, b⟩
/-- The lower one of two lines at a start, and the other one. -/
def lower (p q : Int × Int) : Prop := q.1 < p.1 ∨ q.1 = p.1 ∧ q.2 < p.2
instance (p q : Int × Int) : Decidable (lower p q) := by unfold lower; infer_instance
def lo (p q : Int × Int) : Int × Int := if lower p q then q else p
def hi (p q : Int × Int) : Int × Int := if lower p q then p else q
theorem eq_of_not {p q : Int × Int} (a : ¬ lower p q) (b : ¬ lower q p) : p = q := by
  obtain ⟨p1, p2⟩ := p
  obtain ⟨q1, q2⟩ := q
  unfold lower at a b
  simp only at a b
  rw [show p1 = q1 by omega, show p2 = q2 by omega]
theorem not_both {p q : Int × Int} (a : lower p q) (b : lower q p) : False := by unfold lower at a b; omega
theorem lo_comm (p q : Int × Int) : lo p q = lo q p := by
  unfold lo
  by_cases a : lower p q <;> by_cases b : lower q p
  · exact (not_both a b).elim
  · rw [if_pos a, if_neg b]
  · rw [if_neg a, if_pos b]
  · rw [if_neg a, if_neg b, eq_of_not a b]
theorem hi_comm (p q : Int × Int) : hi p q = hi q p := by
  unfold hi
  by_cases a : lower p q <;> by_cases b : lower q p
  · exact (not_both a b).elim
  · rw [if_pos a, if_neg b]
  · rw [if_neg a, if_pos b]
  · rw [if_neg a, if_neg b, eq_of_not a b]
theorem lo_le (p q : Int × Int) : (lo p q).1 ≤ (hi p q).1 ∧ ((lo p q).1 = (hi p q).1 → (lo p q).2 ≤ (hi p q).2) := by
  unfold lo hi
  by_cases a : lower p q
  · rw [if_pos a, if_pos a]; unfold lower at a; omega
  · rw [if_neg a, if_neg a]; unfold lower at a; omega
theorem lo_hi (p q : Int × Int) : (lo p q = p ∧ hi p q = q) ∨ (lo p q = q ∧ hi p q = p) := by
  unfold lo hi
  by_cases a : lower p q
  · rw [if_pos a, if_pos a]; exact .inr ⟨rfl, rfl⟩
  · rw [if_neg a, if_neg a]; exact .inl ⟨rfl, rfl⟩
/-- The first argument from s to e at which the line h is below the line l, or e + 1. -/
def turn (s e : Int) (l h : Int × Int) : Int := if h.2 < l.2 ∧ s + (h.1 - l.1) / (l.2 - h.2) + 1 ≤ e then s + (h.1 - l.1) / (l.2 - h.2) + 1 else e + 1
/-- At x the line h is below the line l. -/
def Und (s : Int) (l h : Int × Int) (x : Int) : Prop := h.1 + h.2 * (x - s) < l.1 + l.2 * (x - s)
theorem und_iff (s : Int) (l h : Int × Int) (x : Int) : Und s l h x ↔ h.1 - l.1 < (l.2 - h.2) * (x - s) := by
  unfold Und
  rw [Int.sub_mul]
  omega
theorem und_pos {s : Int} {l h : Int × Int} (h1 : l.1 ≤ h.1) (hd : h.2 < l.2) {x : Int} : Und s l h x ↔ s + (h.1 - l.1) / (l.2 - h.2) + 1 ≤ x := by
  rw [und_iff]
  have hpos : 0 < l.2 - h.2 := by omega
  have hlt : h.1 - l.1 < (l.2 - h.2) * (x - s) ↔ (h.1 - l.1) / (l.2 - h.2) < x - s := by
    rw [Int.ediv_lt_iff_lt_mul hpos, Int.mul_comm]
  rw [hlt]
  omega
theorem und_not {s : Int} {l h : Int × Int} (_h1 : l.1 ≤ h.1) (hd : ¬ h.2 < l.2) {x : Int} (hx : s ≤ x) : ¬ Und s l h x := by
  rw [und_iff]
  have : (l.2 - h.2) * (x - s) ≤ 0 := Int.mul_nonpos_of_nonpos_of_nonneg (by omega) (by omega)
  omega
theorem turn_spec (s e : Int) (l h : Int × Int) (h1 : l.1 ≤ h.1) (_h2 : l.1 = h.1 → l.2 ≤ h.2) (hse : s ≤ e) :
    s < turn s e l h ∧ turn s e l h ≤ e + 1 ∧ (∀ x, s ≤ x → x < turn s e l h → ¬ Und s l h x) ∧ (∀ x, turn s e l h ≤ x → x ≤ e → Und s l h x) := by
  unfold turn
  by_cases c : h.2 < l.2
  · have hq : 0 ≤ (h.1 - l.1) / (l.2 - h.2) := Int.ediv_nonneg (by omega) (by omega)
    by_cases d : s + (h.1 - l.1) / (l.2 - h.2) + 1 ≤ e
    · rw [if_pos ⟨c, d⟩]
      exact ⟨by omega, by omega, fun x _ hx k => by have := (und_pos h1 c).1 k; omega, fun x hx _ => (und_pos h1 c).2 hx⟩
    · rw [if_neg (fun k => d k.2)]
      exact ⟨by omega, by omega, fun x _ hx k => by have := (und_pos h1 c).1 k; omega, fun x hx hxe => by omega⟩
  · rw [if_neg (fun k => c k.1)]
    exact ⟨by omega, by omega, fun x hx _ => und_not h1 c hx, fun x hx hxe => by omega⟩
/-- The turning point is known by what it is. -/
theorem turn_of {s e t : Int} {l h : Int × Int} (h1 : l.1 ≤ h.1) (h2 : l.1 = h.1 → l.2 ≤ h.2) (hse : s ≤ e) (hs : s ≤ t) (ht : t ≤ e + 1) (hb : ∀ x, s ≤ x → x < t → ¬ Und s l h x) (ha : t ≤ e → Und s l h t) : t = turn s e l h := by
  obtain ⟨a, b, c, d⟩ := turn_spec s e l h h1 h2 hse
  rcases Int.lt_trichotomy t (turn s e l h) with g | g | g
  · exact absurd (ha (by omega)) (c t hs g)
  · exact g
  · exact absurd (d _ (Int.le_refl _) (by omega)) (hb _ (by omega) g)
/-- The pieces of one stretch. -/
def cell (p q : Int × Int) (s e : Int) : List Pc :=
  (s, (lo p q).1, (lo p q).2) :: if turn s e (lo p q) (hi p q) ≤ e then [(turn s e (lo p q) (hi p q), (hi p q).1 + (hi p q).2 * (turn s e (lo p q) (hi p q) - s), (hi p q).2)] else []
def lst (l r : List Pc) : List Pc := (strs (starts l r)).flatMap fun p => cell (num l p.1, slp l p.1) (num r p.1, slp r p.1) p.1 p.2
theorem lst_comm {l r : List Pc} (h : Inc l) (k : Inc r) : lst l r = lst r l := by
  unfold lst
  rw [starts_comm h k]
  refine congrArg (fun f => List.flatMap f _) (funext fun p => ?_)
  unfold cell
  rw [lo_comm, hi_comm]
theorem cell_mem {p q : Int × Int} {s e : Int} (hse : s ≤ e) {x : Pc} (hx : x ∈ cell p q s e) : s ≤ x.1 ∧ x.1 ≤ e ∧ (x = (s, (lo p q).1, (lo p q).2) ∨ (s < x.1 ∧ x.1 = turn s e (lo p q) (hi p q) ∧ x = (turn s e (lo p q) (hi p q), (hi p q).1 + (hi p q).2 * (turn s e (lo p q) (hi p q) - s), (hi p q).2))) := by
  obtain ⟨a, b⟩ := lo_le p q
  have t := turn_spec s e (lo p q) (hi p q) a b hse
  unfold cell at hx
  rcases List.mem_cons.1 hx with rfl | hx
  · exact ⟨Int.le_refl _, hse, .inl rfl⟩
  · split at hx
    · rename_i hte
      obtain rfl := List.mem_singleton.1 hx
      exact ⟨by show s ≤ turn _ _ _ _; omega, hte, .inr ⟨t.1, rfl, rfl⟩⟩
    · cases hx
theorem cell_len (p q : Int × Int) (s e : Int) : (cell p q s e).length ≤ 2 := by
  unfold cell
  split <;> simp
theorem lst_len (l r : List Pc) : (lst l r).length ≤ (starts l r).length * 2 := by
  unfold lst
  have : ∀ L : List (Int × Int), (L.flatMap fun p => cell (num l p.1, slp l p.1) (num r p.1, slp r p.1) p.1 p.2).length ≤ L.length * 2 := fun L => by
    induction L with
    | nil => simp
    | cons p L ih =>
      rw [List.flatMap_cons, List.length_append, List.length_cons]
      have := cell_len (num l p.1, slp l p.1) (num r p.1, slp r p.1) p.1 p.2
      omega
  have h := this (strs (starts l r))
  rwa [strs_len] at h
/-- At every argument the lesser function's numerator is the lesser one. -/
theorem lst_num {l r : List Pc} (h : Ok l) (k : Ok r) (o : Ok (lst l r)) {x : Int} (hx : 0 ≤ x) (hx1 : x ≤ 1000000000000) : num (lst l r) x = min (num l x) (num r x) := by
  have hup := starts_up h.inc k.inc
  have htop : ∀ u ∈ starts l r, u ≤ 1000000000000 := fun u hu => by
    rcases (starts_mem l r u).1 hu with ⟨q, hq, rfl⟩ | ⟨q, hq, rfl⟩
    · exact h.top q hq
    · exact k.top q hq
  obtain ⟨u, hu, u0, ux, -, -⟩ := start_of h k hx
  obtain ⟨⟨s, e⟩, hp, hsx, hxe⟩ := strs_at _ hup hu ux hx1
  simp only at hsx hxe
  obtain ⟨sm, se, eM, su⟩ := strs_spec _ hup htop _ hp
  simp only at sm se eM su
  have s0 : 0 ≤ s := by
    rcases (starts_mem l r s).1 sm with ⟨q, hq, rfl⟩ | ⟨q, hq, rfl⟩
    · exact from_nonneg h hq
    · exact from_nonneg k hq
  have cl : ∀ q ∈ l, q.1 ≤ x → q.1 ≤ s := fun q hq hqx => su q.1 ((starts_mem l r _).2 (.inl ⟨q, hq, rfl⟩)) (by omega)
  have cr : ∀ q ∈ r, q.1 ≤ x → q.1 ≤ s := fun q hq hqx => su q.1 ((starts_mem l r _).2 (.inr ⟨q, hq, rfl⟩)) (by omega)
  have el := num_from h s0 hsx cl
  have er := num_from k s0 hsx cr
  obtain ⟨a, b⟩ := lo_le (num l s, slp l s) (num r s, slp r s)
  have t := turn_spec s e (lo (num l s, slp l s) (num r s, slp r s)) (hi (num l s, slp l s) (num r s, slp r s)) a b se
  -- what the pieces of the other stretches are
  have other : ∀ q ∈ lst l r, q.1 ≤ x → q.1 ≤ s ∨ q ∈ cell (num l s, slp l s) (num r s, slp r s) s e := fun q hq hqx => by
    obtain ⟨⟨s', e'⟩, hp', hq'⟩ := List.mem_flatMap.1 hq
    obtain ⟨sm', se', eM', su'⟩ := strs_spec _ hup htop _ hp'
    simp only at sm' se' eM' su' hq'
    obtain ⟨q1, q2, -⟩ := cell_mem se' hq'
    rcases Int.lt_trichotomy s s' with g | g | g
    · have : ¬ s' ≤ e := fun c => by have := su s' sm' c; omega
      omega
    · subst g
      right
      have : e = e' := congrArg Prod.snd (strs_uniq hup hp hp' rfl)
      subst this
      exact hq'
    · left
      have : ¬ s ≤ e' := fun c => by have := su' s sm c; omega
      omega
  have inl : ∀ q ∈ cell (num l s, slp l s) (num r s, slp r s) s e, q ∈ lst l r := fun q hq => List.mem_flatMap.2 ⟨(s, e), hp, hq⟩
  have both : (lo (num l s, slp l s) (num r s, slp r s)).1 + (lo (num l s, slp l s) (num r s, slp r s)).2 * (x - s) = num l x ∧ (hi (num l s, slp l s) (num r s, slp r s)).1 + (hi (num l s, slp l s) (num r s, slp r s)).2 * (x - s) = num r x ∨ (lo (num l s, slp l s) (num r s, slp r s)).1 + (lo (num l s, slp l s) (num r s, slp r s)).2 * (x - s) = num r x ∧ (hi (num l s, slp l s) (num r s, slp r s)).1 + (hi (num l s, slp l s) (num r s, slp r s)).2 * (x - s) = num l x := by
    rcases lo_hi (num l s, slp l s) (num r s, slp r s) with ⟨e1, e2⟩ | ⟨e1, e2⟩
    · rw [e1, e2]; exact .inl ⟨el.symm, er.symm⟩
    · rw [e1, e2]; exact .inr ⟨er.symm, el.symm⟩
  generalize hlo : lo (num l s, slp l s) (num r s, slp r s) = L at *
  generalize hhi : hi (num l s, slp l s) (num r s, slp r s) = H at *
  have hcell : cell (num l s, slp l s) (num r s, slp r s) s e = (s, L.1, L.2) :: if turn s e L H ≤ e then [(turn s e L H, H.1 + H.2 * (turn s e L H - s), H.2)] else [] := by unfold cell; rw [hlo, hhi]
  rcases Int.lt_or_le x (turn s e L H) with g | g
  · have hpick : pick (lst l r) x = (s, L.1, L.2) := pick_of o hx (inl _ (by rw [hcell]; exact List.mem_cons_self)) hsx (fun q hq hqx => by
      rcases other q hq hqx with c | c
      · exact c
      · rw [hcell] at c
        rcases List.mem_cons.1 c with rfl | c
        · exact Int.le_refl _
        · split at c
          · obtain rfl := List.mem_singleton.1 c
            have : turn s e L H ≤ x := hqx
            omega
          · cases c)
    have hn := t.2.2.1 x hsx g
    unfold Und at hn
    unfold num at *
    rw [hpick]
    show L.1 + L.2 * (x - s) = _
    rcases both with ⟨b1, b2⟩ | ⟨b1, b2⟩ <;> omega
  · have hte : turn s e L H ≤ e := by omega
    rw [if_pos hte] at hcell
    have hpick : pick (lst l r) x = (turn s e L H, H.1 + H.2 * (turn s e L H - s), H.2) := pick_of o hx (inl _ (by rw [hcell]; simp)) g (fun q hq hqx => by
      rcases other q hq hqx with c | c
      · show q.1 ≤ turn s e L H; omega
      · rw [hcell] at c
        rcases List.mem_cons.1 c with rfl | c
        · show s ≤ turn s e L H; omega
        · obtain rfl := List.mem_singleton.1 c; exact Int.le_refl _)
    have hn := t.2.2.2 x g hxe
    unfold Und at hn
    have e1 : H.2 * (x - s) = H.2 * (turn s e L H - s) + H.2 * (x - turn s e L H) := by rw [← Int.mul_add]; congr 1; omega
    unfold num at *
    rw [hpick]
    show H.1 + H.2 * (turn s e L H - s) + H.2 * (x - turn s e L H) = _
    rcases both with ⟨b1, b2⟩ | ⟨b1, b2⟩ <;> omega
end Go.Proofs.Ytdoojpilogcnjaa.Pw
