/- Plain mathematics of piecewise linear functions, third part: the piece by counting, the stretches one by one, where a line lies between two numbers. No condition but those that each names; it speaks of integers and lists alone. -/
import Derived.Test.YtdoojpilogcnjaaPwMath2
import Derived.Test.YtdoojpilogcnjaaSpanMath2
set_option linter.unusedVariables false
set_option linter.unusedSimpArgs false
namespace Go.Proofs.Ytdoojpilogcnjaa.Pw
open Go.Proofs.Ytdoojpilogcnjaa.Sp (Sn El Nf Proper norm norm_el norm_nf norm_same nf_ext)
theorem cnt_pcl (x : Int) : ∀ (l : List Pc) (p : Pc), Inc (p :: l) → (p :: l)[l.countP (fun q => decide (q.1 ≤ x))]? = some (pcl x p l)
  | [], _, _ => rfl
  | q :: l, p, h => by
    have h1 := List.pairwise_cons.1 h
    have h2 := List.pairwise_cons.1 h1.2
    by_cases hq : q.1 ≤ x
    · rw [List.countP_cons_of_pos (by simpa using hq)]
      show (q :: l)[l.countP _]? = some (pcl x (if q.1 ≤ x then q else p) l)
      rw [if_pos hq]
      exact cnt_pcl x l q h1.2
    · have hz : l.countP (fun q => decide (q.1 ≤ x)) = 0 := List.countP_eq_zero.2 (fun r hr => by have := h2.1 r hr; simp; omega)
      rw [List.countP_cons_of_neg (by simpa using hq), hz]
      have e := cnt_pcl x l p (List.pairwise_cons.2 ⟨fun r hr => h1.1 r (List.mem_cons_of_mem _ hr), h2.2⟩)
      rw [hz] at e
      show some p = some (pcl x (if q.1 ≤ x then q else p) l)
      rw [if_neg hq]
      exact e
/-- The piece that belongs to an argument: by how many pieces begin there or before. -/
theorem tail_at {l : List Pc} (h : Ok l) {x : Int} (hx : 0 ≤ x) : ∃ k : Nat, l.countP (fun q => decide (q.1 ≤ x)) = k + 1 ∧ l[k]? = some (pick l x) ∧ k < l.length := by
  obtain ⟨p, r, rfl, hp⟩ := h.zero
  have e := cnt_pcl x r p h.inc
  refine ⟨_, List.countP_cons_of_pos (by simp; omega), e, (List.getElem?_eq_some_iff.1 e).1⟩
theorem inc_mono {l : List Pc} (h : Inc l) {x : Int} {i j : Nat} {p q : Pc} (hp : l[i]? = some p) (hq : l[j]? = some q) (hij : i ≤ j) (hx : x < p.1) : x < q.1 := by
  obtain ⟨a, rfl⟩ := List.getElem?_eq_some_iff.1 hp
  obtain ⟨b, rfl⟩ := List.getElem?_eq_some_iff.1 hq
  rcases Nat.lt_or_ge i j with g | g
  · have := List.pairwise_iff_getElem.1 h i j a b g; omega
  · obtain rfl : i = j := by omega
    exact hx
/-- The last argument of the stretch behind place i. -/
def lastOf (S : List Int) (i : Nat) : Int := match S[i + 1]? with
  | some t => t - 1
  | none => 1000000000000
theorem strs_get : ∀ (S : List Int) (i : Nat) (s : Int), S[i]? = some s → (strs S)[i]? = some (s, lastOf S i)
  | [], i, s, h => by simp at h
  | [a], 0, s, h => by obtain rfl := Option.some.inj h; rfl
  | [a], i + 1, s, h => by simp at h
  | a :: b :: r, 0, s, h => by obtain rfl := Option.some.inj h; rfl
  | a :: b :: r, i + 1, s, h => strs_get (b :: r) i s h
theorem lastOf_some {S : List Int} {i : Nat} {t : Int} (h : S[i + 1]? = some t) : lastOf S i = t - 1 := by unfold lastOf; rw [h]
theorem lastOf_none {S : List Int} {i : Nat} (h : S[i + 1]? = none) : lastOf S i = 1000000000000 := by unfold lastOf; rw [h]
theorem starts_self {l : List Pc} (h : Inc l) : starts l [] = l.map Prod.fst := mgd_nil2 _
theorem firsts_up {l : List Pc} (h : Inc l) : Up (l.map Prod.fst) := List.pairwise_map.2 h
/-- What holds of the stretches of a function's own pieces. -/
theorem own_str {l : List Pc} (h : Ok l) {p : Int × Int} (hp : p ∈ strs (l.map Prod.fst)) : 0 ≤ p.1 ∧ p.1 ≤ p.2 ∧ p.2 ≤ 1000000000000 ∧ (∃ q ∈ l, q.1 = p.1) ∧ ∀ x, p.1 ≤ x → x ≤ p.2 → num l x = num l p.1 + slp l p.1 * (x - p.1) := by
  obtain ⟨a, b, c, d⟩ := strs_spec _ (firsts_up h.inc) (fun u hu => by obtain ⟨q, hq, rfl⟩ := List.mem_map.1 hu; exact h.top q hq) p hp
  obtain ⟨q, hq, e⟩ := List.mem_map.1 a
  have h0 : 0 ≤ p.1 := by rw [← e]; exact from_nonneg h hq
  refine ⟨h0, b, c, ⟨q, hq, e⟩, fun x hx hx2 => num_from h h0 hx (fun r hr hrx => d r.1 (List.mem_map.2 ⟨r, hr, rfl⟩) (by omega))⟩
theorem own_at {l : List Pc} (h : Ok l) {x : Int} (h0 : 0 ≤ x) (h1 : x ≤ 1000000000000) : ∃ p ∈ strs (l.map Prod.fst), p.1 ≤ x ∧ x ≤ p.2 := by
  obtain ⟨q, r, e, hq⟩ := h.zero
  exact strs_at _ (firsts_up h.inc) (u := q.1) (List.mem_map.2 ⟨q, by rw [e]; exact List.mem_cons_self, rfl⟩) (by omega) h1
/-- From where on a growing line is above a number. -/
theorem above_iff {s a m n x : Int} (hm : 0 < m) : s + (n - a) / m + 1 ≤ x ↔ n < a + m * (x - s) := by
  have e : n - a < m * (x - s) ↔ (n - a) / m < x - s := by rw [Int.ediv_lt_iff_lt_mul hm, Int.mul_comm]
  have e2 : n < a + m * (x - s) ↔ n - a < m * (x - s) := by omega
  rw [e2, e]; omega
/-- The arguments from s to before e at which a growing line is from L to H; any line. -/
def btwP (s a m e L H : Int) : Sn := (max s (s + (L - 1 - a) / m + 1), min e (s + (H - a) / m + 1))
def btw (s a m e L H : Int) : Sn := if m < 0 then btwP s (-a) (-m) e (-H) (-L) else if 0 < m then btwP s a m e L H else if a < L ∨ H < a then (0, 0) else (s, e)
theorem btwP_iff {s a m e L H : Int} (hm : 0 < m) (x : Int) : ((btwP s a m e L H).1 ≤ x ∧ x < (btwP s a m e L H).2) ↔ (s ≤ x ∧ x < e ∧ L ≤ a + m * (x - s) ∧ a + m * (x - s) ≤ H) := by
  have h1 := above_iff (s := s) (a := a) (m := m) (n := L - 1) (x := x) hm
  have h2 := above_iff (s := s) (a := a) (m := m) (n := H) (x := x) hm
  generalize a + m * (x - s) = v at *
  show (max s (s + (L - 1 - a) / m + 1) ≤ x ∧ x < min e (s + (H - a) / m + 1)) ↔ _
  generalize s + (L - 1 - a) / m + 1 = A at *
  generalize s + (H - a) / m + 1 = B at *
  omega
theorem btw_iff (s a m e L H x : Int) (he : s < e) (hs : 0 ≤ s) : ((btw s a m e L H).1 ≤ x ∧ x < (btw s a m e L H).2) ↔ (s ≤ x ∧ x < e ∧ L ≤ a + m * (x - s) ∧ a + m * (x - s) ≤ H) := by
  unfold btw
  by_cases h1 : m < 0
  · rw [if_pos h1, btwP_iff (by omega)]
    have e1 : -a + -m * (x - s) = -(a + m * (x - s)) := by rw [Int.neg_mul]; omega
    rw [e1]
    generalize a + m * (x - s) = v
    omega
  · rw [if_neg h1]
    by_cases h2 : 0 < m
    · rw [if_pos h2, btwP_iff h2]
    · rw [if_neg h2]
      obtain rfl : m = 0 := by omega
      rw [Int.zero_mul]
      by_cases h3 : a < L ∨ H < a
      · rw [if_pos h3]; show (0 ≤ x ∧ x < 0) ↔ _; omega
      · rw [if_neg h3]; show (s ≤ x ∧ x < e) ↔ _; omega
theorem btw_bd (s a m e L H : Int) (_he : s < e) (hs : 0 ≤ s) (he1 : e ≤ 1000000000001) : (0 ≤ (btw s a m e L H).1) ∧ (btw s a m e L H).2 ≤ 1000000000001 := by
  unfold btw btwP
  split
  · simp only; omega
  · split
    · simp only; omega
    · split <;> (simp only; omega)
theorem proper_of {x : Sn} {n : Int} (h0 : 0 ≤ x.1) (h1 : x.2 ≤ 1000000000001) (a : x.1 ≤ n) (b : n < x.2) : Proper x := by unfold Proper; omega
/-- The arguments of a function at which its numerator is from L to H, stretch by stretch. -/
def whr (l : List Pc) (L H : Int) : List Sn := (strs (l.map Prod.fst)).map fun p => btw p.1 (num l p.1) (slp l p.1) (p.2 + 1) L H
def InW (l : List Pc) (L H : Int) (x : Int) : Prop := 0 ≤ x ∧ x ≤ 1000000000000 ∧ L ≤ num l x ∧ num l x ≤ H
theorem whr_el {l : List Pc} (h : Ok l) (L H x : Int) : El (whr l L H) x ↔ InW l L H x := by
  constructor
  · rintro ⟨y, hy, -, h1, h2⟩
    obtain ⟨p, hp, rfl⟩ := List.mem_map.1 hy
    obtain ⟨p0, p1, p2, -, hn⟩ := own_str h hp
    obtain ⟨a, b, c, d⟩ := (btw_iff _ _ _ _ _ _ x (by omega) p0).1 ⟨h1, h2⟩
    have e := hn x a (by omega)
    exact ⟨by omega, by omega, by omega, by omega⟩
  · rintro ⟨h0, h1, h2, h3⟩
    obtain ⟨p, hp, ha, hb⟩ := own_at h h0 h1
    obtain ⟨p0, p1, p2, -, hn⟩ := own_str h hp
    have e := hn x ha hb
    have k := (btw_iff p.1 (num l p.1) (slp l p.1) (p.2 + 1) L H x (by omega) p0).2 ⟨ha, by omega, by omega, by omega⟩
    obtain ⟨q0, q1⟩ := btw_bd p.1 (num l p.1) (slp l p.1) (p.2 + 1) L H (by omega) p0 (by omega)
    exact ⟨_, List.mem_map.2 ⟨p, hp, rfl⟩, proper_of q0 q1 k.1 k.2, k.1, k.2⟩
theorem whr_len (l : List Pc) (L H : Int) : (whr l L H).length = l.length := by unfold whr; rw [List.length_map, strs_len, List.length_map]
theorem whr_none {l : List Pc} (h : Ok l) {L H : Int} (hl : H < L) : norm (whr l L H) = [] :=
  nf_ext (norm_nf _) Sp.nf_nil (fun n => by
    rw [norm_el, whr_el h]
    exact ⟨fun k => by have := k.2.2.1; have := k.2.2.2; omega, fun k => (Sp.el_nil n k).elim⟩)
/-- The spans of the set lie among the arguments. -/
theorem wh_bd {l : List Pc} (h : Ok l) {L H : Int} {y : Sn} (hy : y ∈ norm (whr l L H)) : 0 ≤ y.1 ∧ y.1 < y.2 ∧ y.2 ≤ 1000000000001 := by
  have hp := (norm_nf (whr l L H)).2 y hy
  have h1 := (whr_el h L H y.1).1 ((norm_el _ _).1 ⟨y, hy, hp, Int.le_refl _, hp.2.2⟩)
  have h2 := (whr_el h L H (y.2 - 1)).1 ((norm_el _ _).1 ⟨y, hy, hp, by have := hp.2.2; omega, by omega⟩)
  exact ⟨h1.1, hp.2.2, by have := h2.2.1; omega⟩
/-- The lesser function of a function and itself. -/
theorem cell_self (p : Int × Int) (s e : Int) (_hse : s ≤ e) : cell p p s e = [(s, p.1, p.2)] := by
  unfold cell turn lo hi
  have h : ¬ lower p p := by unfold lower; omega
  simp only [if_neg h, Int.lt_irrefl, false_and, if_false]
  rw [if_neg (by omega)]
theorem flat_one' {α β : Type} (g : α → β) : ∀ L : List α, (L.flatMap fun p => [g p]) = L.map g
  | [] => rfl
  | x :: L => by rw [List.flatMap_cons, flat_one' g L]; rfl
theorem starts_same {l : List Pc} (h : Inc l) : starts l l = l.map Prod.fst := up_ext (starts_up h h) (firsts_up h) (fun x => by
  rw [starts_mem, or_self, List.mem_map])
theorem lst_self {l : List Pc} (h : Ok l) : lst l l = l := by
  unfold lst
  rw [starts_same h.inc]
  have e : ((strs (l.map Prod.fst)).flatMap fun p => cell (num l p.1, slp l p.1) (num l p.1, slp l p.1) p.1 p.2) = (strs (l.map Prod.fst)).flatMap fun p => [(p.1, num l p.1, slp l p.1)] := by
    rw [List.flatMap_def, List.flatMap_def]
    congr 1
    exact List.map_congr_left (fun p hp => cell_self _ _ _ (own_str h hp).2.1)
  rw [e, flat_one' (fun p : Int × Int => ((p.1, num l p.1, slp l p.1) : Pc))]
  have e2 : (strs (l.map Prod.fst)).map (fun p => ((p.1, num l p.1, slp l p.1) : Pc)) = ((strs (l.map Prod.fst)).map Prod.fst).map (fun s => (s, num l s, slp l s)) := by rw [List.map_map]; rfl
  rw [e2, strs_fst, List.map_map]
  conv => rhs; rw [← List.map_id l]
  refine List.map_congr_left (fun p hp => ?_)
  have hp0 := pick_start h hp (from_nonneg h hp)
  show (p.1, num l p.1, slp l p.1) = p
  unfold num slp
  rw [hp0, Int.sub_self, Int.mul_zero, Int.add_zero]
end Go.Proofs.Ytdoojpilogcnjaa.Pw
