/- Plain mathematics of piecewise linear functions: the piece that belongs to an argument, sums, the lesser one. No condition but those that each names; it speaks of integers and lists alone. -/
set_option linter.unusedVariables false
set_option linter.unusedSimpArgs false
namespace Go.Proofs.Ytdoojpilogcnjaa.Pw
/-- A piece: its beginning, its numerator there, its slope. -/
abbrev Pc := Int × Int × Int
/-- The last piece that begins at x or before, behind p. -/
def pcl (x : Int) : Pc → List Pc → Pc
  | p, [] => p
  | p, q :: l => pcl x (if q.1 ≤ x then q else p) l
def pick (l : List Pc) (x : Int) : Pc :=
  match l with
  | [] => (0, 0, 0)
  | p :: r => pcl x p r
def num (l : List Pc) (x : Int) : Int := (pick l x).2.1 + (pick l x).2.2 * (x - (pick l x).1)
def slp (l : List Pc) (x : Int) : Int := (pick l x).2.2
/-- Pieces in order. -/
def Inc (l : List Pc) : Prop := l.Pairwise (fun p q => p.1 < q.1)
/-- The pieces of a valid function. -/
structure Ok (l : List Pc) : Prop where
  inc : Inc l
  zero : ∃ p r, l = p :: r ∧ p.1 = 0
  top : ∀ p ∈ l, p.1 ≤ 1000000000000
  at_ : ∀ p ∈ l, -1000000000000000000 ≤ p.2.1 ∧ p.2.1 ≤ 1000000000000000000
  slope : ∀ p ∈ l, -1000000 ≤ p.2.2 ∧ p.2.2 ≤ 1000000
theorem pcl_spec (x : Int) : ∀ (l : List Pc) (p : Pc), Inc (p :: l) → p.1 ≤ x → (pcl x p l ∈ p :: l ∧ (pcl x p l).1 ≤ x ∧ ∀ q ∈ p :: l, q.1 ≤ x → q.1 ≤ (pcl x p l).1)
  | [], p, _, hx => ⟨List.mem_cons_self, hx, fun q hq _ => by obtain rfl := List.mem_singleton.1 hq; exact Int.le_refl _⟩
  | q :: l, p, h, hx => by
    have h1 := List.pairwise_cons.1 h
    have h2 := List.pairwise_cons.1 h1.2
    show pcl x (if q.1 ≤ x then q else p) l ∈ _ ∧ _
    by_cases hq : q.1 ≤ x
    · have e : pcl x p (q :: l) = pcl x q l := by show pcl x (if q.1 ≤ x then q else p) l = _; rw [if_pos hq]
      rw [if_pos hq]
      obtain ⟨a, b, c⟩ := pcl_spec x l q h1.2 hq
      rw [e]
      refine ⟨List.mem_cons_of_mem _ a, b, fun r hr hrx => ?_⟩
      rcases List.mem_cons.1 hr with rfl | hr
      · have := c q List.mem_cons_self hq
        have := h1.1 q List.mem_cons_self
        omega
      · exact c r hr hrx
    · have e : pcl x p (q :: l) = pcl x p l := by show pcl x (if q.1 ≤ x then q else p) l = _; rw [if_neg hq]
      rw [if_neg hq]
      have hpl : Inc (p :: l) := List.pairwise_cons.2 ⟨fun r hr => h1.1 r (List.mem_cons_of_mem _ hr), h2.2⟩
      obtain ⟨a, b, c⟩ := pcl_spec x l p hpl hx
      rw [e]
      refine ⟨?_, b, fun r hr hrx => ?_⟩
      · rcases List.mem_cons.1 a with a | a
        · rw [a]; exact List.mem_cons_self
        · exact List.mem_cons_of_mem _ (List.mem_cons_of_mem _ a)
      · rcases List.mem_cons.1 hr with rfl | hr
        · exact c _ List.mem_cons_self hrx
        · rcases List.mem_cons.1 hr with rfl | hr
          · exact absurd hrx hq
          · exact c r (List.mem_cons_of_mem _ hr) hrx
theorem inc_inj {l : List Pc} (h : Inc l) {p q : Pc} (hp : p ∈ l) (hq : q ∈ l) (e : p.1 = q.1) : p = q := by
  obtain ⟨i, hi, rfl⟩ := List.getElem_of_mem hp
  obtain ⟨j, hj, rfl⟩ := List.getElem_of_mem hq
  rcases Nat.lt_trichotomy i j with g | g | g
  · have := List.pairwise_iff_getElem.1 h i j hi hj g; omega
  · subst g; rfl
  · have := List.pairwise_iff_getElem.1 h j i hj hi g; omega
section
variable {l : List Pc} (h : Ok l) {x : Int}
include h
theorem pick_spec (hx : 0 ≤ x) : pick l x ∈ l ∧ (pick l x).1 ≤ x ∧ ∀ q ∈ l, q.1 ≤ x → q.1 ≤ (pick l x).1 := by
  obtain ⟨p, r, rfl, hp⟩ := h.zero
  exact pcl_spec x r p h.inc (by omega)
/-- The piece is known by what it is. -/
theorem pick_of (hx : 0 ≤ x) {p : Pc} (hp : p ∈ l) (h1 : p.1 ≤ x) (h2 : ∀ q ∈ l, q.1 ≤ x → q.1 ≤ p.1) : pick l x = p := by
  obtain ⟨a, b, c⟩ := pick_spec h hx
  exact inc_inj h.inc a hp (by have := c p hp h1; have := h2 _ a b; omega)
theorem pick_start {p : Pc} (hp : p ∈ l) (h0 : 0 ≤ p.1) : pick l p.1 = p := pick_of h h0 hp (Int.le_refl _) (fun _ _ k => k)
theorem from_nonneg {p : Pc} (hp : p ∈ l) : 0 ≤ p.1 := by
  obtain ⟨q, r, rfl, hq⟩ := h.zero
  rcases List.mem_cons.1 hp with rfl | hp
  · omega
  · have := (List.pairwise_cons.1 h.inc).1 p hp; omega
/-- Between two beginnings the piece stays. -/
theorem pick_same {s : Int} (hs : 0 ≤ s) (hsx : s ≤ x) (hn : ∀ q ∈ l, q.1 ≤ x → q.1 ≤ s) : pick l x = pick l s := by
  obtain ⟨a, b, c⟩ := pick_spec h hs
  exact pick_of h (by omega) a (by omega) (fun q hq hqx => c q hq (hn q hq hqx))
theorem num_from {s : Int} (hs : 0 ≤ s) (hsx : s ≤ x) (hn : ∀ q ∈ l, q.1 ≤ x → q.1 ≤ s) : num l x = num l s + slp l s * (x - s) := by
  unfold num slp
  rw [pick_same h hs hsx hn]
  have e : x - (pick l s).1 = (s - (pick l s).1) + (x - s) := by omega
  rw [e, Int.mul_add]; omega
theorem num_bd (hx : 0 ≤ x) (hx1 : x ≤ 1000000000000) : -2000000000000000000 ≤ num l x ∧ num l x ≤ 2000000000000000000 := by
  obtain ⟨a, b, -⟩ := pick_spec h hx
  have c := from_nonneg h a
  obtain ⟨d1, d2⟩ := h.at_ _ a
  obtain ⟨e1, e2⟩ := h.slope _ a
  unfold num
  have k0 : 0 ≤ x - (pick l x).1 := by omega
  have k1 : x - (pick l x).1 ≤ 1000000000000 := by omega
  have m1 : (pick l x).2.2 * (x - (pick l x).1) ≤ 1000000 * 1000000000000 := by
    have := Int.mul_le_mul_of_nonneg_right e2 k0
    have := Int.mul_le_mul_of_nonneg_left k1 (show (0 : Int) ≤ 1000000 by decide)
    omega
  have m2 : -(1000000 * 1000000000000) ≤ (pick l x).2.2 * (x - (pick l x).1) := by
    have := Int.mul_le_mul_of_nonneg_right e1 k0
    have := Int.mul_le_mul_of_nonneg_left k1 (show (0 : Int) ≤ 1000000 by decide)
    have e : -1000000 * (x - (pick l x).1) = -(1000000 * (x - (pick l x).1)) := by rw [Int.neg_mul]
    omega
  omega
/-- The slope: from an argument to the next one. -/
theorem num_next (hx : 0 ≤ x) (hn : ∀ q ∈ l, q.1 ≠ x + 1) : num l (x + 1) - num l x = slp l x := by
  rw [num_from h hx (show x ≤ x + 1 by omega) (fun q hq k => by have := hn q hq; omega)]
  have e : x + 1 - x = 1 := by omega
  rw [e]; omega
theorem num_start {p : Pc} (hp : p ∈ l) : num l p.1 = p.2.1 := by
  unfold num
  rw [pick_start h hp (from_nonneg h hp), Int.sub_self, Int.mul_zero]; omega
end
/-- Two ordered lists of numbers merged, each number once. -/
def mgd : List Int → List Int → List Int
  | [], r => r
  | x :: l, [] => x :: l
  | x :: l, y :: r => if x < y then x :: mgd l (y :: r) else if x = y then y :: mgd l r else y :: mgd (x :: l) r
  termination_by l r => l.length + r.length
def Up (l : List Int) : Prop := l.Pairwise (· < ·)
theorem mgd_nil (r : List Int) : mgd [] r = r := by unfold mgd; rfl
theorem mgd_nil2 (l : List Int) : mgd l [] = l := by cases l <;> (unfold mgd; rfl)
theorem mgd_lt {x y : Int} {l r : List Int} (h : x < y) : mgd (x :: l) (y :: r) = x :: mgd l (y :: r) := by rw [mgd, if_pos h]
theorem mgd_eq {x y : Int} {l r : List Int} (h : x = y) : mgd (x :: l) (y :: r) = y :: mgd l r := by rw [mgd, if_neg (by omega), if_pos h]
theorem mgd_gt {x y : Int} {l r : List Int} (h : y < x) : mgd (x :: l) (y :: r) = y :: mgd (x :: l) r := by rw [mgd, if_neg (by omega), if_neg (by omega)]
theorem mgd_spec : ∀ (n : Nat) (l r : List Int), l.length + r.length ≤ n → ((∀ x, x ∈ mgd l r ↔ x ∈ l ∨ x ∈ r) ∧ (mgd l r).length ≤ l.length + r.length ∧ (Up l → Up r → Up (mgd l r)))
  | _, [], r, _ => by rw [mgd_nil]; exact ⟨fun x => by simp, by simp, fun _ h => h⟩
  | _, x :: l, [], _ => by rw [mgd_nil2]; exact ⟨fun x => by simp, by simp, fun h _ => h⟩
  | 0, x :: l, y :: r, h => by simp at h
  | n + 1, x :: l, y :: r, h => by
    rw [List.length_cons, List.length_cons] at h
    rcases Int.lt_trichotomy x y with g | g | g
    · obtain ⟨a, b, c⟩ := mgd_spec n l (y :: r) (by rw [List.length_cons]; omega)
      rw [mgd_lt g]
      refine ⟨fun z => by rw [List.mem_cons, a, List.mem_cons (a := z) (b := x), or_assoc], by simp only [List.length_cons] at *; omega, fun h1 h2 => ?_⟩
      refine List.pairwise_cons.2 ⟨fun z hz => ?_, c (List.pairwise_cons.1 h1).2 h2⟩
      rcases (a z).1 hz with hz | hz
      · exact (List.pairwise_cons.1 h1).1 z hz
      · rcases List.mem_cons.1 hz with rfl | hz
        · exact g
        · have := (List.pairwise_cons.1 h2).1 z hz; omega
    · obtain ⟨a, b, c⟩ := mgd_spec n l r (by omega)
      rw [mgd_eq g]
      refine ⟨fun z => ?_, by simp only [List.length_cons] at *; omega, fun h1 h2 => ?_⟩
      · rw [List.mem_cons, a, List.mem_cons, List.mem_cons, g]
        constructor
        · rintro (k | k | k)
          · exact .inl (.inl k)
          · exact .inl (.inr k)
          · exact .inr (.inr k)
        · rintro ((k | k) | (k | k))
          · exact .inl k
          · exact .inr (.inl k)
          · exact .inl k
          · exact .inr (.inr k)
      · refine List.pairwise_cons.2 ⟨fun z hz => ?_, c (List.pairwise_cons.1 h1).2 (List.pairwise_cons.1 h2).2⟩
        rcases (a z).1 hz with hz | hz
        · have := (List.pairwise_cons.1 h1).1 z hz; omega
        · exact (List.pairwise_cons.1 h2).1 z hz
    · obtain ⟨a, b, c⟩ := mgd_spec n (x :: l) r (by rw [List.length_cons]; omega)
      rw [mgd_gt g]
      refine ⟨fun z => ?_, by simp only [List.length_cons] at *; omega, fun h1 h2 => ?_⟩
      · rw [List.mem_cons, a, List.mem_cons (a := z) (b := y)]
        constructor
        · rintro (k | k | k)
          · exact .inr (.inl k)
          · exact .inl k
          · exact .inr (.inr k)
        · rintro (k | k | k)
          · exact .inr (.inl k)
          · exact .inl k
          · exact .inr (.inr k)
      · refine List.pairwise_cons.2 ⟨fun z hz => ?_, c h1 (List.pairwise_cons.1 h2).2⟩
        rcases (a z).1 hz with hz | hz
        · rcases List.mem_cons.1 hz with rfl | hz
          · exact g
          · have := (List.pairwise_cons.1 h1).1 z hz; omega
        · exact (List.pairwise_cons.1 h2).1 z hz
/-- The common starts of two functions. -/
def starts (l r : List Pc) : List Int := mgd (l.map Prod.fst) (r.map Prod.fst)
theorem starts_mem (l r : List Pc) (x : Int) : x ∈ starts l r ↔ (∃ p ∈ l, p.1 = x) ∨ ∃ p ∈ r, p.1 = x := by
  unfold starts
  rw [(mgd_spec _ _ _ (Nat.le_refl _)).1 x, List.mem_map, List.mem_map]
theorem starts_up {l r : List Pc} (h : Inc l) (k : Inc r) : Up (starts l r) :=
  (mgd_spec _ _ _ (Nat.le_refl _)).2.2 (List.pairwise_map.2 h) (List.pairwise_map.2 k)
theorem starts_len (l r : List Pc) : (starts l r).length ≤ l.length + r.length := by
  have := (mgd_spec _ (l.map Prod.fst) (r.map Prod.fst) (Nat.le_refl _)).2.1
  rwa [List.length_map, List.length_map] at this
theorem up_ext : ∀ {l r : List Int}, Up l → Up r → (∀ x, x ∈ l ↔ x ∈ r) → l = r
  | [], [], _, _, _ => rfl
  | [], y :: r, _, _, h => absurd ((h y).2 List.mem_cons_self) (by simp)
  | x :: l, [], _, _, h => absurd ((h x).1 List.mem_cons_self) (by simp)
  | x :: l, y :: r, hl, hr, h => by
    have h1 := List.pairwise_cons.1 hl
    have h2 := List.pairwise_cons.1 hr
    have e : x = y := by
      rcases List.mem_cons.1 ((h x).1 List.mem_cons_self) with e | k
      · exact e
      · rcases List.mem_cons.1 ((h y).2 List.mem_cons_self) with e | k'
        · exact e.symm
        · have := h2.1 x k; have := h1.1 y k'; omega
    subst e
    rw [up_ext h1.2 h2.2 (fun z => ?_)]
    constructor
    · intro k
      rcases List.mem_cons.1 ((h z).1 (List.mem_cons_of_mem _ k)) with e | k'
      · have := h1.1 z k; omega
      · exact k'
    · intro k
      rcases List.mem_cons.1 ((h z).2 (List.mem_cons_of_mem _ k)) with e | k'
      · have := h2.1 z k; omega
      · exact k'
theorem starts_comm {l r : List Pc} (h : Inc l) (k : Inc r) : starts l r = starts r l := up_ext (starts_up h k) (starts_up k h) (fun x => by rw [starts_mem, starts_mem, or_comm])
/-- The start that an argument belongs to. -/
theorem start_of {l r : List Pc} (h : Ok l) (k : Ok r) {x : Int} (hx : 0 ≤ x) : ∃ s ∈ starts l r, 0 ≤ s ∧ s ≤ x ∧ (∀ q ∈ l, q.1 ≤ x → q.1 ≤ s) ∧ ∀ q ∈ r, q.1 ≤ x → q.1 ≤ s := by
  obtain ⟨a, b, c⟩ := pick_spec h hx
  obtain ⟨a', b', c'⟩ := pick_spec k hx
  rcases Int.le_total (pick l x).1 (pick r x).1 with g | g
  · exact ⟨_, (starts_mem l r _).2 (.inr ⟨_, a', rfl⟩), from_nonneg k a', b', fun q hq hqx => Int.le_trans (c q hq hqx) g, c'⟩
  · exact ⟨_, (starts_mem l r _).2 (.inl ⟨_, a, rfl⟩), from_nonneg h a, b, c, fun q hq hqx => Int.le_trans (c' q hq hqx) g⟩
/-- The sum. -/
def add (l r : List Pc) : List Pc := (starts l r).map fun s => (s, num l s + num r s, slp l s + slp r s)
theorem add_inc {l r : List Pc} (h : Inc l) (k : Inc r) : Inc (add l r) := List.pairwise_map.2 (starts_up h k)
theorem add_comm {l r : List Pc} (h : Inc l) (k : Inc r) : add l r = add r l := by
  unfold add
  rw [starts_comm h k]
  exact List.map_congr_left (fun s _ => by rw [Int.add_comm (num l s), Int.add_comm (slp l s)])
theorem add_zero {l r : List Pc} (h : Ok l) (k : Ok r) : ∃ p t, add l r = p :: t ∧ p.1 = 0 := by
  obtain ⟨p, l', rfl, hp⟩ := h.zero
  obtain ⟨q, r', rfl, hq⟩ := k.zero
  have e : starts (p :: l') (q :: r') = q.1 :: mgd (l'.map Prod.fst) (r'.map Prod.fst) := mgd_eq (by omega)
  unfold add
  rw [e]
  exact ⟨_, _, rfl, hq⟩
theorem add_top {l r : List Pc} (h : Ok l) (k : Ok r) : ∀ p ∈ add l r, p.1 ≤ 1000000000000 := fun p hp => by
  obtain ⟨s, hs, rfl⟩ := List.mem_map.1 hp
  rcases (starts_mem l r s).1 hs with ⟨q, hq, rfl⟩ | ⟨q, hq, rfl⟩
  · exact h.top q hq
  · exact k.top q hq
/-- At every argument the sum's numerator is the sum of the numerators. -/
theorem add_num {l r : List Pc} (h : Ok l) (k : Ok r) (o : Ok (add l r)) {x : Int} (hx : 0 ≤ x) : num (add l r) x = num l x + num r x := by
  obtain ⟨s, hs, s0, sx, c, c'⟩ := start_of h k hx
  have e : pick (add l r) x = (s, num l s + num r s, slp l s + slp r s) := pick_of o hx (List.mem_map.2 ⟨s, hs, rfl⟩) sx (fun q hq hqx => by
    obtain ⟨u, hu, rfl⟩ := List.mem_map.1 hq
    rcases (starts_mem l r u).1 hu with ⟨p, hp, rfl⟩ | ⟨p, hp, rfl⟩
    · exact c p hp hqx
    · exact c' p hp hqx)
  rw [num_from h s0 sx c, num_from k s0 sx c']
  unfold num
  rw [e]
  show (num l s + num r s) + (slp l s + slp r s) * (x - s) = _
  rw [Int.add_mul]
  unfold num
  omega
end Go.Proofs.Ytdoojpilogcnjaa.Pw
