/- Plain mathematics of sets of integers as lists of intervals: normal forms, union, intersection, difference. No condition but those that each names; it speaks of integers and lists alone. -/
set_option linter.unusedVariables false
set_option linter.unusedSimpArgs false
namespace Go.Proofs.Ytdoojpilogcnjaa.Sp
abbrev Sn := Int × Int
/-- A span that is proper. -/
def Proper (x : Sn) : Prop := -1152921504606846976 ≤ x.1 ∧ x.2 ≤ 1152921504606846976 ∧ x.1 < x.2
instance (x : Sn) : Decidable (Proper x) := by unfold Proper; infer_instance
/-- The set of a list. -/
def El (l : List Sn) (n : Int) : Prop := ∃ x ∈ l, Proper x ∧ x.1 ≤ n ∧ n < x.2
theorem el_nil (n : Int) : ¬ El [] n := fun ⟨x, hx, _⟩ => by cases hx
theorem el_cons {x : Sn} {l : List Sn} {n : Int} : El (x :: l) n ↔ (Proper x ∧ x.1 ≤ n ∧ n < x.2) ∨ El l n := by
  constructor
  · rintro ⟨y, hy, h⟩
    rcases List.mem_cons.1 hy with rfl | hy
    · exact .inl h
    · exact .inr ⟨y, hy, h⟩
  · rintro (h | ⟨y, hy, h⟩)
    · exact ⟨x, List.mem_cons_self, h⟩
    · exact ⟨y, List.mem_cons_of_mem _ hy, h⟩
theorem el_append {l r : List Sn} {n : Int} : El (l ++ r) n ↔ El l n ∨ El r n := by
  constructor
  · rintro ⟨y, hy, h⟩
    rcases List.mem_append.1 hy with hy | hy
    · exact .inl ⟨y, hy, h⟩
    · exact .inr ⟨y, hy, h⟩
  · rintro (⟨y, hy, h⟩ | ⟨y, hy, h⟩)
    · exact ⟨y, List.mem_append_left _ hy, h⟩
    · exact ⟨y, List.mem_append_right _ hy, h⟩
/-- A normal form. -/
def Nf (l : List Sn) : Prop := l.Pairwise (fun x y => x.2 < y.1) ∧ ∀ x ∈ l, Proper x
theorem nf_nil : Nf [] := ⟨List.Pairwise.nil, fun x hx => by cases hx⟩
theorem nf_tail {x : Sn} {l : List Sn} (h : Nf (x :: l)) : Nf l ∧ (∀ y ∈ l, x.2 < y.1) ∧ Proper x :=
  ⟨⟨(List.pairwise_cons.1 h.1).2, fun y hy => h.2 y (List.mem_cons_of_mem _ hy)⟩, (List.pairwise_cons.1 h.1).1, h.2 x List.mem_cons_self⟩
theorem nf_cons {x : Sn} {l : List Sn} (h : Nf l) (h1 : ∀ y ∈ l, x.2 < y.1) (h2 : Proper x) : Nf (x :: l) :=
  ⟨List.pairwise_cons.2 ⟨h1, h.1⟩, fun y hy => by
    rcases List.mem_cons.1 hy with rfl | hy
    · exact h2
    · exact h.2 y hy⟩
/-- Normal forms are known by their sets. -/
theorem nf_ext : ∀ {l r : List Sn}, Nf l → Nf r → (∀ n, El l n ↔ El r n) → l = r
  | [], [], _, _, _ => rfl
  | [], y :: r, _, hr, h => by
    have hy := (nf_tail hr).2.2
    exact absurd ((h y.1).2 ⟨y, List.mem_cons_self, hy, Int.le_refl _, hy.2.2⟩) (el_nil _)
  | x :: l, [], hl, _, h => by
    have hx := (nf_tail hl).2.2
    exact absurd ((h x.1).1 ⟨x, List.mem_cons_self, hx, Int.le_refl _, hx.2.2⟩) (el_nil _)
  | x :: l, y :: r, hl, hr, h => by
    obtain ⟨hl1, hl2, hx⟩ := nf_tail hl
    obtain ⟨hr1, hr2, hy⟩ := nf_tail hr
    have lowL : ∀ n, El (x :: l) n → x.1 ≤ n := fun n hn => by
      rcases el_cons.1 hn with ⟨-, a, -⟩ | ⟨z, hz, pz, a, -⟩
      · exact a
      · have := hl2 z hz; have := hx.2.2; omega
    have lowR : ∀ n, El (y :: r) n → y.1 ≤ n := fun n hn => by
      rcases el_cons.1 hn with ⟨-, a, -⟩ | ⟨z, hz, pz, a, -⟩
      · exact a
      · have := hr2 z hz; have := hy.2.2; omega
    have e1 : x.1 = y.1 := by
      have a := lowR x.1 ((h _).1 (el_cons.2 (.inl ⟨hx, Int.le_refl _, hx.2.2⟩)))
      have b := lowL y.1 ((h _).2 (el_cons.2 (.inl ⟨hy, Int.le_refl _, hy.2.2⟩)))
      omega
    have endL : ¬ El (x :: l) x.2 := fun hn => by
      rcases el_cons.1 hn with ⟨-, -, a⟩ | ⟨z, hz, pz, a, -⟩
      · omega
      · have := hl2 z hz; omega
    have endR : ¬ El (y :: r) y.2 := fun hn => by
      rcases el_cons.1 hn with ⟨-, -, a⟩ | ⟨z, hz, pz, a, -⟩
      · omega
      · have := hr2 z hz; omega
    have e2 : x.2 = y.2 := by
      have p1 := hx.2.2
      have p2 := hy.2.2
      rcases Int.lt_trichotomy x.2 y.2 with g | g | g
      · exact absurd ((h x.2).2 (el_cons.2 (.inl ⟨hy, by omega, g⟩))) endL
      · exact g
      · exact absurd ((h y.2).1 (el_cons.2 (.inl ⟨hx, by omega, g⟩))) endR
    have e : x = y := by obtain ⟨x1, x2⟩ := x; obtain ⟨y1, y2⟩ := y; simp only at e1 e2; rw [e1, e2]
    subst e
    rw [nf_ext hl1 hr1 (fun n => ?_)]
    have hn := h n
    rw [el_cons, el_cons] at hn
    have outL : x.1 ≤ n ∧ n < x.2 → ¬ El l n := fun c ⟨z, hz, pz, a, _⟩ => by have := hl2 z hz; omega
    have outR : x.1 ≤ n ∧ n < x.2 → ¬ El r n := fun c ⟨z, hz, pz, a, _⟩ => by have := hr2 z hz; omega
    by_cases c : x.1 ≤ n ∧ n < x.2
    · exact ⟨fun k => absurd k (outL c), fun k => absurd k (outR c)⟩
    · constructor
      · intro k
        rcases hn.1 (.inr k) with k2 | k2
        · exact absurd ⟨k2.2.1, k2.2.2⟩ c
        · exact k2
      · intro k
        rcases hn.2 (.inr k) with k2 | k2
        · exact absurd ⟨k2.2.1, k2.2.2⟩ c
        · exact k2
/-- A proper span added to a normal form. -/
def add (x : Sn) : List Sn → List Sn
  | [] => [x]
  | y :: r => if x.2 < y.1 then x :: y :: r else if y.2 < x.1 then y :: add x r else add (min x.1 y.1, max x.2 y.2) r
theorem add_spec : ∀ (l : List Sn) (x : Sn), Nf l → Proper x → Nf (add x l) ∧ (∀ n, El (add x l) n ↔ (x.1 ≤ n ∧ n < x.2) ∨ El l n) ∧ (∀ z : Int, z < x.1 → (∀ y ∈ l, z < y.1) → ∀ y ∈ add x l, z < y.1)
  | [], x, _, hx => ⟨nf_cons nf_nil (fun y hy => by cases hy) hx, fun n => by
      show El [x] n ↔ _
      rw [el_cons]
      exact ⟨fun h => h.imp (fun h => h.2) id, fun h => h.imp (fun h => ⟨hx, h⟩) id⟩, fun z hz _ y hy => by
      obtain rfl := List.mem_singleton.1 hy; exact hz⟩
  | y :: r, x, hl, hx => by
    obtain ⟨hr, hyr, hy⟩ := nf_tail hl
    unfold add
    split
    · rename_i h1
      refine ⟨nf_cons hl (fun z hz => ?_) hx, fun n => ?_, fun z hz hb u hu => ?_⟩
      · rcases List.mem_cons.1 hz with rfl | hz
        · exact h1
        · have := hyr z hz; have := hy.2.2; omega
      · rw [el_cons]
        exact ⟨fun h => h.imp (fun h => h.2) id, fun h => h.imp (fun h => ⟨hx, h⟩) id⟩
      · rcases List.mem_cons.1 hu with rfl | hu
        · exact hz
        · exact hb u hu
    · rename_i h1
      split
      · rename_i h2
        obtain ⟨s1, s2, s3⟩ := add_spec r x hr hx
        refine ⟨nf_cons s1 (s3 y.2 h2 hyr) hy, fun n => ?_, fun z hz hb u hu => ?_⟩
        · rw [el_cons, el_cons, s2]
          constructor
          · rintro (a | a | a)
            · exact .inr (.inl a)
            · exact .inl a
            · exact .inr (.inr a)
          · rintro (a | a | a)
            · exact .inr (.inl a)
            · exact .inl a
            · exact .inr (.inr a)
        · rcases List.mem_cons.1 hu with rfl | hu
          · exact hb u List.mem_cons_self
          · exact s3 z hz (fun v hv => hb v (List.mem_cons_of_mem _ hv)) u hu
      · rename_i h2
        have hm : Proper (min x.1 y.1, max x.2 y.2) := by
          obtain ⟨a1, a2, a3⟩ := hx
          obtain ⟨b1, b2, b3⟩ := hy
          exact ⟨by show _ ≤ min x.1 y.1; omega, by show max x.2 y.2 ≤ _; omega, by show min x.1 y.1 < max x.2 y.2; omega⟩
        obtain ⟨s1, s2, s3⟩ := add_spec r _ hr hm
        refine ⟨s1, fun n => ?_, fun z hz hb u hu => s3 z (by have := hb y List.mem_cons_self; show z < min x.1 y.1; omega) (fun v hv => hb v (List.mem_cons_of_mem _ hv)) u hu⟩
        rw [s2, el_cons]
        have p1 := hx.2.2
        have p2 := hy.2.2
        constructor
        · rintro (a | a)
          · have a' : min x.1 y.1 ≤ n ∧ n < max x.2 y.2 := a
            by_cases c : x.1 ≤ n ∧ n < x.2
            · exact .inl c
            · exact .inr (.inl ⟨hy, by omega, by omega⟩)
          · exact .inr (.inr a)
        · rintro (a | a | a)
          · exact .inl (by show min x.1 y.1 ≤ n ∧ n < max x.2 y.2; omega)
          · exact .inl (by show min x.1 y.1 ≤ n ∧ n < max x.2 y.2; omega)
          · exact .inr a
/-- The normal form of a list's set. -/
def norm : List Sn → List Sn
  | [] => []
  | x :: l => if Proper x then add x (norm l) else norm l
theorem norm_spec : ∀ l : List Sn, Nf (norm l) ∧ ∀ n, El (norm l) n ↔ El l n
  | [] => ⟨nf_nil, fun _ => Iff.rfl⟩
  | x :: l => by
    obtain ⟨h1, h2⟩ := norm_spec l
    unfold norm
    split
    · rename_i hx
      obtain ⟨s1, s2, -⟩ := add_spec (norm l) x h1 hx
      refine ⟨s1, fun n => ?_⟩
      rw [s2, h2, el_cons]
      exact ⟨fun h => h.imp (fun h => ⟨hx, h⟩) id, fun h => h.imp (fun h => h.2) id⟩
    · rename_i hx
      refine ⟨h1, fun n => ?_⟩
      rw [h2, el_cons]
      exact ⟨.inr, fun h => h.elim (fun h => absurd h.1 hx) id⟩
theorem norm_nf (l : List Sn) : Nf (norm l) := (norm_spec l).1
theorem norm_el (l : List Sn) (n : Int) : El (norm l) n ↔ El l n := (norm_spec l).2 n
theorem norm_of {l r : List Sn} (h : Nf r) (he : ∀ n, El r n ↔ El l n) : r = norm l := nf_ext h (norm_nf l) (fun n => (he n).trans (norm_el l n).symm)
theorem norm_same {l r : List Sn} (he : ∀ n, El l n ↔ El r n) : norm l = norm r := nf_ext (norm_nf l) (norm_nf r) (fun n => by rw [norm_el, norm_el, he])
theorem norm_id {l : List Sn} (h : Nf l) : norm l = l := (norm_of h (fun _ => Iff.rfl)).symm
theorem nf_iff (l : List Sn) : Nf l ↔ norm l = l := ⟨norm_id, fun h => h ▸ norm_nf l⟩
/-- Union, intersection, difference. -/
def union (a b : List Sn) : List Sn := norm (a ++ b)
def both (a b : List Sn) : List Sn := a.flatMap fun x => b.map fun y => (max x.1 y.1, min x.2 y.2)
def meet (a b : List Sn) : List Sn := norm (both (norm a) (norm b))
/-- What lies between the spans of a normal form, from lo on. -/
def gaps (lo : Int) : List Sn → List Sn
  | [] => [(lo, 1152921504606846976)]
  | y :: r => (lo, y.1) :: gaps y.2 r
def minus (a b : List Sn) : List Sn := meet a (gaps (-1152921504606846976) (norm b))
theorem union_el (a b : List Sn) (n : Int) : El (union a b) n ↔ El a n ∨ El b n := by unfold union; rw [norm_el, el_append]
theorem both_el (a b : List Sn) (ha : ∀ x ∈ a, Proper x) (hb : ∀ x ∈ b, Proper x) (n : Int) : El (both a b) n ↔ El a n ∧ El b n := by
  unfold both
  constructor
  · rintro ⟨z, hz, -, h1, h2⟩
    obtain ⟨x, hx, hz⟩ := List.mem_flatMap.1 hz
    obtain ⟨y, hy, rfl⟩ := List.mem_map.1 hz
    have h1' : max x.1 y.1 ≤ n := h1
    have h2' : n < min x.2 y.2 := h2
    exact ⟨⟨x, hx, ha x hx, by omega, by omega⟩, ⟨y, hy, hb y hy, by omega, by omega⟩⟩
  · rintro ⟨⟨x, hx, px, x1, x2⟩, ⟨y, hy, py, y1, y2⟩⟩
    refine ⟨(max x.1 y.1, min x.2 y.2), List.mem_flatMap.2 ⟨x, hx, List.mem_map.2 ⟨y, hy, rfl⟩⟩, ?_, by show max x.1 y.1 ≤ n; omega, by show n < min x.2 y.2; omega⟩
    obtain ⟨a1, a2, a3⟩ := px
    obtain ⟨b1, b2, b3⟩ := py
    exact ⟨by show _ ≤ max x.1 y.1; omega, by show min x.2 y.2 ≤ _; omega, by show max x.1 y.1 < min x.2 y.2; omega⟩
theorem meet_el (a b : List Sn) (n : Int) : El (meet a b) n ↔ El a n ∧ El b n := by
  unfold meet
  rw [norm_el, both_el _ _ (norm_nf a).2 (norm_nf b).2, norm_el, norm_el]
theorem gaps_el : ∀ (l : List Sn) (lo n : Int), Nf l → -1152921504606846976 ≤ lo → lo ≤ 1152921504606846976 → (∀ y ∈ l, lo ≤ y.1) → (El (gaps lo l) n ↔ lo ≤ n ∧ n < 1152921504606846976 ∧ ¬ El l n)
  | [], lo, n, _, h0, h1, _ => by
    show El [(lo, _)] n ↔ _
    rw [el_cons]
    constructor
    · rintro (⟨_, a, b⟩ | h)
      · exact ⟨a, b, el_nil _⟩
      · exact absurd h (el_nil _)
    · rintro ⟨a, b, _⟩
      exact .inl ⟨⟨h0, Int.le_refl _, by show lo < _; omega⟩, a, b⟩
  | y :: r, lo, n, hl, h0, h1, hlo => by
    obtain ⟨hr, hyr, hy⟩ := nf_tail hl
    obtain ⟨y1, y2, y3⟩ := hy
    have hly := hlo y List.mem_cons_self
    show El ((lo, y.1) :: gaps y.2 r) n ↔ _
    rw [el_cons, gaps_el r y.2 n hr (by omega) y2 (fun z hz => Int.le_of_lt (hyr z hz)), el_cons]
    constructor
    · rintro (⟨_, a, b⟩ | ⟨a, b, c⟩)
      · have a' : lo ≤ n := a
        have b' : n < y.1 := b
        refine ⟨a', by omega, ?_⟩
        rintro (⟨_, c, _⟩ | ⟨z, hz, _, c, _⟩)
        · omega
        · have := hyr z hz; omega
      · refine ⟨by omega, b, ?_⟩
        rintro (⟨_, _, d⟩ | d)
        · omega
        · exact c d
    · rintro ⟨a, b, c⟩
      by_cases h : n < y.1
      · exact .inl ⟨⟨h0, by show y.1 ≤ _; omega, by show lo < y.1; omega⟩, a, h⟩
      · refine .inr ⟨?_, b, fun d => c (.inr d)⟩
        rcases Int.lt_or_le n y.2 with g | g
        · exact absurd (.inl ⟨⟨y1, y2, y3⟩, by omega, g⟩) c
        · exact g
theorem el_range {l : List Sn} {n : Int} (h : El l n) : -1152921504606846976 ≤ n ∧ n < 1152921504606846976 := by
  obtain ⟨x, _, ⟨a, b, c⟩, d, e⟩ := h
  omega
theorem minus_el (a b : List Sn) (n : Int) : El (minus a b) n ↔ El a n ∧ ¬ El b n := by
  unfold minus
  rw [meet_el, gaps_el (norm b) _ n (norm_nf b) (Int.le_refl _) (by omega) (fun y hy => ((norm_nf b).2 y hy).1), norm_el]
  constructor
  · rintro ⟨h1, _, _, h2⟩; exact ⟨h1, h2⟩
  · rintro ⟨h1, h2⟩
    obtain ⟨r1, r2⟩ := el_range h1
    exact ⟨h1, r1, r2, h2⟩
theorem union_nf (a b : List Sn) : Nf (union a b) := norm_nf _
theorem meet_nf (a b : List Sn) : Nf (meet a b) := norm_nf _
theorem minus_nf (a b : List Sn) : Nf (minus a b) := norm_nf _
/-- The algebra of sets, by the sets alone. -/
theorem set_ext {l r : List Sn} (hl : Nf l) (hr : Nf r) (p q : Int → Prop) (h1 : ∀ n, El l n ↔ p n) (h2 : ∀ n, El r n ↔ q n) (h : ∀ n, p n ↔ q n) : l = r := nf_ext hl hr (fun n => (h1 n).trans ((h n).trans (h2 n).symm))
end Go.Proofs.Ytdoojpilogcnjaa.Sp
