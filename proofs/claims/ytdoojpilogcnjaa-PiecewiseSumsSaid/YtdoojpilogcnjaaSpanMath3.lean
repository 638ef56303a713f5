/- Plain mathematics of sets of integers as lists of intervals, third part: how many spans a result has; what a caller may put in the place of what. No condition but those that each names; it speaks of integers and lists alone. -/
import Derived.Test.YtdoojpilogcnjaaSpanMath2
set_option linter.unusedVariables false
set_option linter.unusedSimpArgs false
namespace Go.Proofs.Ytdoojpilogcnjaa.Sp
theorem nf_start {l : List Sn} (_h : Nf l) {n : Int} (h1 : El l n) (h2 : ¬ El l (n - 1)) : ∃ y ∈ l, y.1 = n := by
  obtain ⟨y, hy, py, a, b⟩ := h1
  refine ⟨y, hy, ?_⟩
  rcases Int.lt_or_le y.1 n with g | g
  · exact absurd ⟨y, hy, py, by omega, by omega⟩ h2
  · omega
theorem nf_end {l : List Sn} (_h : Nf l) {n : Int} (h1 : El l (n - 1)) (h2 : ¬ El l n) : ∃ y ∈ l, y.2 = n := by
  obtain ⟨y, hy, py, a, b⟩ := h1
  refine ⟨y, hy, ?_⟩
  rcases Int.lt_or_le n y.2 with g | g
  · exact absurd ⟨y, hy, py, by omega, g⟩ h2
  · omega
theorem nf_first {l : List Sn} (h : Nf l) {x : Sn} (hx : x ∈ l) : El l x.1 ∧ ¬ El l (x.1 - 1) := by
  have px := h.2 x hx
  refine ⟨⟨x, hx, px, Int.le_refl _, px.2.2⟩, ?_⟩
  rintro ⟨y, hy, py, a, b⟩
  rcases List.pairwise_iff_getElem.1 h.1 with hp
  obtain ⟨i, hi, rfl⟩ := List.getElem_of_mem hx
  obtain ⟨j, hj, rfl⟩ := List.getElem_of_mem hy
  rcases Nat.lt_trichotomy i j with g | g | g
  · have := hp i j hi hj g; have := px.2.2; omega
  · subst g; omega
  · have := hp j i hj hi g; omega
theorem len_sub : ∀ (l S : List Int), l.Nodup → (∀ x ∈ l, x ∈ S) → l.length ≤ S.length
  | [], _, _, _ => Nat.zero_le _
  | x :: l, S, h, hs => by
    have hx := hs x List.mem_cons_self
    have h1 := List.nodup_cons.1 h
    have h2 := len_sub l (S.erase x) h1.2 (fun y hy => (List.mem_erase_of_ne (fun e => h1.1 (by rw [← e]; exact hy))).2 (hs y (List.mem_cons_of_mem _ hy)))
    rw [List.length_erase_of_mem hx] at h2
    have h3 := List.length_pos_of_mem hx
    rw [List.length_cons]
    omega
theorem nf_len {l : List Sn} (h : Nf l) (S : List Int) (hs : ∀ x ∈ l, x.1 ∈ S) : l.length ≤ S.length := by
  have := len_sub (l.map Prod.fst) S (List.pairwise_map.2 (h.1.imp_of_mem (fun {x y} hx _ hxy e => by have := (h.2 x hx).2.2; omega))) (fun y hy => by
    obtain ⟨x, hx, rfl⟩ := List.mem_map.1 hy
    exact hs x hx)
  rwa [List.length_map] at this
theorem add_len : ∀ (l : List Sn) (x : Sn), (add x l).length ≤ l.length + 1
  | [], _ => Nat.le_refl _
  | y :: r, x => by
    unfold add
    split
    · exact Nat.le_refl _
    · split
      · have := add_len r x
        rw [List.length_cons, List.length_cons]; omega
      · have := add_len r (min x.1 y.1, max x.2 y.2)
        rw [List.length_cons]; omega
theorem norm_len : ∀ l : List Sn, (norm l).length ≤ l.length
  | [] => Nat.le_refl _
  | x :: l => by
    have h := norm_len l
    unfold norm
    split
    · have := add_len (norm l) x
      rw [List.length_cons]; omega
    · rw [List.length_cons]; omega
theorem union_len (a b : List Sn) : (union a b).length ≤ a.length + b.length := by
  unfold union
  have := norm_len (a ++ b)
  rwa [List.length_append] at this
theorem meet_len (a b : List Sn) : (meet a b).length ≤ a.length + b.length := by
  have h := nf_len (meet_nf a b) ((norm a).map Prod.fst ++ (norm b).map Prod.fst) (fun x hx => by
    obtain ⟨h1, h2⟩ := nf_first (meet_nf a b) hx
    rw [meet_el] at h1 h2
    rw [List.mem_append]
    by_cases g : El a (x.1 - 1)
    · have k : ¬ El b (x.1 - 1) := fun k => h2 ⟨g, k⟩
      obtain ⟨y, hy, e⟩ := nf_start (norm_nf b) ((norm_el b _).2 h1.2) (fun k' => k ((norm_el b _).1 k'))
      exact .inr (List.mem_map.2 ⟨y, hy, e⟩)
    · obtain ⟨y, hy, e⟩ := nf_start (norm_nf a) ((norm_el a _).2 h1.1) (fun k' => g ((norm_el a _).1 k'))
      exact .inl (List.mem_map.2 ⟨y, hy, e⟩))
  rw [List.length_append, List.length_map, List.length_map] at h
  have := norm_len a
  have := norm_len b
  omega
theorem minus_len (a b : List Sn) : (minus a b).length ≤ a.length + b.length := by
  have h := nf_len (minus_nf a b) ((norm a).map Prod.fst ++ (norm b).map Prod.snd) (fun x hx => by
    obtain ⟨h1, h2⟩ := nf_first (minus_nf a b) hx
    rw [minus_el] at h1 h2
    rw [List.mem_append]
    by_cases g : El a (x.1 - 1)
    · have k : El b (x.1 - 1) := Classical.byContradiction (fun k => h2 ⟨g, k⟩)
      obtain ⟨y, hy, e⟩ := nf_end (norm_nf b) ((norm_el b _).2 k) (fun k' => h1.2 ((norm_el b _).1 k'))
      exact .inr (List.mem_map.2 ⟨y, hy, e⟩)
    · obtain ⟨y, hy, e⟩ := nf_start (norm_nf a) ((norm_el a _).2 h1.1) (fun k' => g ((norm_el a _).1 k'))
      exact .inl (List.mem_map.2 ⟨y, hy, e⟩))
  rw [List.length_append, List.length_map, List.length_map] at h
  have := norm_len a
  have := norm_len b
  omega
/-- A normal form step by step, its spans coming in the order of their beginnings: what the last span does. -/
def grow : List Sn → Sn → List Sn
  | [], x => [x]
  | [y], x => if x.1 ≤ y.2 then [(y.1, max y.2 x.2)] else [y, x]
  | y :: z :: r, x => y :: grow (z :: r) x
theorem grow_snoc (y : Sn) : ∀ (p : List Sn) (x : Sn), grow (p ++ [y]) x = p ++ (if x.1 ≤ y.2 then [(y.1, max y.2 x.2)] else [y, x])
  | [], x => rfl
  | [z], x => rfl
  | z :: u :: r, x => by
    show z :: grow (u :: r ++ [y]) x = _
    rw [grow_snoc y (u :: r) x]; rfl
theorem grow_spec (l : List Sn) (x : Sn) (h : Nf l) (hx : Proper x) (ho : ∀ y ∈ l, y.1 ≤ x.1) : Nf (grow l x) ∧ (∀ n, El (grow l x) n ↔ El l n ∨ (x.1 ≤ n ∧ n < x.2)) ∧ ∀ y ∈ grow l x, y.1 ≤ x.1 := by
  rcases List.eq_nil_or_concat l with rfl | ⟨p, y, rfl⟩
  · refine ⟨nf_cons nf_nil (fun y hy => by cases hy) hx, fun n => ?_, fun y hy => ?_⟩
    · show El [x] n ↔ _
      rw [el_cons]
      exact ⟨fun h => h.elim (fun h => .inr h.2) (fun h => absurd h (el_nil _)), fun h => h.elim (fun h => absurd h (el_nil _)) (fun h => .inl ⟨hx, h⟩)⟩
    · obtain rfl := List.mem_singleton.1 hy
      exact Int.le_refl _
  · rw [List.concat_eq_append] at h ho ⊢
    have hy : Proper y := h.2 y (by simp)
    have hoy := ho y (by simp)
    have hpp := List.pairwise_append.1 h.1
    have hp : Nf p := ⟨hpp.1, fun z hz => h.2 z (by simp [hz])⟩
    have hpy : ∀ z ∈ p, z.2 < y.1 := fun z hz => hpp.2.2 z hz y (by simp)
    have app : ∀ q : List Sn, Nf q → (∀ z ∈ p, ∀ u ∈ q, z.2 < u.1) → Nf (p ++ q) := fun q hq hpq => ⟨List.pairwise_append.2 ⟨hp.1, hq.1, hpq⟩, fun z hz => (List.mem_append.1 hz).elim (hp.2 z) (hq.2 z)⟩
    obtain ⟨x1, x2, x3⟩ := hx
    obtain ⟨y1, y2, y3⟩ := hy
    rw [grow_snoc]
    split
    · rename_i hle
      have hm : Proper (y.1, max y.2 x.2) := ⟨y1, by show max y.2 x.2 ≤ _; omega, by show y.1 < max y.2 x.2; omega⟩
      refine ⟨app _ (nf_cons nf_nil (fun z hz => by cases hz) hm) (fun z hz u hu => by obtain rfl := List.mem_singleton.1 hu; exact hpy z hz), fun n => ?_, fun z hz => ?_⟩
      · rw [el_append, el_append, el_cons, el_cons]
        constructor
        · rintro (a | ⟨_, a, b⟩ | a)
          · exact .inl (.inl a)
          · have a' : y.1 ≤ n := a
            have b' : n < max y.2 x.2 := b
            by_cases c : n < y.2
            · exact .inl (.inr (.inl ⟨⟨y1, y2, y3⟩, a', c⟩))
            · exact .inr (by omega)
          · exact absurd a (el_nil _)
        · rintro ((a | ⟨_, a, b⟩ | a) | a)
          · exact .inl a
          · exact .inr (.inl ⟨hm, a, by show n < max y.2 x.2; omega⟩)
          · exact absurd a (el_nil _)
          · exact .inr (.inl ⟨hm, by show y.1 ≤ n; omega, by show n < max y.2 x.2; omega⟩)
      · rcases List.mem_append.1 hz with hz | hz
        · exact ho z (List.mem_append_left _ hz)
        · obtain rfl := List.mem_singleton.1 hz
          exact hoy
    · rename_i hle
      refine ⟨app _ (nf_cons (nf_cons nf_nil (fun z hz => by cases hz) ⟨x1, x2, x3⟩) (fun z hz => by obtain rfl := List.mem_singleton.1 hz; omega) ⟨y1, y2, y3⟩) (fun z hz u hu => ?_), fun n => ?_, fun z hz => ?_⟩
      · have h1 := hpy z hz
        rcases List.mem_cons.1 hu with rfl | hu
        · exact h1
        · obtain rfl := List.mem_singleton.1 hu
          omega
      · rw [el_append, el_append, el_cons, el_cons, el_cons]
        constructor
        · rintro (a | a | ⟨_, a⟩ | a)
          · exact .inl (.inl a)
          · exact .inl (.inr (.inl a))
          · exact .inr a
          · exact absurd a (el_nil _)
        · rintro ((a | a | a) | a)
          · exact .inl a
          · exact .inr (.inl a)
          · exact absurd a (el_nil _)
          · exact .inr (.inr (.inl ⟨⟨x1, x2, x3⟩, a⟩))
      · rcases List.mem_append.1 hz with hz | hz
        · exact ho z (List.mem_append_left _ hz)
        · rcases List.mem_cons.1 hz with rfl | hz
          · exact hoy
          · obtain rfl := List.mem_singleton.1 hz
            exact Int.le_refl _
end Go.Proofs.Ytdoojpilogcnjaa.Sp
