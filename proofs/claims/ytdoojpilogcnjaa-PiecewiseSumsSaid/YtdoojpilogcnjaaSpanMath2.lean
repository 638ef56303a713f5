/- Plain mathematics of sets of integers as lists of intervals, second part: sizes, shifts, the algebra of sets. No condition but those that each names; it speaks of integers and lists alone. -/
import Derived.Test.YtdoojpilogcnjaaSpanMath
import Derived.Test.YtdoojpilogcnjaaZoneMath2
set_option linter.unusedVariables false
set_option linter.unusedSimpArgs false
namespace Go.Proofs.Ytdoojpilogcnjaa.Sp
open Go.Proofs.Ytdoojpilogcnjaa.Zn (cnt cnt_congr cnt_add cnt_interval cnt_or cnt_le)
def has (l : List Sn) (n : Int) : Bool := l.any fun x => decide (Proper x) && decide (x.1 ≤ n ∧ n < x.2)
theorem has_el (l : List Sn) (n : Int) : has l n = true ↔ El l n := by
  unfold has El
  rw [List.any_eq_true]
  constructor
  · rintro ⟨x, hx, h⟩
    simp only [Bool.and_eq_true, decide_eq_true_eq] at h
    exact ⟨x, hx, h.1, h.2.1, h.2.2⟩
  · rintro ⟨x, hx, h1, h2, h3⟩
    exact ⟨x, hx, by simp only [Bool.and_eq_true, decide_eq_true_eq]; exact ⟨h1, h2, h3⟩⟩
theorem has_same {l r : List Sn} {n m : Int} (h : El l n ↔ El r m) : has l n = has r m := by
  rw [Bool.eq_iff_iff, has_el, has_el, h]
/-- The length of a list of spans. -/
def tot : List Sn → Int
  | [] => 0
  | x :: r => x.2 - x.1 + tot r
def size (l : List Sn) : Int := tot (norm l)
theorem nf_cnt (K : Nat) (hK : (K : Int) = 2305843009213693952) : ∀ l : List Sn, Nf l → tot l = (cnt (-1152921504606846976) (has l) K : Int)
  | [], _ => by
    have : cnt (-1152921504606846976) (has []) K = cnt (-1152921504606846976) (fun s => decide (0 ≤ s ∧ s < 0)) K := cnt_congr _ _ (fun s _ _ => by
      show false = decide _
      exact (decide_eq_false (by omega)).symm)
    rw [this, cnt_interval]
    show 0 = _
    omega
  | x :: l, h => by
    obtain ⟨hl, hx, px⟩ := nf_tail h
    have h1 : cnt (-1152921504606846976) (has (x :: l)) K = cnt (-1152921504606846976) (fun s => decide (x.1 ≤ s ∧ s < x.2) || has l s) K := cnt_congr _ _ (fun s _ _ => by
      show (decide (Proper x) && decide (x.1 ≤ s ∧ s < x.2) || has l s) = _
      rw [decide_eq_true px, Bool.true_and])
    rw [h1, cnt_or _ _ _ (fun s ⟨a, b⟩ => by
      have a' := of_decide_eq_true a
      obtain ⟨y, hy, -, c, -⟩ := (has_el l s).1 b
      have := hx y hy
      omega), Int.natCast_add, cnt_interval, ← nf_cnt K hK l hl]
    obtain ⟨p1, p2, p3⟩ := px
    show x.2 - x.1 + tot l = _
    omega
theorem cnt_incl (lo : Int) (p q : Int → Bool) : ∀ k : Nat, cnt lo (fun s => p s || q s) k + cnt lo (fun s => p s && q s) k = cnt lo p k + cnt lo q k
  | 0 => rfl
  | k + 1 => by
    have ih := cnt_incl lo p q k
    unfold cnt
    cases p (lo + k) <;> cases q (lo + k) <;> simp <;> omega
theorem cnt_excl (lo : Int) (p q : Int → Bool) : ∀ k : Nat, cnt lo (fun s => p s && !q s) k + cnt lo (fun s => p s && q s) k = cnt lo p k
  | 0 => rfl
  | k + 1 => by
    have ih := cnt_excl lo p q k
    unfold cnt
    cases p (lo + k) <;> cases q (lo + k) <;> simp <;> omega
theorem size_cnt (K : Nat) (hK : (K : Int) = 2305843009213693952) (l : List Sn) : size l = (cnt (-1152921504606846976) (has l) K : Int) := by
  unfold size
  rw [nf_cnt K hK _ (norm_nf l), cnt_congr _ K (fun s _ _ => has_same (norm_el l s))]
theorem bigK : ∃ K : Nat, (K : Int) = 2305843009213693952 := ⟨Int.toNat 2305843009213693952, Int.toNat_of_nonneg (by decide)⟩
theorem size_bd (l : List Sn) : 0 ≤ size l ∧ size l ≤ 2305843009213693952 := by
  obtain ⟨K, hK⟩ := bigK
  rw [size_cnt K hK]
  have := cnt_le (-1152921504606846976) (has l) K
  omega
theorem has_or (a b : List Sn) (s : Int) : has (union a b) s = (has a s || has b s) := by
  rw [Bool.eq_iff_iff, has_el, union_el, Bool.or_eq_true, has_el, has_el]
theorem has_and (a b : List Sn) (s : Int) : has (meet a b) s = (has a s && has b s) := by
  rw [Bool.eq_iff_iff, has_el, meet_el, Bool.and_eq_true, has_el, has_el]
theorem has_not (a b : List Sn) (s : Int) : has (minus a b) s = (has a s && !has b s) := by
  rw [Bool.eq_iff_iff, has_el, minus_el, Bool.and_eq_true, has_el, Bool.not_eq_true', ← Bool.not_eq_true, has_el]
theorem has_norm (a : List Sn) (s : Int) : has (norm a) s = has a s := has_same (norm_el a s)
theorem size_union (a b : List Sn) : size (union a b) + size (meet a b) = size a + size b := by
  obtain ⟨K, hK⟩ := bigK
  rw [size_cnt K hK, size_cnt K hK, size_cnt K hK, size_cnt K hK, cnt_congr _ K (fun s _ _ => has_or a b s), cnt_congr _ K (fun s _ _ => has_and a b s)]
  have := cnt_incl (-1152921504606846976) (has a) (has b) K
  omega
theorem size_minus (a b : List Sn) : size (minus a b) + size (meet a b) = size a := by
  obtain ⟨K, hK⟩ := bigK
  rw [size_cnt K hK, size_cnt K hK, size_cnt K hK, cnt_congr _ K (fun s _ _ => has_not a b s), cnt_congr _ K (fun s _ _ => has_and a b s)]
  have := cnt_excl (-1152921504606846976) (has a) (has b) K
  omega
theorem tot_pos : ∀ l : List Sn, (∀ x ∈ l, Proper x) → 0 ≤ tot l ∧ (tot l = 0 → l = [])
  | [], _ => ⟨Int.le_refl _, fun _ => rfl⟩
  | x :: l, h => by
    have h1 := tot_pos l (fun y hy => h y (List.mem_cons_of_mem _ hy))
    have h2 := (h x List.mem_cons_self).2.2
    have e : tot (x :: l) = x.2 - x.1 + tot l := rfl
    exact ⟨by omega, fun h3 => absurd h3 (by omega)⟩
theorem size_zero (l : List Sn) : size l = 0 ↔ norm l = [] :=
  ⟨(tot_pos _ (norm_nf l).2).2, fun h => by unfold size; rw [h]; rfl⟩
theorem size_same {l r : List Sn} (h : ∀ n, El l n ↔ El r n) : size l = size r := by unfold size; rw [norm_same h]
/-- The algebra. -/
theorem el_norm (a : List Sn) (n : Int) : El (norm a) n ↔ El a n := norm_el a n
section
variable (a b c : List Sn)
theorem union_comm : union a b = union b a := norm_same (fun n => by rw [el_append, el_append, or_comm])
theorem meet_comm : meet a b = meet b a := set_ext (meet_nf _ _) (meet_nf _ _) _ _ (meet_el a b) (meet_el b a) (fun _ => and_comm)
theorem union_self : union a a = norm a := norm_same (fun n => by rw [el_append, or_self])
theorem meet_self : meet a a = norm a := set_ext (meet_nf _ _) (norm_nf _) _ _ (meet_el a a) (norm_el a) (fun _ => and_self_iff)
theorem union_none : union a [] = norm a := by unfold union; rw [List.append_nil]
theorem union_assoc : union (union a b) c = union a (union b c) := set_ext (union_nf _ _) (union_nf _ _) _ _ (union_el _ _) (union_el _ _) (fun n => by rw [union_el, union_el, or_assoc])
theorem meet_assoc : meet (meet a b) c = meet a (meet b c) := set_ext (meet_nf _ _) (meet_nf _ _) _ _ (meet_el _ _) (meet_el _ _) (fun n => by rw [meet_el, meet_el, and_assoc])
theorem meet_union : meet a (union b c) = union (meet a b) (meet a c) := set_ext (meet_nf _ _) (union_nf _ _) _ _ (meet_el _ _) (union_el _ _) (fun n => by rw [union_el, meet_el, meet_el, and_or_left])
theorem union_meet : union a (meet b c) = meet (union a b) (union a c) := set_ext (union_nf _ _) (meet_nf _ _) _ _ (union_el _ _) (meet_el _ _) (fun n => by rw [meet_el, union_el, union_el, or_and_left])
theorem minus_minus : minus a (minus a b) = meet a b := set_ext (minus_nf _ _) (meet_nf _ _) _ _ (minus_el _ _) (meet_el _ _) (fun n => by
  rw [minus_el]
  by_cases h : El b n <;> by_cases g : El a n <;> simp [h, g])
theorem minus_union : minus a (union b c) = meet (minus a b) (minus a c) := set_ext (minus_nf _ _) (meet_nf _ _) _ _ (minus_el _ _) (meet_el _ _) (fun n => by
  rw [union_el, minus_el, minus_el]
  by_cases h : El b n <;> by_cases g : El a n <;> by_cases k : El c n <;> simp [h, g, k])
theorem minus_meet : minus a (meet b c) = union (minus a b) (minus a c) := set_ext (minus_nf _ _) (union_nf _ _) _ _ (minus_el _ _) (union_el _ _) (fun n => by
  rw [meet_el, minus_el, minus_el]
  by_cases h : El b n <;> by_cases g : El a n <;> by_cases k : El c n <;> simp [h, g, k])
end
/-- Lists with one set have one of everything. -/
theorem union_same {a a' b b' : List Sn} (h : ∀ n, El a n ↔ El a' n) (g : ∀ n, El b n ↔ El b' n) : union a b = union a' b' := norm_same (fun n => by rw [el_append, el_append, h, g])
theorem meet_same {a a' b b' : List Sn} (h : ∀ n, El a n ↔ El a' n) (g : ∀ n, El b n ↔ El b' n) : meet a b = meet a' b' := set_ext (meet_nf _ _) (meet_nf _ _) _ _ (meet_el _ _) (meet_el _ _) (fun n => by rw [h, g])
theorem minus_same {a a' b b' : List Sn} (h : ∀ n, El a n ↔ El a' n) (g : ∀ n, El b n ↔ El b' n) : minus a b = minus a' b' := set_ext (minus_nf _ _) (minus_nf _ _) _ _ (minus_el _ _) (minus_el _ _) (fun n => by rw [h, g])
/-- A list moved. -/
def mv (k : Int) (l : List Sn) : List Sn := l.map fun x => (x.1 + k, x.2 + k)
/-- Bounds that are not far. -/
def Near (l : List Sn) : Prop := ∀ x ∈ l, -1125899906842624 ≤ x.1 ∧ x.1 ≤ 1125899906842624 ∧ -1125899906842624 ≤ x.2 ∧ x.2 ≤ 1125899906842624
theorem near_el {l : List Sn} (h : Near l) {n : Int} (hn : El l n) : -1125899906842624 ≤ n ∧ n < 1125899906842624 := by
  obtain ⟨x, hx, -, a, b⟩ := hn
  have := h x hx
  omega
theorem nf_near {l : List Sn} (h : Nf l) (hb : ∀ n, El l n → -1125899906842624 ≤ n ∧ n < 1125899906842624) : Near l := fun x hx => by
  have px := h.2 x hx
  have h1 := hb x.1 ⟨x, hx, px, Int.le_refl _, px.2.2⟩
  have h2 := hb (x.2 - 1) ⟨x, hx, px, by have := px.2.2; omega, by omega⟩
  omega
section
variable {k : Int} (k0 : -1125899906842624 ≤ k) (k1 : k ≤ 1125899906842624)
include k0 k1
theorem mv_el {l : List Sn} (h : Near l) (n : Int) : El (mv k l) n ↔ El l (n - k) := by
  constructor
  · rintro ⟨y, hy, py, a, b⟩
    obtain ⟨x, hx, rfl⟩ := List.mem_map.1 hy
    have := h x hx
    have a' : x.1 + k ≤ n := a
    have b' : n < x.2 + k := b
    exact ⟨x, hx, ⟨by omega, by omega, by omega⟩, by omega, by omega⟩
  · rintro ⟨x, hx, px, a, b⟩
    have := h x hx
    refine ⟨(x.1 + k, x.2 + k), List.mem_map.2 ⟨x, hx, rfl⟩, ⟨by show _ ≤ x.1 + k; omega, by show x.2 + k ≤ _; omega, by show x.1 + k < x.2 + k; omega⟩, by show x.1 + k ≤ n; omega, by show n < x.2 + k; omega⟩
theorem mv_nf {l : List Sn} (h : Nf l) (hb : Near l) : Nf (mv k l) :=
  ⟨List.pairwise_map.2 (h.1.imp (fun {x y} hxy => by show x.2 + k < y.1 + k; omega)), fun y hy => by
    obtain ⟨x, hx, rfl⟩ := List.mem_map.1 hy
    have := hb x hx
    have p := (h.2 x hx).2.2
    exact ⟨by show _ ≤ x.1 + k; omega, by show x.2 + k ≤ _; omega, by show x.1 + k < x.2 + k; omega⟩⟩
theorem mv_of {l : List Sn} (hl : Nf l) (hb : Near l) {r : List Sn} (hr : Nf r) (h : ∀ n, El r n ↔ El l (n - k)) : r = mv k l :=
  nf_ext hr (mv_nf k0 k1 hl hb) (fun n => (h n).trans (mv_el k0 k1 hb n).symm)
theorem mv_norm {a : List Sn} (ha : Near a) : norm (mv k a) = mv k (norm a) :=
  mv_of k0 k1 (norm_nf a) (nf_near (norm_nf a) (fun n hn => near_el ha ((norm_el a n).1 hn))) (norm_nf _) (fun n => by rw [norm_el, norm_el, mv_el k0 k1 ha])
theorem mv_union {a b : List Sn} (ha : Near a) (hb : Near b) : union (mv k a) (mv k b) = mv k (union a b) :=
  mv_of k0 k1 (union_nf a b) (nf_near (union_nf a b) (fun n hn => ((union_el a b n).1 hn).elim (near_el ha) (near_el hb))) (union_nf _ _) (fun n => by rw [union_el, union_el, mv_el k0 k1 ha, mv_el k0 k1 hb])
theorem mv_meet {a b : List Sn} (ha : Near a) (hb : Near b) : meet (mv k a) (mv k b) = mv k (meet a b) :=
  mv_of k0 k1 (meet_nf a b) (nf_near (meet_nf a b) (fun n hn => near_el ha ((meet_el a b n).1 hn).1)) (meet_nf _ _) (fun n => by rw [meet_el, meet_el, mv_el k0 k1 ha, mv_el k0 k1 hb])
theorem mv_minus {a b : List Sn} (ha : Near a) (hb : Near b) : minus (mv k a) (mv k b) = mv k (minus a b) :=
  mv_of k0 k1 (minus_nf a b) (nf_near (minus_nf a b) (fun n hn => near_el ha ((minus_el a b n).1 hn).1)) (minus_nf _ _) (fun n => by rw [minus_el, minus_el, mv_el k0 k1 ha, mv_el k0 k1 hb])
omit k0 k1 in
theorem tot_mv : ∀ l : List Sn, tot (mv k l) = tot l
  | [] => rfl
  | x :: l => by
    show x.2 + k - (x.1 + k) + tot (mv k l) = x.2 - x.1 + tot l
    rw [tot_mv l]; omega
theorem mv_size {a : List Sn} (ha : Near a) : size (mv k a) = size a := by
  unfold size
  rw [mv_norm k0 k1 ha, tot_mv]
omit k0 k1 in
theorem mv_inj : ∀ {l r : List Sn}, mv k l = mv k r → l = r
  | [], [], _ => rfl
  | [], y :: r, h => by cases h
  | x :: l, [], h => by cases h
  | x :: l, y :: r, h => by
    have h1 : (x.1 + k, x.2 + k) = (y.1 + k, y.2 + k) := (List.cons.inj h).1
    have h2 : mv k l = mv k r := (List.cons.inj h).2
    have e1 : x.1 + k = y.1 + k := congrArg Prod.fst h1
    have e2 : x.2 + k = y.2 + k := congrArg Prod.snd h1
    rw [mv_inj h2]
    obtain ⟨x1, x2⟩ := x
    obtain ⟨y1, y2⟩ := y
    simp only at e1 e2
    rw [show x1 = y1 by omega, show x2 = y2 by omega]
theorem mv_valid {a : List Sn} (ha : Near a) : Nf (mv k a) ↔ Nf a := by
  rw [nf_iff, nf_iff, mv_norm k0 k1 ha]
  exact ⟨mv_inj, fun h => by rw [h]⟩
end
/-- A span divided. -/
theorem part_el (p q : List Sn) (s : Sn) (m : Int) (hs : Proper s) (h1 : s.1 < m) (h2 : m < s.2) (n : Int) : El (p ++ [(m, s.2), (s.1, m)] ++ q) n ↔ El (p ++ s :: q) n := by
  obtain ⟨a, b, c⟩ := hs
  rw [el_append, el_append, el_append, el_cons, el_cons, el_cons]
  have e1 : Proper (m, s.2) := ⟨by show _ ≤ m; omega, b, h2⟩
  have e2 : Proper (s.1, m) := ⟨a, by show m ≤ _; omega, h1⟩
  constructor
  · rintro ((h | (⟨_, u, v⟩ | ⟨_, u, v⟩ | h)) | h)
    · exact .inl h
    · have u' : m ≤ n := u
      have v' : n < s.2 := v
      exact .inr (.inl ⟨⟨a, b, c⟩, by omega, v'⟩)
    · have u' : s.1 ≤ n := u
      have v' : n < m := v
      exact .inr (.inl ⟨⟨a, b, c⟩, u', by omega⟩)
    · exact absurd h (el_nil _)
    · exact .inr (.inr h)
  · rintro (h | (⟨_, u, v⟩ | h))
    · exact .inl (.inl h)
    · by_cases g : n < m
      · exact .inl (.inr (.inr (.inl ⟨e2, u, g⟩)))
      · exact .inl (.inr (.inl ⟨e1, by show m ≤ n; omega, v⟩))
    · exact .inr h
end Go.Proofs.Ytdoojpilogcnjaa.Sp
