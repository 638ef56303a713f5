/- Plain mathematics of sets of integers as lists of intervals, fourth part: merging two sorted lists, intersecting two normal forms step by step, what lies between. No condition but those that each names; it speaks of integers and lists alone. -/
import Derived.Test.YtdoojpilogcnjaaSpanMath3
set_option linter.unusedVariables false
set_option linter.unusedSimpArgs false
namespace Go.Proofs.Ytdoojpilogcnjaa.Sp
/-- Two lists merged by the beginnings of their spans. -/
def mg : List Sn → List Sn → List Sn
  | [], r => r
  | x :: l, [] => x :: l
  | x :: l, y :: r => if x.1 ≤ y.1 then x :: mg l (y :: r) else y :: mg (x :: l) r
  termination_by l r => l.length + r.length
theorem mg_nil (l : List Sn) : mg [] l = l := by unfold mg; rfl
theorem mg_nil2 (l : List Sn) : mg l [] = l := by cases l <;> (unfold mg; rfl)
theorem mg_left {x y : Sn} {l r : List Sn} (h : x.1 ≤ y.1) : mg (x :: l) (y :: r) = x :: mg l (y :: r) := by rw [mg, if_pos h]
theorem mg_right {x y : Sn} {l r : List Sn} (h : ¬ x.1 ≤ y.1) : mg (x :: l) (y :: r) = y :: mg (x :: l) r := by rw [mg, if_neg h]
def Asc (l : List Sn) : Prop := l.Pairwise (fun x y => x.1 ≤ y.1)
theorem mg_spec : ∀ (n : Nat) (l r : List Sn), l.length + r.length ≤ n → (mg l r).length = l.length + r.length ∧ (∀ x, x ∈ mg l r ↔ x ∈ l ∨ x ∈ r) ∧ (Asc l → Asc r → Asc (mg l r))
  | _, [], r, _ => by
    rw [mg_nil]
    exact ⟨by simp, fun x => by simp, fun _ h => h⟩
  | _, x :: l, [], _ => by
    rw [mg_nil2]
    exact ⟨by simp, fun x => by simp, fun h _ => h⟩
  | 0, x :: l, y :: r, h => by simp at h
  | n + 1, x :: l, y :: r, h => by
    rw [List.length_cons, List.length_cons] at h
    by_cases c : x.1 ≤ y.1
    · obtain ⟨h1, h2, h3⟩ := mg_spec n l (y :: r) (by rw [List.length_cons]; omega)
      rw [mg_left c]
      refine ⟨by rw [List.length_cons, h1, List.length_cons, List.length_cons]; omega, fun z => ?_, fun ha hb => ?_⟩
      · rw [List.mem_cons, h2, List.mem_cons (a := z) (b := x), or_assoc]
      · refine List.pairwise_cons.2 ⟨fun z hz => ?_, h3 (List.pairwise_cons.1 ha).2 hb⟩
        rcases (h2 z).1 hz with hz | hz
        · exact (List.pairwise_cons.1 ha).1 z hz
        · rcases List.mem_cons.1 hz with rfl | hz
          · exact c
          · have := (List.pairwise_cons.1 hb).1 z hz; omega
    · obtain ⟨h1, h2, h3⟩ := mg_spec n (x :: l) r (by rw [List.length_cons]; omega)
      rw [mg_right c]
      refine ⟨by rw [List.length_cons, h1, List.length_cons, List.length_cons]; omega, fun z => ?_, fun ha hb => ?_⟩
      · rw [List.mem_cons, h2, List.mem_cons (a := z) (b := y)]
        constructor
        · rintro (a | a | a)
          · exact .inr (.inl a)
          · exact .inl a
          · exact .inr (.inr a)
        · rintro (a | a | a)
          · exact .inr (.inl a)
          · exact .inl a
          · exact .inr (.inr a)
      · refine List.pairwise_cons.2 ⟨fun z hz => ?_, h3 ha (List.pairwise_cons.1 hb).2⟩
        rcases (h2 z).1 hz with hz | hz
        · rcases List.mem_cons.1 hz with rfl | hz
          · omega
          · have := (List.pairwise_cons.1 ha).1 z hz; omega
        · exact (List.pairwise_cons.1 hb).1 z hz
theorem mg_len (l r : List Sn) : (mg l r).length = l.length + r.length := (mg_spec _ l r (Nat.le_refl _)).1
theorem mg_mem (l r : List Sn) (x : Sn) : x ∈ mg l r ↔ x ∈ l ∨ x ∈ r := (mg_spec _ l r (Nat.le_refl _)).2.1 x
theorem mg_asc {l r : List Sn} (h : Asc l) (k : Asc r) : Asc (mg l r) := (mg_spec _ l r (Nat.le_refl _)).2.2 h k
theorem el_mem {l r : List Sn} (h : ∀ x, x ∈ l ↔ x ∈ r) (n : Int) : El l n ↔ El r n :=
  ⟨fun ⟨x, hx, k⟩ => ⟨x, (h x).1 hx, k⟩, fun ⟨x, hx, k⟩ => ⟨x, (h x).2 hx, k⟩⟩
/-- A sweep over sorted spans. -/
def sweep : List Sn → List Sn → List Sn
  | out, [] => out
  | out, x :: l => sweep (if Proper x then grow out x else out) l
theorem sweep_spec : ∀ (s out : List Sn), Nf out → Asc s → (∀ y ∈ out, ∀ x ∈ s, y.1 ≤ x.1) → Nf (sweep out s) ∧ ∀ n, El (sweep out s) n ↔ El out n ∨ El s n
  | [], out, h, _, _ => ⟨h, fun n => ⟨.inl, fun k => k.elim id (fun k => absurd k (el_nil _))⟩⟩
  | x :: l, out, h, ha, ho => by
    have ha' := List.pairwise_cons.1 ha
    unfold sweep
    split
    · rename_i hx
      obtain ⟨g1, g2, g3⟩ := grow_spec out x h hx (fun y hy => ho y hy x List.mem_cons_self)
      obtain ⟨s1, s2⟩ := sweep_spec l (grow out x) g1 ha'.2 (fun y hy z hz => Int.le_trans (g3 y hy) (ha'.1 z hz))
      refine ⟨s1, fun n => ?_⟩
      rw [s2, g2, el_cons, or_assoc]
      exact ⟨fun k => k.imp id (fun k => k.imp (fun k => ⟨hx, k⟩) id), fun k => k.imp id (fun k => k.imp (fun k => k.2) id)⟩
    · rename_i hx
      obtain ⟨s1, s2⟩ := sweep_spec l out h ha'.2 (fun y hy z hz => ho y hy z (List.mem_cons_of_mem _ hz))
      refine ⟨s1, fun n => ?_⟩
      rw [s2, el_cons]
      exact ⟨fun k => k.imp id .inr, fun k => k.imp id (fun k => k.elim (fun k => absurd k.1 hx) id)⟩
theorem sweep_norm {s l : List Sn} (ha : Asc s) (hm : ∀ x, x ∈ s ↔ x ∈ l) : sweep [] s = norm l := by
  obtain ⟨h1, h2⟩ := sweep_spec s [] nf_nil ha (fun y hy => by cases hy)
  exact norm_of h1 (fun n => by
    rw [h2, el_mem hm n]
    exact ⟨fun k => k.elim (fun k => absurd k (el_nil _)) id, .inr⟩)
/-- Two normal forms intersected step by step. -/
def isect : List Sn → List Sn → List Sn
  | [], _ => []
  | _ :: _, [] => []
  | x :: l, y :: r => (if max x.1 y.1 < min x.2 y.2 then [(max x.1 y.1, min x.2 y.2)] else []) ++ (if x.2 < y.2 then isect l (y :: r) else isect (x :: l) r)
  termination_by l r => l.length + r.length
theorem isect_nil (l : List Sn) : isect [] l = [] := by unfold isect; rfl
theorem isect_nil2 (l : List Sn) : isect l [] = [] := by cases l <;> (unfold isect; rfl)
theorem isect_cons (x y : Sn) (l r : List Sn) : isect (x :: l) (y :: r) = (if max x.1 y.1 < min x.2 y.2 then [(max x.1 y.1, min x.2 y.2)] else []) ++ (if x.2 < y.2 then isect l (y :: r) else isect (x :: l) r) := by rw [isect]
theorem isect_spec : ∀ (n : Nat) (l r : List Sn), l.length + r.length ≤ n → Nf l → Nf r → Nf (isect l r) ∧ (∀ m, El (isect l r) m ↔ El l m ∧ El r m)
  | _, [], r, _, _, _ => by
    rw [isect_nil]
    exact ⟨nf_nil, fun m => ⟨fun k => absurd k (el_nil _), fun k => absurd k.1 (el_nil _)⟩⟩
  | _, x :: l, [], _, _, _ => by
    rw [isect_nil2]
    exact ⟨nf_nil, fun m => ⟨fun k => absurd k (el_nil _), fun k => absurd k.2 (el_nil _)⟩⟩
  | 0, x :: l, y :: r, h, _, _ => by simp at h
  | n + 1, x :: l, y :: r, h, hl, hr => by
    rw [List.length_cons, List.length_cons] at h
    obtain ⟨hl1, hl2, x1, x2, x3⟩ := nf_tail hl
    obtain ⟨hr1, hr2, y1, y2, y3⟩ := nf_tail hr
    have hL : ∀ m, El l m → x.2 < m := fun m ⟨z, hz, _, a, _⟩ => by have := hl2 z hz; omega
    have hR : ∀ m, El r m → y.2 < m := fun m ⟨z, hz, _, a, _⟩ => by have := hr2 z hz; omega
    rw [isect_cons]
    have key : ∀ q : List Sn, Nf q → (∀ m, El q m → min x.2 y.2 < m) → (∀ m, El q m ↔ (El (x :: l) m ∧ El (y :: r) m) ∧ min x.2 y.2 ≤ m) →
        Nf ((if max x.1 y.1 < min x.2 y.2 then [(max x.1 y.1, min x.2 y.2)] else []) ++ q) ∧ ∀ m, El ((if max x.1 y.1 < min x.2 y.2 then [(max x.1 y.1, min x.2 y.2)] else []) ++ q) m ↔ El (x :: l) m ∧ El (y :: r) m := fun q hq hq2 hq3 => by
      have low : ∀ m, m < min x.2 y.2 → ((El (x :: l) m ∧ El (y :: r) m) ↔ max x.1 y.1 ≤ m) := fun m hm => by
        rw [el_cons, el_cons]
        constructor
        · rintro ⟨(⟨_, a, b⟩ | a), (⟨_, c, d⟩ | c)⟩
          · omega
          · have := hR m c; omega
          · have := hL m a; omega
          · have := hL m a; omega
        · intro k
          exact ⟨.inl ⟨⟨x1, x2, x3⟩, by omega, by omega⟩, .inl ⟨⟨y1, y2, y3⟩, by omega, by omega⟩⟩
      split
      · rename_i c
        have hp : Proper (max x.1 y.1, min x.2 y.2) := ⟨by show _ ≤ max x.1 y.1; omega, by show min x.2 y.2 ≤ _; omega, c⟩
        refine ⟨nf_cons hq (fun z hz => ?_) hp, fun m => ?_⟩
        · have pz := hq.2 z hz
          exact hq2 z.1 ⟨z, hz, pz, Int.le_refl _, pz.2.2⟩
        · rw [List.singleton_append, el_cons, hq3]
          constructor
          · rintro (⟨_, a, b⟩ | a)
            · exact (low m b).2 a
            · exact a.1
          · intro a
            by_cases g : m < min x.2 y.2
            · exact .inl ⟨hp, (low m g).1 a, g⟩
            · exact .inr ⟨a, by omega⟩
      · rename_i c
        refine ⟨hq, fun m => ?_⟩
        rw [List.nil_append, hq3]
        constructor
        · exact fun a => a.1
        · intro a
          by_cases g : m < min x.2 y.2
          · have := (low m g).1 a; omega
          · exact ⟨a, by omega⟩
    by_cases c : x.2 < y.2
    · rw [if_pos c]
      obtain ⟨s1, s2⟩ := isect_spec n l (y :: r) (by rw [List.length_cons]; omega) hl1 hr
      refine key _ s1 (fun m hm => ?_) (fun m => ?_)
      · have := hL m ((s2 m).1 hm).1; omega
      · rw [s2, el_cons (x := x)]
        constructor
        · rintro ⟨a, b⟩
          exact ⟨⟨.inr a, b⟩, by have := hL m a; omega⟩
        · rintro ⟨⟨(⟨_, a, b⟩ | a), d⟩, e⟩
          · omega
          · exact ⟨a, d⟩
    · rw [if_neg c]
      obtain ⟨s1, s2⟩ := isect_spec n (x :: l) r (by rw [List.length_cons]; omega) hl hr1
      refine key _ s1 (fun m hm => ?_) (fun m => ?_)
      · have := hR m ((s2 m).1 hm).2; omega
      · rw [s2, el_cons (x := y)]
        constructor
        · rintro ⟨a, b⟩
          exact ⟨⟨a, .inr b⟩, by have := hR m b; omega⟩
        · rintro ⟨⟨a, (⟨_, b, d⟩ | b)⟩, e⟩
          · omega
          · exact ⟨a, b⟩
theorem isect_meet (a b : List Sn) : isect (norm a) (norm b) = meet a b := by
  obtain ⟨h1, h2⟩ := isect_spec _ (norm a) (norm b) (Nat.le_refl _) (norm_nf a) (norm_nf b)
  exact nf_ext h1 (meet_nf a b) (fun n => by rw [h2, meet_el, norm_el, norm_el])
/-- What lies between, only the proper ones. -/
theorem el_filter (l : List Sn) (n : Int) : El (l.filter fun x => decide (x.1 < x.2)) n ↔ El l n :=
  ⟨fun ⟨x, hx, k⟩ => ⟨x, (List.mem_filter.1 hx).1, k⟩, fun ⟨x, hx, k⟩ => ⟨x, List.mem_filter.2 ⟨hx, decide_eq_true k.1.2.2⟩, k⟩⟩
theorem minus_gaps (a b : List Sn) : meet a ((gaps (-1152921504606846976) (norm b)).filter fun x => decide (x.1 < x.2)) = minus a b := meet_same (fun _ => Iff.rfl) (fun n => el_filter _ n)
end Go.Proofs.Ytdoojpilogcnjaa.Sp
