/- Plain mathematics of zones, third part: the portions of a stretch by local days. It speaks of integers and lists alone. -/
import Derived.Test.YtjmnohbgfkohpaaZoneMath2
namespace Go.Proofs.Ytjmnohbgfkohpaa.Zn
/-- The minutes that portions give a day. -/
def val : List (Int × Int) → Int → Int
  | [], _ => 0
  | (e, n) :: r, d => (if e = d then n else 0) + val r d
/-- Positive portions in increasing order of their days. -/
def Ports (l : List (Int × Int)) : Prop := l.Pairwise (fun x y => x.1 < y.1) ∧ ∀ x ∈ l, 0 < x.2
theorem ports_tail {x : Int × Int} {l : List (Int × Int)} (h : Ports (x :: l)) : Ports l ∧ (∀ y ∈ l, x.1 < y.1) ∧ 0 < x.2 :=
  ⟨⟨(List.pairwise_cons.1 h.1).2, fun y hy => h.2 y (List.mem_cons_of_mem _ hy)⟩, (List.pairwise_cons.1 h.1).1, h.2 x List.mem_cons_self⟩
theorem ports_cons {x : Int × Int} {l : List (Int × Int)} (h : Ports l) (h1 : ∀ y ∈ l, x.1 < y.1) (h2 : 0 < x.2) : Ports (x :: l) :=
  ⟨List.pairwise_cons.2 ⟨h1, h.1⟩, fun y hy => by
    rcases List.mem_cons.1 hy with rfl | hy
    · exact h2
    · exact h.2 y hy⟩
theorem val_none : ∀ (l : List (Int × Int)) (d : Int), (∀ x ∈ l, x.1 ≠ d) → val l d = 0
  | [], _, _ => rfl
  | (e, n) :: r, d, h => by
    unfold val
    have h1 : e ≠ d := h (e, n) List.mem_cons_self
    rw [if_neg h1, val_none r d (fun x hx => h x (List.mem_cons_of_mem _ hx))]; rfl
theorem val_nonneg : ∀ (l : List (Int × Int)) (d : Int), Ports l → 0 ≤ val l d
  | [], _, _ => Int.le_refl _
  | (e, n) :: r, d, h => by
    obtain ⟨h1, _, h3⟩ := ports_tail h
    have := val_nonneg r d h1
    have h4 : 0 < n := h3
    unfold val
    split <;> omega
/-- Portions are known by the minutes that they give each day. -/
theorem ports_ext : ∀ {l r : List (Int × Int)}, Ports l → Ports r → (∀ d, val l d = val r d) → l = r
  | [], [], _, _, _ => rfl
  | [], (e, n) :: r, _, hr, h => by
    obtain ⟨h1, h2, h3⟩ := ports_tail hr
    have h4 := h e
    have h5 := val_nonneg r e h1
    have h6 : 0 < n := h3
    unfold val at h4
    rw [if_pos rfl] at h4
    omega
  | (e, n) :: l, [], hl, _, h => by
    obtain ⟨h1, h2, h3⟩ := ports_tail hl
    have h4 := h e
    have h5 := val_nonneg l e h1
    have h6 : 0 < n := h3
    unfold val at h4
    rw [if_pos rfl] at h4
    omega
  | (e, n) :: l, (f, m) :: r, hl, hr, h => by
    obtain ⟨h1, h2, h3⟩ := ports_tail hl
    obtain ⟨k1, k2, k3⟩ := ports_tail hr
    have n0 : 0 < n := h3
    have m0 : 0 < m := k3
    have he := h e
    have hf := h f
    have v1 := val_nonneg l f h1
    have v2 := val_nonneg r e k1
    have v3 := val_none l e (fun x hx => by have := h2 x hx; have : e < x.1 := this; omega)
    have v4 := val_none r f (fun x hx => by have := k2 x hx; have : f < x.1 := this; omega)
    have u1 : val ((e, n) :: l) e = n := by unfold val; rw [if_pos rfl, v3]; omega
    have u2 : val ((f, m) :: r) f = m := by unfold val; rw [if_pos rfl, v4]; omega
    by_cases c : e < f
    · have := val_none r e (fun x hx => by have := k2 x hx; have : f < x.1 := this; omega)
      have u3 : val ((f, m) :: r) e = 0 := by unfold val; rw [if_neg (by omega), this]; rfl
      omega
    by_cases c2 : f < e
    · have := val_none l f (fun x hx => by have := h2 x hx; have : e < x.1 := this; omega)
      have u3 : val ((e, n) :: l) f = 0 := by unfold val; rw [if_neg (by omega), this]; rfl
      omega
    obtain rfl : e = f := by omega
    obtain rfl : n = m := by omega
    rw [ports_ext h1 k1 (fun d => by
      have hd := h d
      unfold val at hd
      omega)]
/-- One minute more on a day. -/
def ins : List (Int × Int) → Int → List (Int × Int)
  | [], d => [(d, 1)]
  | (e, n) :: r, d => if d < e then (d, 1) :: (e, n) :: r else if d = e then (e, n + 1) :: r else (e, n) :: ins r d
theorem ins_low : ∀ (l : List (Int × Int)) (d x : Int), x < d → (∀ y ∈ l, x < y.1) → ∀ y ∈ ins l d, x < y.1
  | [], d, x, hd, _, y, hy => by
    rw [show ins [] d = [(d, 1)] from rfl, List.mem_singleton] at hy
    subst hy; exact hd
  | (e, n) :: r, d, x, hd, h, y, hy => by
    have he : x < e := h (e, n) List.mem_cons_self
    have hr : ∀ z ∈ r, x < z.1 := fun z hz => h z (List.mem_cons_of_mem _ hz)
    unfold ins at hy
    split at hy
    · rcases List.mem_cons.1 hy with rfl | hy
      · exact hd
      · exact h y hy
    · split at hy
      · rcases List.mem_cons.1 hy with rfl | hy
        · exact he
        · exact hr y hy
      · rcases List.mem_cons.1 hy with rfl | hy
        · exact he
        · exact ins_low r d x hd hr y hy
theorem ins_ports : ∀ (l : List (Int × Int)) (d : Int), Ports l → Ports (ins l d)
  | [], d, _ => ports_cons (x := (d, 1)) ⟨List.Pairwise.nil, fun x hx => by cases hx⟩ (fun y hy => by cases hy) (by show (0 : Int) < 1; decide)
  | (e, n) :: r, d, h => by
    obtain ⟨h1, h2, h3⟩ := ports_tail h
    have n0 : 0 < n := h3
    unfold ins
    split
    · exact ports_cons h (fun y hy => by
        rcases List.mem_cons.1 hy with rfl | hy
        · assumption
        · have := h2 y hy; have : e < y.1 := this; show d < y.1; omega) (by show (0 : Int) < 1; decide)
    · split
      · exact ports_cons h1 h2 (by show 0 < n + 1; omega)
      · exact ports_cons (ins_ports r d h1) (ins_low r d e (by omega) h2) h3
theorem ins_val : ∀ (l : List (Int × Int)) (d x : Int), val (ins l d) x = val l x + if d = x then 1 else 0
  | [], d, x => by show (if d = x then (1 : Int) else 0) + 0 = 0 + _; omega
  | (e, n) :: r, d, x => by
    unfold ins
    split
    · show (if d = x then (1 : Int) else 0) + ((if e = x then n else 0) + val r x) = (if e = x then n else 0) + val r x + if d = x then 1 else 0
      omega
    · split
      · rename_i h
        subst h
        show (if d = x then n + 1 else 0) + val r x = (if d = x then n else 0) + val r x + if d = x then 1 else 0
        split <;> omega
      · show (if e = x then n else 0) + val (ins r d) x = (if e = x then n else 0) + val r x + if d = x then 1 else 0
        rw [ins_val r d x]; omega
/-- All minutes. -/
def tot : List (Int × Int) → Int
  | [] => 0
  | (_, n) :: r => n + tot r
theorem ins_tot : ∀ (l : List (Int × Int)) (d : Int), tot (ins l d) = tot l + 1
  | [], _ => rfl
  | (e, n) :: r, d => by
    unfold ins
    split
    · show 1 + (n + tot r) = n + tot r + 1; omega
    · split
      · show n + 1 + tot r = n + tot r + 1; omega
      · show n + tot (ins r d) = n + tot r + 1; rw [ins_tot r d]; omega
/-- The portions of a stretch of k minutes from lo on, by their days g. -/
def ports (g : Int → Int) (lo : Int) : Nat → List (Int × Int)
  | 0 => []
  | k + 1 => ins (ports g lo k) (g (lo + k))
theorem ports_ok (g : Int → Int) (lo : Int) : ∀ k : Nat, Ports (ports g lo k)
  | 0 => ⟨List.Pairwise.nil, fun x hx => by cases hx⟩
  | k + 1 => ins_ports _ _ (ports_ok g lo k)
theorem ports_tot (g : Int → Int) (lo : Int) : ∀ k : Nat, tot (ports g lo k) = k
  | 0 => rfl
  | k + 1 => by unfold ports; rw [ins_tot, ports_tot g lo k]; omega
theorem ports_val (g : Int → Int) (lo d : Int) : ∀ k : Nat, val (ports g lo k) d = (cnt lo (fun s => decide (g s = d)) k : Int)
  | 0 => rfl
  | k + 1 => by
    unfold ports cnt
    rw [ins_val, ports_val g lo d k]
    by_cases h : g (lo + k) = d
    · rw [if_pos h, decide_eq_true h]; simp
    · rw [if_neg h, decide_eq_false h]; simp
/-- Portions that give each day its minutes are those of the stretch. -/
theorem ports_of (g : Int → Int) (lo : Int) (k : Nat) {l : List (Int × Int)} (h : Ports l) (hv : ∀ d, val l d = (cnt lo (fun s => decide (g s = d)) k : Int)) : l = ports g lo k :=
  ports_ext h (ports_ok g lo k) (fun d => by rw [hv d, ports_val])
/-- Portions added day by day. -/
def merge : List (Int × Int) → List (Int × Int) → List (Int × Int)
  | [], r => r
  | x :: l, [] => x :: l
  | x :: l, y :: r => if x.1 < y.1 then x :: merge l (y :: r) else if y.1 < x.1 then y :: merge (x :: l) r else (x.1, x.2 + y.2) :: merge l r
termination_by l r => l.length + r.length
theorem merge_low (x : Int) : ∀ (l r : List (Int × Int)), (∀ y ∈ l, x < y.1) → (∀ y ∈ r, x < y.1) → ∀ y ∈ merge l r, x < y.1
  | [], r, _, hr, y, hy => by unfold merge at hy; exact hr y hy
  | a :: l, [], hl, _, y, hy => by unfold merge at hy; exact hl y hy
  | a :: l, c :: r, hl, hr, y, hy => by
    have ha := hl a List.mem_cons_self
    have hc := hr c List.mem_cons_self
    have hl' : ∀ y ∈ l, x < y.1 := fun z hz => hl z (List.mem_cons_of_mem _ hz)
    have hr' : ∀ y ∈ r, x < y.1 := fun z hz => hr z (List.mem_cons_of_mem _ hz)
    unfold merge at hy
    split at hy
    · rcases List.mem_cons.1 hy with rfl | hy
      · exact ha
      · exact merge_low x l (c :: r) hl' hr y hy
    · split at hy
      · rcases List.mem_cons.1 hy with rfl | hy
        · exact hc
        · exact merge_low x (a :: l) r hl hr' y hy
      · rcases List.mem_cons.1 hy with rfl | hy
        · exact ha
        · exact merge_low x l r hl' hr' y hy
termination_by l r => l.length + r.length
theorem merge_ports : ∀ (l r : List (Int × Int)), Ports l → Ports r → Ports (merge l r)
  | [], r, _, hr => by unfold merge; exact hr
  | a :: l, [], hl, _ => by unfold merge; exact hl
  | a :: l, c :: r, hl, hr => by
    obtain ⟨h1, h2, h3⟩ := ports_tail hl
    obtain ⟨k1, k2, k3⟩ := ports_tail hr
    unfold merge
    split
    · exact ports_cons (merge_ports l (c :: r) h1 hr) (merge_low _ _ _ h2 (fun y hy => by
        rcases List.mem_cons.1 hy with rfl | hy
        · assumption
        · have := k2 y hy; omega)) h3
    · split
      · exact ports_cons (merge_ports (a :: l) r hl k1) (merge_low _ _ _ (fun y hy => by
          rcases List.mem_cons.1 hy with rfl | hy
          · assumption
          · have := h2 y hy; omega) k2) k3
      · exact ports_cons (merge_ports l r h1 k1) (merge_low _ _ _ h2 (fun y hy => by have := k2 y hy; show a.1 < y.1; omega)) (by show 0 < a.2 + c.2; omega)
termination_by l r => l.length + r.length
theorem merge_val (d : Int) : ∀ (l r : List (Int × Int)), val (merge l r) d = val l d + val r d
  | [], r => by unfold merge; show _ = 0 + _; omega
  | a :: l, [] => by unfold merge; show _ = _ + 0; omega
  | a :: l, c :: r => by
    unfold merge
    split
    · show (if a.1 = d then a.2 else 0) + val (merge l (c :: r)) d = (if a.1 = d then a.2 else 0) + val l d + val (c :: r) d
      rw [merge_val d l (c :: r)]; omega
    · split
      · show (if c.1 = d then c.2 else 0) + val (merge (a :: l) r) d = val (a :: l) d + ((if c.1 = d then c.2 else 0) + val r d)
        rw [merge_val d (a :: l) r]; omega
      · have e : a.1 = c.1 := by omega
        show (if a.1 = d then a.2 + c.2 else 0) + val (merge l r) d = (if a.1 = d then a.2 else 0) + val l d + ((if c.1 = d then c.2 else 0) + val r d)
        rw [merge_val d l r, e]
        split <;> omega
termination_by l r => l.length + r.length
/-- The portions of two successive stretches, added day by day, are those of the whole. -/
theorem merge_ports_of (g : Int → Int) (lo : Int) (j k : Nat) : merge (ports g lo j) (ports g (lo + j) k) = ports g lo (j + k) :=
  ports_of g lo (j + k) (merge_ports _ _ (ports_ok _ _ _) (ports_ok _ _ _)) (fun d => by
    rw [merge_val, ports_val, ports_val, cnt_add]; omega)
/-- Days in increasing order from x on, below x + n, are at most n. -/
theorem ports_short : ∀ (l : List (Int × Int)) (x : Int) (n : Nat), Ports l → (∀ y ∈ l, x ≤ y.1 ∧ y.1 < x + n) → l.length ≤ n
  | [], _, _, _, _ => Nat.zero_le _
  | a :: l, x, n, h, hb => by
    obtain ⟨h1, h2, _⟩ := ports_tail h
    have ha := hb a List.mem_cons_self
    cases n with
    | zero => omega
    | succ n =>
      have := ports_short l (x + 1) n h1 (fun y hy => by
        have a1 := h2 y hy
        have a2 := hb y (List.mem_cons_of_mem _ hy)
        omega)
      simp only [List.length_cons]; omega
theorem ins_mem (x : Int × Int) : ∀ (l : List (Int × Int)) (d : Int), x ∈ ins l d → x.1 = d ∨ ∃ y ∈ l, y.1 = x.1
  | [], d, h => by rw [show ins [] d = [(d, 1)] from rfl, List.mem_singleton] at h; subst h; exact Or.inl rfl
  | (e, n) :: r, d, h => by
    unfold ins at h
    split at h
    · rcases List.mem_cons.1 h with rfl | h
      · exact Or.inl rfl
      · exact Or.inr ⟨x, h, rfl⟩
    · split at h
      · rcases List.mem_cons.1 h with rfl | h
        · exact Or.inr ⟨(e, n), List.mem_cons_self, rfl⟩
        · exact Or.inr ⟨x, List.mem_cons_of_mem _ h, rfl⟩
      · rcases List.mem_cons.1 h with rfl | h
        · exact Or.inr ⟨(e, n), List.mem_cons_self, rfl⟩
        · rcases ins_mem x r d h with h' | ⟨y, hy, e'⟩
          · exact Or.inl h'
          · exact Or.inr ⟨y, List.mem_cons_of_mem _ hy, e'⟩
/-- Each portion's day is that of a minute. -/
theorem ports_day (g : Int → Int) (lo : Int) (x : Int × Int) : ∀ k : Nat, x ∈ ports g lo k → ∃ s, lo ≤ s ∧ s < lo + k ∧ g s = x.1
  | 0, h => by cases h
  | k + 1, h => by
    rcases ins_mem x _ _ h with h' | ⟨y, hy, e⟩
    · exact ⟨lo + k, by omega, by omega, h'.symm⟩
    · obtain ⟨s, s0, s1, hs⟩ := ports_day g lo y k hy
      exact ⟨s, s0, by omega, hs.trans e⟩
end Go.Proofs.Ytjmnohbgfkohpaa.Zn
