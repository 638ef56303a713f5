/- Plain mathematics: the two candidates for the instants of a local time; the stretches between changes, what is counted in them. No condition but those that each names. -/
import Derived.Test.YtjmnohbgfkohpaaZoneMath3
namespace Go.Proofs.Ytjmnohbgfkohpaa.Zn
/-- Within 2880 minutes, both ends taken in, the offset is a step function with at most one step. -/
theorem near2 (cs : List (Int × Int)) : ∀ (p o t : Int), okFrom p o cs → ∃ a o1 o2 : Int, ∀ s, t ≤ s → s ≤ t + 2880 → offFrom o cs s = if s < a then o1 else o2 := by
  induction cs with
  | nil => intro p o t _; exact ⟨t, o, o, fun s _ _ => by simp [offFrom]⟩
  | cons x r ih =>
    intro p o t h
    obtain ⟨a, f⟩ := x
    obtain ⟨a0, a1, a2, f0, f1, g0, g1, hr⟩ := h
    by_cases h1 : a ≤ t
    · obtain ⟨c, o1, o2, hs⟩ := ih a f t hr
      refine ⟨c, o1, o2, fun s s0 s1 => ?_⟩
      unfold offFrom
      rw [if_pos (by omega)]
      exact hs s s0 s1
    · refine ⟨a, o, f, fun s s0 s1 => ?_⟩
      unfold offFrom
      by_cases h2 : a ≤ s
      · rw [if_pos h2, if_neg (by omega)]
        exact off_before r a f s hr (by omega)
      · rw [if_neg h2, if_pos (by omega)]
/-- Two numbers, or one of them. -/
def two (x y : Int) : List Int := if x = y then [x] else [x, y]
/-- The instants of a local time: of two candidates those that have it. -/
def hits (b : Int) (cs : List (Int × Int)) (n : Int) (l : List Int) : List Int := l.filter (fun t => inst t && decide (loc b cs t = n))
theorem hits_snoc (b : Int) (cs : List (Int × Int)) (n : Int) (l : List Int) (u : Int) : hits b cs n (l ++ [u]) = hits b cs n l ++ if (inst u && decide (loc b cs u = n)) = true then [u] else [] := by
  unfold hits
  rw [List.filter_append, List.filter_cons, List.filter_nil]
theorem insts_hits {b : Int} {cs : List (Int × Int)} (v : Valid b cs) (d m : Int) : insts b cs d m = hits b cs (1440 * d + m) (two (1440 * d + m - offFrom b cs (1440 * d + m - 1440)) (1440 * d + m - offFrom b cs (1440 * d + m + 1440))) := by
  obtain ⟨n, hn⟩ : ∃ n, n = 1440 * d + m := ⟨_, rfl⟩
  obtain ⟨a, o1, o2, hs⟩ := near2 cs (-2880) b (n - 1440) v.2.2.2
  have e1 := hs (n - 1440) (by omega) (by omega)
  have e2 := hs (n + 1440) (by omega) (by omega)
  have b1 := bd v (n - 1440)
  have b2 := bd v (n + 1440)
  rw [← hn]
  generalize hA : offFrom b cs (n - 1440) = A at *
  generalize hB : offFrom b cs (n + 1440) = B at *
  have hiff : ∀ t, loc b cs t = n → t = n - A ∨ t = n - B := fun t h => by
    have hb := bd v t
    have ht := hs t (by unfold loc at h; omega) (by unfold loc at h; omega)
    unfold loc at h
    by_cases c : t < a
    · rw [if_pos c] at ht
      rw [if_pos (by omega)] at e1
      left; omega
    · rw [if_neg c] at ht
      rw [if_neg (by omega)] at e2
      right; omega
  refine sorted_ext (insts_sorted d m) ?_ (fun t => ?_)
  · unfold hits two
    split
    · exact List.Pairwise.filter _ (List.pairwise_singleton _ _)
    · rename_i hne
      by_cases h1 : (inst (n - A) && decide (loc b cs (n - A) = n)) = true
      · by_cases h2 : (inst (n - B) && decide (loc b cs (n - B) = n)) = true
        · have l1 : loc b cs (n - A) = n := of_decide_eq_true (Bool.and_eq_true _ _ ▸ h1).2
          have l2 : loc b cs (n - B) = n := of_decide_eq_true (Bool.and_eq_true _ _ ▸ h2).2
          have s1 := hs (n - A) (by omega) (by omega)
          have s2 := hs (n - B) (by omega) (by omega)
          unfold loc at l1 l2
          rw [List.filter_cons_of_pos (p := fun t => inst t && decide (loc b cs t = n)) h1, List.filter_cons_of_pos (p := fun t => inst t && decide (loc b cs t = n)) h2, List.filter_nil]
          refine List.pairwise_pair.2 ?_
          by_cases c1 : n - A < a
          · by_cases c2 : n - B < a
            · rw [if_pos c1] at s1; rw [if_pos c2] at s2; omega
            · omega
          · by_cases c2 : n - B < a
            · rw [if_neg c1] at s1; rw [if_pos c2] at s2
              rw [if_pos (by omega)] at e1
              rw [if_neg (by omega)] at e2
              omega
            · rw [if_neg c1] at s1; rw [if_neg c2] at s2; omega
        · rw [List.filter_cons_of_pos (p := fun t => inst t && decide (loc b cs t = n)) h1, List.filter_cons_of_neg (p := fun t => inst t && decide (loc b cs t = n)) h2, List.filter_nil]
          exact List.pairwise_singleton _ _
      · rw [List.filter_cons_of_neg (p := fun t => inst t && decide (loc b cs t = n)) h1]
        exact List.Pairwise.filter _ (List.pairwise_singleton _ _)
  · rw [insts_mem v d m t, ← hn]
    unfold hits
    rw [List.mem_filter]
    simp only [inst, Bool.and_eq_true, decide_eq_true_eq]
    constructor
    · rintro ⟨t0, t1, e⟩
      refine ⟨?_, ⟨t0, t1⟩, e⟩
      unfold two
      rcases hiff t e with h | h
      · split
        · exact List.mem_singleton.2 h
        · exact List.mem_cons.2 (.inl h)
      · split
        · rename_i hh; exact List.mem_singleton.2 (by omega)
        · exact List.mem_cons.2 (.inr (List.mem_singleton.2 h))
    · rintro ⟨_, ⟨t0, t1⟩, e⟩
      exact ⟨t0, t1, e⟩
/-- A stretch between changes: its bounds, its offset. -/
abbrev Seg := (Int × Int) × Int
/-- The stretches between changes of a stretch from s to t. -/
def segs (s o t : Int) : List (Int × Int) → List Seg
  | [] => if s < t then [((s, t), o)] else []
  | (a, f) :: r => if t ≤ a then (if s < t then [((s, t), o)] else []) else if s < a then ((s, a), o) :: segs a f t r else segs s f t r
theorem okFrom_mono {p p' o : Int} {cs : List (Int × Int)} (h : okFrom p o cs) (hp : p' ≤ p) : okFrom p' o cs := by
  cases cs with
  | nil => trivial
  | cons x r =>
    obtain ⟨a, f⟩ := x
    obtain ⟨a0, a1, a2, rest⟩ := h
    exact ⟨a0, a1, by omega, rest⟩
/-- Whatever adds up over stretches of constant offset adds up over a stretch. -/
theorem segs_sum (F : Seg → Int) (G : Int → Int → Int) (b : Int) (cs0 : List (Int × Int)) (hadd : ∀ x y z, x ≤ y → y ≤ z → G x z = G x y + G y z) (hnil : ∀ x, G x x = 0)
    (hF : ∀ s e o, s < e → (∀ u, s ≤ u → u < e → offFrom b cs0 u = o) → F ((s, e), o) = G s e) :
    ∀ (cs : List (Int × Int)) (p o s t : Int), okFrom p o cs → p ≤ s → s ≤ t → (∀ u, s ≤ u → offFrom b cs0 u = offFrom o cs u) → ((segs s o t cs).map F).foldr (· + ·) 0 = G s t
  | [], p, o, s, t, _, _, hst, hu => by
    unfold segs
    split
    · rename_i h
      show F ((s, t), o) + 0 = _
      rw [Int.add_zero]
      exact hF s t o h (fun u u0 _ => hu u u0)
    · have : s = t := by omega
      subst this
      exact (hnil s).symm
  | (a, f) :: r, p, o, s, t, hok, hp, hst, hu => by
    obtain ⟨a0, a1, a2, f0, f1, g0, g1, hr⟩ := hok
    unfold segs
    split
    · rename_i hta
      have hcons : ∀ u, s ≤ u → u < t → offFrom b cs0 u = o := fun u u0 u1 => by
        rw [hu u u0]; unfold offFrom; rw [if_neg (by omega)]
      split
      · rename_i h
        show F ((s, t), o) + 0 = _
        rw [Int.add_zero]
        exact hF s t o h hcons
      · have : s = t := by omega
        subst this
        exact (hnil s).symm
    · rename_i hta
      split
      · rename_i hsa
        show F ((s, a), o) + ((segs a f t r).map F).foldr (· + ·) 0 = _
        rw [segs_sum F G b cs0 hadd hnil hF r a f a t hr (Int.le_refl _) (by omega) (fun u u0 => by rw [hu u (by omega)]; show (if a ≤ u then offFrom f r u else o) = _; rw [if_pos u0]),
          hF s a o hsa (fun u u0 u1 => by rw [hu u u0]; unfold offFrom; rw [if_neg (by omega)]), ← hadd s a t (by omega) (by omega)]
      · exact segs_sum F G b cs0 hadd hnil hF r a f s t hr (by omega) hst (fun u u0 => by rw [hu u (by omega)]; show (if a ≤ u then offFrom f r u else o) = _; rw [if_pos (by omega)])
/-- The stretches lie between the bounds, one behind the other; the offset is the same throughout each. -/
theorem segs_mem (b : Int) (cs0 : List (Int × Int)) : ∀ (cs : List (Int × Int)) (p o s t : Int), okFrom p o cs → p ≤ s → -840 ≤ o → o ≤ 840 → (∀ u, s ≤ u → offFrom b cs0 u = offFrom o cs u) →
    ∀ x ∈ segs s o t cs, s ≤ x.1.1 ∧ x.1.1 < x.1.2 ∧ x.1.2 ≤ t ∧ -840 ≤ x.2 ∧ x.2 ≤ 840 ∧ ∀ u, x.1.1 ≤ u → u < x.1.2 → offFrom b cs0 u = x.2
  | [], p, o, s, t, _, _, h0, h1, hu, x, hx => by
    unfold segs at hx
    split at hx
    · obtain rfl := List.mem_singleton.1 hx
      exact ⟨Int.le_refl _, by assumption, Int.le_refl _, h0, h1, fun u u0 _ => hu u u0⟩
    · cases hx
  | (a, f) :: r, p, o, s, t, hok, hp, h0, h1, hu, x, hx => by
    obtain ⟨a0, a1, a2, f0, f1, g0, g1, hr⟩ := hok
    unfold segs at hx
    split at hx
    · rename_i hta
      split at hx
      · obtain rfl := List.mem_singleton.1 hx
        exact ⟨Int.le_refl _, by assumption, Int.le_refl _, h0, h1, fun u u0 u1 => by
          have u1' : u < t := u1
          rw [hu u u0]; unfold offFrom; rw [if_neg (by omega)]⟩
      · cases hx
    · rename_i hta
      split at hx
      · rename_i hsa
        rcases List.mem_cons.1 hx with rfl | hx
        · exact ⟨Int.le_refl _, hsa, by show a ≤ t; omega, h0, h1, fun u u0 u1 => by
            have u1' : u < a := u1
            rw [hu u u0]; unfold offFrom; rw [if_neg (by omega)]⟩
        · obtain ⟨q0, q⟩ := segs_mem b cs0 r a f a t hr (Int.le_refl _) f0 f1 (fun u u0 => by rw [hu u (by omega)]; show (if a ≤ u then offFrom f r u else o) = _; rw [if_pos u0]) x hx
          exact ⟨by omega, q⟩
      · exact segs_mem b cs0 r a f s t hr (by omega) f0 f1 (fun u u0 => by rw [hu u (by omega)]; show (if a ≤ u then offFrom f r u else o) = _; rw [if_pos (by omega)]) x hx
/-- A sum over a list. -/
def total (F : Seg → Int) (l : List Seg) : Int := (l.map F).foldr (· + ·) 0
theorem total_append (F : Seg → Int) : ∀ l r : List Seg, total F (l ++ r) = total F l + total F r
  | [], r => by show total F r = 0 + total F r; omega
  | x :: l, r => by
    show F x + total F (l ++ r) = F x + total F l + total F r
    rw [total_append F l r]; omega
theorem total_snoc (F : Seg → Int) (l : List Seg) (x : Seg) : total F (l ++ [x]) = total F l + F x := by
  rw [total_append]; show _ + (F x + 0) = _; omega
theorem total_nonneg (F : Seg → Int) : ∀ l : List Seg, (∀ x ∈ l, 0 ≤ F x) → 0 ≤ total F l
  | [], _ => Int.le_refl _
  | x :: l, h => by
    have h1 := h x List.mem_cons_self
    have h2 := total_nonneg F l (fun y hy => h y (List.mem_cons_of_mem _ hy))
    show 0 ≤ F x + total F l
    omega
/-- How many numbers two spans share. -/
def com (f t g u : Int) : Int := max 0 (min t u - max f g)
/-- The minutes of a stretch of constant offset that lie on a day. -/
def dayF (n : Int) (x : Seg) : Int := com (x.1.1 + x.2) (x.1.2 + x.2) n (n + 1440)
theorem dayF_nonneg (n : Int) (x : Seg) : 0 ≤ dayF n x := by unfold dayF com; omega
/-- A day's length, stretch by stretch. -/
theorem day_total_at {b : Int} {cs : List (Int × Int)} (v : Valid b cs) (d : Int) (T : Int) (K M : Nat) (hT : T = 52596000) (hK : (K : Int) = T) (hM : M = K + 4000) (d0 : 0 ≤ d) (d1 : d ≤ 36524) : total (dayF (1440 * d)) (segs 0 b T cs) = dlen b cs d := by
  have h := segs_sum (dayF (1440 * d)) (fun x y => (cnt x (fun u => decide (1440 * d ≤ loc b cs u ∧ loc b cs u < 1440 * d + 1440)) (y - x).toNat : Int)) b cs
    (fun x y z hxy hyz => by
      have h := cnt_add x (fun u => decide (1440 * d ≤ loc b cs u ∧ loc b cs u < 1440 * d + 1440)) (y - x).toNat (z - y).toNat
      rw [show (y - x).toNat + (z - y).toNat = (z - x).toNat by omega, show x + ((y - x).toNat : Int) = y by omega] at h
      show ((cnt x _ (z - x).toNat : Nat) : Int) = _
      rw [h]; simp)
    (fun x => by show ((cnt x _ (x - x).toNat : Nat) : Int) = 0; rw [Int.sub_self]; rfl)
    (fun s e o hse hu => by
      show com (s + o) (e + o) (1440 * d) (1440 * d + 1440) = ((cnt s _ (e - s).toNat : Nat) : Int)
      rw [cnt_congr s (q := fun u => decide (1440 * d - o ≤ u ∧ u < 1440 * d + 1440 - o)) (e - s).toNat (fun u u0 u1 => by
        have hh := hu u u0 (by omega)
        show decide _ = decide _
        rw [decide_eq_decide]
        unfold loc
        rw [hh]
        omega)]
      rw [cnt_interval]
      unfold com
      omega)
    cs (-2880) b 0 T v.2.2.2 (by omega) (by omega) (fun u _ => rfl)
  rw [show (T - 0).toNat = K by omega] at h
  unfold total
  rw [h]
  clear h
  have hp : ∀ u, (inst u && decide (1440 * d ≤ loc b cs u ∧ loc b cs u < 1440 * d + 1440)) = true → (0 ≤ u ∧ u < 52596000) ∧ 1440 * d - 840 ≤ u ∧ u < 1440 * d - 840 + 3120 := fun u hu => by
    simp only [inst, Bool.and_eq_true, decide_eq_true_eq] at hu
    have hb := bd v u
    unfold loc at hu
    omega
  have e1 := cnt_between (-1000) 0 (fun u => inst u && decide (1440 * d ≤ loc b cs u ∧ loc b cs u < 1440 * d + 1440)) M K (by omega) (by omega) (fun u hu => by have := hp u hu; omega)
  have e2 := cnt_between (-1000) (1440 * d - 840) (fun u => inst u && decide (1440 * d ≤ loc b cs u ∧ loc b cs u < 1440 * d + 1440)) M 3120 (by omega) (by omega) (fun u hu => by have := hp u hu; omega)
  have e3 := cnt_congr 0 (p := fun u => decide (1440 * d ≤ loc b cs u ∧ loc b cs u < 1440 * d + 1440)) (q := fun u => inst u && decide (1440 * d ≤ loc b cs u ∧ loc b cs u < 1440 * d + 1440)) K (fun u u0 u1 => by
    show _ = (inst u && _)
    rw [show inst u = true by unfold inst; exact decide_eq_true (by omega), Bool.true_and])
  rw [e3, ← e1, e2]
  unfold dlen
  rfl
theorem day_total {b : Int} {cs : List (Int × Int)} (v : Valid b cs) (d : Int) (d0 : 0 ≤ d) (d1 : d ≤ 36524) : total (dayF (1440 * d)) (segs 0 b 52596000 cs) = dlen b cs d := by
  obtain ⟨T, hT⟩ : ∃ T : Int, T = 52596000 := ⟨_, rfl⟩
  rw [← hT]
  exact day_total_at v d T T.toNat (T.toNat + 4000) hT (by omega) rfl d0 d1
end Go.Proofs.Ytjmnohbgfkohpaa.Zn
