/- Minutes per day in a map, as a datum; its sorted keys. No condition but those that each names. -/
import Derived.Test.YtjmnohbgfkohpaaZoneMath5
import Derived.Maps.Views
import Derived.Lib.SlKeysI
namespace Go.Proofs.Ytjmnohbgfkohpaa.Zn
open Go.Maps
/-- The minutes of a part, if it is of day d. -/
def dayP (d : Int) (x : Piece) : Int := if x.1 = d then x.2.2 - x.2.1 else 0
/-- The map holds the minutes of each day, and no other day. -/
structure Tal (s : List Piece) (D : DataW Unit) : Prop where
  val : ∀ d : Int, D.atKey (.int .i64 d) (.lit (.int .i64 0)) = .lit (.int .i64 (totP (dayP d) s))
  has : ∀ k : Lit, Maps.has D k = true ↔ ∃ x ∈ s, k = .int .i64 x.1
theorem Tal.nil : Tal [] (.map []) := ⟨fun _ => rfl, fun k => ⟨fun h => by simp [Maps.has] at h, fun ⟨x, hx, _⟩ => by cases hx⟩⟩
theorem totP_zero (d : Int) : ∀ s : List Piece, (∀ x ∈ s, x.1 ≠ d) → totP (dayP d) s = 0
  | [], _ => rfl
  | x :: s, h => by
    rw [totP_cons, totP_zero d s (fun y hy => h y (List.mem_cons_of_mem _ hy))]
    unfold dayP
    rw [if_neg (h x List.mem_cons_self)]; rfl
theorem Tal.put {s : List Piece} {D : DataW Unit} (h : Tal s D) (hD : IsMap D) (x : Piece) {v : Int} (hv : totP (dayP x.1) (s ++ [x]) = v) : Tal (s ++ [x]) (D.put (.int .i64 x.1) (.lit (.int .i64 v))) := by
  refine ⟨fun d => ?_, fun k => ?_⟩
  · by_cases hd : d = x.1
    · subst hd
      rw [atKey_put_same hD (show WideAt.IsKeyLit (.int .i64 x.1) from trivial), hv]
    · have hne : (Lit.int .i64 d) ≠ .int .i64 x.1 := fun e => hd (by cases e; rfl)
      rw [atKey_put_other hne, h.val d, totP_snoc]
      unfold dayP
      rw [if_neg (show ¬ x.1 = d from fun e => hd e.symm), Int.add_zero]
  · by_cases hk : k = .int .i64 x.1
    · subst hk
      rw [has_put_same hD (show WideAt.IsKeyLit (.int .i64 x.1) from trivial)]
      exact ⟨fun _ => ⟨x, by simp, rfl⟩, fun _ => rfl⟩
    · rw [has_put_other hk, h.has k]
      constructor
      · rintro ⟨y, hy, e⟩
        exact ⟨y, List.mem_append_left _ hy, e⟩
      · rintro ⟨y, hy, e⟩
        rcases List.mem_append.1 hy with hy | hy
        · exact ⟨y, hy, e⟩
        · obtain rfl := List.mem_singleton.1 hy
          exact absurd e hk
/-- The list that the keys give. -/
def dayL (s : List Piece) (ks : List Int) : List (Int × Int) := ks.map fun d => (d, totP (dayP d) s)
theorem dayP_nonneg {s : List Piece} (hs : ∀ x ∈ s, x.2.1 < x.2.2) (d : Int) : ∀ x ∈ s, 0 ≤ dayP d x := fun x hx => by
  have := hs x hx
  unfold dayP; split <;> omega
theorem totP_pos (d : Int) : ∀ s : List Piece, (∀ x ∈ s, x.2.1 < x.2.2) → (∃ x ∈ s, x.1 = d) → 0 < totP (dayP d) s
  | [], _, ⟨x, hx, _⟩ => by cases hx
  | y :: s, hs, ⟨x, hx, he⟩ => by
    have h1 := totP_nonneg (dayP d) s (dayP_nonneg (fun z hz => hs z (List.mem_cons_of_mem _ hz)) d)
    have h2 := dayP_nonneg hs d y List.mem_cons_self
    rw [totP_cons]
    rcases List.mem_cons.1 hx with rfl | hx
    · have h3 := hs x List.mem_cons_self
      have : dayP d x = x.2.2 - x.2.1 := by unfold dayP; rw [if_pos he]
      omega
    · have := totP_pos d s (fun z hz => hs z (List.mem_cons_of_mem _ hz)) ⟨x, hx, he⟩
      omega
theorem dayL_ports {s : List Piece} (hs : ∀ x ∈ s, x.2.1 < x.2.2) {ks : List Int} (h1 : ks.Pairwise (· < ·)) (h2 : ∀ d ∈ ks, ∃ x ∈ s, x.1 = d) : Ports (dayL s ks) := by
  refine ⟨List.pairwise_map.2 h1, fun y hy => ?_⟩
  obtain ⟨d, hd, rfl⟩ := List.mem_map.1 hy
  exact totP_pos d s hs (h2 d hd)
theorem dayL_val (s : List Piece) (d : Int) : ∀ ks : List Int, ks.Pairwise (· < ·) → val (dayL s ks) d = if d ∈ ks then totP (dayP d) s else 0
  | [], _ => rfl
  | k :: ks, h => by
    have ih := dayL_val s d ks (List.pairwise_cons.1 h).2
    show (if k = d then totP (dayP k) s else 0) + val (dayL s ks) d = _
    rw [ih]
    by_cases hk : k = d
    · subst hk
      have : k ∉ ks := fun hm => by have := (List.pairwise_cons.1 h).1 k hm; omega
      rw [if_pos rfl, if_neg this, if_pos List.mem_cons_self, Int.add_zero]
    · rw [if_neg hk, Int.zero_add]
      by_cases hm : d ∈ ks
      · rw [if_pos hm, if_pos (List.mem_cons_of_mem _ hm)]
      · rw [if_neg hm, if_neg (fun e => (List.mem_cons.1 e).elim (fun e => hk e.symm) hm)]
theorem day_cnt (d : Int) (n k : Int) (hk : 0 < k) (hn : n % 1440 + k ≤ 1440) : dayP d (n / 1440, n % 1440, n % 1440 + k) = (cnt n (fun u => decide (u / 1440 = d)) k.toNat : Int) := by
  have hr0 := Int.emod_nonneg n (show (1440 : Int) ≠ 0 by decide)
  unfold dayP
  by_cases h : n / 1440 = d
  · rw [if_pos h, cnt_congr n (q := fun u => decide (n ≤ u ∧ u < n + k)) k.toNat (fun u u0 u1 => by
      show decide _ = decide _
      rw [decide_eq_decide]; omega), cnt_interval]
    show n % 1440 + k - n % 1440 = _
    omega
  · rw [if_neg h, cnt_congr n (q := fun u => decide (n ≤ u ∧ u < n)) k.toNat (fun u u0 u1 => by
      show decide _ = decide _
      rw [decide_eq_decide]; omega), cnt_interval]
    omega
theorem day_list {b : Int} {cs : List (Int × Int)} (v : Valid b cs) (f t : Int) (hf : 0 ≤ f) (ht : f ≤ t) {ks : List Int} (h1 : ks.Pairwise (· < ·)) (h2 : ∀ d, d ∈ ks ↔ ∃ x ∈ dall f b t cs, x.1 = d) :
    dayL (dall f b t cs) ks = ports (fun u => loc b cs u / 1440) f (t - f).toNat := by
  refine ports_of _ _ _ (dayL_ports (fun x hx => (dall_mem v hf hx).2.1) h1 (fun d hd => (h2 d).1 hd)) (fun d => ?_)
  rw [dayL_val _ d ks h1, ← dall_sum v (dayP d) (fun u => decide (u / 1440 = d)) (day_cnt d) f t hf ht]
  by_cases hd : d ∈ ks
  · rw [if_pos hd]
  · rw [if_neg hd, totP_zero d _ (fun x hx e => hd ((h2 d).2 ⟨x, hx, e⟩))]
/-- A sum of counts is at most the length. -/
theorem day_bd {b : Int} {cs : List (Int × Int)} (v : Valid b cs) (f t : Int) (hf : 0 ≤ f) (ht : f ≤ t) (d : Int) : totP (dayP d) (dall f b t cs) ≤ t - f := by
  rw [dall_sum v (dayP d) (fun u => decide (u / 1440 = d)) (day_cnt d) f t hf ht]
  have := cnt_le f (fun u => decide (loc b cs u / 1440 = d)) (t - f).toNat
  omega
theorem totP_len : ∀ s : List Piece, (∀ x ∈ s, x.2.1 < x.2.2) → (s.length : Int) ≤ totP (fun x => x.2.2 - x.2.1) s
  | [], _ => Int.le_refl _
  | x :: s, h => by
    have h1 := totP_len s (fun y hy => h y (List.mem_cons_of_mem _ hy))
    have h2 := h x List.mem_cons_self
    rw [totP_cons, List.length_cons]
    omega
theorem dall_len {b : Int} {cs : List (Int × Int)} (v : Valid b cs) (f t : Int) (hf : 0 ≤ f) (ht : f ≤ t) : ((dall f b t cs).length : Int) ≤ t - f := by
  have h := totP_len (dall f b t cs) (fun x hx => (dall_mem v hf hx).2.1)
  rw [dall_sum v (fun x => x.2.2 - x.2.1) (fun _ => true) (fun n k hk hn => by
    rw [cnt_congr n (q := fun u => decide (n ≤ u ∧ u < n + k)) k.toNat (fun u u0 u1 => by
      show true = decide _
      exact (decide_eq_true (by omega)).symm), cnt_interval]
    show n % 1440 + k - n % 1440 = _
    omega) f t hf ht] at h
  have := cnt_le f (fun _ => true) (t - f).toNat
  omega
/-- The sorted keys. -/
theorem sorted_keys {s : List Piece} {es : List (Lit × DataW Unit)} (h : Tal s (.map es)) (hp : es.Pairwise (fun p q => p.1 ≠ q.1)) (hk : ∀ p ∈ es, WideAt.IsKeyLit p.1) {ss : List Int} (hs : ss.Perm (intKeys (.map es))) :
    (ss.mergeSort fun x y => decide (x ≤ y)).Pairwise (· < ·) ∧ ∀ d, d ∈ (ss.mergeSort fun x y => decide (x ≤ y)) ↔ ∃ x ∈ s, x.1 = d := by
  have hin : ∀ p ∈ es, ∃ x ∈ s, p.1 = .int .i64 x.1 := fun p hpe => (h.has p.1).1 (by
    rw [has_eq, List.any_eq_true]; exact ⟨p, hpe, WideAt.sameKey_self (hk p hpe)⟩)
  have hnd : (intKeys (.map es)).Nodup := by
    refine List.pairwise_map.2 (hp.imp_of_mem fun {p q} hp' hq' hne e => hne ?_)
    obtain ⟨a, _, ha⟩ := hin p hp'
    obtain ⟨c, _, hc⟩ := hin q hq'
    rw [ha, hc] at e ⊢
    exact congrArg _ e
  have hm : ∀ d, d ∈ intKeys (.map es) ↔ ∃ x ∈ s, x.1 = d := fun d => by
    show d ∈ es.map (fun p => intOf p.1) ↔ _
    rw [List.mem_map]
    constructor
    · rintro ⟨p, hpe, rfl⟩
      obtain ⟨x, hx, e⟩ := hin p hpe
      exact ⟨x, hx, by rw [e]; rfl⟩
    · rintro ⟨x, hx, rfl⟩
      have h1 := (h.has (.int .i64 x.1)).2 ⟨x, hx, rfl⟩
      rw [has_eq, List.any_eq_true] at h1
      obtain ⟨p, hpe, e⟩ := h1
      exact ⟨p, hpe, by rw [WideAt.sameKey_eq e]; rfl⟩
  have tr : ∀ a b c : Int, decide (a ≤ b) = true → decide (b ≤ c) = true → decide (a ≤ c) = true := fun a b c h1 h2 => by simp only [decide_eq_true_eq] at *; omega
  have to : ∀ a b : Int, (decide (a ≤ b) || decide (b ≤ a)) = true := fun a b => by simp only [Bool.or_eq_true, decide_eq_true_eq]; omega
  have hsp := List.pairwise_mergeSort tr to ss
  have hnd2 : (ss.mergeSort fun x y => decide (x ≤ y)).Nodup := ((List.mergeSort_perm ss _).trans hs).nodup_iff.2 hnd
  refine ⟨?_, fun d => by rw [((List.mergeSort_perm ss _).trans hs).mem_iff, hm d]⟩
  refine (hsp.and hnd2).imp (fun {x y} hxy => ?_)
  have h1 : x ≤ y := of_decide_eq_true hxy.1
  have h2 : x ≠ y := hxy.2
  omega
end Go.Proofs.Ytjmnohbgfkohpaa.Zn
