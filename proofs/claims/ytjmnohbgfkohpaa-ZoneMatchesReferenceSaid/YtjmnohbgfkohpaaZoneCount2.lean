/- What the reference implementation's count does to portions that its caller made: one minute more on a day. Conditions: the portions are the caller's own, in increasing order of their days, at most 100, of at most a million minutes each. -/
import Derived.Test.YtjmnohbgfkohpaaZoneCount
import Derived.BigRegion
namespace Go.Proofs.Ytjmnohbgfkohpaa.Zn
open Go.RowKit
/-- Where a day belongs. -/
theorem place (d : Int) : ∀ l : List (Int × Int), Ports l → ∃ K, K ≤ l.length ∧ (∀ j x, j < K → l[j]? = some x → x.1 < d) ∧ ∀ j x, K ≤ j → l[j]? = some x → d ≤ x.1
  | [], _ => ⟨0, Nat.le_refl _, fun j x hj => by omega, fun j x _ hx => by simp at hx⟩
  | (e, n) :: r, h => by
    obtain ⟨h1, h2, -⟩ := ports_tail h
    by_cases hd : e < d
    · obtain ⟨K, k0, k1, k2⟩ := place d r h1
      refine ⟨K + 1, by simp only [List.length_cons]; omega, fun j x hj hx => ?_, fun j x hj hx => ?_⟩
      · cases j with
        | zero => obtain rfl := Option.some.inj hx; exact hd
        | succ j => exact k1 j x (by omega) hx
      · cases j with
        | zero => omega
        | succ j => exact k2 j x (by omega) hx
    · refine ⟨0, Nat.zero_le _, fun j x hj => by omega, fun j x _ hx => ?_⟩
      cases j with
      | zero => obtain rfl := Option.some.inj hx; show d ≤ e; omega
      | succ j =>
        have := h2 x (List.mem_of_getElem? hx)
        have h3 : e < x.1 := this
        omega
theorem ins_at {l : List (Int × Int)} {d : Int} {K : Nat} (h1 : ∀ j x, j < K → l[j]? = some x → x.1 < d) : ins l d = l.take K ++ ins (l.drop K) d := by
  have h := ins_split (l.take K) (l.drop K) d (fun x hx => by
    obtain ⟨j, hj⟩ := List.getElem?_of_mem hx
    rw [List.getElem?_take] at hj
    split at hj
    · exact h1 j x (by assumption) hj
    · cases hj)
  rwa [List.take_append_drop] at h
theorem ins_put {l : List (Int × Int)} {d m : Int} {K : Nat} (h1 : ∀ j x, j < K → l[j]? = some x → x.1 < d) (hK : l[K]? = some (d, m)) : ins l d = l.set K (d, m + 1) := by
  have hlt := (List.getElem?_eq_some_iff.1 hK).1
  rw [ins_at h1, drop_at hK, ins_same, List.set_eq_take_append_cons_drop, if_pos hlt]
theorem ins_mid {l : List (Int × Int)} {d : Int} {K : Nat} (h1 : ∀ j x, j < K → l[j]? = some x → x.1 < d) (h2 : ∀ j x, K ≤ j → l[j]? = some x → d ≤ x.1) (hK : ∀ x, l[K]? = some x → x.1 ≠ d) : ins l d = l.take K ++ ((d, 1) :: l.drop K) := by
  rw [ins_at h1, ins_new (l.drop K) d (fun x hx => by
    rw [List.getElem?_drop, Nat.add_zero] at hx
    have := h2 K x (Nat.le_refl _) hx
    have := hK x hx
    omega)]
theorem world_cells {w w' : World} {g : Nat} {cur : Array Value} {e : TypeId} {fr : Nat × Nat} (hg : w.heap[g]? = some (.cells cur e fr)) (k : Below w.heap.size w w') : w'.heap[g]? = some (.cells cur e fr) :=
  (k.block g (Array.getElem?_eq_some_iff.1 hg).1).trans hg
/-- A part of a row, as a source. -/
theorem src_part {w : World} {g n cap : Nat} {base : Nat} {l : List (Int × Int)} (h : RowP w base (.slice (some ⟨g, 0, none⟩) n cap) l) (o : Nat) (p : List (Int × Int)) (hp : ∀ i x, p[i]? = some x → l[o + i]? = some x) : ∀ j u, (flat p)[j]? = some u → w.cell? ((⟨g, o * 2, none⟩ : Addr).add j) = some u := by
  intro j u hu
  have e : ∀ j, (⟨g, o * 2, none⟩ : Addr).add j = ⟨g, o * 2 + j, none⟩ := fun j => by unfold Addr.add; split <;> simp_all
  have e0 : ∀ j, (⟨g, 0, none⟩ : Addr).add j = ⟨g, j, none⟩ := fun j => by unfold Addr.add; split <;> simp_all
  have hj : j < p.length * 2 := by rw [← flat_length]; exact (List.getElem?_eq_some_iff.1 hu).1
  obtain ⟨x, hx⟩ : ∃ x, p[j / 2]? = some x := ⟨_, List.getElem?_eq_getElem (by omega)⟩
  obtain ⟨f0, f1⟩ := flat_get p (j / 2) x hx
  obtain ⟨g0, g1⟩ := flat_get l (o + j / 2) x (hp _ x hx)
  have c0 := World.ownsRow.cells h (g := g) rfl _ _ g0
  have c1 := World.ownsRow.cells h (g := g) rfl _ _ g1
  rw [e0] at c0 c1
  rw [e]
  rcases Nat.mod_two_eq_zero_or_one j with hm | hm
  · rw [show j / 2 * 2 = j by omega] at f0
    rw [show (o + j / 2) * 2 = o * 2 + j by omega] at c0
    rw [f0] at hu
    rw [c0, hu]
  · rw [show j / 2 * 2 + 1 = j by omega] at f1
    rw [show (o + j / 2) * 2 + 1 = o * 2 + j by omega] at c1
    rw [f1] at hu
    rw [c1, hu]
end Go.Proofs.Ytjmnohbgfkohpaa.Zn
