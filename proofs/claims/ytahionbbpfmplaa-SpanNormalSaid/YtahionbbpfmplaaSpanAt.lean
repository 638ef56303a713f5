/- The contracts of the developers' span, over named lengths, as the laws' walks take them. Conditions: the lists lie in memory as the arguments say; they are short. -/
import Derived.Test.YtahionbbpfmplaaSpanOwn6
import Derived.Test.YtahionbbpfmplaaSpanHelp2
import Derived.Test.YtahionbbpfmplaaSpanRef
namespace Go.Proofs.Ytahionbbpfmplaa.Sp
open Go.RowKit
/-- The length of a list. -/
def Ln (n : Nat) (l : List Sn) : Prop := n = l.length
/-- A list of spans is returned. -/
def Ret (k : Nat) (l : List Sn) (w : World) (r : Ending) (w' : World) : Prop := ∃ a c, r = .returned (.slice a k c) ∧ SpansAt a l w' ∧ Below w.heap.size w w'
theorem ret_of {k : Nat} {l : List Sn} {w w' : World} {r : Ending} (hk : Ln k l) (h : ∃ v, r = .returned v ∧ RowS w' w.heap.size v l ∧ Below w.heap.size w w') : Ret k l w r w' := by
  obtain ⟨v, hr, hrow, hb⟩ := h
  obtain ⟨a, c, rfl, hz⟩ := hrow.spans
  unfold Ln at hk
  subst hk
  exact ⟨a, c, hr, hz, hb⟩
section
variable {n m k : Nat} {xs ys : List Sn}
theorem norm_bd {B : Nat} (hk : Ln k (norm xs)) (hn : Ln n xs) (b : n ≤ B) : k ≤ B := by
  have := norm_len xs; unfold Ln at *; omega
theorem union_bd {B C : Nat} (hk : Ln k (union xs ys)) (hn : Ln n xs) (hm : Ln m ys) (b : n ≤ B) (c : m ≤ C) : k ≤ B + C := by
  have := union_len xs ys; unfold Ln at *; omega
theorem meet_bd {B C : Nat} (hk : Ln k (meet xs ys)) (hn : Ln n xs) (hm : Ln m ys) (b : n ≤ B) (c : m ≤ C) : k ≤ B + C := by
  have := meet_len xs ys; unfold Ln at *; omega
theorem minus_bd {B C : Nat} (hk : Ln k (minus xs ys)) (hn : Ln n xs) (hm : Ln m ys) (b : n ≤ B) (c : m ≤ C) : k ≤ B + C := by
  have := minus_len xs ys; unfold Ln at *; omega
theorem union_at (hn : Ln n xs) (hm : Ln m ys) (hk : Ln k (union xs ys)) (b1 : n ≤ 1000) (b2 : m ≤ 1000) : ∀ a1 c1 a2 c2 w, SpansAt a1 xs w → SpansAt a2 ys w → Calls Try.prog 17 #[.slice a1 n c1, .slice a2 m c2] w fun r w' => ∃ a c, r = .returned (.slice a k c) ∧ SpansAt a (union xs ys) w' ∧ Below w.heap.size w w' := fun a1 c1 a2 c2 w z1 z2 => by
  unfold Ln at hn hm; subst hn; subst hm
  exact (union_any a1 a2 c1 c2 xs ys w (by omega) (by omega) z1 z2).mono fun r w' h => ret_of hk h
theorem meet_at (hn : Ln n xs) (hm : Ln m ys) (hk : Ln k (meet xs ys)) (b1 : n ≤ 1000) (b2 : m ≤ 1000) : ∀ a1 c1 a2 c2 w, SpansAt a1 xs w → SpansAt a2 ys w → Calls Try.prog 19 #[.slice a1 n c1, .slice a2 m c2] w fun r w' => ∃ a c, r = .returned (.slice a k c) ∧ SpansAt a (meet xs ys) w' ∧ Below w.heap.size w w' := fun a1 c1 a2 c2 w z1 z2 => by
  unfold Ln at hn hm; subst hn; subst hm
  exact (meet_any a1 a2 c1 c2 xs ys w (by omega) (by omega) z1 z2).mono fun r w' h => ret_of hk h
theorem minus_at (hn : Ln n xs) (hm : Ln m ys) (hk : Ln k (minus xs ys)) (b1 : n ≤ 1000) (b2 : m ≤ 1000) : ∀ a1 c1 a2 c2 w, SpansAt a1 xs w → SpansAt a2 ys w → Calls Try.prog 21 #[.slice a1 n c1, .slice a2 m c2] w fun r w' => ∃ a c, r = .returned (.slice a k c) ∧ SpansAt a (minus xs ys) w' ∧ Below w.heap.size w w' := fun a1 c1 a2 c2 w z1 z2 => by
  unfold Ln at hn hm; subst hn; subst hm
  exact (minus_any a1 a2 c1 c2 xs ys w (by omega) (by omega) z1 z2).mono fun r w' h => ret_of hk h
theorem normal_at' (hn : Ln n xs) (hk : Ln k (norm xs)) (b1 : n ≤ 1000) : ∀ a c w, SpansAt a xs w → Calls Try.prog 15 #[.slice a n c] w fun r w' => ∃ a c, r = .returned (.slice a k c) ∧ SpansAt a (norm xs) w' ∧ Below w.heap.size w w' := fun a c w z => by
  unfold Ln at hn; subst hn
  exact (normal_any a c xs w (by omega) z).mono fun r w' h => ret_of hk h
theorem same_at (hn : Ln n xs) (hm : Ln m ys) (b1 : n ≤ 1000) (h : xs = ys) : ∀ a1 c1 a2 c2 w, SpansAt a1 xs w → SpansAt a2 ys w → Calls Try.prog 14 #[.slice a1 n c1, .slice a2 m c2] w fun r w' => r = .returned (.bool true) ∧ Below w.heap.size w w' := fun a1 c1 a2 c2 w z1 z2 => by
  unfold Ln at hn hm; subst hn; subst hm
  exact (rsame_any a1 a2 c1 c2 xs ys w (by omega) z1 z2).mono fun r w' ⟨hr, hw⟩ => ⟨hr.trans (ret_bool (decide_eq_true h)), hw⟩
theorem valid_at (hn : Ln n xs) (b1 : n ≤ 1000) : ∀ a c w, SpansAt a xs w → Calls Try.prog 12 #[.slice a n c] w fun r w' => r = .returned (.bool (decide (Nf xs))) ∧ Below w.heap.size w w' := fun a c w z => by
  unfold Ln at hn; subst hn
  exact valid_any a c xs w (by omega) z
theorem size_at (hn : Ln n xs) (b1 : n ≤ 1000) : ∀ a c w, SpansAt a xs w → Calls Try.prog 25 #[.slice a n c] w fun r w' => r = .returned (.int .i64 (size xs)) ∧ Below w.heap.size w w' := fun a c w z => by
  unfold Ln at hn; subst hn
  exact size_any a c xs w (by omega) z
theorem has_at (hn : Ln n xs) (b1 : n ≤ 1000) (q : Int) : ∀ a c w, SpansAt a xs w → Calls Try.prog 23 #[.slice a n c, .int .i64 q] w fun r w' => r = .returned (.bool (has xs q)) ∧ Below w.heap.size w w' := fun a c w z => by
  unfold Ln at hn; subst hn
  exact has_any a c xs q w (by omega) z
end
/-- The laws' short, at a row of lists that has just been made. -/
theorem short_new (vs : List (Option Addr × Nat × Nat)) (w0 : World) (T : TypeId) (hl : vs.length ≤ 1000) :
    Calls Try.prog 11 #[.slice (some ⟨w0.heap.size, 0, none⟩) vs.length vs.length] (w0.alloc (.cells (vs.map fun x => Value.slice x.1 x.2.1 x.2.2).toArray T)) fun r w' => r = .returned (.bool (vs.all fun x => decide (x.2.1 ≤ 60))) ∧ Below w0.heap.size w0 w' := by
  refine (short_any w0.heap.size vs.length vs _ hl (fun i x hx => ?_)).mono fun r w' ⟨hr, hb⟩ => ⟨hr, box_below hb⟩
  have h := new_cells (w := w0) (o := .cells (vs.map fun x => Value.slice x.1 x.2.1 x.2.2).toArray T) rfl i (.slice x.1 x.2.1 x.2.2) (by rw [List.getElem?_map, hx]; rfl)
  rwa [show (⟨w0.heap.size, 0, none⟩ : Addr).add i = ⟨w0.heap.size, i, none⟩ by unfold Addr.add; split <;> simp_all] at h
/-- The laws' list, at numbers that have just been laid. -/
theorem list_new (bs : List Int) (L : List Sn) (k : Nat) (w0 : World) (T : TypeId) (hl : bs.length ≤ 1000) (hL : prs bs = L) (hk : Ln k L) :
    Calls Try.prog 31 #[.slice (some ⟨w0.heap.size, 0, none⟩) bs.length bs.length] (w0.alloc (.cells (bs.map (Value.int .i64)).toArray T)) fun r w' => ∃ a c, r = .returned (.slice a k c) ∧ SpansAt a L w' ∧ Below w0.heap.size w0 w' := by
  refine (list_any w0.heap.size bs.length bs _ hl (fun i x hx => ?_)).mono fun r w' h => ?_
  · have h := new_cells (w := w0) (o := .cells (bs.map (Value.int .i64)).toArray T) rfl i (.int .i64 x) (by rw [List.getElem?_map, hx]; rfl)
    rwa [show (⟨w0.heap.size, 0, none⟩ : Addr).add i = ⟨w0.heap.size, i, none⟩ by unfold Addr.add; split <;> simp_all] at h
  · subst hL
    obtain ⟨a, c, hr, hz, hb⟩ := ret_of hk h
    exact ⟨a, c, hr, hz, box_below hb⟩
end Go.Proofs.Ytahionbbpfmplaa.Sp
