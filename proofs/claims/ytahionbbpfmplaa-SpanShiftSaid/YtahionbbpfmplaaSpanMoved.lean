/- What the laws' helper moved returns. Conditions: the list lies in memory as the argument says; it is short; the bounds are such that nothing leaves Go's ints. -/
import Derived.Test.YtahionbbpfmplaaSpanAt
import Derived.Deep.Cut
import Derived.Test.YtahionbbpfmplaaSpanOpen
namespace Go.Proofs.Ytahionbbpfmplaa.Sp
open Go.RowKit
theorem mv_snoc {l : List Sn} {i : Nat} {x : Sn} {k : Int} (hx : l[i]? = some x) : mv k (l.take (i + 1)) = mv k (l.take i) ++ [(x.1 + k, x.2 + k)] := by
  unfold mv
  rw [List.take_add_one, hx, List.map_append]; rfl
/-- Bounds that can be moved by k. -/
def Fits (k : Int) (l : List Sn) : Prop := ∀ x ∈ l, -9223372036854775808 ≤ x.1 + k ∧ x.1 + k ≤ 9223372036854775807 ∧ -9223372036854775808 ≤ x.2 + k ∧ x.2 + k ≤ 9223372036854775807
set_option maxHeartbeats 2000000 in
set_option maxRecDepth 100000 in
theorem moved_any (a : Option Addr) (c : Nat) (l : List Sn) (k : Int) (w : World) (hl : l.length ≤ 2000) (hf : Fits k l) (z : SpansAt a l w) :
    Calls Try.prog 29 #[.slice a l.length c, .int .i64 k] w fun r w' => ∃ v, r = .returned v ∧ RowS w' w.heap.size v (mv k l) ∧ Below w.heap.size w w' := by
  obtain ⟨n, hn⟩ : ∃ n, n = l.length := ⟨_, rfl⟩
  rw [← hn] at hl ⊢
  have HN := Lib.hid hn
  have HF := Lib.hid hf
  have HZ := Lib.hid (fun w' (k : Below w.heap.size w w') => z.below k)
  clear hn z hf
  obtain ⟨i0, hi, hz0, hz1, hz2⟩ := info_parts Try.infoS
  have HI0 := Lib.hid (And.intro hi (And.intro hz0 (And.intro hz1 hz2)))
  clear hi hz0 hz1 hz2
  go_enter Try.func29, Try.ntmps29
  go_wp2
  go_loopg [5, 10] n (fun g s5 s10 wx => ∃ (i : Nat) (acc : List Sn), i + g = n ∧ s10 = .int .i64 i ∧ Hid (acc = mv k (l.take i)) ∧ acc.length ≤ i ∧ Hid (RowS wx w.heap.size s5 acc) ∧ Below w.heap.size w wx)
  case atStart => exact ⟨0, [], by omega, rfl, (show [] = _ by rw [List.take_zero]; rfl), Nat.le_refl _, RowS.nil _ _, Below.refl _ _⟩
  case round =>
    obtain ⟨i, acc, hi, rfl, HA, hal, HR, hb⟩ := hrel
    cases gk with
    | zero =>
      have hlt : ¬ (i : Int) < (n : Int) := by omega
      have HF := Lib.hid (show acc = mv k l by rw [HA.out, List.take_of_length_le (by have := HN.out; omega)])
      clear HA
      go_wp2
      go_ret
      exact ⟨_, rfl, by rw [← HF.out]; exact HR.out, hb⟩
    | succ g =>
      have hlt : (i : Int) < (n : Int) := by omega
      obtain ⟨x, hx⟩ : ∃ x, l[i]? = some x := ⟨_, List.getElem?_eq_getElem (by have := HN.out; omega)⟩
      obtain ⟨bb, off, rfl, c1, c2⟩ := HZ.out _ hb i x hx
      have HA2 := Lib.hid (show acc ++ [(x.1 + k, x.2 + k)] = mv k (l.take (i + 1)) by rw [mv_snoc hx, HA.out])
      obtain ⟨f1, f2, f3, f4⟩ := HF.out x (List.mem_of_getElem? hx)
      have hw1 := IntWalk.i64_in (x.1 + k) (by omega)
      have hw2 := IntWalk.i64_in (x.2 + k) (by omega)
      have hsz := hb.size
      clear hx HA f1 f2 f3 f4
      obtain ⟨x1, x2⟩ := x
      simp only at hw1 hw2 c1 c2 HA2
      have hb2 := hb.trans ((alloc_below wr (.cells #[.int .i64 x1, .int .i64 x2] 33)).mono hb.size)
      have HR2 := Lib.hid (HR.out.below (alloc_below wr (.cells #[.int .i64 x1, .int .i64 x2] 33)))
      have e1 : (wr.alloc (.cells #[.int .i64 x1, .int .i64 x2] 33)).cell? ⟨wr.heap.size, 0, none⟩ = some (.int .i64 x1) := by simp
      have e2 : (wr.alloc (.cells #[.int .i64 x1, .int .i64 x2] 33)).cell? ⟨wr.heap.size, 1, none⟩ = some (.int .i64 x2) := by simp
      go_upto_region 5 with (fail)
      generalize wr.alloc (.cells #[.int .i64 x1, .int .i64 x2] 33) = W5 at *
      go_wp2_with (first
        | (at_builtin; refine wpList_append_own _ rfl _ _ 22 rfl w.heap.size 33 i0 (.agg #[.int .i64 0, .int .i64 0]) 2 16 Try.underS HI0.out.1 HI0.out.2.1 HI0.out.2.2.1 HI0.out.2.2.2 rfl (by decide) _ _ _ rfl (World.ownsRow.alloc HR2.out _) _ 1 1 [.int .i64 (x1 + k), .int .i64 (x2 + k)] rfl rfl (two_cells rfl) two_one (by unfold maxLen; omega) (by omega) (Nat.le_trans hb2.size (alloc_below _ _).size) ?_; intro v' w4 hown' hgrow _; have hB := row_grown hb2 hb2.size (World.ownsRow.alloc HR2.out _) hgrow (Nat.le_refl _); have HR1 := Lib.hid (RowS.push (l := acc) hown'); clear hown' hgrow))
      go_roundg g
      case measure => omega
      case rel => exact ⟨i + 1, _, by omega, by go_num, HA2.out, by rw [List.length_append]; show _ + 1 ≤ _; omega, HR1.out, hB⟩
theorem mv_len (k : Int) (l : List Sn) : (mv k l).length = l.length := by unfold mv; rw [List.length_map]
theorem moved_at {n : Nat} {xs : List Sn} {k : Int} (hn : Ln n xs) (b1 : n ≤ 1000) (hf : Fits k xs) : ∀ a c w, SpansAt a xs w → Calls Try.prog 29 #[.slice a n c, .int .i64 k] w fun r w' => ∃ a c, r = .returned (.slice a n c) ∧ SpansAt a (mv k xs) w' ∧ Below w.heap.size w w' := fun a c w z => by
  unfold Ln at hn; subst hn
  exact (moved_any a c xs k w (by omega) hf z).mono fun r w' h => ret_of (show Ln _ _ from (mv_len k xs).symm) h
end Go.Proofs.Ytahionbbpfmplaa.Sp
