/- What the laws' helpers list and moved return. Conditions: the numbers, the spans lie in memory as the arguments say; few of them; the bounds are such that nothing leaves Go's ints. -/
import Derived.Test.YtahionbbpfmplaaSpanHelp
import Derived.Deep.RegionHeld3
import Derived.Deep.Cut
namespace Go.Proofs.Ytahionbbpfmplaa.Sp
open Go.RowKit
/-- Numbers in pairs. -/
def prs : List Int → List Sn
  | x :: y :: r => (x, y) :: prs r
  | _ => []
theorem prs_short {l : List Int} (h : l.length < 2) : prs l = [] := by
  match l, h with
  | [], _ => rfl
  | [x], _ => rfl
  | x :: y :: r, h => simp at h; omega
theorem prs_drop {l : List Int} {i : Nat} {x y : Int} (hx : l[i]? = some x) (hy : l[i + 1]? = some y) : prs (l.drop i) = (x, y) :: prs (l.drop (i + 2)) := by
  obtain ⟨h1, e1⟩ := List.getElem?_eq_some_iff.1 hx
  obtain ⟨h2, e2⟩ := List.getElem?_eq_some_iff.1 hy
  rw [List.drop_eq_getElem_cons h1, List.drop_eq_getElem_cons h2, e1, e2]
  rfl
set_option maxHeartbeats 2000000 in
set_option maxRecDepth 100000 in
theorem list_any (g c : Nat) (bs : List Int) (w : World) (hl : bs.length ≤ 1000) (hc : ∀ i x, bs[i]? = some x → w.cell? ⟨g, i, none⟩ = some (.int .i64 x)) :
    Calls Try.prog 31 #[.slice (some ⟨g, 0, none⟩) bs.length c] w fun r w' => ∃ v, r = .returned v ∧ RowS w' w.heap.size v (prs bs) ∧ Below w.heap.size w w' := by
  obtain ⟨n, hn⟩ : ∃ n, n = bs.length := ⟨_, rfl⟩
  rw [← hn] at hl ⊢
  have HN := Lib.hid hn
  have HC := Lib.hid (fun w' (k : Below w.heap.size w w') i x (hx : bs[i]? = some x) => cell_kept k (hc i x hx))
  clear hn hc
  obtain ⟨i0, hi, hz0, hz1, hz2⟩ := info_parts Try.infoS
  have HI0 := Lib.hid (And.intro hi (And.intro hz0 (And.intro hz1 hz2)))
  clear hi hz0 hz1 hz2
  go_enter Try.func31, Try.ntmps31
  go_wp2
  go_loopg [3, 4] n (fun r s3 s4 wx => ∃ (i : Nat) (acc : List Sn), i + r = n ∧ s4 = .int .i64 i ∧ acc.length ≤ i ∧ Hid (prs bs = acc ++ prs (bs.drop i)) ∧ Hid (RowS wx w.heap.size s3 acc) ∧ Below w.heap.size w wx)
  case atStart => exact ⟨0, [], by omega, rfl, Nat.le_refl _, (show prs bs = [] ++ prs (bs.drop 0) by rw [List.drop_zero]; rfl), RowS.nil _ _, Below.refl _ _⟩
  case round =>
    obtain ⟨i, acc, hi, rfl, hal, HS, HR, hb⟩ := hrel
    have hsz := hb.size
    have hw := IntWalk.i64_in ((i : Int) + 1) (by omega)
    by_cases hin : i + 1 < n
    · have hlt : (i : Int) + 1 < (n : Int) := by omega
      have hlt2 : (i : Int) < (n : Int) := by omega
      have hnn : ((i : Int) + 1).toNat = i + 1 := by omega
      obtain ⟨x, hx⟩ : ∃ x, bs[i]? = some x := ⟨_, List.getElem?_eq_getElem (by have := HN.out; omega)⟩
      obtain ⟨y, hy⟩ : ∃ y, bs[i + 1]? = some y := ⟨_, List.getElem?_eq_getElem (by have := HN.out; omega)⟩
      have c1 := HC.out _ hb i x hx
      have c2 := HC.out _ hb (i + 1) y hy
      have HS2 := Lib.hid (show prs bs = (acc ++ [(x, y)]) ++ prs (bs.drop (i + 2)) by rw [HS.out, prs_drop hx hy, List.append_assoc]; rfl)
      have hw2 := IntWalk.i64_in ((i : Int) + 2) (by omega)
      have hmix : Try.prog.follows .mixedOrders = true := by kernel_rfl
      have HX := Lib.hid (And.intro hx hy)
      clear hx hy HS
      have HRD := Lib.hid (HR.out.below (Below.refl _ _).drew)
      have hbd := hb.trans ((Below.refl _ wr).drew.mono hb.size)
      have hi0 : (0 : Int) ≤ (i : Int) + 1 := by omega
      go_upto_region 5 with (fail)
      refine wp_region_held_drew (S := fun w' => w'.cell? ⟨g, i, none⟩ = some (.int .i64 x) ∧ w'.cell? ⟨g, i + 1, none⟩ = some (.int .i64 y)) hmix ⟨c1, c2⟩ (fun hHeld => ?_)
      refine wpAnyH_take (i := 0) (v := ?_) rfl (by kernel_rfl) (by kernel_rfl) (by kernel_rfl) (fun _ _ _ h => h) (Or.inl ⟨by rfl, ?_⟩) (by assumption) ?_
      rotate_left
      · intro w hSw; (try dsimp only at hSw); go_simp; (try with_reducible rfl)
      (try simp only [Act.put, List.getElem_toArray, List.getElem_cons_zero, List.setIfInBounds_toArray, List.set_cons_zero, List.set_cons_succ])
      refine wpAnyH_take (i := 1) (v := ?_) rfl (by kernel_rfl) (by kernel_rfl) (by kernel_rfl) (fun _ _ _ h => h) (Or.inl ⟨by rfl, ?_⟩) (by assumption) ?_
      rotate_left
      · intro w hSw; (try dsimp only at hSw); go_simp; (try with_reducible rfl)
      (try simp only [Act.put, List.getElem_toArray, List.getElem_cons_succ, List.getElem_cons_zero, List.setIfInBounds_toArray, List.set_cons_zero, List.set_cons_succ])
      refine wpAnyH_take (i := 2) (v := ?_) rfl (by kernel_rfl) (by kernel_rfl) (by kernel_rfl) (fun _ _ _ h => h) (Or.inl ⟨by rfl, ?_⟩) (by assumption) ?_
      rotate_left
      · intro w hSw; (try dsimp only at hSw); go_simp; (try with_reducible rfl)
      (try simp only [Act.put, List.getElem_toArray, List.getElem_cons_succ, List.getElem_cons_zero, List.setIfInBounds_toArray, List.set_cons_zero, List.set_cons_succ])
      refine wpAnyH_take (i := 3) (v := ?_) rfl (by kernel_rfl) (by kernel_rfl) (by kernel_rfl) (fun _ _ _ h => h) (Or.inl ⟨by rfl, ?_⟩) (by assumption) ?_
      rotate_left
      · intro w hSw; (try dsimp only at hSw); go_simp; (try with_reducible rfl)
      (try simp only [Act.put, List.getElem_toArray, List.getElem_cons_succ, List.getElem_cons_zero, List.setIfInBounds_toArray, List.set_cons_zero, List.set_cons_succ])
      refine wpAnyH_take (i := 4) (v := ?_) rfl (by kernel_rfl) (by kernel_rfl) (by kernel_rfl) (fun _ _ _ h => h) (Or.inl ⟨by rfl, ?_⟩) (by assumption) ?_
      rotate_left
      · intro w hSw; (try dsimp only at hSw); go_simp; (try with_reducible rfl)
      (try simp only [Act.put, List.getElem_toArray, List.getElem_cons_succ, List.getElem_cons_zero, List.setIfInBounds_toArray, List.set_cons_zero, List.set_cons_succ])
      refine wpAnyH_take (i := 5) (v := ?_) rfl (by kernel_rfl) (by kernel_rfl) (by kernel_rfl) (fun _ _ _ h => h) (Or.inl ⟨by rfl, ?_⟩) (by assumption) ?_
      rotate_left
      · intro w hSw; (try dsimp only at hSw); go_simp; (try with_reducible rfl)
      (try simp only [Act.put, List.getElem_toArray, List.getElem_cons_succ, List.getElem_cons_zero, List.setIfInBounds_toArray, List.set_cons_zero, List.set_cons_succ])
      refine wpAnyH_take (i := 6) (v := ?_) rfl (by kernel_rfl) (by kernel_rfl) (by kernel_rfl) (fun _ _ _ h => h) (Or.inl ⟨by rfl, ?_⟩) (by assumption) ?_
      rotate_left
      · intro w hSw; (try dsimp only at hSw); go_simp; (try with_reducible rfl)
      (try simp only [Act.put, List.getElem_toArray, List.getElem_cons_succ, List.getElem_cons_zero, List.setIfInBounds_toArray, List.set_cons_zero, List.set_cons_succ])
      refine wpAnyH_take (i := 7) (v := ?_) rfl (by kernel_rfl) (by kernel_rfl) (by kernel_rfl) (fun _ _ _ h => h) (Or.inl ⟨by rfl, ?_⟩) (by assumption) ?_
      rotate_left
      · intro w hSw; (try dsimp only at hSw); go_simp; (try with_reducible rfl)
      (try simp only [Act.put, List.getElem_toArray, List.getElem_cons_succ, List.getElem_cons_zero, List.setIfInBounds_toArray, List.set_cons_zero, List.set_cons_succ])
      refine wpAnyH_take (i := 8) (v := ?_) rfl (by kernel_rfl) (by kernel_rfl) (by kernel_rfl) (fun _ _ _ h => h) (Or.inl ⟨by rfl, ?_⟩) (by assumption) ?_
      rotate_left
      · intro w hSw; (try dsimp only at hSw); go_simp; (try with_reducible rfl)
      (try simp only [Act.put, List.getElem_toArray, List.getElem_cons_succ, List.getElem_cons_zero, List.setIfInBounds_toArray, List.set_cons_zero, List.set_cons_succ])
      refine wpAnyH_take (i := 9) (v := ?_) rfl (by kernel_rfl) (by kernel_rfl) (by kernel_rfl) (fun _ _ _ h => h) (Or.inl ⟨by rfl, ?_⟩) (by assumption) ?_
      rotate_left
      · intro w hSw; (try dsimp only at hSw); go_simp; (try with_reducible rfl)
      (try simp only [Act.put, List.getElem_toArray, List.getElem_cons_succ, List.getElem_cons_zero, List.setIfInBounds_toArray, List.set_cons_zero, List.set_cons_succ])
      refine wpAnyH_take (i := 10) (v := ?_) rfl (by kernel_rfl) (by kernel_rfl) (by kernel_rfl) (fun _ _ _ h => h) (Or.inl ⟨by rfl, ?_⟩) (by assumption) ?_
      rotate_left
      · intro w hSw; (try dsimp only at hSw); go_simp; (try with_reducible rfl)
      (try simp only [Act.put, List.getElem_toArray, List.getElem_cons_succ, List.getElem_cons_zero, List.setIfInBounds_toArray, List.set_cons_zero, List.set_cons_succ])
      refine wpAnyH_ready (rs := [11]) (by kernel_rfl) (by simp) ?_
      refine AllReadyH.cons rfl (fun K hK => ?_) AllReadyH.nil
      go_simp
      (try skip)
      refine hK.out _ _ ⟨cell_kept (alloc_below _ _) c1, cell_kept (alloc_below _ _) c2⟩ (fun hHeld => ?_)
      clear hK K
      (try simp only [Act.put, List.getElem_toArray, List.getElem_cons_succ, List.getElem_cons_zero, List.setIfInBounds_toArray, List.set_cons_zero, List.set_cons_succ])
      refine wpAnyH_ready (rs := [12]) (by kernel_rfl) (by simp) ?_
      refine AllReadyH.cons rfl (fun K hK => ?_) AllReadyH.nil
      refine step_append_lies _ (by rfl) _ _ 22 (by rfl) w.heap.size 33 i0 (.agg #[.int .i64 0, .int .i64 0]) 2 16 Try.underS HI0.out.1 HI0.out.2.1 HI0.out.2.2.1 HI0.out.2.2.2 rfl (by decide) _ _ _ (by rfl) (World.ownsRow.alloc HRD.out _) _ 1 1 [.int .i64 x, .int .i64 y] (by rfl) rfl (two_cells rfl) two_one (by decide) (by unfold maxLen; omega) (by omega) (Nat.le_trans hbd.size (alloc_below wr.drew (.cells #[.int .i64 x, .int .i64 y] 33)).size) _ rfl ?_; intro g2 cap2 w1 hown' hgrow _ _; have hB := row_grown hbd hbd.size (World.ownsRow.alloc HRD.out _) hgrow (Nat.le_refl _); have HR1 := Lib.hid (RowS.push (l := acc) hown'); clear hown' hgrow
      refine hK.out _ _ ⟨HC.out _ hB _ _ HX.out.1, HC.out _ hB _ _ HX.out.2⟩ (fun hHeld => ?_)
      clear hK K
      (try simp only [Act.put, List.getElem_toArray, List.getElem_cons_succ, List.getElem_cons_zero, List.setIfInBounds_toArray, List.set_cons_zero, List.set_cons_succ])
      refine wpAnyH_take (i := 13) (v := ?_) rfl (by kernel_rfl) (by kernel_rfl) (by kernel_rfl) (fun _ _ _ h => h) (Or.inl ⟨by rfl, ?_⟩) (by assumption) ?_
      rotate_left
      · intro w hSw; (try dsimp only at hSw); go_simp; (try with_reducible rfl)
      (try simp only [Act.put, List.getElem_toArray, List.getElem_cons_succ, List.getElem_cons_zero, List.setIfInBounds_toArray, List.set_cons_zero, List.set_cons_succ])
      refine wpAnyH_done (by kernel_rfl) ?_ _
      go_wp2
      cases gk with
      | zero => omega
      | succ r =>
        cases r with
        | zero => omega
        | succ r =>
          go_roundg r
          case measure => omega
          case rel => exact ⟨i + 2, acc ++ [(x, y)], by omega, by go_num, by rw [List.length_append]; show _ + 1 ≤ _; omega, HS2.out, HR1.out, hB⟩
    · have hlt : ¬ (i : Int) + 1 < (n : Int) := by omega
      have HE := Lib.hid (show prs bs = acc by rw [HS.out, prs_short (by rw [List.length_drop]; have := HN.out; omega), List.append_nil])
      clear hin
      go_wp2
      go_ret
      exact ⟨_, rfl, by rw [HE.out]; exact HR.out, hb⟩
end Go.Proofs.Ytahionbbpfmplaa.Sp
