/- What the reference implementation's Slope and At of piecewise linear functions return. Conditions: the pieces lie in memory as the argument says; the function is valid, the argument is one. -/
import Derived.Test.YtdoojpilogcnjaaPwRef
set_option linter.unusedVariables false
set_option linter.unusedSimpArgs false
namespace Go.Proofs.Ytdoojpilogcnjaa.Pw
open Go.RowKit Go.Proofs.Ytdoojpilogcnjaa.Sp
/-- Three cells filled, one after the other. -/
theorem fill3 {B nb : Nat} {w0 w : World} {a b c x y z : Value} (hb : Below B w0 w) (hB : B ≤ nb) (h0 : w.cell? ⟨nb, 0, none⟩ = some x) (h1 : w.cell? ⟨nb, 1, none⟩ = some y) (h2 : w.cell? ⟨nb, 2, none⟩ = some z) :
    (((w.setCell ⟨nb, 0, none⟩ a).setCell ⟨nb, 1, none⟩ b).setCell ⟨nb, 2, none⟩ c).cell? ⟨nb, 0, none⟩ = some a ∧ (((w.setCell ⟨nb, 0, none⟩ a).setCell ⟨nb, 1, none⟩ b).setCell ⟨nb, 2, none⟩ c).cell? ⟨nb, 1, none⟩ = some b ∧ (((w.setCell ⟨nb, 0, none⟩ a).setCell ⟨nb, 1, none⟩ b).setCell ⟨nb, 2, none⟩ c).cell? ⟨nb, 2, none⟩ = some c ∧ Below B w0 (((w.setCell ⟨nb, 0, none⟩ a).setCell ⟨nb, 1, none⟩ b).setCell ⟨nb, 2, none⟩ c) := by
  have n01 : (⟨nb, 0, none⟩ : Addr) ≠ ⟨nb, 1, none⟩ := fun e => by cases e
  have n02 : (⟨nb, 0, none⟩ : Addr) ≠ ⟨nb, 2, none⟩ := fun e => by cases e
  have n12 : (⟨nb, 1, none⟩ : Addr) ≠ ⟨nb, 2, none⟩ := fun e => by cases e
  refine ⟨?_, ?_, ?_, ((hb.setCell hB a).setCell hB b).setCell hB c⟩
  · rw [World.cell?_setCell_other _ _ _ _ (Ne.symm n02), World.cell?_setCell_other _ _ _ _ (Ne.symm n01)]
    exact World.cell?_setCell_same' _ _ _ (by rw [h0]; rfl)
  · rw [World.cell?_setCell_other _ _ _ _ (Ne.symm n12)]
    exact World.cell?_setCell_same' _ _ _ (by rw [World.cell?_setCell_other _ _ _ _ n01, h1]; rfl)
  · exact World.cell?_setCell_same' _ _ _ (by rw [World.cell?_setCell_other _ _ _ _ n12, World.cell?_setCell_other _ _ _ _ n02, h2]; rfl)
set_option maxHeartbeats 2000000 in
set_option maxRecDepth 100000 in
theorem rslope_any (d x : Int) (a : Option Addr) (c : Nat) (l : List Pc) (w : World) (hn1 : l.length ≤ 64) (hne : l ≠ []) (z : PcsAt a l w) :
    Calls Try.prog 33 #[fv d a l.length c, .int .i64 x] w fun r w' => r = .returned (.int .i64 (slp l x)) ∧ Below w.heap.size w w' := by
  obtain ⟨n, hn⟩ : ∃ n, n = l.length := ⟨_, rfl⟩
  have hl : l.length ≤ 1000 := by omega
  have hP := fun w' (k : Below w.heap.size w w') => rpiece_any d x a c l w' hl (z.below k)
  obtain ⟨k, hk⟩ : ∃ k, k = ix l x := ⟨_, rfl⟩
  obtain ⟨⟨p1, p2, p3⟩, hp⟩ : ∃ p, p = pick l x := ⟨_, rfl⟩
  have hget := ix_get hne x
  rw [← hk, ← hp] at hget
  rw [← hk] at hP
  obtain ⟨b, off, rfl, -, -, -⟩ := z k _ hget
  have hkn : k < n := by rw [hn]; exact (List.getElem?_eq_some_iff.1 hget).1
  have HC := Lib.hid (fun w' (q : Below w.heap.size w w') => (show w'.cell? ⟨b, off + k * 3, none⟩ = some (.int .i64 p1) ∧ w'.cell? ⟨b, off + k * 3 + 1, none⟩ = some (.int .i64 p2) ∧ w'.cell? ⟨b, off + k * 3 + 2, none⟩ = some (.int .i64 p3) by
    obtain ⟨b2, o2, e, u1, u2, u3⟩ := z.below q k _ hget
    cases e
    exact ⟨u1, u2, u3⟩))
  rw [← hn] at hP hl ⊢
  have HP := Lib.hid hP
  have HPK := Lib.hid hp
  have hkn2 : (k : Int) < (n : Int) := by omega
  have hk0 : (0 : Int) ≤ (k : Int) := by omega
  have e0 : (w.alloc (fb d (some ⟨b, off, none⟩) n c)).cell? ⟨w.heap.size, 0, none⟩ = some (.int .i64 d) := by simp [World.cell?_alloc_new]
  have e1 : (w.alloc (fb d (some ⟨b, off, none⟩) n c)).cell? ⟨w.heap.size, 1, none⟩ = some (.slice (some ⟨b, off, none⟩) n c) := by simp [World.cell?_alloc_new]
  have HB := Lib.hid (alloc_below w (fb d (some ⟨b, off, none⟩) n c))
  have hmix : Try.prog.follows .mixedOrders = true := by kernel_rfl
  clear hn z hP hk hp hget hne
  go_enter Try.func33, Try.ntmps33
  go_upto_region 1 with (fail)
  generalize w.alloc (fb d (some ⟨b, off, none⟩) n c) = W1 at *
  generalize w.heap.size = xb at e0 e1 ⊢
  obtain ⟨d1, d2, d3⟩ := HC.out _ HB.out
  have HE := Lib.hid (And.intro e0 (And.intro e1 (And.intro d1 (And.intro d2 d3))))
  refine wp_region_held_drew (S := fun W => W.cell? ⟨xb, 0, none⟩ = some (.int .i64 d) ∧ W.cell? ⟨xb, 1, none⟩ = some (.slice (some ⟨b, off, none⟩) n c) ∧ W.cell? ⟨b, off + k * 3, none⟩ = some (.int .i64 p1) ∧ W.cell? ⟨b, off + k * 3 + 1, none⟩ = some (.int .i64 p2) ∧ W.cell? ⟨b, off + k * 3 + 2, none⟩ = some (.int .i64 p3) ∧ Below W1.heap.size W1 W) hmix ⟨cell_kept ((Below.refl _ W1).drew) HE.out.1, cell_kept ((Below.refl _ W1).drew) HE.out.2.1, cell_kept ((Below.refl _ W1).drew) HE.out.2.2.1, cell_kept ((Below.refl _ W1).drew) HE.out.2.2.2.1, cell_kept ((Below.refl _ W1).drew) HE.out.2.2.2.2, (Below.refl _ W1).drew⟩ (fun hHeld => ?_)
  clear e0 e1 d1 d2 d3
  generalize W1.drew = WR at *
  refine wpAnyH_take (i := 0) (v := ?_) rfl (by kernel_rfl) (by kernel_rfl) (by kernel_rfl) (fun _ _ _ h => h) (Or.inl ⟨by rfl, ?_⟩) (by assumption) ?_
  rotate_left
  · intro w hSw; (try dsimp only at hSw); go_simp; (try with_reducible rfl)
  (try simp only [Act.put, List.getElem_toArray, List.getElem_cons_zero, List.setIfInBounds_toArray, List.set_cons_zero, List.set_cons_succ])
  refine wpAnyH_take (i := 1) (v := ?_) rfl (by kernel_rfl) (by kernel_rfl) (by kernel_rfl) (fun _ _ _ h => h) (Or.inl ⟨by rfl, ?_⟩) (by assumption) ?_
  rotate_left
  · intro w hSw; (try dsimp only at hSw); go_simp; (try with_reducible rfl)
  (try simp only [Act.put, List.getElem_toArray, List.getElem_cons_succ, List.getElem_cons_zero, List.setIfInBounds_toArray, List.set_cons_zero, List.set_cons_succ])
  refine wpAnyH_take (i := 2) (v := ?_) rfl (by kernel_rfl) (by kernel_rfl) (by kernel_rfl) (fun _ _ _ h => h) (Or.inl ⟨by rfl, ?_⟩) (by assumption) ?_
  rotate_left
  · intro w hSw; (try dsimp only at hSw); go_simp; (try with_reducible rfl)
  (try simp only [Act.put, List.getElem_toArray, List.getElem_cons_succ, List.getElem_cons_zero, List.setIfInBounds_toArray, List.set_cons_zero, List.set_cons_succ])
  refine wpAnyH_take (i := 3) (v := ?_) rfl (by kernel_rfl) (by kernel_rfl) (by kernel_rfl) (fun _ _ _ h => h) (Or.inl ⟨by rfl, ?_⟩) (by assumption) ?_
  rotate_left
  · intro w hSw; (try dsimp only at hSw); go_simp; (try with_reducible rfl)
  (try simp only [Act.put, List.getElem_toArray, List.getElem_cons_succ, List.getElem_cons_zero, List.setIfInBounds_toArray, List.set_cons_zero, List.set_cons_succ])
  refine wpAnyH_ready (rs := [4]) (by kernel_rfl) (by simp) ?_
  refine AllReadyH.cons rfl (fun K hK => ?_) AllReadyH.nil
  go_simp
  refine (HP.out _ (HB.out.trans (hHeld.2.2.2.2.2.mono HB.out.size))).mono ?_
  rintro _ wc ⟨rfl, kc⟩
  have hBc := hHeld.2.2.2.2.2.trans (kc.mono hHeld.2.2.2.2.2.size)
  refine hK.out _ _ ⟨cell_kept (hBc) HE.out.1, cell_kept (hBc) HE.out.2.1, cell_kept (hBc) HE.out.2.2.1, cell_kept (hBc) HE.out.2.2.2.1, cell_kept (hBc) HE.out.2.2.2.2, hBc⟩ (fun hHeld => ?_)
  clear hK K
  (try simp only [Act.put, List.getElem_toArray, List.getElem_cons_succ, List.getElem_cons_zero, List.setIfInBounds_toArray, List.set_cons_zero, List.set_cons_succ])
  refine wpAnyH_take (i := 5) (v := ?_) rfl (by kernel_rfl) (by kernel_rfl) (by kernel_rfl) (fun _ _ _ h => h) (Or.inl ⟨by rfl, ?_⟩) (by assumption) ?_
  rotate_left
  · intro w hSw; (try dsimp only at hSw); go_simp; (try with_reducible rfl)
  (try simp only [Act.put, List.getElem_toArray, List.getElem_cons_succ, List.getElem_cons_zero, List.setIfInBounds_toArray, List.set_cons_zero, List.set_cons_succ])
  refine wpAnyH_take (i := 6) (v := ?_) rfl (by kernel_rfl) (by kernel_rfl) (by kernel_rfl) (fun _ _ _ h => h) (Or.inl ⟨by rfl, ?_⟩) (by assumption) ?_
  rotate_left
  · intro w hSw; (try dsimp only at hSw); go_simp; (try with_reducible rfl)
  (try simp only [Act.put, List.getElem_toArray, List.getElem_cons_succ, List.getElem_cons_zero, List.setIfInBounds_toArray, List.set_cons_zero, List.set_cons_succ])
  refine wpAnyH_take (i := 7) (v := ?_) rfl (by kernel_rfl) (by kernel_rfl) (by kernel_rfl) (fun _ _ _ h => h) (Or.inl ⟨by rfl, ?_⟩) (by assumption) ?_
  rotate_left
  · intro w hSw; (try dsimp only at hSw); go_simp; (try with_reducible rfl)
  (try simp only [Act.put, List.getElem_toArray, List.getElem_cons_succ, List.getElem_cons_zero, List.setIfInBounds_toArray, List.set_cons_zero, List.set_cons_succ])
  refine wpAnyH_take (i := 8) (v := ?_) rfl (by kernel_rfl) (by kernel_rfl) (by kernel_rfl) (fun _ _ _ h => h) (Or.inl ⟨by rfl, ?_⟩) (by assumption) ?_
  rotate_left
  · intro w hSw; (try dsimp only at hSw); go_simp; (try with_reducible rfl)
  (try simp only [Act.put, List.getElem_toArray, List.getElem_cons_succ, List.getElem_cons_zero, List.setIfInBounds_toArray, List.set_cons_zero, List.set_cons_succ])
  refine wpAnyH_done (by kernel_rfl) ?_ _
  go_wp2
  go_ret
  exact ⟨ret_int (show p3 = slp l x by unfold slp; rw [← HPK.out]), HB.out.trans (hHeld.2.2.2.2.2.mono HB.out.size)⟩
set_option maxHeartbeats 2000000 in
set_option maxRecDepth 100000 in
theorem rat_any (d x : Int) (a : Option Addr) (c : Nat) (l : List Pc) (w : World) (hn1 : l.length ≤ 64) (ho : Ok l) (hx0 : 0 ≤ x) (hx1 : x ≤ 1000000000000) (z : PcsAt a l w) :
    Calls Try.prog 32 #[fv d a l.length c, .int .i64 x] w fun r w' => r = .returned (.int .i64 (num l x)) ∧ Below w.heap.size w w' := by
  have hne : l ≠ [] := fun e => by obtain ⟨p, r, e2, -⟩ := ho.zero; rw [e] at e2; cases e2
  obtain ⟨n, hn⟩ : ∃ n, n = l.length := ⟨_, rfl⟩
  have hl : l.length ≤ 1000 := by omega
  have hP := fun w' (k : Below w.heap.size w w') => rpiece_any d x a c l w' hl (z.below k)
  obtain ⟨k, hk⟩ : ∃ k, k = ix l x := ⟨_, rfl⟩
  obtain ⟨⟨p1, p2, p3⟩, hp⟩ : ∃ p, p = pick l x := ⟨_, rfl⟩
  have hget := ix_get hne x
  rw [← hk, ← hp] at hget
  rw [← hk] at hP
  obtain ⟨b, off, rfl, -, -, -⟩ := z k _ hget
  have hkn : k < n := by rw [hn]; exact (List.getElem?_eq_some_iff.1 hget).1
  have HC := Lib.hid (fun w' (q : Below w.heap.size w w') => (show w'.cell? ⟨b, off + k * 3, none⟩ = some (.int .i64 p1) ∧ w'.cell? ⟨b, off + k * 3 + 1, none⟩ = some (.int .i64 p2) ∧ w'.cell? ⟨b, off + k * 3 + 2, none⟩ = some (.int .i64 p3) by
    obtain ⟨b2, o2, e, u1, u2, u3⟩ := z.below q k _ hget
    cases e
    exact ⟨u1, u2, u3⟩))
  rw [← hn] at hP hl ⊢
  have HP := Lib.hid hP
  have HPK := Lib.hid hp
  have hsp := pick_spec ho hx0
  have hbd := num_bd ho hx0 hx1
  have HNU := Lib.hid (show p2 + p3 * (x - p1) = num l x by unfold num; rw [← hp])
  rw [← hp] at hsp
  have hf0 := from_nonneg ho hsp.1
  have ha := ho.at_ _ hsp.1
  have hw1 := IntWalk.i64_in (x - p1) (by simp only at hf0 hsp; omega)
  have hmul : -3000000000000000000 ≤ p3 * (x - p1) ∧ p3 * (x - p1) ≤ 3000000000000000000 := by have := HNU.out; simp only at ha; omega
  have hw2 := IntWalk.i64_in (p3 * (x - p1)) (by omega)
  have hw3 := IntWalk.i64_in (p2 + p3 * (x - p1)) (by have := HNU.out; omega)
  clear hsp hbd hf0 ha hmul
  have hkn2 : (k : Int) < (n : Int) := by omega
  have hk0 : (0 : Int) ≤ (k : Int) := by omega
  have e0 : (w.alloc (fb d (some ⟨b, off, none⟩) n c)).cell? ⟨w.heap.size, 0, none⟩ = some (.int .i64 d) := by simp [World.cell?_alloc_new]
  have e1 : (w.alloc (fb d (some ⟨b, off, none⟩) n c)).cell? ⟨w.heap.size, 1, none⟩ = some (.slice (some ⟨b, off, none⟩) n c) := by simp [World.cell?_alloc_new]
  have HB := Lib.hid (alloc_below w (fb d (some ⟨b, off, none⟩) n c))
  have hmix : Try.prog.follows .mixedOrders = true := by kernel_rfl
  clear hn z hP hk hp hget hne ho
  go_enter Try.func32, Try.ntmps32
  go_upto_region 1 with (fail)
  generalize w.alloc (fb d (some ⟨b, off, none⟩) n c) = W1 at *
  generalize w.heap.size = xb at e0 e1 ⊢
  obtain ⟨d1, d2, d3⟩ := HC.out _ HB.out
  have HE := Lib.hid (And.intro e0 (And.intro e1 (And.intro d1 (And.intro d2 d3))))
  refine wp_region_held_drew (S := fun W => W.cell? ⟨xb, 0, none⟩ = some (.int .i64 d) ∧ W.cell? ⟨xb, 1, none⟩ = some (.slice (some ⟨b, off, none⟩) n c) ∧ W.cell? ⟨b, off + k * 3, none⟩ = some (.int .i64 p1) ∧ W.cell? ⟨b, off + k * 3 + 1, none⟩ = some (.int .i64 p2) ∧ W.cell? ⟨b, off + k * 3 + 2, none⟩ = some (.int .i64 p3) ∧ Below W1.heap.size W1 W) hmix ⟨cell_kept ((Below.refl _ W1).drew) HE.out.1, cell_kept ((Below.refl _ W1).drew) HE.out.2.1, cell_kept ((Below.refl _ W1).drew) HE.out.2.2.1, cell_kept ((Below.refl _ W1).drew) HE.out.2.2.2.1, cell_kept ((Below.refl _ W1).drew) HE.out.2.2.2.2, (Below.refl _ W1).drew⟩ (fun hHeld => ?_)
  clear e0 e1 d1 d2 d3
  generalize W1.drew = WR at *
  refine wpAnyH_take (i := 0) (v := ?_) rfl (by kernel_rfl) (by kernel_rfl) (by kernel_rfl) (fun _ _ _ h => h) (Or.inl ⟨by rfl, ?_⟩) (by assumption) ?_
  rotate_left
  · intro w hSw; (try dsimp only at hSw); go_simp; (try with_reducible rfl)
  (try simp only [Act.put, List.getElem_toArray, List.getElem_cons_zero, List.setIfInBounds_toArray, List.set_cons_zero, List.set_cons_succ])
  refine wpAnyH_take (i := 1) (v := ?_) rfl (by kernel_rfl) (by kernel_rfl) (by kernel_rfl) (fun _ _ _ h => h) (Or.inl ⟨by rfl, ?_⟩) (by assumption) ?_
  rotate_left
  · intro w hSw; (try dsimp only at hSw); go_simp; (try with_reducible rfl)
  (try simp only [Act.put, List.getElem_toArray, List.getElem_cons_succ, List.getElem_cons_zero, List.setIfInBounds_toArray, List.set_cons_zero, List.set_cons_succ])
  refine wpAnyH_take (i := 2) (v := ?_) rfl (by kernel_rfl) (by kernel_rfl) (by kernel_rfl) (fun _ _ _ h => h) (Or.inl ⟨by rfl, ?_⟩) (by assumption) ?_
  rotate_left
  · intro w hSw; (try dsimp only at hSw); go_simp; (try with_reducible rfl)
  (try simp only [Act.put, List.getElem_toArray, List.getElem_cons_succ, List.getElem_cons_zero, List.setIfInBounds_toArray, List.set_cons_zero, List.set_cons_succ])
  refine wpAnyH_take (i := 3) (v := ?_) rfl (by kernel_rfl) (by kernel_rfl) (by kernel_rfl) (fun _ _ _ h => h) (Or.inl ⟨by rfl, ?_⟩) (by assumption) ?_
  rotate_left
  · intro w hSw; (try dsimp only at hSw); go_simp; (try with_reducible rfl)
  (try simp only [Act.put, List.getElem_toArray, List.getElem_cons_succ, List.getElem_cons_zero, List.setIfInBounds_toArray, List.set_cons_zero, List.set_cons_succ])
  refine wpAnyH_ready (rs := [4, 7]) (by kernel_rfl) (by simp) ?_
  refine AllReadyH.cons rfl (fun K hK => ?_) (AllReadyH.cons rfl (fun K hK => ?_) AllReadyH.nil)
  · skip
    go_simp
    refine (HP.out _ (HB.out.trans (hHeld.2.2.2.2.2.mono HB.out.size))).mono ?_
    rintro _ wc ⟨rfl, kc⟩
    have hBc := hHeld.2.2.2.2.2.trans (kc.mono hHeld.2.2.2.2.2.size)
    refine hK.out _ _ ⟨cell_kept (hBc) HE.out.1, cell_kept (hBc) HE.out.2.1, cell_kept (hBc) HE.out.2.2.1, cell_kept (hBc) HE.out.2.2.2.1, cell_kept (hBc) HE.out.2.2.2.2, hBc⟩ (fun hHeld => ?_)
    clear hK K
    (try simp only [Act.put, List.getElem_toArray, List.getElem_cons_succ, List.getElem_cons_zero, List.setIfInBounds_toArray, List.set_cons_zero, List.set_cons_succ])
    refine wpAnyH_take (i := 5) (v := ?_) rfl (by kernel_rfl) (by kernel_rfl) (by kernel_rfl) (fun _ _ _ h => h) (Or.inl ⟨by rfl, ?_⟩) (by assumption) ?_
    rotate_left
    · intro w hSw; (try dsimp only at hSw); go_simp; (try with_reducible rfl)
    (try simp only [Act.put, List.getElem_toArray, List.getElem_cons_succ, List.getElem_cons_zero, List.setIfInBounds_toArray, List.set_cons_zero, List.set_cons_succ])
    refine wpAnyH_take (i := 6) (v := ?_) rfl (by kernel_rfl) (by kernel_rfl) (by kernel_rfl) (fun _ _ _ h => h) (Or.inl ⟨by rfl, ?_⟩) (by assumption) ?_
    rotate_left
    · intro w hSw; (try dsimp only at hSw); go_simp; (try with_reducible rfl)
    (try simp only [Act.put, List.getElem_toArray, List.getElem_cons_succ, List.getElem_cons_zero, List.setIfInBounds_toArray, List.set_cons_zero, List.set_cons_succ])
    refine wpAnyH_ready (rs := [7]) (by kernel_rfl) (by simp) ?_
    refine AllReadyH.cons rfl (fun K hK => ?_) AllReadyH.nil
    go_simp
    have hBa := hHeld.2.2.2.2.2.trans ((alloc_below wc (.cells #[.int .i64 0, .int .i64 0, .int .i64 0] 55)).mono hHeld.2.2.2.2.2.size)
    have z0 : (wc.alloc (.cells #[.int .i64 0, .int .i64 0, .int .i64 0] 55)).cell? ⟨wc.heap.size, 0, none⟩ = some (.int .i64 0) := by simp
    have z1 : (wc.alloc (.cells #[.int .i64 0, .int .i64 0, .int .i64 0] 55)).cell? ⟨wc.heap.size, 1, none⟩ = some (.int .i64 0) := by simp
    have z2 : (wc.alloc (.cells #[.int .i64 0, .int .i64 0, .int .i64 0] 55)).cell? ⟨wc.heap.size, 2, none⟩ = some (.int .i64 0) := by simp
    have y0 : (wc.alloc (.cells #[.int .i64 0, .int .i64 0, .int .i64 0] 55)).frozen? ⟨wc.heap.size, 0, none⟩ = false := by simp
    have y1 : (wc.alloc (.cells #[.int .i64 0, .int .i64 0, .int .i64 0] 55)).frozen? ⟨wc.heap.size, 1, none⟩ = false := by simp
    have y2 : (wc.alloc (.cells #[.int .i64 0, .int .i64 0, .int .i64 0] 55)).frozen? ⟨wc.heap.size, 2, none⟩ = false := by simp
    have hlt := hHeld.2.2.2.2.2.size
    refine hK.out _ _ ⟨cell_kept (hBa) HE.out.1, cell_kept (hBa) HE.out.2.1, cell_kept (hBa) HE.out.2.2.1, cell_kept (hBa) HE.out.2.2.2.1, cell_kept (hBa) HE.out.2.2.2.2, hBa⟩ (fun hHeld => ?_)
    clear hK K
    (try simp only [Act.put, List.getElem_toArray, List.getElem_cons_succ, List.getElem_cons_zero, List.setIfInBounds_toArray, List.set_cons_zero, List.set_cons_succ])
    generalize wc.alloc (.cells #[.int .i64 0, .int .i64 0, .int .i64 0] 55) = W7 at *
    generalize wc.heap.size = nb at z0 z1 z2 y0 y1 y2 hlt ⊢
    refine wpAnyH_ready (rs := [8]) (by kernel_rfl) (by simp) ?_
    refine AllReadyH.cons rfl (fun K hK => ?_) AllReadyH.nil
    go_simp
    have hF := fill3 (a := .int .i64 p1) (b := .int .i64 p2) (c := .int .i64 p3) hHeld.2.2.2.2.2 hlt z0 z1 z2
    obtain ⟨f0, f1, f2, hBf⟩ := hF
    refine hK.out _ _ ⟨cell_kept (hBf) HE.out.1, cell_kept (hBf) HE.out.2.1, cell_kept (hBf) HE.out.2.2.1, cell_kept (hBf) HE.out.2.2.2.1, cell_kept (hBf) HE.out.2.2.2.2, hBf⟩ (fun hHeld => ?_)
    clear hK K
    (try simp only [Act.put, List.getElem_toArray, List.getElem_cons_succ, List.getElem_cons_zero, List.setIfInBounds_toArray, List.set_cons_zero, List.set_cons_succ])
    refine wpAnyH_done (by kernel_rfl) ?_ _
    replace f0 : World.cell? _ _ = _ := f0
    go_wp2
    go_ret
    exact ⟨ret_int HNU.out, HB.out.trans (hHeld.2.2.2.2.2.mono HB.out.size)⟩
  · skip
    go_simp
    have hBa := hHeld.2.2.2.2.2.trans ((alloc_below WR (.cells #[.int .i64 0, .int .i64 0, .int .i64 0] 55)).mono hHeld.2.2.2.2.2.size)
    have z0 : (WR.alloc (.cells #[.int .i64 0, .int .i64 0, .int .i64 0] 55)).cell? ⟨WR.heap.size, 0, none⟩ = some (.int .i64 0) := by simp
    have z1 : (WR.alloc (.cells #[.int .i64 0, .int .i64 0, .int .i64 0] 55)).cell? ⟨WR.heap.size, 1, none⟩ = some (.int .i64 0) := by simp
    have z2 : (WR.alloc (.cells #[.int .i64 0, .int .i64 0, .int .i64 0] 55)).cell? ⟨WR.heap.size, 2, none⟩ = some (.int .i64 0) := by simp
    have y0 : (WR.alloc (.cells #[.int .i64 0, .int .i64 0, .int .i64 0] 55)).frozen? ⟨WR.heap.size, 0, none⟩ = false := by simp
    have y1 : (WR.alloc (.cells #[.int .i64 0, .int .i64 0, .int .i64 0] 55)).frozen? ⟨WR.heap.size, 1, none⟩ = false := by simp
    have y2 : (WR.alloc (.cells #[.int .i64 0, .int .i64 0, .int .i64 0] 55)).frozen? ⟨WR.heap.size, 2, none⟩ = false := by simp
    have hlt := hHeld.2.2.2.2.2.size
    refine hK.out _ _ ⟨cell_kept (hBa) HE.out.1, cell_kept (hBa) HE.out.2.1, cell_kept (hBa) HE.out.2.2.1, cell_kept (hBa) HE.out.2.2.2.1, cell_kept (hBa) HE.out.2.2.2.2, hBa⟩ (fun hHeld => ?_)
    clear hK K
    (try simp only [Act.put, List.getElem_toArray, List.getElem_cons_succ, List.getElem_cons_zero, List.setIfInBounds_toArray, List.set_cons_zero, List.set_cons_succ])
    generalize WR.alloc (.cells #[.int .i64 0, .int .i64 0, .int .i64 0] 55) = W7 at *
    generalize WR.heap.size = nb at z0 z1 z2 y0 y1 y2 hlt ⊢
    refine wpAnyH_ready (rs := [4]) (by kernel_rfl) (by simp) ?_
    refine AllReadyH.cons rfl (fun K hK => ?_) AllReadyH.nil
    go_simp
    refine (HP.out _ (HB.out.trans (hHeld.2.2.2.2.2.mono HB.out.size))).mono ?_
    rintro _ wc ⟨rfl, kc⟩
    have hBc := hHeld.2.2.2.2.2.trans (kc.mono hHeld.2.2.2.2.2.size)
    have z0' := cell_kept kc z0
    have z1' := cell_kept kc z1
    have z2' := cell_kept kc z2
    have y0' := frozen_kept kc y0 z0
    have y1' := frozen_kept kc y1 z1
    have y2' := frozen_kept kc y2 z2
    clear z0 z1 z2 y0 y1 y2
    refine hK.out _ _ ⟨cell_kept (hBc) HE.out.1, cell_kept (hBc) HE.out.2.1, cell_kept (hBc) HE.out.2.2.1, cell_kept (hBc) HE.out.2.2.2.1, cell_kept (hBc) HE.out.2.2.2.2, hBc⟩ (fun hHeld => ?_)
    clear hK K
    (try simp only [Act.put, List.getElem_toArray, List.getElem_cons_succ, List.getElem_cons_zero, List.setIfInBounds_toArray, List.set_cons_zero, List.set_cons_succ])
    refine wpAnyH_take (i := 5) (v := ?_) rfl (by kernel_rfl) (by kernel_rfl) (by kernel_rfl) (fun _ _ _ h => h) (Or.inl ⟨by rfl, ?_⟩) (by assumption) ?_
    rotate_left
    · intro w hSw; (try dsimp only at hSw); go_simp; (try with_reducible rfl)
    (try simp only [Act.put, List.getElem_toArray, List.getElem_cons_succ, List.getElem_cons_zero, List.setIfInBounds_toArray, List.set_cons_zero, List.set_cons_succ])
    refine wpAnyH_take (i := 6) (v := ?_) rfl (by kernel_rfl) (by kernel_rfl) (by kernel_rfl) (fun _ _ _ h => h) (Or.inl ⟨by rfl, ?_⟩) (by assumption) ?_
    rotate_left
    · intro w hSw; (try dsimp only at hSw); go_simp; (try with_reducible rfl)
    (try simp only [Act.put, List.getElem_toArray, List.getElem_cons_succ, List.getElem_cons_zero, List.setIfInBounds_toArray, List.set_cons_zero, List.set_cons_succ])
    refine wpAnyH_ready (rs := [8]) (by kernel_rfl) (by simp) ?_
    refine AllReadyH.cons rfl (fun K hK => ?_) AllReadyH.nil
    go_simp
    have hF := fill3 (a := .int .i64 p1) (b := .int .i64 p2) (c := .int .i64 p3) hHeld.2.2.2.2.2 hlt z0' z1' z2'
    obtain ⟨f0, f1, f2, hBf⟩ := hF
    refine hK.out _ _ ⟨cell_kept (hBf) HE.out.1, cell_kept (hBf) HE.out.2.1, cell_kept (hBf) HE.out.2.2.1, cell_kept (hBf) HE.out.2.2.2.1, cell_kept (hBf) HE.out.2.2.2.2, hBf⟩ (fun hHeld => ?_)
    clear hK K
    (try simp only [Act.put, List.getElem_toArray, List.getElem_cons_succ, List.getElem_cons_zero, List.setIfInBounds_toArray, List.set_cons_zero, List.set_cons_succ])
    refine wpAnyH_done (by kernel_rfl) ?_ _
    replace f0 : World.cell? _ _ = _ := f0
    go_wp2
    go_ret
    exact ⟨ret_int HNU.out, HB.out.trans (hHeld.2.2.2.2.2.mono HB.out.size)⟩
end Go.Proofs.Ytdoojpilogcnjaa.Pw
