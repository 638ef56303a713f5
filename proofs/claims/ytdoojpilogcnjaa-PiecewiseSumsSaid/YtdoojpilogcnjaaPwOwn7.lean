/- What the developers' between returns. Conditions: the numbers are those of a valid function. -/
import Derived.Test.YtdoojpilogcnjaaPwOwn6
import Derived.Test.YtdoojpilogcnjaaPwRef4
set_option linter.unusedVariables false
set_option linter.unusedSimpArgs false
namespace Go.Proofs.Ytdoojpilogcnjaa.Pw
open Go.RowKit Go.Proofs.Ytdoojpilogcnjaa.Sp
abbrev sb (f t : Int) : Obj := .cells #[.int .i64 f, .int .i64 t] 50
/-- The cells of a piece's box and of a span's. -/
theorem box_res (w : World) (p : Pc) (f t : Int) : (((w.alloc (pb p)).alloc (sb f t)).cell? ⟨w.heap.size, 0, none⟩ = some (.int .i64 p.1) ∧ ((w.alloc (pb p)).alloc (sb f t)).cell? ⟨w.heap.size, 1, none⟩ = some (.int .i64 p.2.1) ∧ ((w.alloc (pb p)).alloc (sb f t)).cell? ⟨w.heap.size, 2, none⟩ = some (.int .i64 p.2.2)) ∧
    (((w.alloc (pb p)).alloc (sb f t)).cell? ⟨w.heap.size + 1, 0, none⟩ = some (.int .i64 f) ∧ ((w.alloc (pb p)).alloc (sb f t)).cell? ⟨w.heap.size + 1, 1, none⟩ = some (.int .i64 t)) ∧
    (∀ i, ((w.alloc (pb p)).alloc (sb f t)).frozen? ⟨w.heap.size, i, none⟩ = false) ∧ (∀ i, ((w.alloc (pb p)).alloc (sb f t)).frozen? ⟨w.heap.size + 1, i, none⟩ = false) ∧ Below w.heap.size w ((w.alloc (pb p)).alloc (sb f t)) := by
  have hs : (w.alloc (pb p)).heap.size = w.heap.size + 1 := by simp
  obtain ⟨a0, a1, a2⟩ := pb_cells w p
  have g0 : ((w.alloc (pb p)).alloc (sb f t)).cell? ⟨(w.alloc (pb p)).heap.size, 0, none⟩ = some (.int .i64 f) := by generalize w.alloc (pb p) = W; simp [World.cell?_alloc_new]
  have g1 : ((w.alloc (pb p)).alloc (sb f t)).cell? ⟨(w.alloc (pb p)).heap.size, 1, none⟩ = some (.int .i64 t) := by generalize w.alloc (pb p) = W; simp [World.cell?_alloc_new]
  have y : ∀ i, ((w.alloc (pb p)).alloc (sb f t)).frozen? ⟨(w.alloc (pb p)).heap.size, i, none⟩ = false := fun i => by generalize w.alloc (pb p) = W; simp
  rw [hs] at g0 g1
  simp only [hs] at y
  have k := alloc_below (w.alloc (pb p)) (sb f t)
  refine ⟨⟨cell_kept k a0, cell_kept k a1, cell_kept k a2⟩, ⟨g0, g1⟩, fun i => ?_, y, (alloc_below w _).trans (k.mono (alloc_below w _).size)⟩
  have e : ((w.alloc (pb p)).alloc (sb f t)).frozen? ⟨w.heap.size, i, none⟩ = (w.alloc (pb p)).frozen? ⟨w.heap.size, i, none⟩ := k.frozen (show (⟨w.heap.size, i, none⟩ : Addr).block < (w.alloc (pb p)).heap.size by rw [hs]; exact Nat.lt_succ_self _)
  rw [e]; exact pb_free w p i
/-- The second and the third cell of a box filled; another box. -/
theorem store12 {B nb yb : Nat} {w0 w : World} {b c x y z : Value} (hb : Below B w0 w) (hB : B ≤ nb) (hne : nb ≠ yb) (h0 : w.cell? ⟨nb, 0, none⟩ = some x) (h1 : w.cell? ⟨nb, 1, none⟩ = some y) (h2 : w.cell? ⟨nb, 2, none⟩ = some z) :
    ((w.setCell ⟨nb, 1, none⟩ b).setCell ⟨nb, 2, none⟩ c).cell? ⟨nb, 0, none⟩ = some x ∧ ((w.setCell ⟨nb, 1, none⟩ b).setCell ⟨nb, 2, none⟩ c).cell? ⟨nb, 1, none⟩ = some b ∧ ((w.setCell ⟨nb, 1, none⟩ b).setCell ⟨nb, 2, none⟩ c).cell? ⟨nb, 2, none⟩ = some c ∧ Below B w0 ((w.setCell ⟨nb, 1, none⟩ b).setCell ⟨nb, 2, none⟩ c) ∧
    (∀ i, ((w.setCell ⟨nb, 1, none⟩ b).setCell ⟨nb, 2, none⟩ c).cell? ⟨yb, i, none⟩ = w.cell? ⟨yb, i, none⟩) ∧ (∀ i, ((w.setCell ⟨nb, 1, none⟩ b).setCell ⟨nb, 2, none⟩ c).frozen? ⟨yb, i, none⟩ = w.frozen? ⟨yb, i, none⟩) := by
  have n10 : (⟨nb, 1, none⟩ : Addr) ≠ ⟨nb, 0, none⟩ := fun e => by cases e
  have n20 : (⟨nb, 2, none⟩ : Addr) ≠ ⟨nb, 0, none⟩ := fun e => by cases e
  have n21 : (⟨nb, 2, none⟩ : Addr) ≠ ⟨nb, 1, none⟩ := fun e => by cases e
  refine ⟨?_, ?_, ?_, (hb.setCell hB b).setCell hB c, fun i => ?_, fun i => by simp [go_sem]⟩
  · rw [World.cell?_setCell_other _ _ _ _ n20, World.cell?_setCell_other _ _ _ _ n10]; exact h0
  · rw [World.cell?_setCell_other _ _ _ _ n21]
    exact World.cell?_setCell_same' _ _ _ (by rw [h1]; rfl)
  · exact World.cell?_setCell_same' _ _ _ (by rw [World.cell?_setCell_other _ _ _ _ n21.symm, h2]; rfl)
  · rw [World.cell?_setCell_far _ _ _ _ hne, World.cell?_setCell_far _ _ _ _ hne]
set_option maxHeartbeats 8000000 in
set_option maxRecDepth 100000 in
theorem pbtw_aux (s a m e L H : Int) (O : Sn) (hO : O = btw s a m e L H) (w : World) (s0 : 0 ≤ s) (se : s < e) (e1 : e ≤ 1000000000001) (ha : -2000000000000000000 ≤ a ∧ a ≤ 2000000000000000000) (hm : -1000000 ≤ m ∧ m ≤ 1000000) (hL : -1000000000000000000 ≤ L ∧ L ≤ 1000000000000000000) (hH : -1000000000000000000 ≤ H ∧ H ≤ 1000000000000000000) :
    Calls Try.prog 39 #[pv (s, a, m), .int .i64 e, .int .i64 L, .int .i64 H] w fun r w' => r = .returned (sv O.1 O.2) ∧ Below w.heap.size w w' := by
  obtain ⟨⟨c0, c1, c2⟩, ⟨g0, g1⟩, y0, y1, hB⟩ := box_res w (s, a, m) 0 0
  simp only at c0 c1 c2
  have HB1 := Lib.hid hB
  obtain ⟨ya1, ya2⟩ := And.intro (y0 1) (y0 2)
  obtain ⟨yb0, yb1⟩ := And.intro (y1 0) (y1 1)
  have hne : w.heap.size ≠ w.heap.size + 1 := by omega
  have HST := Lib.hid (store12 (yb := w.heap.size + 1) (b := .int .i64 (-a)) (c := .int .i64 (-m)) hB (Nat.le_refl _) hne c0 c1 c2)
  clear hB hne y0 y1
  go_enter Try.func39, Try.ntmps39
  go_upto_region 1 with (fail)
  generalize (w.alloc (pb (s, a, m))).alloc (sb 0 0) = W1 at *
  generalize hxb : w.heap.size = xb at c0 c1 c2 g0 g1 ya1 ya2 yb0 yb1 HST ⊢
  have HXB := Lib.hid hxb
  clear hxb
  have HOUT := Lib.hid (show O = if m < 0 then btwP s (-a) (-m) e (-H) (-L) else if 0 < m then btwP s a m e L H else if a < L ∨ H < a then (0, 0) else (s, e) from hO)
  clear hO
  by_cases h1 : m < 0
  · rw [if_pos h1] at HOUT
    have hw1 := IntWalk.i64_in (-a) (by omega)
    have hw2 := IntWalk.i64_in (-m) (by omega)
    have hw3 := IntWalk.i64_in (-H) (by omega)
    have hw4 := IntWalk.i64_in (-L) (by omega)
    go_upto_region 3 with (fail)
    obtain ⟨k0, k1, k2, hBs, kc, kf⟩ := HST.out
    generalize (W1.setCell ⟨xb, 1, none⟩ (.int .i64 (-a))).setCell ⟨xb, 2, none⟩ (.int .i64 (-m)) = W2 at *
    replace g0 := (kc 0).trans g0
    replace g1 := (kc 1).trans g1
    replace yb0 := (kf 0).trans yb0
    replace yb1 := (kf 1).trans yb1
    have HB2 := Lib.hid (show Below w.heap.size w W2 by rw [HXB.out]; exact hBs)
    clear c0 c1 c2 ya1 ya2 HST HB1 hBs kc kf hw1 hw2 hw3 hw4
    have c0 := k0
    have c1 := k1
    have c2 := k2
    clear k0 k1 k2
    have hmp : 0 < -m := by omega
    have hw9 := IntWalk.i64_in (-H - 1) (by omega)
    have hx1 := fun w => pexceed_any (s, -a, -m) (-H - 1) w hmp (by show -m ≤ _; omega) (by show _ ≤ -H - 1 - -a ∧ -H - 1 - -a ≤ _; omega) (by show _ ≤ s ∧ s ≤ _; omega)
    have hx2 := fun w => pexceed_any (s, -a, -m) (-L) w hmp (by show -m ≤ _; omega) (by show _ ≤ -L - -a ∧ -L - -a ≤ _; omega) (by show _ ≤ s ∧ s ≤ _; omega)
    obtain ⟨E1, hE1⟩ : ∃ E, E = s + (-H - 1 - -a) / -m + 1 := ⟨_, rfl⟩
    obtain ⟨E2, hE2⟩ : ∃ E, E = s + (-L - -a) / -m + 1 := ⟨_, rfl⟩
    have HE1 : Hid (∀ w, Calls Try.prog 51 #[.agg #[.int .i64 s, .int .i64 (-a), .int .i64 (-m)], .int .i64 (-H - 1)] w fun r w' => r = .returned (.int .i64 E1) ∧ Below w.heap.size w w') := fun w => (hx1 w).mono (fun r w' ⟨h, k⟩ => ⟨by rw [h, hE1], k⟩)
    have HE2 : Hid (∀ w, Calls Try.prog 51 #[.agg #[.int .i64 s, .int .i64 (-a), .int .i64 (-m)], .int .i64 (-L)] w fun r w' => r = .returned (.int .i64 E2) ∧ Below w.heap.size w w') := fun w => (hx2 w).mono (fun r w' ⟨h, k⟩ => ⟨by rw [h, hE2], k⟩)
    have HR := Lib.hid (show O = (max s E1, min e E2) by rw [HOUT.out, hE1, hE2]; rfl)
    clear hx1 hx2 hE1 hE2 HOUT ha hm hL hH s0 se e1
    have HG := Lib.hid (And.intro g0 (And.intro g1 (And.intro yb0 yb1)))
    go_upto_region 4 with (fail)
    clear hmp
    have HX := Lib.hid (And.intro c0 (And.intro c1 c2))
    have hmix : Try.prog.follows .mixedOrders = true := by kernel_rfl
    refine wp_region_held_drew (S := fun W => W.cell? ⟨xb, 0, none⟩ = some (.int .i64 s) ∧ W.cell? ⟨xb, 1, none⟩ = some (.int .i64 (-a)) ∧ W.cell? ⟨xb, 2, none⟩ = some (.int .i64 (-m))) hmix ⟨cell_kept ((Below.refl _ W2).drew) HX.out.1, cell_kept ((Below.refl _ W2).drew) HX.out.2.1, cell_kept ((Below.refl _ W2).drew) HX.out.2.2⟩ (fun hHeld => ?_)
    refine wpAnyH_take (i := 0) (v := ?_) rfl (by kernel_rfl) (by kernel_rfl) (by kernel_rfl) (fun _ _ _ h => h) (Or.inl ⟨by rfl, ?_⟩) (by assumption) ?_
    rotate_left
    · intro w hSw; (try dsimp only at hSw); go_simp; (try with_reducible rfl)
    (try simp only [Act.put, List.getElem_toArray, List.getElem_cons_succ, List.getElem_cons_zero, List.setIfInBounds_toArray, List.set_cons_zero, List.set_cons_succ])
    refine wpAnyH_take (i := 1) (v := ?_) rfl (by kernel_rfl) (by kernel_rfl) (by kernel_rfl) (fun _ _ _ h => h) (Or.inl ⟨by rfl, ?_⟩) (by assumption) ?_
    rotate_left
    · intro w hSw; (try dsimp only at hSw); go_simp; (try with_reducible rfl)
    (try simp only [Act.put, List.getElem_toArray, List.getElem_cons_succ, List.getElem_cons_zero, List.setIfInBounds_toArray, List.set_cons_zero, List.set_cons_succ])
    refine wpAnyH_take (i := 2) (v := ?_) rfl (by kernel_rfl) (by kernel_rfl) (by kernel_rfl) (fun _ _ _ h => h) (Or.inl ⟨by rfl, ?_⟩) (by assumption) ?_
    rotate_left
    · intro w hSw; (try dsimp only at hSw); go_simp; (try with_reducible rfl)
    (try simp only [Act.put, List.getElem_toArray, List.getElem_cons_succ, List.getElem_cons_zero, List.setIfInBounds_toArray, List.set_cons_zero, List.set_cons_succ])
    refine wpAnyH_take (i := 3) (v := ?_) rfl (by kernel_rfl) (by kernel_rfl) (by kernel_rfl) (fun _ _ _ h => h) (Or.inl ⟨by rfl, ?_⟩) (by assumption) ?_
    rotate_left
    · intro w hSw; (try dsimp only at hSw); go_simp; (try with_reducible rfl)
    (try simp only [Act.put, List.getElem_toArray, List.getElem_cons_succ, List.getElem_cons_zero, List.setIfInBounds_toArray, List.set_cons_zero, List.set_cons_succ])
    refine wpAnyH_take (i := 4) (v := ?_) rfl (by kernel_rfl) (by kernel_rfl) (by kernel_rfl) (fun _ _ _ h => h) (Or.inl ⟨by rfl, ?_⟩) (by assumption) ?_
    rotate_left
    · intro w hSw; (try dsimp only at hSw); go_simp; (try with_reducible rfl)
    (try simp only [Act.put, List.getElem_toArray, List.getElem_cons_succ, List.getElem_cons_zero, List.setIfInBounds_toArray, List.set_cons_zero, List.set_cons_succ])
    refine wpAnyH_take (i := 7) (v := ?_) rfl (by kernel_rfl) (by kernel_rfl) (by kernel_rfl) (fun _ _ _ h => h) (Or.inl ⟨by rfl, ?_⟩) (by assumption) ?_
    rotate_left
    · intro w hSw; (try dsimp only at hSw); go_simp; (try with_reducible rfl)
    (try simp only [Act.put, List.getElem_toArray, List.getElem_cons_succ, List.getElem_cons_zero, List.setIfInBounds_toArray, List.set_cons_zero, List.set_cons_succ])
    refine wpAnyH_take (i := 8) (v := ?_) rfl (by kernel_rfl) (by kernel_rfl) (by kernel_rfl) (fun _ _ _ h => h) (Or.inl ⟨by rfl, ?_⟩) (by assumption) ?_
    rotate_left
    · intro w hSw; (try dsimp only at hSw); go_simp; (try with_reducible rfl)
    (try simp only [Act.put, List.getElem_toArray, List.getElem_cons_succ, List.getElem_cons_zero, List.setIfInBounds_toArray, List.set_cons_zero, List.set_cons_succ])
    refine wpAnyH_take (i := 9) (v := ?_) rfl (by kernel_rfl) (by kernel_rfl) (by kernel_rfl) (fun _ _ _ h => h) (Or.inl ⟨by rfl, ?_⟩) (by assumption) ?_
    rotate_left
    · intro w hSw; (try dsimp only at hSw); go_simp; (try with_reducible rfl)
    (try simp only [Act.put, List.getElem_toArray, List.getElem_cons_succ, List.getElem_cons_zero, List.setIfInBounds_toArray, List.set_cons_zero, List.set_cons_succ])
    refine wpAnyH_ready (rs := [5]) (by kernel_rfl) (by simp) ?_
    refine AllReadyH.cons rfl (fun K hK => ?_) AllReadyH.nil
    go_simp
    refine (HE1.out _).mono ?_
    rintro _ wc ⟨rfl, k1⟩
    refine hK.out _ _ ⟨cell_kept (k1) hHeld.1, cell_kept (k1) hHeld.2.1, cell_kept (k1) hHeld.2.2⟩ (fun hHeld => ?_)
    clear hK K
    (try simp only [Act.put, List.getElem_toArray, List.getElem_cons_succ, List.getElem_cons_zero, List.setIfInBounds_toArray, List.set_cons_zero, List.set_cons_succ])
    refine wpAnyH_take (i := 6) (v := ?_) rfl (by kernel_rfl) (by kernel_rfl) (by kernel_rfl) (fun _ _ _ h => h) (Or.inl ⟨by rfl, ?_⟩) (by assumption) ?_
    rotate_left
    · intro w hSw; (try dsimp only at hSw); go_simp; (try with_reducible rfl)
    (try simp only [Act.put, List.getElem_toArray, List.getElem_cons_succ, List.getElem_cons_zero, List.setIfInBounds_toArray, List.set_cons_zero, List.set_cons_succ])
    refine wpAnyH_ready (rs := [10]) (by kernel_rfl) (by simp) ?_
    refine AllReadyH.cons rfl (fun K hK => ?_) AllReadyH.nil
    go_simp
    refine (HE2.out _).mono ?_
    rintro _ wd ⟨rfl, k2⟩
    have hkk := (((Below.refl _ W2).drew.trans k1).trans (k2.mono (((Below.refl _ W2).drew.trans k1)).size))
    have q0 := cell_kept hkk HG.out.1
    have q1 := cell_kept hkk HG.out.2.1
    have z0 := frozen_kept hkk HG.out.2.2.1 HG.out.1
    have z1 := frozen_kept hkk HG.out.2.2.2 HG.out.2.1
    have HFF := Lib.hid (fill2 (a := .int .i64 (max s E1)) (b := .int .i64 (min e E2)) (HB2.out.trans (hkk.mono HB2.out.size)) (by have := HXB.out; omega : w.heap.size ≤ xb + 1) q0 q1)
    refine hK.out _ _ ⟨cell_kept (k2) hHeld.1, cell_kept (k2) hHeld.2.1, cell_kept (k2) hHeld.2.2⟩ (fun hHeld => ?_)
    clear hK K
    (try simp only [Act.put, List.getElem_toArray, List.getElem_cons_succ, List.getElem_cons_zero, List.setIfInBounds_toArray, List.set_cons_zero, List.set_cons_succ])
    refine wpAnyH_take (i := 11) (v := ?_) rfl (by kernel_rfl) (by kernel_rfl) (by kernel_rfl) (fun _ _ _ h => h) (Or.inl ⟨by rfl, ?_⟩) (by assumption) ?_
    rotate_left
    · intro w hSw; (try dsimp only at hSw); go_simp; (try with_reducible rfl)
    (try simp only [Act.put, List.getElem_toArray, List.getElem_cons_succ, List.getElem_cons_zero, List.setIfInBounds_toArray, List.set_cons_zero, List.set_cons_succ])
    refine wpAnyH_take (i := 12) (v := ?_) rfl (by kernel_rfl) (by kernel_rfl) (by kernel_rfl) (fun _ _ _ h => h) (Or.inl ⟨by rfl, ?_⟩) (by assumption) ?_
    rotate_left
    · intro w hSw; (try dsimp only at hSw); go_simp; (try with_reducible rfl)
    (try simp only [Act.put, List.getElem_toArray, List.getElem_cons_succ, List.getElem_cons_zero, List.setIfInBounds_toArray, List.set_cons_zero, List.set_cons_succ])
    refine wpAnyH_ready (rs := [13]) (by kernel_rfl) (by simp) ?_
    refine AllReadyH.cons rfl (fun K hK => ?_) AllReadyH.nil
    go_simp
    (try skip)
    refine hK.out _ _ ⟨by rw [World.cell?_setCell_far _ _ _ _ (by show xb + 1 ≠ xb; omega), World.cell?_setCell_far _ _ _ _ (by show xb + 1 ≠ xb; omega)]; exact hHeld.1, by rw [World.cell?_setCell_far _ _ _ _ (by show xb + 1 ≠ xb; omega), World.cell?_setCell_far _ _ _ _ (by show xb + 1 ≠ xb; omega)]; exact hHeld.2.1, by rw [World.cell?_setCell_far _ _ _ _ (by show xb + 1 ≠ xb; omega), World.cell?_setCell_far _ _ _ _ (by show xb + 1 ≠ xb; omega)]; exact hHeld.2.2⟩ (fun hHeld => ?_)
    clear hK K
    (try simp only [Act.put, List.getElem_toArray, List.getElem_cons_succ, List.getElem_cons_zero, List.setIfInBounds_toArray, List.set_cons_zero, List.set_cons_succ])
    refine wpAnyH_done (by kernel_rfl) ?_ _
    go_wp2
    obtain ⟨r0, r1, hBf⟩ := HFF.out
    (try simp only [Exit.inBlock, Exit.then])
    refine bodyPost_ret (by simp [results, Try.results39, r0, r1, go_sem]; try rfl) rfl ?_
    exact ⟨by rw [HR.out], hBf⟩
  · rw [if_neg h1] at HOUT
    have HB2 := HB1
    clear HST HB1 ya1 ya2
    generalize W1 = W2 at *
    by_cases h2 : 0 < m
    · rw [if_pos h2] at HOUT
      have hmp : 0 < m := by omega
      have hw9 := IntWalk.i64_in (L - 1) (by omega)
      have hx1 := fun w => pexceed_any (s, a, m) (L - 1) w hmp (by show m ≤ _; omega) (by show _ ≤ L - 1 - a ∧ L - 1 - a ≤ _; omega) (by show _ ≤ s ∧ s ≤ _; omega)
      have hx2 := fun w => pexceed_any (s, a, m) (H) w hmp (by show m ≤ _; omega) (by show _ ≤ H - a ∧ H - a ≤ _; omega) (by show _ ≤ s ∧ s ≤ _; omega)
      obtain ⟨E1, hE1⟩ : ∃ E, E = s + (L - 1 - a) / m + 1 := ⟨_, rfl⟩
      obtain ⟨E2, hE2⟩ : ∃ E, E = s + (H - a) / m + 1 := ⟨_, rfl⟩
      have HE1 : Hid (∀ w, Calls Try.prog 51 #[.agg #[.int .i64 s, .int .i64 (a), .int .i64 (m)], .int .i64 (L - 1)] w fun r w' => r = .returned (.int .i64 E1) ∧ Below w.heap.size w w') := fun w => (hx1 w).mono (fun r w' ⟨h, k⟩ => ⟨by rw [h, hE1], k⟩)
      have HE2 : Hid (∀ w, Calls Try.prog 51 #[.agg #[.int .i64 s, .int .i64 (a), .int .i64 (m)], .int .i64 (H)] w fun r w' => r = .returned (.int .i64 E2) ∧ Below w.heap.size w w') := fun w => (hx2 w).mono (fun r w' ⟨h, k⟩ => ⟨by rw [h, hE2], k⟩)
      have HR := Lib.hid (show O = (max s E1, min e E2) by rw [HOUT.out, hE1, hE2]; rfl)
      clear hx1 hx2 hE1 hE2 HOUT ha hm hL hH s0 se e1
      have HG := Lib.hid (And.intro g0 (And.intro g1 (And.intro yb0 yb1)))
      go_upto_region 4 with (fail)
      clear hmp
      have HX := Lib.hid (And.intro c0 (And.intro c1 c2))
      have hmix : Try.prog.follows .mixedOrders = true := by kernel_rfl
      refine wp_region_held_drew (S := fun W => W.cell? ⟨xb, 0, none⟩ = some (.int .i64 s) ∧ W.cell? ⟨xb, 1, none⟩ = some (.int .i64 (a)) ∧ W.cell? ⟨xb, 2, none⟩ = some (.int .i64 (m))) hmix ⟨cell_kept ((Below.refl _ W2).drew) HX.out.1, cell_kept ((Below.refl _ W2).drew) HX.out.2.1, cell_kept ((Below.refl _ W2).drew) HX.out.2.2⟩ (fun hHeld => ?_)
      refine wpAnyH_take (i := 0) (v := ?_) rfl (by kernel_rfl) (by kernel_rfl) (by kernel_rfl) (fun _ _ _ h => h) (Or.inl ⟨by rfl, ?_⟩) (by assumption) ?_
      rotate_left
      · intro w hSw; (try dsimp only at hSw); go_simp; (try with_reducible rfl)
      (try simp only [Act.put, List.getElem_toArray, List.getElem_cons_succ, List.getElem_cons_zero, List.setIfInBounds_toArray, List.set_cons_zero, List.set_cons_succ])
      refine wpAnyH_take (i := 1) (v := ?_) rfl (by kernel_rfl) (by kernel_rfl) (by kernel_rfl) (fun _ _ _ h => h) (Or.inl ⟨by rfl, ?_⟩) (by assumption) ?_
      rotate_left
      · intro w hSw; (try dsimp only at hSw); go_simp; (try with_reducible rfl)
      (try simp only [Act.put, List.getElem_toArray, List.getElem_cons_succ, List.getElem_cons_zero, List.setIfInBounds_toArray, List.set_cons_zero, List.set_cons_succ])
      refine wpAnyH_take (i := 2) (v := ?_) rfl (by kernel_rfl) (by kernel_rfl) (by kernel_rfl) (fun _ _ _ h => h) (Or.inl ⟨by rfl, ?_⟩) (by assumption) ?_
      rotate_left
      · intro w hSw; (try dsimp only at hSw); go_simp; (try with_reducible rfl)
      (try simp only [Act.put, List.getElem_toArray, List.getElem_cons_succ, List.getElem_cons_zero, List.setIfInBounds_toArray, List.set_cons_zero, List.set_cons_succ])
      refine wpAnyH_take (i := 3) (v := ?_) rfl (by kernel_rfl) (by kernel_rfl) (by kernel_rfl) (fun _ _ _ h => h) (Or.inl ⟨by rfl, ?_⟩) (by assumption) ?_
      rotate_left
      · intro w hSw; (try dsimp only at hSw); go_simp; (try with_reducible rfl)
      (try simp only [Act.put, List.getElem_toArray, List.getElem_cons_succ, List.getElem_cons_zero, List.setIfInBounds_toArray, List.set_cons_zero, List.set_cons_succ])
      refine wpAnyH_take (i := 4) (v := ?_) rfl (by kernel_rfl) (by kernel_rfl) (by kernel_rfl) (fun _ _ _ h => h) (Or.inl ⟨by rfl, ?_⟩) (by assumption) ?_
      rotate_left
      · intro w hSw; (try dsimp only at hSw); go_simp; (try with_reducible rfl)
      (try simp only [Act.put, List.getElem_toArray, List.getElem_cons_succ, List.getElem_cons_zero, List.setIfInBounds_toArray, List.set_cons_zero, List.set_cons_succ])
      refine wpAnyH_take (i := 7) (v := ?_) rfl (by kernel_rfl) (by kernel_rfl) (by kernel_rfl) (fun _ _ _ h => h) (Or.inl ⟨by rfl, ?_⟩) (by assumption) ?_
      rotate_left
      · intro w hSw; (try dsimp only at hSw); go_simp; (try with_reducible rfl)
      (try simp only [Act.put, List.getElem_toArray, List.getElem_cons_succ, List.getElem_cons_zero, List.setIfInBounds_toArray, List.set_cons_zero, List.set_cons_succ])
      refine wpAnyH_take (i := 8) (v := ?_) rfl (by kernel_rfl) (by kernel_rfl) (by kernel_rfl) (fun _ _ _ h => h) (Or.inl ⟨by rfl, ?_⟩) (by assumption) ?_
      rotate_left
      · intro w hSw; (try dsimp only at hSw); go_simp; (try with_reducible rfl)
      (try simp only [Act.put, List.getElem_toArray, List.getElem_cons_succ, List.getElem_cons_zero, List.setIfInBounds_toArray, List.set_cons_zero, List.set_cons_succ])
      refine wpAnyH_take (i := 9) (v := ?_) rfl (by kernel_rfl) (by kernel_rfl) (by kernel_rfl) (fun _ _ _ h => h) (Or.inl ⟨by rfl, ?_⟩) (by assumption) ?_
      rotate_left
      · intro w hSw; (try dsimp only at hSw); go_simp; (try with_reducible rfl)
      (try simp only [Act.put, List.getElem_toArray, List.getElem_cons_succ, List.getElem_cons_zero, List.setIfInBounds_toArray, List.set_cons_zero, List.set_cons_succ])
      refine wpAnyH_ready (rs := [5]) (by kernel_rfl) (by simp) ?_
      refine AllReadyH.cons rfl (fun K hK => ?_) AllReadyH.nil
      go_simp
      refine (HE1.out _).mono ?_
      rintro _ wc ⟨rfl, k1⟩
      refine hK.out _ _ ⟨cell_kept (k1) hHeld.1, cell_kept (k1) hHeld.2.1, cell_kept (k1) hHeld.2.2⟩ (fun hHeld => ?_)
      clear hK K
      (try simp only [Act.put, List.getElem_toArray, List.getElem_cons_succ, List.getElem_cons_zero, List.setIfInBounds_toArray, List.set_cons_zero, List.set_cons_succ])
      refine wpAnyH_take (i := 6) (v := ?_) rfl (by kernel_rfl) (by kernel_rfl) (by kernel_rfl) (fun _ _ _ h => h) (Or.inl ⟨by rfl, ?_⟩) (by assumption) ?_
      rotate_left
      · intro w hSw; (try dsimp only at hSw); go_simp; (try with_reducible rfl)
      (try simp only [Act.put, List.getElem_toArray, List.getElem_cons_succ, List.getElem_cons_zero, List.setIfInBounds_toArray, List.set_cons_zero, List.set_cons_succ])
      refine wpAnyH_ready (rs := [10]) (by kernel_rfl) (by simp) ?_
      refine AllReadyH.cons rfl (fun K hK => ?_) AllReadyH.nil
      go_simp
      refine (HE2.out _).mono ?_
      rintro _ wd ⟨rfl, k2⟩
      have hkk := (((Below.refl _ W2).drew.trans k1).trans (k2.mono (((Below.refl _ W2).drew.trans k1)).size))
      have q0 := cell_kept hkk HG.out.1
      have q1 := cell_kept hkk HG.out.2.1
      have z0 := frozen_kept hkk HG.out.2.2.1 HG.out.1
      have z1 := frozen_kept hkk HG.out.2.2.2 HG.out.2.1
      have HFF := Lib.hid (fill2 (a := .int .i64 (max s E1)) (b := .int .i64 (min e E2)) (HB2.out.trans (hkk.mono HB2.out.size)) (by have := HXB.out; omega : w.heap.size ≤ xb + 1) q0 q1)
      refine hK.out _ _ ⟨cell_kept (k2) hHeld.1, cell_kept (k2) hHeld.2.1, cell_kept (k2) hHeld.2.2⟩ (fun hHeld => ?_)
      clear hK K
      (try simp only [Act.put, List.getElem_toArray, List.getElem_cons_succ, List.getElem_cons_zero, List.setIfInBounds_toArray, List.set_cons_zero, List.set_cons_succ])
      refine wpAnyH_take (i := 11) (v := ?_) rfl (by kernel_rfl) (by kernel_rfl) (by kernel_rfl) (fun _ _ _ h => h) (Or.inl ⟨by rfl, ?_⟩) (by assumption) ?_
      rotate_left
      · intro w hSw; (try dsimp only at hSw); go_simp; (try with_reducible rfl)
      (try simp only [Act.put, List.getElem_toArray, List.getElem_cons_succ, List.getElem_cons_zero, List.setIfInBounds_toArray, List.set_cons_zero, List.set_cons_succ])
      refine wpAnyH_take (i := 12) (v := ?_) rfl (by kernel_rfl) (by kernel_rfl) (by kernel_rfl) (fun _ _ _ h => h) (Or.inl ⟨by rfl, ?_⟩) (by assumption) ?_
      rotate_left
      · intro w hSw; (try dsimp only at hSw); go_simp; (try with_reducible rfl)
      (try simp only [Act.put, List.getElem_toArray, List.getElem_cons_succ, List.getElem_cons_zero, List.setIfInBounds_toArray, List.set_cons_zero, List.set_cons_succ])
      refine wpAnyH_ready (rs := [13]) (by kernel_rfl) (by simp) ?_
      refine AllReadyH.cons rfl (fun K hK => ?_) AllReadyH.nil
      go_simp
      (try skip)
      refine hK.out _ _ ⟨by rw [World.cell?_setCell_far _ _ _ _ (by show xb + 1 ≠ xb; omega), World.cell?_setCell_far _ _ _ _ (by show xb + 1 ≠ xb; omega)]; exact hHeld.1, by rw [World.cell?_setCell_far _ _ _ _ (by show xb + 1 ≠ xb; omega), World.cell?_setCell_far _ _ _ _ (by show xb + 1 ≠ xb; omega)]; exact hHeld.2.1, by rw [World.cell?_setCell_far _ _ _ _ (by show xb + 1 ≠ xb; omega), World.cell?_setCell_far _ _ _ _ (by show xb + 1 ≠ xb; omega)]; exact hHeld.2.2⟩ (fun hHeld => ?_)
      clear hK K
      (try simp only [Act.put, List.getElem_toArray, List.getElem_cons_succ, List.getElem_cons_zero, List.setIfInBounds_toArray, List.set_cons_zero, List.set_cons_succ])
      refine wpAnyH_done (by kernel_rfl) ?_ _
      go_wp2
      obtain ⟨r0, r1, hBf⟩ := HFF.out
      (try simp only [Exit.inBlock, Exit.then])
      refine bodyPost_ret (by simp [results, Try.results39, r0, r1, go_sem]; try rfl) rfl ?_
      exact ⟨by rw [HR.out], hBf⟩
    · rw [if_neg h2] at HOUT
      have HG := Lib.hid (And.intro g0 (And.intro g1 HB2.out))
      have hle : w.heap.size ≤ xb + 1 := by have := HXB.out; omega
      by_cases h3 : a < L
      · have HR := Lib.hid (show O = (0, 0) by rw [HOUT.out, if_pos (Or.inl h3)])
        have HFF := Lib.hid (fill2 (a := .int .i64 0) (b := .int .i64 0) HG.out.2.2 hle HG.out.1 HG.out.2.1)
        go_wp2
        obtain ⟨r0, r1, hBf⟩ := HFF.out
        (try simp only [Exit.inBlock, Exit.then])
        refine bodyPost_ret (by simp [results, Try.results39, r0, r1, go_sem]; try rfl) rfl ?_
        exact ⟨by rw [HR.out], hBf⟩
      · by_cases h4 : H < a
        · have HR := Lib.hid (show O = (0, 0) by rw [HOUT.out, if_pos (Or.inr h4)])
          have HFF := Lib.hid (fill2 (a := .int .i64 0) (b := .int .i64 0) HG.out.2.2 hle HG.out.1 HG.out.2.1)
          go_wp2
          obtain ⟨r0, r1, hBf⟩ := HFF.out
          (try simp only [Exit.inBlock, Exit.then])
          refine bodyPost_ret (by simp [results, Try.results39, r0, r1, go_sem]; try rfl) rfl ?_
          exact ⟨by rw [HR.out], hBf⟩
        · have HR := Lib.hid (show O = (s, e) by rw [HOUT.out, if_neg (by omega)])
          have HFF := Lib.hid (fill2 (a := .int .i64 s) (b := .int .i64 e) HG.out.2.2 hle HG.out.1 HG.out.2.1)
          go_wp2
          obtain ⟨r0, r1, hBf⟩ := HFF.out
          (try simp only [Exit.inBlock, Exit.then])
          refine bodyPost_ret (by simp [results, Try.results39, r0, r1, go_sem]; try rfl) rfl ?_
          exact ⟨by rw [HR.out], hBf⟩
theorem pbtw_any (s a m e L H : Int) (w : World) (s0 : 0 ≤ s) (se : s < e) (e1 : e ≤ 1000000000001) (ha : -2000000000000000000 ≤ a ∧ a ≤ 2000000000000000000) (hm : -1000000 ≤ m ∧ m ≤ 1000000) (hL : -1000000000000000000 ≤ L ∧ L ≤ 1000000000000000000) (hH : -1000000000000000000 ≤ H ∧ H ≤ 1000000000000000000) :
    Calls Try.prog 39 #[pv (s, a, m), .int .i64 e, .int .i64 L, .int .i64 H] w fun r w' => r = .returned (sv (btw s a m e L H).1 (btw s a m e L H).2) ∧ Below w.heap.size w w' := pbtw_aux s a m e L H _ rfl w s0 se e1 ha hm hL hH
end Go.Proofs.Ytdoojpilogcnjaa.Pw
