/- What the developers' tail of a piecewise linear function returns. Conditions: the function is valid, it lies in memory as the argument says, the argument is one. -/
import Derived.Test.YtdoojpilogcnjaaPwOwn
import Derived.Test.YtdoojpilogcnjaaShelfA
set_option linter.unusedVariables false
set_option linter.unusedSimpArgs false
namespace Go.Proofs.Ytdoojpilogcnjaa.Pw
open Go.RowKit Go.Proofs.Ytdoojpilogcnjaa.Sp
theorem ptail1_any (i n c gf gx b off : Nat) (x q1 : Int) (W : World) (hi : i < n) (c1 : W.cell? ⟨gf, 1, none⟩ = some (.slice (some ⟨b, off, none⟩) n c)) (cx : W.cell? ⟨gx, 0, none⟩ = some (.int .i64 x)) (cf : W.cell? ⟨b, off + i * 3, none⟩ = some (.int .i64 q1)) :
    Calls Try.prog 57 #[.int .i64 i, .pointer (some ⟨gf, 0, none⟩), .pointer (some ⟨gx, 0, none⟩)] W fun e w' => e = .returned (.bool (decide (x < q1))) ∧ ∃ q os', w' = Go.Sort.grow (W.drewN q) os' := by
  have hi2 : (i : Int) < (n : Int) := by omega
  go_enter Try.func57, Try.ntmps57
  go_wp2
  go_quiet (fail)
  go_wp2
  go_ret
  exact ⟨rfl, _, #[], by rw [Go.Sort.grow_empty]⟩
theorem cnt_of (l : List Pc) (x : Int) : (List.range l.toArray.size).countP (fun i => !(decide (x < (l.toArray[i]!).1))) = l.countP (fun q => decide (q.1 ≤ x)) := by
  rw [Lib.countP_range l.toArray (fun q : Pc => !(decide (x < q.1)))]
  show l.countP _ = _
  congr 1
  funext q
  by_cases h : x < q.1
  · rw [decide_eq_true h, decide_eq_false (show ¬ q.1 ≤ x by omega)]; rfl
  · rw [decide_eq_false h, decide_eq_true (show q.1 ≤ x by omega)]; rfl
set_option maxHeartbeats 4000000 in
set_option maxRecDepth 100000 in
theorem ptail_any (d x : Int) (a : Option Addr) (c : Nat) (l : List Pc) (w : World) (hn1 : l.length ≤ 1000) (ho : Ok l) (hx0 : 0 ≤ x) (hx1 : x ≤ 1000000000000) (z : PcsAt a l w) :
    Calls Try.prog 40 #[fv d a l.length c, .int .i64 x] w fun r w' => r = .returned (pv (x, num l x, slp l x)) ∧ Below w.heap.size w w' := by
  obtain ⟨k, hk, hget, hkl⟩ := tail_at ho hx0
  obtain ⟨p, hp⟩ : ∃ p, p = pick l x := ⟨_, rfl⟩
  rw [← hp] at hget
  obtain ⟨b, off, rfl, hbb, -, -⟩ := z k _ hget
  have HBB := Lib.hid (show b < w.heap.size from World.block_lt_of_cell? _ _ hbb)
  clear hbb
  have hsp := pick_spec ho hx0
  have hbd := num_bd ho hx0 hx1
  have HNU := Lib.hid (show p.2.1 + p.2.2 * (x - p.1) = num l x by unfold num; rw [← hp])
  have HSL := Lib.hid (show p.2.2 = slp l x by unfold slp; rw [← hp])
  rw [← hp] at hsp
  have hf0 := from_nonneg ho hsp.1
  have ha := ho.at_ _ hsp.1
  have HCO := Lib.hid (fun w' => pcont_any p x w' (by omega) (by have := HNU.out; omega) (by omega))
  have HC := Lib.hid (fun w' (q : Below w.heap.size w w') => (show w'.cell? ⟨b, off + k * 3, none⟩ = some (.int .i64 p.1) ∧ w'.cell? ⟨b, off + k * 3 + 1, none⟩ = some (.int .i64 p.2.1) ∧ w'.cell? ⟨b, off + k * 3 + 2, none⟩ = some (.int .i64 p.2.2) by
    obtain ⟨b2, o2, e, u1, u2, u3⟩ := z.below q k _ hget
    cases e
    exact ⟨u1, u2, u3⟩))
  rw [HNU.out, HSL.out] at HCO
  have HZ := Lib.hid (And.intro z ho)
  have HK := Lib.hid hk
  obtain ⟨n, hn⟩ : ∃ n, n = l.length := ⟨_, rfl⟩
  have HN := Lib.hid hn
  rw [← hn] at hn1 hkl ⊢
  clear hn hsp hbd hf0 ha hget hk hp z ho
  obtain ⟨b1, hb1⟩ : ∃ b, b = w.heap.size := ⟨_, rfl⟩
  have hB1 : Below w.heap.size w (((w.alloc (fb d (some ⟨b, off, none⟩) n c)).alloc (.cells #[.int .i64 x] 3)).alloc (pb (0, 0, 0))) := ((alloc_below w _).trans ((alloc_below (w.alloc (fb d (some ⟨b, off, none⟩) n c)) (.cells #[.int .i64 x] 3)).mono (by simp))).trans ((alloc_below ((w.alloc (fb d (some ⟨b, off, none⟩) n c)).alloc (.cells #[.int .i64 x] 3)) (pb (0, 0, 0))).mono (by simp; omega))
  have hs1 : (w.alloc (fb d (some ⟨b, off, none⟩) n c)).heap.size = w.heap.size + 1 := by simp
  have hs2 : ((w.alloc (fb d (some ⟨b, off, none⟩) n c)).alloc (.cells #[.int .i64 x] 3)).heap.size = w.heap.size + 1 + 1 := by simp
  have c1 : (((w.alloc (fb d (some ⟨b, off, none⟩) n c)).alloc (.cells #[.int .i64 x] 3)).alloc (pb (0, 0, 0))).cell? ⟨w.heap.size, 1, none⟩ = some (.slice (some ⟨b, off, none⟩) n c) := cell_kept (alloc_below _ _) (cell_kept (alloc_below _ _) (by simp [World.cell?_alloc_new]))
  have cx : (((w.alloc (fb d (some ⟨b, off, none⟩) n c)).alloc (.cells #[.int .i64 x] 3)).alloc (pb (0, 0, 0))).cell? ⟨w.heap.size + 1, 0, none⟩ = some (.int .i64 x) := cell_kept (alloc_below _ _) (by rw [← hs1]; exact (by simp))
  have g := pb_cells ((w.alloc (fb d (some ⟨b, off, none⟩) n c)).alloc (.cells #[.int .i64 x] 3)) (0, 0, 0)
  have y := fun i => pb_free ((w.alloc (fb d (some ⟨b, off, none⟩) n c)).alloc (.cells #[.int .i64 x] 3)) (0, 0, 0) i
  rw [hs2] at g
  simp only [hs2] at y
  clear hs1 hs2
  go_enter Try.func40, Try.ntmps40
  go_upto_region 1 with (fail)
  generalize (((w.alloc (fb d (some ⟨b, off, none⟩) n c)).alloc (.cells #[.int .i64 x] 3)).alloc (pb (0, 0, 0))) = W1 at *
  rw [← hb1] at c1 cx g y ⊢
  have HG := Lib.hid hb1
  have HBL := Lib.hid (show b < b1 by rw [hb1]; exact HBB.out)
  clear hb1
  have HB1 := Lib.hid hB1
  obtain ⟨y0, y1, y2⟩ := And.intro (y 0) (And.intro (y 1) (y 2))
  obtain ⟨g0, g1, g2⟩ := g
  simp only at g0 g1 g2
  have HE := Lib.hid (And.intro c1 (And.intro cx (And.intro g0 (And.intro g1 (And.intro g2 (And.intro y0 (And.intro y1 y2)))))))
  have eg : ∀ args w, (callFunc 57 args).run Try.prog w = .ok (.enter 57 args) w := enters_of Try.func57 (by kernel_rfl) rfl
  have hblk : ∀ i q, l[i]? = some q → W1.cell? ⟨b, off + i * 3, none⟩ = some (.int .i64 q.1) := fun i q hq => by
    obtain ⟨b2, o2, e, u1, -, -⟩ := HZ.out.1.below HB1.out i q hq
    cases e
    exact u1
  have hcon := Any.sort_Search Try.search 57 #[.pointer (some ⟨b1, 0, none⟩), .pointer (some ⟨b1 + 1, 0, none⟩)] n (fun i => decide (x < (l.toArray[i]!).1)) W1 eg (by omega)
    (fun m os i hi => by
      obtain ⟨q, hq⟩ : ∃ q, l[i]? = some q := ⟨_, List.getElem?_eq_getElem (by have := HN.out; omega)⟩
      have e : l.toArray[i]! = q := by rw [List.getElem!_toArray, List.getElem!_eq_getElem?_getD, hq]; rfl
      simp only [e]
      have k1 := hblk i q hq
      exact ptail1_any i n c b1 (b1 + 1) b off x q.1 _ hi (cell_grown (World.block_lt_of_cell? _ _ c1) c1 m os) (cell_grown (World.block_lt_of_cell? _ _ cx) cx m os) (cell_grown (World.block_lt_of_cell? _ _ k1) k1 m os))
    (fun i j hij hj hp => by
      obtain ⟨q, hq⟩ : ∃ q, l[i]? = some q := ⟨_, List.getElem?_eq_getElem (by have := HN.out; omega)⟩
      obtain ⟨r, hr⟩ : ∃ r, l[j]? = some r := ⟨_, List.getElem?_eq_getElem (by have := HN.out; omega)⟩
      have e : l.toArray[i]! = q := by rw [List.getElem!_toArray, List.getElem!_eq_getElem?_getD, hq]; rfl
      have e2 : l.toArray[j]! = r := by rw [List.getElem!_toArray, List.getElem!_eq_getElem?_getD, hr]; rfl
      simp only [e] at hp
      simp only [e2]
      exact decide_eq_true (inc_mono HZ.out.2.inc hq hr hij (of_decide_eq_true hp)))
  have hcn : (List.range n).countP (fun i => !(decide (x < (l.toArray[i]!).1))) = k + 1 := by
    rw [← HK.out, ← cnt_of, List.size_toArray, HN.out]
  have HS : Hid (Calls Try.prog 56 #[.int .i64 n, .func (.func 57) #[] #[.pointer (some ⟨b1, 0, none⟩), .pointer (some ⟨b1 + 1, 0, none⟩)]] W1 fun e w' => e = .returned (.int .i64 ((k : Int) + 1)) ∧ Below W1.heap.size W1 w') := hcon.mono (fun e w' ⟨he, q, os, hw⟩ => ⟨by rw [he, hcn]; rfl, by rw [hw]; exact below_grown_sl _ _ _ _ (Nat.le_refl _)⟩)
  clear hcon hcn hblk eg hB1
  go_upto_region 2 with (go_at_call 56; with_reducible refine HS.out.mono ?_; rintro _ W2 ⟨rfl, hn⟩)
  clear c1 cx g0 g1 g2 y0 y1 y2 y HS HZ HK HN HNU HSL
  obtain ⟨d1, d2, d3⟩ := HC.out _ (HB1.out.trans (hn.mono HB1.out.size))
  have hkn : (k : Int) < (n : Int) := by omega
  have hk0 : (0 : Int) ≤ (k : Int) := by omega
  have hw1 : IntKind.i64.wrap ((k : Int) + 1 - 1) = (k : Int) := by rw [show (k : Int) + 1 - 1 = k by omega]; exact IntWalk.i64_in _ (by omega)
  have hw2 : IntKind.i64.wrap (k : Int) = (k : Int) := IntWalk.i64_in _ (by omega)
  have HB2 := Lib.hid (HB1.out.trans (hn.mono HB1.out.size))
  have e1 := cell_kept hn HE.out.1
  have ex := cell_kept hn HE.out.2.1
  have f0 := cell_kept hn HE.out.2.2.1
  have f1 := cell_kept hn HE.out.2.2.2.1
  have f2 := cell_kept hn HE.out.2.2.2.2.1
  have z0 := frozen_kept hn HE.out.2.2.2.2.2.1 HE.out.2.2.1
  have z1 := frozen_kept hn HE.out.2.2.2.2.2.2.1 HE.out.2.2.2.1
  have z2 := frozen_kept hn HE.out.2.2.2.2.2.2.2 HE.out.2.2.2.2.1
  clear hn HE HB1 HC
  have HE := Lib.hid (And.intro e1 (And.intro ex (And.intro d1 (And.intro d2 d3))))
  have HF := Lib.hid (And.intro f0 (And.intro f1 (And.intro f2 (And.intro z0 (And.intro z1 z2)))))
  have hmix : Try.prog.follows .mixedOrders = true := by kernel_rfl
  refine wp_region_held_drew (S := fun W => W.cell? ⟨b1, 1, none⟩ = some (.slice (some ⟨b, off, none⟩) n c) ∧ W.cell? ⟨b1 + 1, 0, none⟩ = some (.int .i64 x) ∧ W.cell? ⟨b, off + k * 3, none⟩ = some (.int .i64 p.1) ∧ W.cell? ⟨b, off + k * 3 + 1, none⟩ = some (.int .i64 p.2.1) ∧ W.cell? ⟨b, off + k * 3 + 2, none⟩ = some (.int .i64 p.2.2)) hmix ⟨cell_kept ((Below.refl _ W2).drew) HE.out.1, cell_kept ((Below.refl _ W2).drew) HE.out.2.1, cell_kept ((Below.refl _ W2).drew) HE.out.2.2.1, cell_kept ((Below.refl _ W2).drew) HE.out.2.2.2.1, cell_kept ((Below.refl _ W2).drew) HE.out.2.2.2.2⟩ (fun hHeld => ?_)
  refine wpAnyH_take (i := 0) (v := ?_) rfl (by kernel_rfl) (by kernel_rfl) (by kernel_rfl) (fun _ _ _ h => h) (Or.inl ⟨by rfl, ?_⟩) (by assumption) ?_
  rotate_left
  · intro w hSw; (try dsimp only at hSw); go_simp; (try with_reducible rfl)
  (try simp only [Act.put, List.getElem_toArray, List.getElem_cons_succ, List.getElem_cons_zero, List.setIfInBounds_toArray, List.set_cons_zero, List.set_cons_succ])
  refine wpAnyH_take (i := 1) (v := ?_) rfl (by kernel_rfl) (by kernel_rfl) (by kernel_rfl) (fun _ _ _ h => h) (Or.inl ⟨by rfl, ?_⟩) (by assumption) ?_
  rotate_left
  · intro w hSw; (try dsimp only at hSw); go_simp; (try with_reducible rfl)
  (try simp only [Act.put, List.getElem_toArray, List.getElem_cons_succ, List.getElem_cons_zero, List.setIfInBounds_toArray, List.set_cons_zero, List.set_cons_succ])
  refine wpAnyH_take (i := 2) (v := ?_) rfl (by kernel_rfl) (by kernel_rfl) (by kernel_rfl) (fun _ _ _ h => h) (Or.inl ⟨by rfl, ?_⟩) (by assumption) ?_
  rotate_left
  · intro w hSw; (try dsimp only at hSw); go_simp; (try with_reducible rfl)
  (try simp only [Act.put, List.getElem_toArray, List.getElem_cons_succ, List.getElem_cons_zero, List.setIfInBounds_toArray, List.set_cons_zero, List.set_cons_succ])
  refine wpAnyH_take (i := 3) (v := ?_) rfl (by kernel_rfl) (by kernel_rfl) (by kernel_rfl) (fun _ _ _ h => h) (Or.inl ⟨by rfl, ?_⟩) (by assumption) ?_
  rotate_left
  · intro w hSw; (try dsimp only at hSw); go_simp; (try with_reducible rfl)
  (try simp only [Act.put, List.getElem_toArray, List.getElem_cons_succ, List.getElem_cons_zero, List.setIfInBounds_toArray, List.set_cons_zero, List.set_cons_succ])
  refine wpAnyH_take (i := 4) (v := ?_) rfl (by kernel_rfl) (by kernel_rfl) (by kernel_rfl) (fun _ _ _ h => h) (Or.inl ⟨by rfl, ?_⟩) (by assumption) ?_
  rotate_left
  · intro w hSw; (try dsimp only at hSw); go_simp; (try with_reducible rfl)
  (try simp only [Act.put, List.getElem_toArray, List.getElem_cons_succ, List.getElem_cons_zero, List.setIfInBounds_toArray, List.set_cons_zero, List.set_cons_succ])
  refine wpAnyH_take (i := 5) (v := ?_) rfl (by kernel_rfl) (by kernel_rfl) (by kernel_rfl) (fun _ _ _ h => h) (Or.inl ⟨by rfl, ?_⟩) (by assumption) ?_
  rotate_left
  · intro w hSw; (try dsimp only at hSw); go_simp; (try with_reducible rfl)
  (try simp only [Act.put, List.getElem_toArray, List.getElem_cons_succ, List.getElem_cons_zero, List.setIfInBounds_toArray, List.set_cons_zero, List.set_cons_succ])
  refine wpAnyH_take (i := 6) (v := ?_) rfl (by kernel_rfl) (by kernel_rfl) (by kernel_rfl) (fun _ _ _ h => h) (Or.inl ⟨by rfl, ?_⟩) (by assumption) ?_
  rotate_left
  · intro w hSw; (try dsimp only at hSw); go_simp; (try with_reducible rfl)
  (try simp only [Act.put, List.getElem_toArray, List.getElem_cons_succ, List.getElem_cons_zero, List.setIfInBounds_toArray, List.set_cons_zero, List.set_cons_succ])
  refine wpAnyH_ready (rs := [7]) (by kernel_rfl) (by simp) ?_
  refine AllReadyH.cons rfl (fun K hK => ?_) AllReadyH.nil
  go_simp
  refine (HCO.out _).mono ?_
  rintro _ wc ⟨rfl, kc⟩
  have q0 := cell_kept kc (cell_kept (Below.refl _ W2).drew HF.out.1)
  have q1 := cell_kept kc (cell_kept (Below.refl _ W2).drew HF.out.2.1)
  have q2 := cell_kept kc (cell_kept (Below.refl _ W2).drew HF.out.2.2.1)
  have z0 := frozen_kept kc HF.out.2.2.2.1 (cell_kept (Below.refl _ W2).drew HF.out.1)
  have z1 := frozen_kept kc HF.out.2.2.2.2.1 (cell_kept (Below.refl _ W2).drew HF.out.2.1)
  have z2 := frozen_kept kc HF.out.2.2.2.2.2 (cell_kept (Below.refl _ W2).drew HF.out.2.2.1)
  have HFF := Lib.hid (fill3 (a := .int .i64 x) (b := .int .i64 (num l x)) (c := .int .i64 (slp l x)) (HB2.out.trans (((Below.refl _ W2).drew.trans kc).mono HB2.out.size)) (by have := HG.out; omega : w.heap.size ≤ b1 + 1 + 1) q0 q1 q2)
  have hkk := (Below.refl _ W2).drew.trans kc
  refine hK.out _ _ ⟨cell_kept (hkk) HE.out.1, cell_kept (hkk) HE.out.2.1, cell_kept (hkk) HE.out.2.2.1, cell_kept (hkk) HE.out.2.2.2.1, cell_kept (hkk) HE.out.2.2.2.2⟩ (fun hHeld => ?_)
  clear hK K
  (try simp only [Act.put, List.getElem_toArray, List.getElem_cons_succ, List.getElem_cons_zero, List.setIfInBounds_toArray, List.set_cons_zero, List.set_cons_succ])
  refine wpAnyH_ready (rs := [8]) (by kernel_rfl) (by simp) ?_
  refine AllReadyH.cons rfl (fun K hK => ?_) AllReadyH.nil
  go_simp
  (try skip)
  refine hK.out _ _ ⟨by rw [World.cell?_setCell_far _ _ _ _ (by show b1 + 1 + 1 ≠ b1; omega), World.cell?_setCell_far _ _ _ _ (by show b1 + 1 + 1 ≠ b1; omega), World.cell?_setCell_far _ _ _ _ (by show b1 + 1 + 1 ≠ b1; omega)]; exact cell_kept hkk HE.out.1, by rw [World.cell?_setCell_far _ _ _ _ (by show b1 + 1 + 1 ≠ b1 + 1; omega), World.cell?_setCell_far _ _ _ _ (by show b1 + 1 + 1 ≠ b1 + 1; omega), World.cell?_setCell_far _ _ _ _ (by show b1 + 1 + 1 ≠ b1 + 1; omega)]; exact cell_kept hkk HE.out.2.1, by rw [World.cell?_setCell_far _ _ _ _ (by show b1 + 1 + 1 ≠ b; have := World.block_lt_of_cell? _ _ HE.out.2.2.1; have := HBL.out; omega), World.cell?_setCell_far _ _ _ _ (by show b1 + 1 + 1 ≠ b; have := World.block_lt_of_cell? _ _ HE.out.2.2.1; have := HBL.out; omega), World.cell?_setCell_far _ _ _ _ (by show b1 + 1 + 1 ≠ b; have := World.block_lt_of_cell? _ _ HE.out.2.2.1; have := HBL.out; omega)]; exact cell_kept hkk HE.out.2.2.1, by rw [World.cell?_setCell_far _ _ _ _ (by show b1 + 1 + 1 ≠ b; have := World.block_lt_of_cell? _ _ HE.out.2.2.1; have := HBL.out; omega), World.cell?_setCell_far _ _ _ _ (by show b1 + 1 + 1 ≠ b; have := World.block_lt_of_cell? _ _ HE.out.2.2.1; have := HBL.out; omega), World.cell?_setCell_far _ _ _ _ (by show b1 + 1 + 1 ≠ b; have := World.block_lt_of_cell? _ _ HE.out.2.2.1; have := HBL.out; omega)]; exact cell_kept hkk HE.out.2.2.2.1, by rw [World.cell?_setCell_far _ _ _ _ (by show b1 + 1 + 1 ≠ b; have := World.block_lt_of_cell? _ _ HE.out.2.2.1; have := HBL.out; omega), World.cell?_setCell_far _ _ _ _ (by show b1 + 1 + 1 ≠ b; have := World.block_lt_of_cell? _ _ HE.out.2.2.1; have := HBL.out; omega), World.cell?_setCell_far _ _ _ _ (by show b1 + 1 + 1 ≠ b; have := World.block_lt_of_cell? _ _ HE.out.2.2.1; have := HBL.out; omega)]; exact cell_kept hkk HE.out.2.2.2.2⟩ (fun hHeld => ?_)
  clear hK K
  (try simp only [Act.put, List.getElem_toArray, List.getElem_cons_succ, List.getElem_cons_zero, List.setIfInBounds_toArray, List.set_cons_zero, List.set_cons_succ])
  refine wpAnyH_done (by kernel_rfl) ?_ _
  go_wp2
  obtain ⟨r0, r1, r2, hBf⟩ := HFF.out
  (try simp only [Exit.inBlock, Exit.then])
  refine bodyPost_ret (by simp [results, Try.results40, r0, r1, r2, go_sem]; try rfl) rfl ?_
  exact ⟨rfl, hBf⟩
end Go.Proofs.Ytdoojpilogcnjaa.Pw
