/- What the reference implementation's wrong, Eval and result of piecewise linear functions return. Conditions: the pieces lie in memory as the argument says. -/
import Derived.Test.YtdoojpilogcnjaaPwRef3
set_option linter.unusedVariables false
set_option linter.unusedSimpArgs false
namespace Go.Proofs.Ytdoojpilogcnjaa.Pw
open Go.RowKit Go.Proofs.Ytdoojpilogcnjaa.Sp
/-- The error of two functions. -/
def wrg (d e : Int) (l r : List Pc) : Int := if vdB d l = true ∧ vdB e r = true then (if d = e then 0 else 11) else 1
set_option maxHeartbeats 2000000 in
set_option maxRecDepth 100000 in
theorem rwrong_any (d e : Int) (a b : Option Addr) (c k : Nat) (l r : List Pc) (w : World) (zl : PcsAt a l w) (zr : PcsAt b r w) :
    Calls Try.prog 30 #[fv d a l.length c, fv e b r.length k] w fun v w' => v = .returned (.int .i64 (wrg d e l r)) ∧ Below w.heap.size w w' := by
  have HL := Lib.hid (fun w' (q : Below w.heap.size w w') => rvalid_any d a c l w' (zl.below q))
  have HR := Lib.hid (fun w' (q : Below w.heap.size w w') => rvalid_any e b k r w' (zr.below q))
  obtain ⟨va, hva⟩ : ∃ x, x = vdB d l := ⟨_, rfl⟩
  obtain ⟨vb, hvb⟩ : ∃ x, x = vdB e r := ⟨_, rfl⟩
  have HW := Lib.hid (show wrg d e l r = if va = true ∧ vb = true then (if d = e then 0 else 11) else 1 by rw [hva, hvb]; rfl)
  rw [← hva] at HL
  rw [← hvb] at HR
  generalize l.length = n at *
  generalize r.length = m at *
  clear hva hvb zl zr
  have hsz : (w.alloc (fb d a n c)).heap.size = w.heap.size + 1 := by simp
  have hB1 : Below w.heap.size w ((w.alloc (fb d a n c)).alloc (fb e b m k)) := (alloc_below w _).trans ((alloc_below (w.alloc (fb d a n c)) (fb e b m k)).mono (alloc_below w _).size)
  have c0 : ((w.alloc (fb d a n c)).alloc (fb e b m k)).cell? ⟨w.heap.size, 0, none⟩ = some (.int .i64 d) := cell_kept (alloc_below (w.alloc (fb d a n c)) (fb e b m k)) (by simp [World.cell?_alloc_new])
  have c1 : ((w.alloc (fb d a n c)).alloc (fb e b m k)).cell? ⟨w.heap.size, 1, none⟩ = some (.slice a n c) := cell_kept (alloc_below (w.alloc (fb d a n c)) (fb e b m k)) (by simp [World.cell?_alloc_new])
  have g0 : ((w.alloc (fb d a n c)).alloc (fb e b m k)).cell? ⟨w.heap.size + 1, 0, none⟩ = some (.int .i64 e) := by rw [← hsz]; exact (by simp)
  have g1 : ((w.alloc (fb d a n c)).alloc (fb e b m k)).cell? ⟨w.heap.size + 1, 1, none⟩ = some (.slice b m k) := by rw [← hsz]; exact (by simp)
  go_enter Try.func30, Try.ntmps30
  go_upto_region 1 with (fail)
  generalize (w.alloc (fb d a n c)).alloc (fb e b m k) = W1 at *
  generalize w.heap.size = xb at c0 c1 g0 g1 ⊢
  have HB := Lib.hid hB1
  have HE := Lib.hid (And.intro c0 (And.intro c1 (And.intro g0 g1)))
  clear hB1 hsz
  go_upto_region 2 with (go_at_call 21; with_reducible refine (HL.out _ HB.out).mono ?_; rintro _ W2 ⟨rfl, hn⟩)
  clear c0 c1 g0 g1
  have g0 := cell_kept hn HE.out.2.2.1
  have g1 := cell_kept hn HE.out.2.2.2
  have HB2 := Lib.hid (HB.out.trans (hn.mono HB.out.size))
  have HE2 := Lib.hid (And.intro (cell_kept hn HE.out.1) g0)
  clear hn HB
  go_upto_region 3 with (go_at_call 21; with_reducible refine (HR.out _ HB2.out).mono ?_; rintro _ W3 ⟨rfl, hn⟩)
  clear g0 g1
  have c0 := cell_kept hn HE2.out.1
  have g0 := cell_kept hn HE2.out.2
  have HB3 := Lib.hid (HB2.out.trans (hn.mono HB2.out.size))
  clear hn HB2 HL HR HE HE2
  cases va
  · have HR := Lib.hid (show wrg d e l r = 1 by rw [HW.out, if_neg (fun q => by cases q.1)])
    go_wp2
    go_ret
    exact ⟨ret_int HR.out.symm, HB3.out⟩
  · cases vb
    · have HR := Lib.hid (show wrg d e l r = 1 by rw [HW.out, if_neg (fun q => by cases q.2)])
      go_wp2
      go_ret
      exact ⟨ret_int HR.out.symm, HB3.out⟩
    · by_cases hde : d = e
      · have HR := Lib.hid (show wrg d e l r = 0 by rw [HW.out, if_pos ⟨rfl, rfl⟩, if_pos hde])
        have t1 : (d != e) = false := by simpa using hde
        clear hde
        go_wp2
        go_ret
        exact ⟨ret_int HR.out.symm, HB3.out⟩
      · have HR := Lib.hid (show wrg d e l r = 11 by rw [HW.out, if_pos ⟨rfl, rfl⟩, if_neg hde])
        have t1 : (d != e) = true := by simpa using hde
        go_wp2
        go_ret
        exact ⟨ret_int HR.out.symm, HB3.out⟩
/-- Whether a function has a value at an argument. -/
def evOk (d : Int) (l : List Pc) (x : Int) : Prop := vdB d l = true ∧ 0 ≤ x ∧ x ≤ 1000000000000
instance (d : Int) (l : List Pc) (x : Int) : Decidable (evOk d l x) := by unfold evOk; infer_instance
abbrev evN (d : Int) (l : List Pc) (x : Int) : Int := if evOk d l x then num l x else 0
abbrev evD (d : Int) (l : List Pc) (x : Int) : Int := if evOk d l x then d else 0
abbrev evE (d : Int) (l : List Pc) (x : Int) : Int := if evOk d l x then 0 else 1
theorem ev_pos {d : Int} {l : List Pc} {x : Int} (h : evOk d l x) : (Ending.returned (.tuple #[.int .i64 (evN d l x), .int .i64 (evD d l x), .int .i64 (evE d l x)])) = .returned (.tuple #[.int .i64 (num l x), .int .i64 d, .int .i64 0]) := by
  unfold evN evD evE; rw [if_pos h, if_pos h, if_pos h]
theorem ev_neg {d : Int} {l : List Pc} {x : Int} (h : ¬ evOk d l x) : (Ending.returned (.tuple #[.int .i64 (evN d l x), .int .i64 (evD d l x), .int .i64 (evE d l x)])) = .returned (.tuple #[.int .i64 0, .int .i64 0, .int .i64 1]) := by
  unfold evN evD evE; rw [if_neg h, if_neg h, if_neg h]
set_option maxHeartbeats 2000000 in
set_option maxRecDepth 100000 in
theorem reval_any (d x : Int) (a : Option Addr) (c : Nat) (l : List Pc) (w : World) (z : PcsAt a l w) :
    Calls Try.prog 23 #[fv d a l.length c, .int .i64 x] w fun r w' => r = .returned (.tuple #[.int .i64 (evN d l x), .int .i64 (evD d l x), .int .i64 (evE d l x)]) ∧ Below w.heap.size w w' := by
  have HL := Lib.hid (fun w' (q : Below w.heap.size w w') => rvalid_any d a c l w' (z.below q))
  have HA := Lib.hid (fun (h : evOk d l x) w' (q : Below w.heap.size w w') => rat_any d x a c l w' (vd_ok h.1).2.2.2 (vd_ok h.1).1 h.2.1 h.2.2 (z.below q))
  have HO := Lib.hid (show evOk d l x ↔ vdB d l = true ∧ 0 ≤ x ∧ x ≤ 1000000000000 from Iff.rfl)
  obtain ⟨n, hn⟩ : ∃ n, n = l.length := ⟨_, rfl⟩
  have HB := Lib.hid (alloc_below w (fb d a n c))
  obtain ⟨v, hv⟩ : ∃ v, v = vdB d l := ⟨_, rfl⟩
  rw [← hn] at HL HA ⊢
  rw [← hv] at HL HO
  have e0 : (w.alloc (fb d a n c)).cell? ⟨w.heap.size, 0, none⟩ = some (.int .i64 d) := by simp [World.cell?_alloc_new]
  have e1 : (w.alloc (fb d a n c)).cell? ⟨w.heap.size, 1, none⟩ = some (.slice a n c) := by simp [World.cell?_alloc_new]
  clear hn z hv
  go_enter Try.func23, Try.ntmps23
  go_upto_region 1 with (fail)
  generalize w.alloc (fb d a n c) = W1 at *
  generalize w.heap.size = xb at e0 e1 ⊢
  have HE := Lib.hid (And.intro e0 e1)
  go_upto_region 2 with (go_at_call 21; with_reducible refine (HL.out _ HB.out).mono ?_; rintro _ W2 ⟨rfl, hn⟩)
  clear e0 e1
  have e0 := cell_kept hn HE.out.1
  have e1 := cell_kept hn HE.out.2
  have HB2 := Lib.hid (HB.out.trans (hn.mono HB.out.size))
  clear hn HB HE HL
  cases v
  · have HR := Lib.hid (ev_neg (show ¬ evOk d l x from fun q => by cases (HO.out.1 q).1))
    go_wp2
    go_ret3
    exact ⟨HR.out.symm, HB2.out⟩
  · by_cases hx : x < 0
    · have HR := Lib.hid (ev_neg (show ¬ evOk d l x from fun q => by have := (HO.out.1 q).2.1; omega))
      go_wp2
      go_ret3
      exact ⟨HR.out.symm, HB2.out⟩
    · by_cases hy : (1000000000000 : Int) < x
      · have HR := Lib.hid (ev_neg (show ¬ evOk d l x from fun q => by have := (HO.out.1 q).2.2; omega))
        go_wp2
        go_ret3
        exact ⟨HR.out.symm, HB2.out⟩
      · have ok : evOk d l x := HO.out.2 ⟨rfl, by omega, by omega⟩
        have HR := Lib.hid (ev_pos ok)
        have HC := Lib.hid (HA.out ok)
        clear HA HO ok
        -- begin
        have hmix : Try.prog.follows .mixedOrders = true := by kernel_rfl
        go_upto_region 4 with (fail)
        refine wp_region_held_drew (S := fun W => W.cell? ⟨xb, 0, none⟩ = some (.int .i64 d) ∧ W.cell? ⟨xb, 1, none⟩ = some (.slice a n c) ∧ Below w.heap.size w W) hmix ⟨cell_kept ((Below.refl _ W2).drew) e0, cell_kept ((Below.refl _ W2).drew) e1, (HB2.out.trans (((Below.refl _ W2).drew).mono HB2.out.size))⟩ (fun hHeld => ?_)
        refine wpAnyH_take (i := 0) (v := ?_) rfl (by kernel_rfl) (by kernel_rfl) (by kernel_rfl) (fun _ _ _ h => h) (Or.inl ⟨by rfl, ?_⟩) (by assumption) ?_
        rotate_left
        · intro w hSw; (try dsimp only at hSw); go_simp; (try with_reducible rfl)
        (try simp only [Act.put, List.getElem_toArray, List.getElem_cons_zero, List.setIfInBounds_toArray, List.set_cons_zero, List.set_cons_succ])
        refine wpAnyH_take (i := 1) (v := ?_) rfl (by kernel_rfl) (by kernel_rfl) (by kernel_rfl) (fun _ _ _ h => h) (Or.inl ⟨by rfl, ?_⟩) (by assumption) ?_
        rotate_left
        · intro w hSw; (try dsimp only at hSw); go_simp; (try with_reducible rfl)
        (try simp only [Act.put, List.getElem_toArray, List.getElem_cons_succ, List.getElem_cons_zero, List.setIfInBounds_toArray, List.set_cons_zero, List.set_cons_succ])
        refine wpAnyH_take (i := 3) (v := ?_) rfl (by kernel_rfl) (by kernel_rfl) (by kernel_rfl) (fun _ _ _ h => h) (Or.inl ⟨by rfl, ?_⟩) (by assumption) ?_
        rotate_left
        · intro w hSw; (try dsimp only at hSw); go_simp; (try with_reducible rfl)
        (try simp only [Act.put, List.getElem_toArray, List.getElem_cons_succ, List.getElem_cons_zero, List.setIfInBounds_toArray, List.set_cons_zero, List.set_cons_succ])
        refine wpAnyH_take (i := 4) (v := ?_) rfl (by kernel_rfl) (by kernel_rfl) (by kernel_rfl) (fun _ _ _ h => h) (Or.inl ⟨by rfl, ?_⟩) (by assumption) ?_
        rotate_left
        · intro w hSw; (try dsimp only at hSw); go_simp; (try with_reducible rfl)
        (try simp only [Act.put, List.getElem_toArray, List.getElem_cons_succ, List.getElem_cons_zero, List.setIfInBounds_toArray, List.set_cons_zero, List.set_cons_succ])
        refine wpAnyH_ready (rs := [2]) (by kernel_rfl) (by simp) ?_
        refine AllReadyH.cons rfl (fun K hK => ?_) AllReadyH.nil
        go_simp
        refine (HC.out _ hHeld.2.2).mono ?_
        rintro _ wc ⟨rfl, kc⟩
        refine hK.out _ _ ⟨cell_kept kc hHeld.1, cell_kept kc hHeld.2.1, hHeld.2.2.trans (kc.mono hHeld.2.2.size)⟩ (fun hHeld => ?_)
        clear hK K
        (try simp only [Act.put, List.getElem_toArray, List.getElem_cons_succ, List.getElem_cons_zero, List.setIfInBounds_toArray, List.set_cons_zero, List.set_cons_succ])
        refine wpAnyH_take (i := 5) (v := ?_) rfl (by kernel_rfl) (by kernel_rfl) (by kernel_rfl) (fun _ _ _ h => h) (Or.inl ⟨by rfl, ?_⟩) (by assumption) ?_
        rotate_left
        · intro w hSw; (try dsimp only at hSw); go_simp; (try with_reducible rfl)
        (try simp only [Act.put, List.getElem_toArray, List.getElem_cons_succ, List.getElem_cons_zero, List.setIfInBounds_toArray, List.set_cons_zero, List.set_cons_succ])
        refine wpAnyH_take (i := 6) (v := ?_) rfl (by kernel_rfl) (by kernel_rfl) (by kernel_rfl) (fun _ _ _ h => h) (Or.inl ⟨by rfl, ?_⟩) (by assumption) ?_
        rotate_left
        · intro w hSw; (try dsimp only at hSw); go_simp; (try with_reducible rfl)
        (try simp only [Act.put, List.getElem_toArray, List.getElem_cons_succ, List.getElem_cons_zero, List.setIfInBounds_toArray, List.set_cons_zero, List.set_cons_succ])
        refine wpAnyH_take (i := 7) (v := ?_) rfl (by kernel_rfl) (by kernel_rfl) (by kernel_rfl) (fun _ _ _ h => h) (Or.inl ⟨by rfl, ?_⟩) (by assumption) ?_
        rotate_left
        · intro w hSw; (try dsimp only at hSw); go_simp; (try with_reducible rfl)
        (try simp only [Act.put, List.getElem_toArray, List.getElem_cons_succ, List.getElem_cons_zero, List.setIfInBounds_toArray, List.set_cons_zero, List.set_cons_succ])
        refine wpAnyH_done (by kernel_rfl) ?_ _
        go_wp2
        go_ret3
        exact ⟨HR.out.symm, hHeld.2.2⟩
        -- end
/-- Two cells filled, one after the other. -/
theorem fill2 {B nb : Nat} {w0 w : World} {a b x y : Value} (hb : Below B w0 w) (hB : B ≤ nb) (h0 : w.cell? ⟨nb, 0, none⟩ = some x) (h1 : w.cell? ⟨nb, 1, none⟩ = some y) :
    ((w.setCell ⟨nb, 0, none⟩ a).setCell ⟨nb, 1, none⟩ b).cell? ⟨nb, 0, none⟩ = some a ∧ ((w.setCell ⟨nb, 0, none⟩ a).setCell ⟨nb, 1, none⟩ b).cell? ⟨nb, 1, none⟩ = some b ∧ Below B w0 ((w.setCell ⟨nb, 0, none⟩ a).setCell ⟨nb, 1, none⟩ b) := by
  have n01 : (⟨nb, 0, none⟩ : Addr) ≠ ⟨nb, 1, none⟩ := fun e => by cases e
  refine ⟨?_, ?_, (hb.setCell hB a).setCell hB b⟩
  · rw [World.cell?_setCell_other _ _ _ _ (Ne.symm n01)]
    exact World.cell?_setCell_same' _ _ _ (by rw [h0]; rfl)
  · exact World.cell?_setCell_same' _ _ _ (by rw [World.cell?_setCell_other _ _ _ _ n01, h1]; rfl)
/-- A function or its error. -/
def rsl (d : Int) (a : Option Addr) (l : List Pc) (c : Nat) : Value := if 64 < l.length then .tuple #[fv 0 none 0 0, .int .i64 2] else if vdB d l = true then .tuple #[fv d a l.length c, .int .i64 0] else .tuple #[fv 0 none 0 0, .int .i64 3]
set_option maxHeartbeats 2000000 in
set_option maxRecDepth 100000 in
theorem rresult_any (d : Int) (a : Option Addr) (c : Nat) (l : List Pc) (w : World) (hl : l.length ≤ 1000) (z : PcsAt a l w) :
    Calls Try.prog 34 #[fv d a l.length c] w fun r w' => r = .returned (rsl d a l c) ∧ Below w.heap.size w w' := by
  have HL := Lib.hid (fun w' (q : Below w.heap.size w w') => rvalid_any d a c l w' (z.below q))
  obtain ⟨v, hv⟩ : ∃ v, v = vdB d l := ⟨_, rfl⟩
  have HO := Lib.hid (show rsl d a l c = if 64 < l.length then .tuple #[fv 0 none 0 0, .int .i64 2] else if v = true then .tuple #[fv d a l.length c, .int .i64 0] else .tuple #[fv 0 none 0 0, .int .i64 3] by rw [hv]; rfl)
  rw [← hv] at HL
  generalize l.length = n at *
  clear z hv
  have hsz : (w.alloc (fb d a n c)).heap.size = w.heap.size + 1 := by simp
  have hB1 : Below w.heap.size w ((w.alloc (fb d a n c)).alloc (fb 0 none 0 0)) := (alloc_below w _).trans ((alloc_below (w.alloc (fb d a n c)) (fb 0 none 0 0)).mono (alloc_below w _).size)
  have c0 : ((w.alloc (fb d a n c)).alloc (fb 0 none 0 0)).cell? ⟨w.heap.size, 0, none⟩ = some (.int .i64 d) := cell_kept (alloc_below (w.alloc (fb d a n c)) (fb 0 none 0 0)) (by simp [World.cell?_alloc_new])
  have c1 : ((w.alloc (fb d a n c)).alloc (fb 0 none 0 0)).cell? ⟨w.heap.size, 1, none⟩ = some (.slice a n c) := cell_kept (alloc_below (w.alloc (fb d a n c)) (fb 0 none 0 0)) (by simp [World.cell?_alloc_new])
  have g0 : ((w.alloc (fb d a n c)).alloc (fb 0 none 0 0)).cell? ⟨w.heap.size + 1, 0, none⟩ = some (.int .i64 0) := by rw [← hsz]; exact (by simp)
  have g1 : ((w.alloc (fb d a n c)).alloc (fb 0 none 0 0)).cell? ⟨w.heap.size + 1, 1, none⟩ = some (.slice none 0 0) := by rw [← hsz]; exact (by simp)
  have y0 : ((w.alloc (fb d a n c)).alloc (fb 0 none 0 0)).frozen? ⟨w.heap.size + 1, 0, none⟩ = false := by rw [← hsz]; exact (by simp)
  have y1 : ((w.alloc (fb d a n c)).alloc (fb 0 none 0 0)).frozen? ⟨w.heap.size + 1, 1, none⟩ = false := by rw [← hsz]; exact (by simp)
  have HB := Lib.hid hB1
  clear hB1 hsz
  go_enter Try.func34, Try.ntmps34
  go_upto_region 1 with (fail)
  generalize (w.alloc (fb d a n c)).alloc (fb 0 none 0 0) = W1 at *
  have hxb : w.heap.size ≤ w.heap.size + 1 := by omega
  generalize hz : w.heap.size = xb at c0 c1 g0 g1 y0 y1 ⊢
  rw [hz] at hxb
  have HZ := Lib.hid hz
  clear hz
  by_cases h64 : 64 < n
  · have HR := Lib.hid (show rsl d a l c = _ by rw [HO.out, if_pos h64])
    have hlt : (64 : Int) < (n : Int) := by omega
    have HF := Lib.hid (fill2 (a := .int .i64 0) (b := .slice none 0 0) HB.out (by rw [HZ.out]; exact Nat.le_succ xb) g0 g1)
    go_wp2
    obtain ⟨f0, f1, hBf⟩ := HF.out
    generalize (W1.setCell ⟨xb + 1, 0, none⟩ (.int .i64 0)).setCell ⟨xb + 1, 1, none⟩ (.slice none 0 0) = W9 at *
    (try simp only [Exit.inBlock, Exit.then])
    refine bodyPost_ret (by simp [results, Try.results34, f0, f1, go_sem]; try rfl) rfl ?_
    exact ⟨by rw [HR.out], hBf⟩
  · have hlt : ¬ (64 : Int) < (n : Int) := by omega
    have HE := Lib.hid (And.intro c0 (And.intro c1 (And.intro g0 (And.intro g1 (And.intro y0 y1)))))
    go_upto_region 4 with (go_at_call 21; with_reducible refine (HL.out _ HB.out).mono ?_; rintro _ W2 ⟨rfl, hn⟩)
    clear c0 c1 g0 g1 y0 y1
    have c0 := cell_kept hn HE.out.1
    have c1 := cell_kept hn HE.out.2.1
    have g0 := cell_kept hn HE.out.2.2.1
    have g1 := cell_kept hn HE.out.2.2.2.1
    have y0 := frozen_kept hn HE.out.2.2.2.2.1 HE.out.2.2.1
    have y1 := frozen_kept hn HE.out.2.2.2.2.2 HE.out.2.2.2.1
    have HB2 := Lib.hid (HB.out.trans (hn.mono HB.out.size))
    clear hn HB HE HL
    cases v
    · have HR := Lib.hid (show rsl d a l c = _ by rw [HO.out, if_neg h64, if_neg (by decide)])
      have HF := Lib.hid (fill2 (a := .int .i64 0) (b := .slice none 0 0) HB2.out (by rw [HZ.out]; exact Nat.le_succ xb) g0 g1)
      go_wp2
      obtain ⟨f0, f1, hBf⟩ := HF.out
      generalize (W2.setCell ⟨xb + 1, 0, none⟩ (.int .i64 0)).setCell ⟨xb + 1, 1, none⟩ (.slice none 0 0) = W9 at *
      (try simp only [Exit.inBlock, Exit.then])
      refine bodyPost_ret (by simp [results, Try.results34, f0, f1, go_sem]; try rfl) rfl ?_
      exact ⟨by rw [HR.out], hBf⟩
    · have HR := Lib.hid (show rsl d a l c = _ by rw [HO.out, if_neg h64, if_pos rfl])
      have HF := Lib.hid (fill2 (a := .int .i64 d) (b := .slice a n c) HB2.out (by rw [HZ.out]; exact Nat.le_succ xb) g0 g1)
      go_wp2
      obtain ⟨f0, f1, hBf⟩ := HF.out
      generalize (W2.setCell ⟨xb + 1, 0, none⟩ (.int .i64 d)).setCell ⟨xb + 1, 1, none⟩ (.slice a n c) = W9 at *
      (try simp only [Exit.inBlock, Exit.then])
      refine bodyPost_ret (by simp [results, Try.results34, f0, f1, go_sem]; try rfl) rfl ?_
      exact ⟨by rw [HR.out], hBf⟩
end Go.Proofs.Ytdoojpilogcnjaa.Pw
