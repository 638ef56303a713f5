/- What the developers' Round of piecewise linear functions returns. Condition: the pieces lie in memory as the argument says. -/
import Derived.Test.YtdoojpilogcnjaaPwOwn4
set_option linter.unusedVariables false
set_option linter.unusedSimpArgs false
namespace Go.Proofs.Ytdoojpilogcnjaa.Pw
open Go.RowKit Go.Proofs.Ytdoojpilogcnjaa.Sp
set_option maxHeartbeats 8000000 in
set_option maxRecDepth 100000 in
theorem pround_any (d x m : Int) (a : Option Addr) (c : Nat) (l : List Pc) (w : World) (z : PcsAt a l w) :
    Calls Try.prog 24 #[fv d a l.length c, .int .i64 x, .int .i64 m] w fun r w' => r = .returned (rdV d l x m) ∧ Below w.heap.size w w' := by
  have HL := Lib.hid (fun w' (q : Below w.heap.size w w') => pvalid_any d a c l w' (z.below q))
  have HA := Lib.hid (fun (h : evOk d l x) w' (q : Below w.heap.size w w') => ptail_any d x a c l w' (by have := (vd_ok h.1).2.2.2; omega) (vd_ok h.1).1 h.2.1 h.2.2 (z.below q))
  have HM := Lib.hid (fun (h : rdOk d l x m) w' => prounded_any (num l x) d m w' (by have := (vd_ok h.1.1).2.1; omega) (vd_ok h.1.1).2.2.1 (num_bd (vd_ok h.1.1).1 h.1.2.1 h.1.2.2) h.2)
  have HP := Lib.hid (show rdOk d l x m → rdV d l x m = _ from pround_ret)
  have HX := Lib.hid (show ¬ rdOk d l x m → rdV d l x m = .tuple #[.int .i64 0, .int .i64 1] from fun h => by unfold rdV; rw [if_neg h])
  have HO := Lib.hid (show rdOk d l x m ↔ (vdB d l = true ∧ 0 ≤ x ∧ x ≤ 1000000000000) ∧ (m = 0 ∨ m = 1 ∨ m = 2) from Iff.rfl)
  have HI := Lib.hid (fun w => parg_any x w)
  have HJ := Lib.hid (fun w => pmode_any m w)
  have HW := Lib.hid (fun q w => pwithin_any q 1000000000000 w (by decide) (by decide))
  obtain ⟨n, hn⟩ : ∃ n, n = l.length := ⟨_, rfl⟩
  have HB := Lib.hid (alloc_below w (fb d a n c))
  obtain ⟨v, hv⟩ : ∃ v, v = vdB d l := ⟨_, rfl⟩
  rw [← hn] at HL HA ⊢
  rw [← hv] at HL HO
  have e0 : (w.alloc (fb d a n c)).cell? ⟨w.heap.size, 0, none⟩ = some (.int .i64 d) := by simp [World.cell?_alloc_new]
  have e1 : (w.alloc (fb d a n c)).cell? ⟨w.heap.size, 1, none⟩ = some (.slice a n c) := by simp [World.cell?_alloc_new]
  clear hn z hv
  go_enter Try.func24, Try.ntmps24
  go_upto_region 1 with (fail)
  generalize w.alloc (fb d a n c) = W1 at *
  generalize w.heap.size = xb at e0 e1 ⊢
  have HE := Lib.hid (And.intro e0 e1)
  cases v
  · have HR := Lib.hid (HX.out (fun q => by cases (HO.out.1 q).1.1))
    go_wp2_with (go_at_call 20; with_reducible refine (HL.out _ HB.out).mono ?_; rintro _ W2 ⟨rfl, hn⟩)
    go_ret2
    exact ⟨by rw [HR.out]; rfl, HB.out.trans (hn.mono HB.out.size)⟩
  · by_cases hx : 0 ≤ x ∧ x ≤ 1000000000000
    · rw [decide_eq_true hx] at HI
      by_cases hm : m = 0 ∨ m = 1 ∨ m = 2
      · rw [decide_eq_true hm] at HJ
        have ok : rdOk d l x m := HO.out.2 ⟨⟨rfl, hx⟩, hm⟩
        have HR := Lib.hid (HP.out ok)
        have HC : Hid (∀ w', Below w.heap.size w w' → Calls Try.prog 40 #[fv d a n c, .int .i64 x] w' fun r w'' => r = .returned (.agg #[.int .i64 x, .int .i64 (num l x), .int .i64 (slp l x)]) ∧ Below w'.heap.size w' w'') := HA.out ok.1
        have HQ := Lib.hid (HM.out ok)
        clear HA HO ok hx hm HM HP HX
        go_upto_region 3 with (first
          | (go_at_call 20; with_reducible refine (HL.out _ HB.out).mono ?_; rintro _ W2 ⟨rfl, hn⟩)
          | (go_at_call 45; with_reducible refine (HI.out _).mono ?_; rintro _ W2 ⟨rfl, rfl⟩)
          | (go_at_call 46; with_reducible refine (HJ.out _).mono ?_; rintro _ W2 ⟨rfl, rfl⟩))
        clear e0 e1
        have e0 := cell_kept hn HE.out.1
        have e1 := cell_kept hn HE.out.2
        have HB2 := Lib.hid (HB.out.trans (hn.mono HB.out.size))
        clear hn HB HE HL
        have hmix : Try.prog.follows .mixedOrders = true := by kernel_rfl
        refine wp_region_held_drew (S := fun W => W.cell? ⟨xb, 0, none⟩ = some (.int .i64 d) ∧ W.cell? ⟨xb, 1, none⟩ = some (.slice a n c) ∧ Below w.heap.size w W) hmix ⟨cell_kept ((Below.refl _ W2).drew) e0, cell_kept ((Below.refl _ W2).drew) e1, (HB2.out.trans (((Below.refl _ W2).drew).mono HB2.out.size))⟩ (fun hHeld => ?_)
        refine wpAnyH_take (i := 0) (v := ?_) rfl (by kernel_rfl) (by kernel_rfl) (by kernel_rfl) (fun _ _ _ h => h) (Or.inl ⟨by rfl, ?_⟩) (by assumption) ?_
        rotate_left
        · intro w hSw; (try dsimp only at hSw); go_simp; (try with_reducible rfl)
        (try simp only [Act.put, List.getElem_toArray, List.getElem_cons_succ, List.getElem_cons_zero, List.setIfInBounds_toArray, List.set_cons_zero, List.set_cons_succ])
        refine wpAnyH_take (i := 1) (v := ?_) rfl (by kernel_rfl) (by kernel_rfl) (by kernel_rfl) (fun _ _ _ h => h) (Or.inl ⟨by rfl, ?_⟩) (by assumption) ?_
        rotate_left
        · intro w hSw; (try dsimp only at hSw); go_simp; (try with_reducible rfl)
        (try simp only [Act.put, List.getElem_toArray, List.getElem_cons_succ, List.getElem_cons_zero, List.setIfInBounds_toArray, List.set_cons_zero, List.set_cons_succ])
        refine wpAnyH_take (i := 4) (v := ?_) rfl (by kernel_rfl) (by kernel_rfl) (by kernel_rfl) (fun _ _ _ h => h) (Or.inl ⟨by rfl, ?_⟩) (by assumption) ?_
        rotate_left
        · intro w hSw; (try dsimp only at hSw); go_simp; (try with_reducible rfl)
        (try simp only [Act.put, List.getElem_toArray, List.getElem_cons_succ, List.getElem_cons_zero, List.setIfInBounds_toArray, List.set_cons_zero, List.set_cons_succ])
        refine wpAnyH_take (i := 5) (v := ?_) rfl (by kernel_rfl) (by kernel_rfl) (by kernel_rfl) (fun _ _ _ h => h) (Or.inl ⟨by rfl, ?_⟩) (by assumption) ?_
        rotate_left
        · intro w hSw; (try dsimp only at hSw); go_simp; (try with_reducible rfl)
        (try simp only [Act.put, List.getElem_toArray, List.getElem_cons_succ, List.getElem_cons_zero, List.setIfInBounds_toArray, List.set_cons_zero, List.set_cons_succ])
        refine wpAnyH_take (i := 6) (v := ?_) rfl (by kernel_rfl) (by kernel_rfl) (by kernel_rfl) (fun _ _ _ h => h) (Or.inl ⟨by rfl, ?_⟩) (by assumption) ?_
        rotate_left
        · intro w hSw; (try dsimp only at hSw); go_simp; (try with_reducible rfl)
        (try simp only [Act.put, List.getElem_toArray, List.getElem_cons_succ, List.getElem_cons_zero, List.setIfInBounds_toArray, List.set_cons_zero, List.set_cons_succ])
        refine wpAnyH_ready (rs := [2]) (by kernel_rfl) (by simp) ?_
        refine AllReadyH.cons rfl (fun K hK => ?_) AllReadyH.nil
        go_simp
        refine (HC.out _ hHeld.2.2).mono ?_
        rintro _ wc ⟨rfl, kc⟩
        refine hK.out _ _ ⟨cell_kept kc hHeld.1, cell_kept kc hHeld.2.1, hHeld.2.2.trans (kc.mono hHeld.2.2.size)⟩ (fun hHeld => ?_)
        clear hK K
        (try simp only [Act.put, List.getElem_toArray, List.getElem_cons_succ, List.getElem_cons_zero, List.setIfInBounds_toArray, List.set_cons_zero, List.set_cons_succ])
        refine wpAnyH_take (i := 3) (v := ?_) rfl (by kernel_rfl) (by kernel_rfl) (by kernel_rfl) (fun _ _ _ h => h) (Or.inl ⟨by rfl, ?_⟩) (by assumption) ?_
        rotate_left
        · intro w hSw; (try dsimp only at hSw); go_simp; (try with_reducible rfl)
        (try simp only [Act.put, List.getElem_toArray, List.getElem_cons_succ, List.getElem_cons_zero, List.setIfInBounds_toArray, List.set_cons_zero, List.set_cons_succ])
        refine wpAnyH_ready (rs := [7]) (by kernel_rfl) (by simp) ?_
        refine AllReadyH.cons rfl (fun K hK => ?_) AllReadyH.nil
        go_simp
        refine (HQ.out _).mono ?_
        rintro _ wc ⟨rfl, rfl⟩
        refine hK.out _ _ hHeld (fun hHeld => ?_)
        clear hK K
        (try simp only [Act.put, List.getElem_toArray, List.getElem_cons_succ, List.getElem_cons_zero, List.setIfInBounds_toArray, List.set_cons_zero, List.set_cons_succ])
        refine wpAnyH_take (i := 8) (v := ?_) rfl (by kernel_rfl) (by kernel_rfl) (by kernel_rfl) (fun _ _ _ h => h) (Or.inl ⟨by rfl, ?_⟩) (by assumption) ?_
        rotate_left
        · intro w hSw; (try dsimp only at hSw); go_simp; (try with_reducible rfl)
        (try simp only [Act.put, List.getElem_toArray, List.getElem_cons_succ, List.getElem_cons_zero, List.setIfInBounds_toArray, List.set_cons_zero, List.set_cons_succ])
        refine wpAnyH_done (by kernel_rfl) ?_ _
        have HBF := Lib.hid hHeld.2.2
        clear HC HQ
        generalize rnd (num l x) d m = q at *
        by_cases hin : rin q
        · have H2 := Lib.hid (fun w' => (HW.out q w').mono (fun r w'' (h : _ ∧ _) => (⟨h.1.trans (ret_bool (decide_eq_true hin)), h.2⟩ : r = .returned (.bool true) ∧ w'' = w')))
          rw [if_pos hin] at HR
          clear hin hHeld
          go_wp2_with (go_at_call 37; with_reducible refine (H2.out _).mono ?_; rintro _ w4 ⟨rfl, rfl⟩)
          go_ret2
          exact ⟨by rw [HR.out]; rfl, HBF.out⟩
        · have H2 := Lib.hid (fun w' => (HW.out q w').mono (fun r w'' (h : _ ∧ _) => (⟨h.1.trans (ret_bool (decide_eq_false hin)), h.2⟩ : r = .returned (.bool false) ∧ w'' = w')))
          rw [if_neg hin] at HR
          clear hin hHeld
          go_wp2_with (go_at_call 37; with_reducible refine (H2.out _).mono ?_; rintro _ w4 ⟨rfl, rfl⟩)
          go_ret2
          exact ⟨by rw [HR.out]; rfl, HBF.out⟩
      · rw [decide_eq_false hm] at HJ
        have HR := Lib.hid (HX.out (fun q => hm (HO.out.1 q).2))
        clear hm hx
        go_wp2_with (first
          | (go_at_call 20; with_reducible refine (HL.out _ HB.out).mono ?_; rintro _ W2 ⟨rfl, hn⟩)
          | (go_at_call 45; with_reducible refine (HI.out _).mono ?_; rintro _ W2 ⟨rfl, rfl⟩)
          | (go_at_call 46; with_reducible refine (HJ.out _).mono ?_; rintro _ W2 ⟨rfl, rfl⟩))
        go_ret2
        exact ⟨by rw [HR.out]; rfl, HB.out.trans (hn.mono HB.out.size)⟩
    · rw [decide_eq_false hx] at HI
      have HR := Lib.hid (HX.out (fun q => hx (HO.out.1 q).1.2))
      clear hx
      go_wp2_with (first
        | (go_at_call 20; with_reducible refine (HL.out _ HB.out).mono ?_; rintro _ W2 ⟨rfl, hn⟩)
        | (go_at_call 45; with_reducible refine (HI.out _).mono ?_; rintro _ W2 ⟨rfl, rfl⟩))
      go_ret2
      exact ⟨by rw [HR.out]; rfl, HB.out.trans (hn.mono HB.out.size)⟩
end Go.Proofs.Ytdoojpilogcnjaa.Pw
