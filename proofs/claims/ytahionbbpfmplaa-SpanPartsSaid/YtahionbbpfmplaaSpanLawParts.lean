/- The walk of the law SpanParts: it returns true. Conditions: the lists lie in memory as the arguments say; the numbers are within Go's types. -/
import Derived.Test.YtahionbbpfmplaaSpanHead
import Derived.Test.YtahionbbpfmplaaSpanOpen
import Derived.Test.YtahionbbpfmplaaSpanRef6
import Derived.Test.YtahionbbpfmplaaSpanStep
namespace Go.Proofs.Ytahionbbpfmplaa.Sp
open Go.RowKit
set_option maxHeartbeats 16000000 in
set_option maxRecDepth 100000 in
theorem parts_walk (a1 a2 : Option Addr) (c1 c2 : Nat) (xs ys : List Sn) (p y : Int) (w : World) (z1 : In a1 c1 xs w) (z2 : In a2 c2 ys w) (hp : 0 ≤ p ∧ p ≤ 255) (hy : 0 ≤ y ∧ y ≤ 65535) :
    Calls Try.prog 9 #[.slice a1 xs.length c1, .slice a2 ys.length c2, .int .u8 p, .int .u16 y] w fun r w' => r = .returned (.bool true) ∧ Below w.heap.size w w' := by
  have HX1 := Lib.hid (fun w' (k : Below w.heap.size w w') => z1.at_.below k)
  have HIN1 := Lib.hid z1
  have HX2 := Lib.hid (fun w' (k : Below w.heap.size w w') => z2.at_.below k)
  have HIN2 := Lib.hid z2
  obtain ⟨n1, hn1⟩ : ∃ n, n = xs.length := ⟨_, rfl⟩
  obtain ⟨n2, hn2⟩ : ∃ n, n = ys.length := ⟨_, rfl⟩
  rw [← hn1, ← hn2]
  have HN1 := Lib.hid (show Ln n1 xs from hn1)
  have HN2 := Lib.hid (show Ln n2 ys from hn2)
  have hb := Below.refl w.heap.size w
  clear z1 z2
  obtain ⟨hp0, hp1⟩ := hp
  obtain ⟨hy0, hy1⟩ := hy
  obtain ⟨i0, hi, hz0, hz1, hz2⟩ := info_parts Try.infoS
  have HI0 := Lib.hid (And.intro hi (And.intro hz0 (And.intro hz1 hz2)))
  clear hi hz0 hz1 hz2
  by_cases hs : n1 ≤ 60 ∧ n2 ≤ 60
  · have SH : Hid (∀ w0 : World, Calls Try.prog 11 #[.slice (some ⟨w0.heap.size, 0, none⟩) 2 2] (w0.alloc (.cells #[.slice a1 n1 c1, .slice a2 n2 c2] 22)) fun r w' => r = .returned (.bool true) ∧ Below w0.heap.size w0 w') := fun w0 => (short_new [(a1, n1, c1), (a2, n2, c2)] w0 22 (by simp)).mono fun r w' ⟨hr, hw⟩ => ⟨hr.trans (ret_bool (by simp only [List.all_cons, List.all_nil, Bool.and_true]; first | (simp only [Bool.and_eq_true, decide_eq_true_eq]; exact hs) | (rw [Bool.eq_false_iff]; intro h; simp only [Bool.and_eq_true, decide_eq_true_eq] at h; exact hs h))), hw⟩
    obtain ⟨g1, g2⟩ := hs
    clear hn1 hn2
    by_cases h0 : n1 = 0
    · have hz : ((n1 : Int) == 0) = true := by rw [h0]; rfl
      clear h0
      go_enter Try.func9, Try.ntmps9
      go_wp2_with (first
        | (go_at_call 10; (with_reducible refine (head_any _).mono ?_); rintro _ wh ⟨rfl, kh⟩; replace hb := hb.trans (kh.mono hb.size); clear kh)
        | (go_at_call 11; (with_reducible refine (SH.out _).mono ?_); rintro _ ws ⟨rfl, ks⟩; replace hb := hb.trans (ks.mono hb.size); clear ks))
      go_ret
      exact ⟨rfl, hb⟩
    · have hz : ((n1 : Int) == 0) = false := by simp; omega
      have hpos : (0 : Int) < (n1 : Int) := by omega
      obtain ⟨j, hj⟩ : ∃ j : Nat, p % (n1 : Int) = (j : Int) := ⟨(p % (n1 : Int)).toNat, (Int.toNat_of_nonneg (Int.emod_nonneg _ (by omega))).symm⟩
      have hjl : (j : Int) < (n1 : Int) := by rw [← hj]; exact Int.emod_lt_of_pos _ hpos
      have hj0 : (0 : Int) ≤ (j : Int) := by omega
      obtain ⟨⟨f, t⟩, hs⟩ : ∃ s, xs[j]? = some s := ⟨_, List.getElem?_eq_getElem (by have := HN1.out; unfold Ln at this; omega)⟩
      have HJ := Lib.hid hs
      obtain ⟨b3, o3, rfl, -, -⟩ := HX1.out _ hb j _ hs
      have HC1 := Lib.hid (fun w' (k : Below w.heap.size w w') => (show w'.cell? ⟨b3, o3 + j * 2, none⟩ = some (.int .i64 f) ∧ w'.cell? ⟨b3, o3 + j * 2 + 1, none⟩ = some (.int .i64 t) by
        obtain ⟨b4, o4, e, u1, u2⟩ := HX1.out w' k j _ HJ.out
        cases e
        exact ⟨u1, u2⟩))
      clear hs h0
      by_cases hpp : Proper (f, t)
      · have PRP : Hid (∀ w, Calls Try.prog 30 #[sv f t] w fun r w' => r = .returned (.bool true) ∧ Below w.heap.size w w') := fun w => (rproper_any f t w).mono fun r w' ⟨hr, hw⟩ => ⟨hr.trans (ret_bool (decide_eq_true hpp)), hw⟩
        have HPP := Lib.hid hpp
        obtain ⟨u1, u2, u3⟩ := hpp
        simp only at u1 u2 u3
        have hwd := IntWalk.i64_in (t - f) (by omega)
        by_cases hd : t - f < 2
        · clear u1 u2 u3
          go_enter Try.func9, Try.ntmps9
          go_wp2_with (first
            | (go_at_call 10; (with_reducible refine (head_any _).mono ?_); rintro _ wh ⟨rfl, kh⟩; replace hb := hb.trans (kh.mono hb.size); clear kh)
            | (go_at_call 11; (with_reducible refine (SH.out _).mono ?_); rintro _ ws ⟨rfl, ks⟩; replace hb := hb.trans (ks.mono hb.size); clear ks; obtain ⟨s1, s2⟩ := HC1.out _ hb)
            | (go_at_call 30; (with_reducible refine (PRP.out _).mono ?_); rintro _ w_p ⟨rfl, kp⟩; have e1 := box_fst kp; have e2 := box_snd kp; replace hb := hb.trans ((box_below kp).mono hb.size); clear kp s1 s2))
          go_ret
          exact ⟨rfl, hb⟩
        · have hwd1 := IntWalk.i64_in (t - f - 1) (by omega)
          have hwf1 := IntWalk.i64_in (f + 1) (by omega)
          obtain ⟨mm, hmm⟩ : ∃ mm, mm = min (t - f - 1) 65536 := ⟨_, rfl⟩
          have hm0 : 0 < mm ∧ mm ≤ t - f - 1 := by omega
          obtain ⟨r, hr⟩ : ∃ r, r = y % mm := ⟨_, rfl⟩
          have hr0 : 0 ≤ r := by rw [hr]; exact Int.emod_nonneg _ (by omega)
          have hr1 : r < mm := by rw [hr]; exact Int.emod_lt_of_pos _ hm0.1
          obtain ⟨m, hm⟩ : ∃ m, m = f + 1 + r := ⟨_, rfl⟩
          have hm2 : f < m ∧ m < t := by omega
          have HM := Lib.hid (show wrap64 (f + 1 + y % min (t - f - 1) 65536) = m by rw [← hmm, ← hr]; unfold wrap64; omega)
          clear hmm hr hm hr0 hr1 hm0
          have hjc : (j : Int) ≤ (c1 : Int) := by have h := HIN1.out.cap; have := HN1.out; unfold Ln at this; omega
          have HM2 := Lib.hid hm2
          have HEL := Lib.hid (cut_el HJ.out HPP.out hm2.1 hm2.2)
          obtain ⟨nc, hnc'⟩ : ∃ nc, Ln nc (cut xs j f m t) := ⟨_, rfl⟩
          have HNC := Lib.hid hnc'
          have hnc : nc ≤ 61 := by unfold Ln at hnc'; rw [hnc', cut_len (by have := HN1.out; unfold Ln at this; omega)]; have := HN1.out; unfold Ln at this; omega
          clear hnc'
          have HDL := Lib.hid (show n1 - (j + 1) = (xs.drop (j + 1)).length by rw [List.length_drop, ← HN1.out])
          have hwm1 := IntWalk.i64_in (m - 1) (by omega)
          have hwj1 := IntWalk.i64_in ((j : Int) + 1) (by omega)
          have hj1 : ((j : Int) + 1).toNat = j + 1 := by omega
          have hj10 : (0 : Int) ≤ (j : Int) + 1 := by omega
          have hjl1 : (j : Int) + 1 ≤ (n1 : Int) := by omega
          have hjn1 : j + 1 ≤ n1 := by omega
          have hnc1 : (n1 : Int) ≤ (c1 : Int) := by have h := HIN1.out.cap; have := HN1.out; unfold Ln at this; omega
          have V_0 : Hid (∀ a c w, SpansAt a (cut xs j f m t) w → Calls Try.prog 12 #[.slice a nc c] w fun r w' => r = .returned (.bool false) ∧ Below w.heap.size w w') := fun a c w z => (valid_at HNC.out (Nat.le_trans hnc (by decide)) a c w z).mono fun r w' ⟨hr, hw⟩ => ⟨hr.trans (ret_bool (decide_eq_false (cut_not HM2.out.1 HM2.out.2))), hw⟩
          obtain ⟨n_e0, h'_e0⟩ : ∃ n, Ln n (norm (cut xs j f m t)) := ⟨_, rfl⟩
          have h_e0 := Lib.hid h'_e0
          have b_e0 := Lib.hid (show n_e0 ≤ 61 from norm_bd h_e0.out HNC.out hnc)
          clear h'_e0
          have C_e0 := Lib.hid (normal_at' HNC.out h_e0.out (Nat.le_trans hnc (by decide)))
          obtain ⟨n_e1, h'_e1⟩ : ∃ n, Ln n (norm xs) := ⟨_, rfl⟩
          have h_e1 := Lib.hid h'_e1
          have b_e1 := Lib.hid (show n_e1 ≤ 60 from norm_bd h_e1.out HN1.out g1)
          clear h'_e1
          have C_e1 := Lib.hid (normal_at' HN1.out h_e1.out (Nat.le_trans g1 (by decide)))
          have S_3 := Lib.hid (same_at h_e0.out h_e1.out (Nat.le_trans b_e0.out (by decide)) (norm_same HEL.out))
          obtain ⟨n_e2, h'_e2⟩ : ∃ n, Ln n (union (cut xs j f m t) ys) := ⟨_, rfl⟩
          have h_e2 := Lib.hid h'_e2
          have b_e2 := Lib.hid (show n_e2 ≤ 121 from union_bd h_e2.out HNC.out HN2.out hnc g2)
          clear h'_e2
          have C_e2 := Lib.hid (union_at HNC.out HN2.out h_e2.out (Nat.le_trans hnc (by decide)) (Nat.le_trans g2 (by decide)))
          obtain ⟨n_e3, h'_e3⟩ : ∃ n, Ln n (union xs ys) := ⟨_, rfl⟩
          have h_e3 := Lib.hid h'_e3
          have b_e3 := Lib.hid (show n_e3 ≤ 120 from union_bd h_e3.out HN1.out HN2.out g1 g2)
          clear h'_e3
          have C_e3 := Lib.hid (union_at HN1.out HN2.out h_e3.out (Nat.le_trans g1 (by decide)) (Nat.le_trans g2 (by decide)))
          have S_6 := Lib.hid (same_at h_e2.out h_e3.out (Nat.le_trans b_e2.out (by decide)) (union_same HEL.out (fun _ => Iff.rfl)))
          obtain ⟨n_e4, h'_e4⟩ : ∃ n, Ln n (meet ys (cut xs j f m t)) := ⟨_, rfl⟩
          have h_e4 := Lib.hid h'_e4
          have b_e4 := Lib.hid (show n_e4 ≤ 121 from meet_bd h_e4.out HN2.out HNC.out g2 hnc)
          clear h'_e4
          have C_e4 := Lib.hid (meet_at HN2.out HNC.out h_e4.out (Nat.le_trans g2 (by decide)) (Nat.le_trans hnc (by decide)))
          obtain ⟨n_e5, h'_e5⟩ : ∃ n, Ln n (meet ys xs) := ⟨_, rfl⟩
          have h_e5 := Lib.hid h'_e5
          have b_e5 := Lib.hid (show n_e5 ≤ 120 from meet_bd h_e5.out HN2.out HN1.out g2 g1)
          clear h'_e5
          have C_e5 := Lib.hid (meet_at HN2.out HN1.out h_e5.out (Nat.le_trans g2 (by decide)) (Nat.le_trans g1 (by decide)))
          have S_9 := Lib.hid (same_at h_e4.out h_e5.out (Nat.le_trans b_e4.out (by decide)) (meet_same (fun _ => Iff.rfl) HEL.out))
          obtain ⟨n_e6, h'_e6⟩ : ∃ n, Ln n (minus (cut xs j f m t) ys) := ⟨_, rfl⟩
          have h_e6 := Lib.hid h'_e6
          have b_e6 := Lib.hid (show n_e6 ≤ 121 from minus_bd h_e6.out HNC.out HN2.out hnc g2)
          clear h'_e6
          have C_e6 := Lib.hid (minus_at HNC.out HN2.out h_e6.out (Nat.le_trans hnc (by decide)) (Nat.le_trans g2 (by decide)))
          obtain ⟨n_e7, h'_e7⟩ : ∃ n, Ln n (minus xs ys) := ⟨_, rfl⟩
          have h_e7 := Lib.hid h'_e7
          have b_e7 := Lib.hid (show n_e7 ≤ 120 from minus_bd h_e7.out HN1.out HN2.out g1 g2)
          clear h'_e7
          have C_e7 := Lib.hid (minus_at HN1.out HN2.out h_e7.out (Nat.le_trans g1 (by decide)) (Nat.le_trans g2 (by decide)))
          have S_12 := Lib.hid (same_at h_e6.out h_e7.out (Nat.le_trans b_e6.out (by decide)) (minus_same HEL.out (fun _ => Iff.rfl)))
          obtain ⟨n_e8, h'_e8⟩ : ∃ n, Ln n (minus ys (cut xs j f m t)) := ⟨_, rfl⟩
          have h_e8 := Lib.hid h'_e8
          have b_e8 := Lib.hid (show n_e8 ≤ 121 from minus_bd h_e8.out HN2.out HNC.out g2 hnc)
          clear h'_e8
          have C_e8 := Lib.hid (minus_at HN2.out HNC.out h_e8.out (Nat.le_trans g2 (by decide)) (Nat.le_trans hnc (by decide)))
          obtain ⟨n_e9, h'_e9⟩ : ∃ n, Ln n (minus ys xs) := ⟨_, rfl⟩
          have h_e9 := Lib.hid h'_e9
          have b_e9 := Lib.hid (show n_e9 ≤ 120 from minus_bd h_e9.out HN2.out HN1.out g2 g1)
          clear h'_e9
          have C_e9 := Lib.hid (minus_at HN2.out HN1.out h_e9.out (Nat.le_trans g2 (by decide)) (Nat.le_trans g1 (by decide)))
          have S_15 := Lib.hid (same_at h_e8.out h_e9.out (Nat.le_trans b_e8.out (by decide)) (minus_same (fun _ => Iff.rfl) HEL.out))
          obtain ⟨sa, h'sa⟩ : ∃ s, s = size xs := ⟨_, rfl⟩
          have h_sa := Lib.hid h'sa
          clear h'sa
          have V_16 : Hid (∀ a c w, SpansAt a xs w → Calls Try.prog 25 #[.slice a n1 c] w fun r w' => r = .returned (.int .i64 sa) ∧ Below w.heap.size w w') := fun a c w z => (size_at HN1.out (Nat.le_trans g1 (by decide)) a c w z).mono fun r w' ⟨hr, hw⟩ => ⟨hr.trans (ret_int h_sa.out.symm), hw⟩
          have V_17 : Hid (∀ a c w, SpansAt a (cut xs j f m t) w → Calls Try.prog 25 #[.slice a nc c] w fun r w' => r = .returned (.int .i64 sa) ∧ Below w.heap.size w w') := fun a c w z => (size_at HNC.out (Nat.le_trans hnc (by decide)) a c w z).mono fun r w' ⟨hr, hw⟩ => ⟨hr.trans (ret_int ((size_same HEL.out).trans h_sa.out.symm)), hw⟩
          have V_18 : Hid (∀ a c w, SpansAt a (cut xs j f m t) w → Calls Try.prog 23 #[.slice a nc c, .int .i64 m] w fun r w' => r = .returned (.bool true) ∧ Below w.heap.size w w') := fun a c w z => (has_at HNC.out (Nat.le_trans hnc (by decide)) m a c w z).mono fun r w' ⟨hr, hw⟩ => ⟨hr.trans (ret_bool (cut_has HPP.out HM2.out.1 HM2.out.2).1), hw⟩
          have V_19 : Hid (∀ a c w, SpansAt a (cut xs j f m t) w → Calls Try.prog 23 #[.slice a nc c, .int .i64 (m - 1)] w fun r w' => r = .returned (.bool true) ∧ Below w.heap.size w w') := fun a c w z => (has_at HNC.out (Nat.le_trans hnc (by decide)) (m - 1) a c w z).mono fun r w' ⟨hr, hw⟩ => ⟨hr.trans (ret_bool (cut_has HPP.out HM2.out.1 HM2.out.2).2), hw⟩
          have tsa : (sa == sa) = true := by simp
          go_enter Try.func9, Try.ntmps9
          go_upto_region 8 with (first
            | (go_at_call 10; (with_reducible refine (head_any _).mono ?_); rintro _ wh ⟨rfl, kh⟩; replace hb := hb.trans (kh.mono hb.size); clear kh)
            | (go_at_call 11; (with_reducible refine (SH.out _).mono ?_); rintro _ ws ⟨rfl, ks⟩; replace hb := hb.trans (ks.mono hb.size); clear ks; obtain ⟨s1, s2⟩ := HC1.out _ hb)
            | (go_at_call 30; (with_reducible refine (PRP.out _).mono ?_); rintro _ w_p ⟨rfl, kp⟩; have e1 := box_fst kp; have e2 := box_snd kp; replace hb := hb.trans ((box_below kp).mono hb.size); clear kp s1 s2))
          go_quiet (fail)
          rw [HM.out]
          replace hb := below_drewN hb nq
          replace e1 : (w_p.drewN nq).cell? _ = _ := e1
          replace e2 : (w_p.drewN nq).cell? _ = _ := e2
          generalize w_p.drewN nq = W5 at *
          generalize ws.heap.size = xb at *
          go_upto_region 9 with (fail)
          have hmix : Try.prog.follows .mixedOrders = true := by kernel_rfl
          have hbd := hb.trans ((Below.refl _ W5).drew.mono hb.size)
          have HXT := Lib.hid (fun W' (k : Below W5.heap.size W5 W') => (HX1.out W' (hb.trans (k.mono hb.size))).src_take (c := c1) (show j ≤ xs.length by have := HN1.out; unfold Ln at this; omega))
          have HXD := Lib.hid (fun W' (k : Below W5.heap.size W5 W') => (show SrcAt W' (.slice (if c1 = j + 1 then some ⟨b3, o3, none⟩ else some ⟨b3, o3 + (j + 1) * 2, none⟩) (n1 - (j + 1)) (c1 - (j + 1))) (n1 - (j + 1)) (flat (xs.drop (j + 1))) by have q := (HX1.out W' (hb.trans (k.mono hb.size))).src_drop_if (j + 1) HIN1.out.cap; rwa [← HN1.out] at q))
          have hle := hb.size
          have HFT := Lib.hid (show (flat (xs.take j)).length = j * 2 by rw [flat_length, List.length_take, Nat.min_eq_left (by have := HN1.out; unfold Ln at this; omega)])
          have HFD := Lib.hid (show (flat (xs.drop (j + 1))).length = (n1 - (j + 1)) * 2 by rw [flat_length, List.length_drop, ← HN1.out])
          have HE12 := Lib.hid (And.intro e1 e2)
          refine wp_region_held_drew (S := fun W => W.cell? ⟨xb, 0, none⟩ = some (.int .i64 f) ∧ W.cell? ⟨xb, 1, none⟩ = some (.int .i64 t) ∧ Below W5.heap.size W5 W) hmix ⟨e1, e2, (Below.refl _ W5).drew⟩ (fun hHeld => ?_)
          generalize W5.drew = WR at *
          refine wpAnyH_take (i := 1) (v := ?_) rfl (by kernel_rfl) (by kernel_rfl) (by kernel_rfl) (fun _ _ _ h => h) (Or.inl ⟨by rfl, ?_⟩) (by assumption) ?_
          rotate_left
          · intro w hSw; (try dsimp only at hSw); go_simp; (try with_reducible rfl)
          (try simp only [Act.put, List.getElem_toArray, List.getElem_cons_succ, List.getElem_cons_zero, List.setIfInBounds_toArray, List.set_cons_zero, List.set_cons_succ])
          refine wpAnyH_take (i := 2) (v := ?_) rfl (by kernel_rfl) (by kernel_rfl) (by kernel_rfl) (fun _ _ _ h => h) (Or.inl ⟨by rfl, ?_⟩) (by assumption) ?_
          rotate_left
          · intro w hSw; (try dsimp only at hSw); go_simp; (try with_reducible rfl)
          (try simp only [Act.put, List.getElem_toArray, List.getElem_cons_succ, List.getElem_cons_zero, List.setIfInBounds_toArray, List.set_cons_zero, List.set_cons_succ])
          refine wpAnyH_take (i := 3) (v := ?_) rfl (by kernel_rfl) (by kernel_rfl) (by kernel_rfl) (fun _ _ _ h => h) (Or.inl ⟨by rfl, ?_⟩) (by assumption) ?_
          rotate_left
          · intro w hSw; (try dsimp only at hSw); go_simp; (try with_reducible rfl)
          (try simp only [Act.put, List.getElem_toArray, List.getElem_cons_succ, List.getElem_cons_zero, List.setIfInBounds_toArray, List.set_cons_zero, List.set_cons_succ])
          refine wpAnyH_take (i := 5) (v := ?_) rfl (by kernel_rfl) (by kernel_rfl) (by kernel_rfl) (fun _ _ _ h => h) (Or.inl ⟨by rfl, ?_⟩) (by assumption) ?_
          rotate_left
          · intro w hSw; (try dsimp only at hSw); go_simp; (try with_reducible rfl)
          (try simp only [Act.put, List.getElem_toArray, List.getElem_cons_succ, List.getElem_cons_zero, List.setIfInBounds_toArray, List.set_cons_zero, List.set_cons_succ])
          refine wpAnyH_take (i := 6) (v := ?_) rfl (by kernel_rfl) (by kernel_rfl) (by kernel_rfl) (fun _ _ _ h => h) (Or.inl ⟨by rfl, ?_⟩) (by assumption) ?_
          rotate_left
          · intro w hSw; (try dsimp only at hSw); go_simp; (try with_reducible rfl)
          (try simp only [Act.put, List.getElem_toArray, List.getElem_cons_succ, List.getElem_cons_zero, List.setIfInBounds_toArray, List.set_cons_zero, List.set_cons_succ])
          refine wpAnyH_take (i := 7) (v := ?_) rfl (by kernel_rfl) (by kernel_rfl) (by kernel_rfl) (fun _ _ _ h => h) (Or.inl ⟨by rfl, ?_⟩) (by assumption) ?_
          rotate_left
          · intro w hSw; (try dsimp only at hSw); go_simp; (try with_reducible rfl)
          (try simp only [Act.put, List.getElem_toArray, List.getElem_cons_succ, List.getElem_cons_zero, List.setIfInBounds_toArray, List.set_cons_zero, List.set_cons_succ])
          refine wpAnyH_take (i := 8) (v := ?_) rfl (by kernel_rfl) (by kernel_rfl) (by kernel_rfl) (fun _ _ _ h => h) (Or.inl ⟨by rfl, ?_⟩) (by assumption) ?_
          rotate_left
          · intro w hSw; (try dsimp only at hSw); go_simp; (try with_reducible rfl)
          (try simp only [Act.put, List.getElem_toArray, List.getElem_cons_succ, List.getElem_cons_zero, List.setIfInBounds_toArray, List.set_cons_zero, List.set_cons_succ])
          refine wpAnyH_take (i := 9) (v := ?_) rfl (by kernel_rfl) (by kernel_rfl) (by kernel_rfl) (fun _ _ _ h => h) (Or.inl ⟨by rfl, ?_⟩) (by assumption) ?_
          rotate_left
          · intro w hSw; (try dsimp only at hSw); go_simp; (try with_reducible rfl)
          (try simp only [Act.put, List.getElem_toArray, List.getElem_cons_succ, List.getElem_cons_zero, List.setIfInBounds_toArray, List.set_cons_zero, List.set_cons_succ])
          refine wpAnyH_take (i := 10) (v := ?_) rfl (by kernel_rfl) (by kernel_rfl) (by kernel_rfl) (fun _ _ _ h => h) (Or.inl ⟨by rfl, ?_⟩) (by assumption) ?_
          rotate_left
          · intro w hSw; (try dsimp only at hSw); go_simp; (try with_reducible rfl)
          (try simp only [Act.put, List.getElem_toArray, List.getElem_cons_succ, List.getElem_cons_zero, List.setIfInBounds_toArray, List.set_cons_zero, List.set_cons_succ])
          refine wpAnyH_take (i := 11) (v := ?_) rfl (by kernel_rfl) (by kernel_rfl) (by kernel_rfl) (fun _ _ _ h => h) (Or.inl ⟨by rfl, ?_⟩) (by assumption) ?_
          rotate_left
          · intro w hSw; (try dsimp only at hSw); go_simp; (try with_reducible rfl)
          (try simp only [Act.put, List.getElem_toArray, List.getElem_cons_succ, List.getElem_cons_zero, List.setIfInBounds_toArray, List.set_cons_zero, List.set_cons_succ])
          refine wpAnyH_take (i := 12) (v := ?_) rfl (by kernel_rfl) (by kernel_rfl) (by kernel_rfl) (fun _ _ _ h => h) (Or.inl ⟨by rfl, ?_⟩) (by assumption) ?_
          rotate_left
          · intro w hSw; (try dsimp only at hSw); go_simp; (try with_reducible rfl)
          (try simp only [Act.put, List.getElem_toArray, List.getElem_cons_succ, List.getElem_cons_zero, List.setIfInBounds_toArray, List.set_cons_zero, List.set_cons_succ])
          refine wpAnyH_ready (rs := [0, 13]) (by kernel_rfl) (by simp) ?_
          refine AllReadyH.cons rfl (fun K hK => ?_) (AllReadyH.cons rfl (fun K hK => ?_) AllReadyH.nil)
          · skip
            go_simp
            have hB := hHeld.2.2.trans ((alloc_below (WR) (.cells #[] 33)).mono hHeld.2.2.size)
            have HE := Lib.hid (ownsRow_empty (w := WR) hHeld.2.2.size)
            refine hK.out _ _ ⟨cell_kept (hB) HE12.out.1, cell_kept (hB) HE12.out.2, hB⟩ (fun hHeld => ?_)
            clear hK K
            (try simp only [Act.put, List.getElem_toArray, List.getElem_cons_succ, List.getElem_cons_zero, List.setIfInBounds_toArray, List.set_cons_zero, List.set_cons_succ])
            generalize WR.alloc (.cells #[] 33) = W0 at *
            have hg0 := (HE.out.lt _ rfl).2
            generalize WR.heap.size = g0 at *
            refine wpAnyH_ready (rs := [4, 13]) (by kernel_rfl) (by simp) ?_
            refine AllReadyH.cons rfl (fun K hK => ?_) (AllReadyH.cons rfl (fun K hK => ?_) AllReadyH.nil)
            · skip
              refine step_append_src (by rfl) (.tmp 62) (.tmp 65) 22 (by rfl) W5.heap.size 33 i0 (.agg #[.int .i64 0, .int .i64 0]) 2 16 Try.underS HI0.out.1 HI0.out.2.1 HI0.out.2.2.1 HI0.out.2.2.2 rfl (by decide) _ 0 [] (by rfl) HE.out _ j (flat (xs.take j)) (by rfl) (HXT.out _ hHeld.2.2) HFT.out (flat_cell1 _) (by unfold maxLen; omega) (by omega) hHeld.2.2.size ?_
              intro v4 W4 hown4 hg4
              have hB4 := hHeld.2.2.grown hg4 hHeld.2.2.size (fun k hk => (HE.out.lt k hk).1)
              have HG := Lib.hid hown4
              clear hown4 hg4
              refine hK.out _ _ ⟨cell_kept (hB4) HE12.out.1, cell_kept (hB4) HE12.out.2, hB4⟩ (fun hHeld => ?_)
              clear hK K
              (try simp only [Act.put, List.getElem_toArray, List.getElem_cons_succ, List.getElem_cons_zero, List.setIfInBounds_toArray, List.set_cons_zero, List.set_cons_succ])
              refine wpAnyH_ready (rs := [13]) (by kernel_rfl) (by simp) ?_
              refine AllReadyH.cons rfl (fun K hK => ?_) AllReadyH.nil
              go_simp
              have hB := hHeld.2.2.trans ((alloc_below (W4) (.cells #[.int .i64 m, .int .i64 t, .int .i64 f, .int .i64 m] 33)).mono hHeld.2.2.size)
              have HF := Lib.hid (cells_two (w := W4) m t f m)
              replace HG := Lib.hid (World.ownsRow.alloc HG.out (.cells #[.int .i64 m, .int .i64 t, .int .i64 f, .int .i64 m] 33))
              refine hK.out _ _ ⟨cell_kept (hB) HE12.out.1, cell_kept (hB) HE12.out.2, hB⟩ (fun hHeld => ?_)
              clear hK K
              (try simp only [Act.put, List.getElem_toArray, List.getElem_cons_succ, List.getElem_cons_zero, List.setIfInBounds_toArray, List.set_cons_zero, List.set_cons_succ])
              refine wpAnyH_ready (rs := [14]) (by kernel_rfl) (by simp) ?_
              refine AllReadyH.cons rfl (fun K hK => ?_) AllReadyH.nil
              refine step_append_src (by rfl) (.tmp 66) (.tmp 75) 22 (by rfl) W5.heap.size 33 i0 (.agg #[.int .i64 0, .int .i64 0]) 2 16 Try.underS HI0.out.1 HI0.out.2.1 HI0.out.2.2.1 HI0.out.2.2.2 rfl (by decide) _ (0 + j) ([] ++ flat (xs.take j)) (by rfl) HG.out _ 2 (flat [(m, t), (f, m)]) (by rfl) (.inr ⟨_, 2, rfl, HF.out⟩) rfl (flat_cell1 _) (by unfold maxLen; omega) (by omega) hHeld.2.2.size ?_
              intro v5 W14 hown5 hg5
              have hB5 := hHeld.2.2.grown hg5 hHeld.2.2.size (fun k hk => (HG.out.lt k hk).1)
              have HR5 := Lib.hid (RowS.of2 (l := xs.take j) (r := [(m, t), (f, m)]) (by rw [List.length_take, Nat.min_eq_left (by have := HN1.out; unfold Ln at this; omega)]) rfl hown5)
              clear hown5 hg5
              refine hK.out _ _ ⟨cell_kept (hB5) HE12.out.1, cell_kept (hB5) HE12.out.2, hB5⟩ (fun hHeld => ?_)
              clear hK K
              (try simp only [Act.put, List.getElem_toArray, List.getElem_cons_succ, List.getElem_cons_zero, List.setIfInBounds_toArray, List.set_cons_zero, List.set_cons_succ])
              refine wpAnyH_take (i := 15) (v := ?_) rfl (by kernel_rfl) (by kernel_rfl) (by kernel_rfl) (fun _ _ _ h => h) (Or.inl ⟨by rfl, ?_⟩) (by assumption) ?_
              rotate_left
              · intro w hSw; (try dsimp only at hSw); go_simp; (try with_reducible rfl)
              (try simp only [Act.put, List.getElem_toArray, List.getElem_cons_succ, List.getElem_cons_zero, List.setIfInBounds_toArray, List.set_cons_zero, List.set_cons_succ])
              refine wpAnyH_done (by kernel_rfl) ?_ _
              have hl5 : (xs.take j ++ [(m, t), (f, m)]).length ≤ 64 := by rw [List.length_append, List.length_take]; show min _ _ + 2 ≤ 64; have := Nat.min_le_left j xs.length; omega
              replace hb := hb.trans (hB5.mono hb.size)
              skip
              go_wp2_with (first
                | (at_builtin; refine wpList_append_src rfl _ _ 22 rfl W5.heap.size 33 i0 (.agg #[.int .i64 0, .int .i64 0]) 2 16 Try.underS HI0.out.1 HI0.out.2.1 HI0.out.2.2.1 HI0.out.2.2.2 rfl (by decide) _ _ _ rfl HR5.out _ (n1 - (j + 1)) (flat (xs.drop (j + 1))) rfl (HXD.out _ hB5) HFD.out (flat_cell1 _) (by have := hl5; unfold maxLen; omega) (by have := hl5; omega) hB5.size ?_; intro v6 W6 hown6 hg6; replace hb := hb.grown hg6 hb.size (fun k hk => Nat.le_trans hle (World.ownsRow.lt HR5.out k hk).1); obtain ⟨a6, c6, rfl, z_c, -, -⟩ := RowS.cap (l := cut xs j f m t) (RowS.app2 HDL.out hown6); rw [HNC.out.symm]; clear hown6 hg6)
                | (go_at_call 12; (with_reducible refine (V_0.out _ _ _ z_c).mono ?_); rintro _ w_v0 ⟨rfl, k_v0⟩; replace hb := hb.trans (k_v0.mono hb.size); (try replace z_c := z_c.below k_v0); (try replace z_e0 := z_e0.below k_v0); (try replace z_e1 := z_e1.below k_v0); (try replace z_e2 := z_e2.below k_v0); (try replace z_e3 := z_e3.below k_v0); (try replace z_e4 := z_e4.below k_v0); (try replace z_e5 := z_e5.below k_v0); (try replace z_e6 := z_e6.below k_v0); (try replace z_e7 := z_e7.below k_v0); (try replace z_e8 := z_e8.below k_v0); (try replace z_e9 := z_e9.below k_v0); clear k_v0)
                | (go_at_call 15; (with_reducible refine (C_e0.out _ _ _ z_c).mono ?_); rintro _ w_e0 ⟨a_e0, c_e0, rfl, z_e0, k_e0⟩; replace hb := hb.trans (k_e0.mono hb.size); (try replace z_c := z_c.below k_e0); (try replace z_e1 := z_e1.below k_e0); (try replace z_e2 := z_e2.below k_e0); (try replace z_e3 := z_e3.below k_e0); (try replace z_e4 := z_e4.below k_e0); (try replace z_e5 := z_e5.below k_e0); (try replace z_e6 := z_e6.below k_e0); (try replace z_e7 := z_e7.below k_e0); (try replace z_e8 := z_e8.below k_e0); (try replace z_e9 := z_e9.below k_e0); clear k_e0)
                | (go_at_call 15; (with_reducible refine (C_e1.out _ _ _ (HX1.out _ hb)).mono ?_); rintro _ w_e1 ⟨a_e1, c_e1, rfl, z_e1, k_e1⟩; replace hb := hb.trans (k_e1.mono hb.size); (try replace z_c := z_c.below k_e1); (try replace z_e0 := z_e0.below k_e1); (try replace z_e2 := z_e2.below k_e1); (try replace z_e3 := z_e3.below k_e1); (try replace z_e4 := z_e4.below k_e1); (try replace z_e5 := z_e5.below k_e1); (try replace z_e6 := z_e6.below k_e1); (try replace z_e7 := z_e7.below k_e1); (try replace z_e8 := z_e8.below k_e1); (try replace z_e9 := z_e9.below k_e1); clear k_e1)
                | (go_at_call 14; (with_reducible refine (S_3.out _ _ _ _ _ z_e0 z_e1).mono ?_); rintro _ w_s3 ⟨rfl, k_s3⟩; replace hb := hb.trans (k_s3.mono hb.size); (try replace z_c := z_c.below k_s3); (try replace z_e0 := z_e0.below k_s3); (try replace z_e1 := z_e1.below k_s3); (try replace z_e2 := z_e2.below k_s3); (try replace z_e3 := z_e3.below k_s3); (try replace z_e4 := z_e4.below k_s3); (try replace z_e5 := z_e5.below k_s3); (try replace z_e6 := z_e6.below k_s3); (try replace z_e7 := z_e7.below k_s3); (try replace z_e8 := z_e8.below k_s3); (try replace z_e9 := z_e9.below k_s3); clear k_s3)
                | (go_at_call 17; (with_reducible refine (C_e2.out _ _ _ _ _ z_c (HX2.out _ hb)).mono ?_); rintro _ w_e2 ⟨a_e2, c_e2, rfl, z_e2, k_e2⟩; replace hb := hb.trans (k_e2.mono hb.size); (try replace z_c := z_c.below k_e2); (try replace z_e0 := z_e0.below k_e2); (try replace z_e1 := z_e1.below k_e2); (try replace z_e3 := z_e3.below k_e2); (try replace z_e4 := z_e4.below k_e2); (try replace z_e5 := z_e5.below k_e2); (try replace z_e6 := z_e6.below k_e2); (try replace z_e7 := z_e7.below k_e2); (try replace z_e8 := z_e8.below k_e2); (try replace z_e9 := z_e9.below k_e2); clear k_e2)
                | (go_at_call 17; (with_reducible refine (C_e3.out _ _ _ _ _ (HX1.out _ hb) (HX2.out _ hb)).mono ?_); rintro _ w_e3 ⟨a_e3, c_e3, rfl, z_e3, k_e3⟩; replace hb := hb.trans (k_e3.mono hb.size); (try replace z_c := z_c.below k_e3); (try replace z_e0 := z_e0.below k_e3); (try replace z_e1 := z_e1.below k_e3); (try replace z_e2 := z_e2.below k_e3); (try replace z_e4 := z_e4.below k_e3); (try replace z_e5 := z_e5.below k_e3); (try replace z_e6 := z_e6.below k_e3); (try replace z_e7 := z_e7.below k_e3); (try replace z_e8 := z_e8.below k_e3); (try replace z_e9 := z_e9.below k_e3); clear k_e3)
                | (go_at_call 14; (with_reducible refine (S_6.out _ _ _ _ _ z_e2 z_e3).mono ?_); rintro _ w_s6 ⟨rfl, k_s6⟩; replace hb := hb.trans (k_s6.mono hb.size); (try replace z_c := z_c.below k_s6); (try replace z_e0 := z_e0.below k_s6); (try replace z_e1 := z_e1.below k_s6); (try replace z_e2 := z_e2.below k_s6); (try replace z_e3 := z_e3.below k_s6); (try replace z_e4 := z_e4.below k_s6); (try replace z_e5 := z_e5.below k_s6); (try replace z_e6 := z_e6.below k_s6); (try replace z_e7 := z_e7.below k_s6); (try replace z_e8 := z_e8.below k_s6); (try replace z_e9 := z_e9.below k_s6); clear k_s6)
                | (go_at_call 19; (with_reducible refine (C_e4.out _ _ _ _ _ (HX2.out _ hb) z_c).mono ?_); rintro _ w_e4 ⟨a_e4, c_e4, rfl, z_e4, k_e4⟩; replace hb := hb.trans (k_e4.mono hb.size); (try replace z_c := z_c.below k_e4); (try replace z_e0 := z_e0.below k_e4); (try replace z_e1 := z_e1.below k_e4); (try replace z_e2 := z_e2.below k_e4); (try replace z_e3 := z_e3.below k_e4); (try replace z_e5 := z_e5.below k_e4); (try replace z_e6 := z_e6.below k_e4); (try replace z_e7 := z_e7.below k_e4); (try replace z_e8 := z_e8.below k_e4); (try replace z_e9 := z_e9.below k_e4); clear k_e4)
                | (go_at_call 19; (with_reducible refine (C_e5.out _ _ _ _ _ (HX2.out _ hb) (HX1.out _ hb)).mono ?_); rintro _ w_e5 ⟨a_e5, c_e5, rfl, z_e5, k_e5⟩; replace hb := hb.trans (k_e5.mono hb.size); (try replace z_c := z_c.below k_e5); (try replace z_e0 := z_e0.below k_e5); (try replace z_e1 := z_e1.below k_e5); (try replace z_e2 := z_e2.below k_e5); (try replace z_e3 := z_e3.below k_e5); (try replace z_e4 := z_e4.below k_e5); (try replace z_e6 := z_e6.below k_e5); (try replace z_e7 := z_e7.below k_e5); (try replace z_e8 := z_e8.below k_e5); (try replace z_e9 := z_e9.below k_e5); clear k_e5)
                | (go_at_call 14; (with_reducible refine (S_9.out _ _ _ _ _ z_e4 z_e5).mono ?_); rintro _ w_s9 ⟨rfl, k_s9⟩; replace hb := hb.trans (k_s9.mono hb.size); (try replace z_c := z_c.below k_s9); (try replace z_e0 := z_e0.below k_s9); (try replace z_e1 := z_e1.below k_s9); (try replace z_e2 := z_e2.below k_s9); (try replace z_e3 := z_e3.below k_s9); (try replace z_e4 := z_e4.below k_s9); (try replace z_e5 := z_e5.below k_s9); (try replace z_e6 := z_e6.below k_s9); (try replace z_e7 := z_e7.below k_s9); (try replace z_e8 := z_e8.below k_s9); (try replace z_e9 := z_e9.below k_s9); clear k_s9)
                | (go_at_call 21; (with_reducible refine (C_e6.out _ _ _ _ _ z_c (HX2.out _ hb)).mono ?_); rintro _ w_e6 ⟨a_e6, c_e6, rfl, z_e6, k_e6⟩; replace hb := hb.trans (k_e6.mono hb.size); (try replace z_c := z_c.below k_e6); (try replace z_e0 := z_e0.below k_e6); (try replace z_e1 := z_e1.below k_e6); (try replace z_e2 := z_e2.below k_e6); (try replace z_e3 := z_e3.below k_e6); (try replace z_e4 := z_e4.below k_e6); (try replace z_e5 := z_e5.below k_e6); (try replace z_e7 := z_e7.below k_e6); (try replace z_e8 := z_e8.below k_e6); (try replace z_e9 := z_e9.below k_e6); clear k_e6)
                | (go_at_call 21; (with_reducible refine (C_e7.out _ _ _ _ _ (HX1.out _ hb) (HX2.out _ hb)).mono ?_); rintro _ w_e7 ⟨a_e7, c_e7, rfl, z_e7, k_e7⟩; replace hb := hb.trans (k_e7.mono hb.size); (try replace z_c := z_c.below k_e7); (try replace z_e0 := z_e0.below k_e7); (try replace z_e1 := z_e1.below k_e7); (try replace z_e2 := z_e2.below k_e7); (try replace z_e3 := z_e3.below k_e7); (try replace z_e4 := z_e4.below k_e7); (try replace z_e5 := z_e5.below k_e7); (try replace z_e6 := z_e6.below k_e7); (try replace z_e8 := z_e8.below k_e7); (try replace z_e9 := z_e9.below k_e7); clear k_e7)
                | (go_at_call 14; (with_reducible refine (S_12.out _ _ _ _ _ z_e6 z_e7).mono ?_); rintro _ w_s12 ⟨rfl, k_s12⟩; replace hb := hb.trans (k_s12.mono hb.size); (try replace z_c := z_c.below k_s12); (try replace z_e0 := z_e0.below k_s12); (try replace z_e1 := z_e1.below k_s12); (try replace z_e2 := z_e2.below k_s12); (try replace z_e3 := z_e3.below k_s12); (try replace z_e4 := z_e4.below k_s12); (try replace z_e5 := z_e5.below k_s12); (try replace z_e6 := z_e6.below k_s12); (try replace z_e7 := z_e7.below k_s12); (try replace z_e8 := z_e8.below k_s12); (try replace z_e9 := z_e9.below k_s12); clear k_s12)
                | (go_at_call 21; (with_reducible refine (C_e8.out _ _ _ _ _ (HX2.out _ hb) z_c).mono ?_); rintro _ w_e8 ⟨a_e8, c_e8, rfl, z_e8, k_e8⟩; replace hb := hb.trans (k_e8.mono hb.size); (try replace z_c := z_c.below k_e8); (try replace z_e0 := z_e0.below k_e8); (try replace z_e1 := z_e1.below k_e8); (try replace z_e2 := z_e2.below k_e8); (try replace z_e3 := z_e3.below k_e8); (try replace z_e4 := z_e4.below k_e8); (try replace z_e5 := z_e5.below k_e8); (try replace z_e6 := z_e6.below k_e8); (try replace z_e7 := z_e7.below k_e8); (try replace z_e9 := z_e9.below k_e8); clear k_e8)
                | (go_at_call 21; (with_reducible refine (C_e9.out _ _ _ _ _ (HX2.out _ hb) (HX1.out _ hb)).mono ?_); rintro _ w_e9 ⟨a_e9, c_e9, rfl, z_e9, k_e9⟩; replace hb := hb.trans (k_e9.mono hb.size); (try replace z_c := z_c.below k_e9); (try replace z_e0 := z_e0.below k_e9); (try replace z_e1 := z_e1.below k_e9); (try replace z_e2 := z_e2.below k_e9); (try replace z_e3 := z_e3.below k_e9); (try replace z_e4 := z_e4.below k_e9); (try replace z_e5 := z_e5.below k_e9); (try replace z_e6 := z_e6.below k_e9); (try replace z_e7 := z_e7.below k_e9); (try replace z_e8 := z_e8.below k_e9); clear k_e9)
                | (go_at_call 14; (with_reducible refine (S_15.out _ _ _ _ _ z_e8 z_e9).mono ?_); rintro _ w_s15 ⟨rfl, k_s15⟩; replace hb := hb.trans (k_s15.mono hb.size); (try replace z_c := z_c.below k_s15); (try replace z_e0 := z_e0.below k_s15); (try replace z_e1 := z_e1.below k_s15); (try replace z_e2 := z_e2.below k_s15); (try replace z_e3 := z_e3.below k_s15); (try replace z_e4 := z_e4.below k_s15); (try replace z_e5 := z_e5.below k_s15); (try replace z_e6 := z_e6.below k_s15); (try replace z_e7 := z_e7.below k_s15); (try replace z_e8 := z_e8.below k_s15); (try replace z_e9 := z_e9.below k_s15); clear k_s15)
                | (go_at_call 25; (with_reducible refine (V_16.out _ _ _ (HX1.out _ hb)).mono ?_); rintro _ w_v16 ⟨rfl, k_v16⟩; replace hb := hb.trans (k_v16.mono hb.size); (try replace z_c := z_c.below k_v16); (try replace z_e0 := z_e0.below k_v16); (try replace z_e1 := z_e1.below k_v16); (try replace z_e2 := z_e2.below k_v16); (try replace z_e3 := z_e3.below k_v16); (try replace z_e4 := z_e4.below k_v16); (try replace z_e5 := z_e5.below k_v16); (try replace z_e6 := z_e6.below k_v16); (try replace z_e7 := z_e7.below k_v16); (try replace z_e8 := z_e8.below k_v16); (try replace z_e9 := z_e9.below k_v16); clear k_v16)
                | (go_at_call 25; (with_reducible refine (V_17.out _ _ _ z_c).mono ?_); rintro _ w_v17 ⟨rfl, k_v17⟩; replace hb := hb.trans (k_v17.mono hb.size); (try replace z_c := z_c.below k_v17); (try replace z_e0 := z_e0.below k_v17); (try replace z_e1 := z_e1.below k_v17); (try replace z_e2 := z_e2.below k_v17); (try replace z_e3 := z_e3.below k_v17); (try replace z_e4 := z_e4.below k_v17); (try replace z_e5 := z_e5.below k_v17); (try replace z_e6 := z_e6.below k_v17); (try replace z_e7 := z_e7.below k_v17); (try replace z_e8 := z_e8.below k_v17); (try replace z_e9 := z_e9.below k_v17); clear k_v17)
                | (go_at_call 23; (with_reducible refine (V_18.out _ _ _ z_c).mono ?_); rintro _ w_v18 ⟨rfl, k_v18⟩; replace hb := hb.trans (k_v18.mono hb.size); (try replace z_c := z_c.below k_v18); (try replace z_e0 := z_e0.below k_v18); (try replace z_e1 := z_e1.below k_v18); (try replace z_e2 := z_e2.below k_v18); (try replace z_e3 := z_e3.below k_v18); (try replace z_e4 := z_e4.below k_v18); (try replace z_e5 := z_e5.below k_v18); (try replace z_e6 := z_e6.below k_v18); (try replace z_e7 := z_e7.below k_v18); (try replace z_e8 := z_e8.below k_v18); (try replace z_e9 := z_e9.below k_v18); clear k_v18)
                | (go_at_call 23; (with_reducible refine (V_19.out _ _ _ z_c).mono ?_); rintro _ w_v19 ⟨rfl, k_v19⟩; replace hb := hb.trans (k_v19.mono hb.size); (try replace z_c := z_c.below k_v19); (try replace z_e0 := z_e0.below k_v19); (try replace z_e1 := z_e1.below k_v19); (try replace z_e2 := z_e2.below k_v19); (try replace z_e3 := z_e3.below k_v19); (try replace z_e4 := z_e4.below k_v19); (try replace z_e5 := z_e5.below k_v19); (try replace z_e6 := z_e6.below k_v19); (try replace z_e7 := z_e7.below k_v19); (try replace z_e8 := z_e8.below k_v19); (try replace z_e9 := z_e9.below k_v19); clear k_v19))
              all_goals go_ret
              all_goals exact ⟨rfl, hb⟩
            · skip
              go_simp
              have hB := hHeld.2.2.trans ((alloc_below (W0) (.cells #[.int .i64 m, .int .i64 t, .int .i64 f, .int .i64 m] 33)).mono hHeld.2.2.size)
              have HF := Lib.hid (cells_two (w := W0) m t f m)
              replace HE := Lib.hid (World.ownsRow.alloc HE.out (.cells #[.int .i64 m, .int .i64 t, .int .i64 f, .int .i64 m] 33))
              refine hK.out _ _ ⟨cell_kept (hB) HE12.out.1, cell_kept (hB) HE12.out.2, hB⟩ (fun hHeld => ?_)
              clear hK K
              (try simp only [Act.put, List.getElem_toArray, List.getElem_cons_succ, List.getElem_cons_zero, List.setIfInBounds_toArray, List.set_cons_zero, List.set_cons_succ])
              refine wpAnyH_ready (rs := [4]) (by kernel_rfl) (by simp) ?_
              refine AllReadyH.cons rfl (fun K hK => ?_) AllReadyH.nil
              refine step_append_src (by rfl) (.tmp 62) (.tmp 65) 22 (by rfl) W5.heap.size 33 i0 (.agg #[.int .i64 0, .int .i64 0]) 2 16 Try.underS HI0.out.1 HI0.out.2.1 HI0.out.2.2.1 HI0.out.2.2.2 rfl (by decide) _ 0 [] (by rfl) HE.out _ j (flat (xs.take j)) (by rfl) (HXT.out _ hHeld.2.2) HFT.out (flat_cell1 _) (by unfold maxLen; omega) (by omega) hHeld.2.2.size ?_
              intro v4 W4 hown4 hg4
              have hB4 := hHeld.2.2.grown hg4 hHeld.2.2.size (fun k hk => (HE.out.lt k hk).1)
              have HG := Lib.hid hown4
              replace HF := Lib.hid (cells_grown HF.out hg4 (fun b hb => by cases hb; exact (by omega)))
              clear hown4 hg4
              refine hK.out _ _ ⟨cell_kept (hB4) HE12.out.1, cell_kept (hB4) HE12.out.2, hB4⟩ (fun hHeld => ?_)
              clear hK K
              (try simp only [Act.put, List.getElem_toArray, List.getElem_cons_succ, List.getElem_cons_zero, List.setIfInBounds_toArray, List.set_cons_zero, List.set_cons_succ])
              refine wpAnyH_ready (rs := [14]) (by kernel_rfl) (by simp) ?_
              refine AllReadyH.cons rfl (fun K hK => ?_) AllReadyH.nil
              refine step_append_src (by rfl) (.tmp 66) (.tmp 75) 22 (by rfl) W5.heap.size 33 i0 (.agg #[.int .i64 0, .int .i64 0]) 2 16 Try.underS HI0.out.1 HI0.out.2.1 HI0.out.2.2.1 HI0.out.2.2.2 rfl (by decide) _ (0 + j) ([] ++ flat (xs.take j)) (by rfl) HG.out _ 2 (flat [(m, t), (f, m)]) (by rfl) (.inr ⟨_, 2, rfl, HF.out⟩) rfl (flat_cell1 _) (by unfold maxLen; omega) (by omega) hHeld.2.2.size ?_
              intro v5 W14 hown5 hg5
              have hB5 := hHeld.2.2.grown hg5 hHeld.2.2.size (fun k hk => (HG.out.lt k hk).1)
              have HR5 := Lib.hid (RowS.of2 (l := xs.take j) (r := [(m, t), (f, m)]) (by rw [List.length_take, Nat.min_eq_left (by have := HN1.out; unfold Ln at this; omega)]) rfl hown5)
              clear hown5 hg5
              refine hK.out _ _ ⟨cell_kept (hB5) HE12.out.1, cell_kept (hB5) HE12.out.2, hB5⟩ (fun hHeld => ?_)
              clear hK K
              (try simp only [Act.put, List.getElem_toArray, List.getElem_cons_succ, List.getElem_cons_zero, List.setIfInBounds_toArray, List.set_cons_zero, List.set_cons_succ])
              refine wpAnyH_take (i := 15) (v := ?_) rfl (by kernel_rfl) (by kernel_rfl) (by kernel_rfl) (fun _ _ _ h => h) (Or.inl ⟨by rfl, ?_⟩) (by assumption) ?_
              rotate_left
              · intro w hSw; (try dsimp only at hSw); go_simp; (try with_reducible rfl)
              (try simp only [Act.put, List.getElem_toArray, List.getElem_cons_succ, List.getElem_cons_zero, List.setIfInBounds_toArray, List.set_cons_zero, List.set_cons_succ])
              refine wpAnyH_done (by kernel_rfl) ?_ _
              have hl5 : (xs.take j ++ [(m, t), (f, m)]).length ≤ 64 := by rw [List.length_append, List.length_take]; show min _ _ + 2 ≤ 64; have := Nat.min_le_left j xs.length; omega
              replace hb := hb.trans (hB5.mono hb.size)
              skip
              go_wp2_with (first
                | (at_builtin; refine wpList_append_src rfl _ _ 22 rfl W5.heap.size 33 i0 (.agg #[.int .i64 0, .int .i64 0]) 2 16 Try.underS HI0.out.1 HI0.out.2.1 HI0.out.2.2.1 HI0.out.2.2.2 rfl (by decide) _ _ _ rfl HR5.out _ (n1 - (j + 1)) (flat (xs.drop (j + 1))) rfl (HXD.out _ hB5) HFD.out (flat_cell1 _) (by have := hl5; unfold maxLen; omega) (by have := hl5; omega) hB5.size ?_; intro v6 W6 hown6 hg6; replace hb := hb.grown hg6 hb.size (fun k hk => Nat.le_trans hle (World.ownsRow.lt HR5.out k hk).1); obtain ⟨a6, c6, rfl, z_c, -, -⟩ := RowS.cap (l := cut xs j f m t) (RowS.app2 HDL.out hown6); rw [HNC.out.symm]; clear hown6 hg6)
                | (go_at_call 12; (with_reducible refine (V_0.out _ _ _ z_c).mono ?_); rintro _ w_v0 ⟨rfl, k_v0⟩; replace hb := hb.trans (k_v0.mono hb.size); (try replace z_c := z_c.below k_v0); (try replace z_e0 := z_e0.below k_v0); (try replace z_e1 := z_e1.below k_v0); (try replace z_e2 := z_e2.below k_v0); (try replace z_e3 := z_e3.below k_v0); (try replace z_e4 := z_e4.below k_v0); (try replace z_e5 := z_e5.below k_v0); (try replace z_e6 := z_e6.below k_v0); (try replace z_e7 := z_e7.below k_v0); (try replace z_e8 := z_e8.below k_v0); (try replace z_e9 := z_e9.below k_v0); clear k_v0)
                | (go_at_call 15; (with_reducible refine (C_e0.out _ _ _ z_c).mono ?_); rintro _ w_e0 ⟨a_e0, c_e0, rfl, z_e0, k_e0⟩; replace hb := hb.trans (k_e0.mono hb.size); (try replace z_c := z_c.below k_e0); (try replace z_e1 := z_e1.below k_e0); (try replace z_e2 := z_e2.below k_e0); (try replace z_e3 := z_e3.below k_e0); (try replace z_e4 := z_e4.below k_e0); (try replace z_e5 := z_e5.below k_e0); (try replace z_e6 := z_e6.below k_e0); (try replace z_e7 := z_e7.below k_e0); (try replace z_e8 := z_e8.below k_e0); (try replace z_e9 := z_e9.below k_e0); clear k_e0)
                | (go_at_call 15; (with_reducible refine (C_e1.out _ _ _ (HX1.out _ hb)).mono ?_); rintro _ w_e1 ⟨a_e1, c_e1, rfl, z_e1, k_e1⟩; replace hb := hb.trans (k_e1.mono hb.size); (try replace z_c := z_c.below k_e1); (try replace z_e0 := z_e0.below k_e1); (try replace z_e2 := z_e2.below k_e1); (try replace z_e3 := z_e3.below k_e1); (try replace z_e4 := z_e4.below k_e1); (try replace z_e5 := z_e5.below k_e1); (try replace z_e6 := z_e6.below k_e1); (try replace z_e7 := z_e7.below k_e1); (try replace z_e8 := z_e8.below k_e1); (try replace z_e9 := z_e9.below k_e1); clear k_e1)
                | (go_at_call 14; (with_reducible refine (S_3.out _ _ _ _ _ z_e0 z_e1).mono ?_); rintro _ w_s3 ⟨rfl, k_s3⟩; replace hb := hb.trans (k_s3.mono hb.size); (try replace z_c := z_c.below k_s3); (try replace z_e0 := z_e0.below k_s3); (try replace z_e1 := z_e1.below k_s3); (try replace z_e2 := z_e2.below k_s3); (try replace z_e3 := z_e3.below k_s3); (try replace z_e4 := z_e4.below k_s3); (try replace z_e5 := z_e5.below k_s3); (try replace z_e6 := z_e6.below k_s3); (try replace z_e7 := z_e7.below k_s3); (try replace z_e8 := z_e8.below k_s3); (try replace z_e9 := z_e9.below k_s3); clear k_s3)
                | (go_at_call 17; (with_reducible refine (C_e2.out _ _ _ _ _ z_c (HX2.out _ hb)).mono ?_); rintro _ w_e2 ⟨a_e2, c_e2, rfl, z_e2, k_e2⟩; replace hb := hb.trans (k_e2.mono hb.size); (try replace z_c := z_c.below k_e2); (try replace z_e0 := z_e0.below k_e2); (try replace z_e1 := z_e1.below k_e2); (try replace z_e3 := z_e3.below k_e2); (try replace z_e4 := z_e4.below k_e2); (try replace z_e5 := z_e5.below k_e2); (try replace z_e6 := z_e6.below k_e2); (try replace z_e7 := z_e7.below k_e2); (try replace z_e8 := z_e8.below k_e2); (try replace z_e9 := z_e9.below k_e2); clear k_e2)
                | (go_at_call 17; (with_reducible refine (C_e3.out _ _ _ _ _ (HX1.out _ hb) (HX2.out _ hb)).mono ?_); rintro _ w_e3 ⟨a_e3, c_e3, rfl, z_e3, k_e3⟩; replace hb := hb.trans (k_e3.mono hb.size); (try replace z_c := z_c.below k_e3); (try replace z_e0 := z_e0.below k_e3); (try replace z_e1 := z_e1.below k_e3); (try replace z_e2 := z_e2.below k_e3); (try replace z_e4 := z_e4.below k_e3); (try replace z_e5 := z_e5.below k_e3); (try replace z_e6 := z_e6.below k_e3); (try replace z_e7 := z_e7.below k_e3); (try replace z_e8 := z_e8.below k_e3); (try replace z_e9 := z_e9.below k_e3); clear k_e3)
                | (go_at_call 14; (with_reducible refine (S_6.out _ _ _ _ _ z_e2 z_e3).mono ?_); rintro _ w_s6 ⟨rfl, k_s6⟩; replace hb := hb.trans (k_s6.mono hb.size); (try replace z_c := z_c.below k_s6); (try replace z_e0 := z_e0.below k_s6); (try replace z_e1 := z_e1.below k_s6); (try replace z_e2 := z_e2.below k_s6); (try replace z_e3 := z_e3.below k_s6); (try replace z_e4 := z_e4.below k_s6); (try replace z_e5 := z_e5.below k_s6); (try replace z_e6 := z_e6.below k_s6); (try replace z_e7 := z_e7.below k_s6); (try replace z_e8 := z_e8.below k_s6); (try replace z_e9 := z_e9.below k_s6); clear k_s6)
                | (go_at_call 19; (with_reducible refine (C_e4.out _ _ _ _ _ (HX2.out _ hb) z_c).mono ?_); rintro _ w_e4 ⟨a_e4, c_e4, rfl, z_e4, k_e4⟩; replace hb := hb.trans (k_e4.mono hb.size); (try replace z_c := z_c.below k_e4); (try replace z_e0 := z_e0.below k_e4); (try replace z_e1 := z_e1.below k_e4); (try replace z_e2 := z_e2.below k_e4); (try replace z_e3 := z_e3.below k_e4); (try replace z_e5 := z_e5.below k_e4); (try replace z_e6 := z_e6.below k_e4); (try replace z_e7 := z_e7.below k_e4); (try replace z_e8 := z_e8.below k_e4); (try replace z_e9 := z_e9.below k_e4); clear k_e4)
                | (go_at_call 19; (with_reducible refine (C_e5.out _ _ _ _ _ (HX2.out _ hb) (HX1.out _ hb)).mono ?_); rintro _ w_e5 ⟨a_e5, c_e5, rfl, z_e5, k_e5⟩; replace hb := hb.trans (k_e5.mono hb.size); (try replace z_c := z_c.below k_e5); (try replace z_e0 := z_e0.below k_e5); (try replace z_e1 := z_e1.below k_e5); (try replace z_e2 := z_e2.below k_e5); (try replace z_e3 := z_e3.below k_e5); (try replace z_e4 := z_e4.below k_e5); (try replace z_e6 := z_e6.below k_e5); (try replace z_e7 := z_e7.below k_e5); (try replace z_e8 := z_e8.below k_e5); (try replace z_e9 := z_e9.below k_e5); clear k_e5)
                | (go_at_call 14; (with_reducible refine (S_9.out _ _ _ _ _ z_e4 z_e5).mono ?_); rintro _ w_s9 ⟨rfl, k_s9⟩; replace hb := hb.trans (k_s9.mono hb.size); (try replace z_c := z_c.below k_s9); (try replace z_e0 := z_e0.below k_s9); (try replace z_e1 := z_e1.below k_s9); (try replace z_e2 := z_e2.below k_s9); (try replace z_e3 := z_e3.below k_s9); (try replace z_e4 := z_e4.below k_s9); (try replace z_e5 := z_e5.below k_s9); (try replace z_e6 := z_e6.below k_s9); (try replace z_e7 := z_e7.below k_s9); (try replace z_e8 := z_e8.below k_s9); (try replace z_e9 := z_e9.below k_s9); clear k_s9)
                | (go_at_call 21; (with_reducible refine (C_e6.out _ _ _ _ _ z_c (HX2.out _ hb)).mono ?_); rintro _ w_e6 ⟨a_e6, c_e6, rfl, z_e6, k_e6⟩; replace hb := hb.trans (k_e6.mono hb.size); (try replace z_c := z_c.below k_e6); (try replace z_e0 := z_e0.below k_e6); (try replace z_e1 := z_e1.below k_e6); (try replace z_e2 := z_e2.below k_e6); (try replace z_e3 := z_e3.below k_e6); (try replace z_e4 := z_e4.below k_e6); (try replace z_e5 := z_e5.below k_e6); (try replace z_e7 := z_e7.below k_e6); (try replace z_e8 := z_e8.below k_e6); (try replace z_e9 := z_e9.below k_e6); clear k_e6)
                | (go_at_call 21; (with_reducible refine (C_e7.out _ _ _ _ _ (HX1.out _ hb) (HX2.out _ hb)).mono ?_); rintro _ w_e7 ⟨a_e7, c_e7, rfl, z_e7, k_e7⟩; replace hb := hb.trans (k_e7.mono hb.size); (try replace z_c := z_c.below k_e7); (try replace z_e0 := z_e0.below k_e7); (try replace z_e1 := z_e1.below k_e7); (try replace z_e2 := z_e2.below k_e7); (try replace z_e3 := z_e3.below k_e7); (try replace z_e4 := z_e4.below k_e7); (try replace z_e5 := z_e5.below k_e7); (try replace z_e6 := z_e6.below k_e7); (try replace z_e8 := z_e8.below k_e7); (try replace z_e9 := z_e9.below k_e7); clear k_e7)
                | (go_at_call 14; (with_reducible refine (S_12.out _ _ _ _ _ z_e6 z_e7).mono ?_); rintro _ w_s12 ⟨rfl, k_s12⟩; replace hb := hb.trans (k_s12.mono hb.size); (try replace z_c := z_c.below k_s12); (try replace z_e0 := z_e0.below k_s12); (try replace z_e1 := z_e1.below k_s12); (try replace z_e2 := z_e2.below k_s12); (try replace z_e3 := z_e3.below k_s12); (try replace z_e4 := z_e4.below k_s12); (try replace z_e5 := z_e5.below k_s12); (try replace z_e6 := z_e6.below k_s12); (try replace z_e7 := z_e7.below k_s12); (try replace z_e8 := z_e8.below k_s12); (try replace z_e9 := z_e9.below k_s12); clear k_s12)
                | (go_at_call 21; (with_reducible refine (C_e8.out _ _ _ _ _ (HX2.out _ hb) z_c).mono ?_); rintro _ w_e8 ⟨a_e8, c_e8, rfl, z_e8, k_e8⟩; replace hb := hb.trans (k_e8.mono hb.size); (try replace z_c := z_c.below k_e8); (try replace z_e0 := z_e0.below k_e8); (try replace z_e1 := z_e1.below k_e8); (try replace z_e2 := z_e2.below k_e8); (try replace z_e3 := z_e3.below k_e8); (try replace z_e4 := z_e4.below k_e8); (try replace z_e5 := z_e5.below k_e8); (try replace z_e6 := z_e6.below k_e8); (try replace z_e7 := z_e7.below k_e8); (try replace z_e9 := z_e9.below k_e8); clear k_e8)
                | (go_at_call 21; (with_reducible refine (C_e9.out _ _ _ _ _ (HX2.out _ hb) (HX1.out _ hb)).mono ?_); rintro _ w_e9 ⟨a_e9, c_e9, rfl, z_e9, k_e9⟩; replace hb := hb.trans (k_e9.mono hb.size); (try replace z_c := z_c.below k_e9); (try replace z_e0 := z_e0.below k_e9); (try replace z_e1 := z_e1.below k_e9); (try replace z_e2 := z_e2.below k_e9); (try replace z_e3 := z_e3.below k_e9); (try replace z_e4 := z_e4.below k_e9); (try replace z_e5 := z_e5.below k_e9); (try replace z_e6 := z_e6.below k_e9); (try replace z_e7 := z_e7.below k_e9); (try replace z_e8 := z_e8.below k_e9); clear k_e9)
                | (go_at_call 14; (with_reducible refine (S_15.out _ _ _ _ _ z_e8 z_e9).mono ?_); rintro _ w_s15 ⟨rfl, k_s15⟩; replace hb := hb.trans (k_s15.mono hb.size); (try replace z_c := z_c.below k_s15); (try replace z_e0 := z_e0.below k_s15); (try replace z_e1 := z_e1.below k_s15); (try replace z_e2 := z_e2.below k_s15); (try replace z_e3 := z_e3.below k_s15); (try replace z_e4 := z_e4.below k_s15); (try replace z_e5 := z_e5.below k_s15); (try replace z_e6 := z_e6.below k_s15); (try replace z_e7 := z_e7.below k_s15); (try replace z_e8 := z_e8.below k_s15); (try replace z_e9 := z_e9.below k_s15); clear k_s15)
                | (go_at_call 25; (with_reducible refine (V_16.out _ _ _ (HX1.out _ hb)).mono ?_); rintro _ w_v16 ⟨rfl, k_v16⟩; replace hb := hb.trans (k_v16.mono hb.size); (try replace z_c := z_c.below k_v16); (try replace z_e0 := z_e0.below k_v16); (try replace z_e1 := z_e1.below k_v16); (try replace z_e2 := z_e2.below k_v16); (try replace z_e3 := z_e3.below k_v16); (try replace z_e4 := z_e4.below k_v16); (try replace z_e5 := z_e5.below k_v16); (try replace z_e6 := z_e6.below k_v16); (try replace z_e7 := z_e7.below k_v16); (try replace z_e8 := z_e8.below k_v16); (try replace z_e9 := z_e9.below k_v16); clear k_v16)
                | (go_at_call 25; (with_reducible refine (V_17.out _ _ _ z_c).mono ?_); rintro _ w_v17 ⟨rfl, k_v17⟩; replace hb := hb.trans (k_v17.mono hb.size); (try replace z_c := z_c.below k_v17); (try replace z_e0 := z_e0.below k_v17); (try replace z_e1 := z_e1.below k_v17); (try replace z_e2 := z_e2.below k_v17); (try replace z_e3 := z_e3.below k_v17); (try replace z_e4 := z_e4.below k_v17); (try replace z_e5 := z_e5.below k_v17); (try replace z_e6 := z_e6.below k_v17); (try replace z_e7 := z_e7.below k_v17); (try replace z_e8 := z_e8.below k_v17); (try replace z_e9 := z_e9.below k_v17); clear k_v17)
                | (go_at_call 23; (with_reducible refine (V_18.out _ _ _ z_c).mono ?_); rintro _ w_v18 ⟨rfl, k_v18⟩; replace hb := hb.trans (k_v18.mono hb.size); (try replace z_c := z_c.below k_v18); (try replace z_e0 := z_e0.below k_v18); (try replace z_e1 := z_e1.below k_v18); (try replace z_e2 := z_e2.below k_v18); (try replace z_e3 := z_e3.below k_v18); (try replace z_e4 := z_e4.below k_v18); (try replace z_e5 := z_e5.below k_v18); (try replace z_e6 := z_e6.below k_v18); (try replace z_e7 := z_e7.below k_v18); (try replace z_e8 := z_e8.below k_v18); (try replace z_e9 := z_e9.below k_v18); clear k_v18)
                | (go_at_call 23; (with_reducible refine (V_19.out _ _ _ z_c).mono ?_); rintro _ w_v19 ⟨rfl, k_v19⟩; replace hb := hb.trans (k_v19.mono hb.size); (try replace z_c := z_c.below k_v19); (try replace z_e0 := z_e0.below k_v19); (try replace z_e1 := z_e1.below k_v19); (try replace z_e2 := z_e2.below k_v19); (try replace z_e3 := z_e3.below k_v19); (try replace z_e4 := z_e4.below k_v19); (try replace z_e5 := z_e5.below k_v19); (try replace z_e6 := z_e6.below k_v19); (try replace z_e7 := z_e7.below k_v19); (try replace z_e8 := z_e8.below k_v19); (try replace z_e9 := z_e9.below k_v19); clear k_v19))
              all_goals go_ret
              all_goals exact ⟨rfl, hb⟩
          · skip
            go_simp
            have hB := hHeld.2.2.trans ((alloc_below (WR) (.cells #[.int .i64 m, .int .i64 t, .int .i64 f, .int .i64 m] 33)).mono hHeld.2.2.size)
            have HF := Lib.hid (cells_two (w := WR) m t f m)
            refine hK.out _ _ ⟨cell_kept (hB) HE12.out.1, cell_kept (hB) HE12.out.2, hB⟩ (fun hHeld => ?_)
            clear hK K
            (try simp only [Act.put, List.getElem_toArray, List.getElem_cons_succ, List.getElem_cons_zero, List.setIfInBounds_toArray, List.set_cons_zero, List.set_cons_succ])
            generalize WR.alloc (.cells #[.int .i64 m, .int .i64 t, .int .i64 f, .int .i64 m] 33) = W13 at *
            generalize WR.heap.size = g13 at *
            have HF0 := HF
            refine wpAnyH_ready (rs := [0]) (by kernel_rfl) (by simp) ?_
            refine AllReadyH.cons rfl (fun K hK => ?_) AllReadyH.nil
            go_simp
            have hB := hHeld.2.2.trans ((alloc_below (W13) (.cells #[] 33)).mono hHeld.2.2.size)
            have HE := Lib.hid (ownsRow_empty (w := W13) hHeld.2.2.size)
            replace HF := Lib.hid (cells_below HF.out (alloc_below (W13) (.cells #[] 33)))
            have hne : g13 ≠ W13.heap.size := by have := cells_lt HF0.out rfl; omega
            refine hK.out _ _ ⟨cell_kept (hB) HE12.out.1, cell_kept (hB) HE12.out.2, hB⟩ (fun hHeld => ?_)
            clear hK K
            (try simp only [Act.put, List.getElem_toArray, List.getElem_cons_succ, List.getElem_cons_zero, List.setIfInBounds_toArray, List.set_cons_zero, List.set_cons_succ])
            refine wpAnyH_ready (rs := [4]) (by kernel_rfl) (by simp) ?_
            refine AllReadyH.cons rfl (fun K hK => ?_) AllReadyH.nil
            refine step_append_src (by rfl) (.tmp 62) (.tmp 65) 22 (by rfl) W5.heap.size 33 i0 (.agg #[.int .i64 0, .int .i64 0]) 2 16 Try.underS HI0.out.1 HI0.out.2.1 HI0.out.2.2.1 HI0.out.2.2.2 rfl (by decide) _ 0 [] (by rfl) HE.out _ j (flat (xs.take j)) (by rfl) (HXT.out _ hHeld.2.2) HFT.out (flat_cell1 _) (by unfold maxLen; omega) (by omega) hHeld.2.2.size ?_
            intro v4 W4 hown4 hg4
            have hB4 := hHeld.2.2.grown hg4 hHeld.2.2.size (fun k hk => (HE.out.lt k hk).1)
            have HG := Lib.hid hown4
            replace HF := Lib.hid (cells_grown HF.out hg4 (fun b hb => by cases hb; exact (fun e => hne e.symm)))
            clear hown4 hg4
            refine hK.out _ _ ⟨cell_kept (hB4) HE12.out.1, cell_kept (hB4) HE12.out.2, hB4⟩ (fun hHeld => ?_)
            clear hK K
            (try simp only [Act.put, List.getElem_toArray, List.getElem_cons_succ, List.getElem_cons_zero, List.setIfInBounds_toArray, List.set_cons_zero, List.set_cons_succ])
            refine wpAnyH_ready (rs := [14]) (by kernel_rfl) (by simp) ?_
            refine AllReadyH.cons rfl (fun K hK => ?_) AllReadyH.nil
            refine step_append_src (by rfl) (.tmp 66) (.tmp 75) 22 (by rfl) W5.heap.size 33 i0 (.agg #[.int .i64 0, .int .i64 0]) 2 16 Try.underS HI0.out.1 HI0.out.2.1 HI0.out.2.2.1 HI0.out.2.2.2 rfl (by decide) _ (0 + j) ([] ++ flat (xs.take j)) (by rfl) HG.out _ 2 (flat [(m, t), (f, m)]) (by rfl) (.inr ⟨_, 2, rfl, HF.out⟩) rfl (flat_cell1 _) (by unfold maxLen; omega) (by omega) hHeld.2.2.size ?_
            intro v5 W14 hown5 hg5
            have hB5 := hHeld.2.2.grown hg5 hHeld.2.2.size (fun k hk => (HG.out.lt k hk).1)
            have HR5 := Lib.hid (RowS.of2 (l := xs.take j) (r := [(m, t), (f, m)]) (by rw [List.length_take, Nat.min_eq_left (by have := HN1.out; unfold Ln at this; omega)]) rfl hown5)
            clear hown5 hg5
            refine hK.out _ _ ⟨cell_kept (hB5) HE12.out.1, cell_kept (hB5) HE12.out.2, hB5⟩ (fun hHeld => ?_)
            clear hK K
            (try simp only [Act.put, List.getElem_toArray, List.getElem_cons_succ, List.getElem_cons_zero, List.setIfInBounds_toArray, List.set_cons_zero, List.set_cons_succ])
            refine wpAnyH_take (i := 15) (v := ?_) rfl (by kernel_rfl) (by kernel_rfl) (by kernel_rfl) (fun _ _ _ h => h) (Or.inl ⟨by rfl, ?_⟩) (by assumption) ?_
            rotate_left
            · intro w hSw; (try dsimp only at hSw); go_simp; (try with_reducible rfl)
            (try simp only [Act.put, List.getElem_toArray, List.getElem_cons_succ, List.getElem_cons_zero, List.setIfInBounds_toArray, List.set_cons_zero, List.set_cons_succ])
            refine wpAnyH_done (by kernel_rfl) ?_ _
            have hl5 : (xs.take j ++ [(m, t), (f, m)]).length ≤ 64 := by rw [List.length_append, List.length_take]; show min _ _ + 2 ≤ 64; have := Nat.min_le_left j xs.length; omega
            replace hb := hb.trans (hB5.mono hb.size)
            skip
            go_wp2_with (first
              | (at_builtin; refine wpList_append_src rfl _ _ 22 rfl W5.heap.size 33 i0 (.agg #[.int .i64 0, .int .i64 0]) 2 16 Try.underS HI0.out.1 HI0.out.2.1 HI0.out.2.2.1 HI0.out.2.2.2 rfl (by decide) _ _ _ rfl HR5.out _ (n1 - (j + 1)) (flat (xs.drop (j + 1))) rfl (HXD.out _ hB5) HFD.out (flat_cell1 _) (by have := hl5; unfold maxLen; omega) (by have := hl5; omega) hB5.size ?_; intro v6 W6 hown6 hg6; replace hb := hb.grown hg6 hb.size (fun k hk => Nat.le_trans hle (World.ownsRow.lt HR5.out k hk).1); obtain ⟨a6, c6, rfl, z_c, -, -⟩ := RowS.cap (l := cut xs j f m t) (RowS.app2 HDL.out hown6); rw [HNC.out.symm]; clear hown6 hg6)
              | (go_at_call 12; (with_reducible refine (V_0.out _ _ _ z_c).mono ?_); rintro _ w_v0 ⟨rfl, k_v0⟩; replace hb := hb.trans (k_v0.mono hb.size); (try replace z_c := z_c.below k_v0); (try replace z_e0 := z_e0.below k_v0); (try replace z_e1 := z_e1.below k_v0); (try replace z_e2 := z_e2.below k_v0); (try replace z_e3 := z_e3.below k_v0); (try replace z_e4 := z_e4.below k_v0); (try replace z_e5 := z_e5.below k_v0); (try replace z_e6 := z_e6.below k_v0); (try replace z_e7 := z_e7.below k_v0); (try replace z_e8 := z_e8.below k_v0); (try replace z_e9 := z_e9.below k_v0); clear k_v0)
              | (go_at_call 15; (with_reducible refine (C_e0.out _ _ _ z_c).mono ?_); rintro _ w_e0 ⟨a_e0, c_e0, rfl, z_e0, k_e0⟩; replace hb := hb.trans (k_e0.mono hb.size); (try replace z_c := z_c.below k_e0); (try replace z_e1 := z_e1.below k_e0); (try replace z_e2 := z_e2.below k_e0); (try replace z_e3 := z_e3.below k_e0); (try replace z_e4 := z_e4.below k_e0); (try replace z_e5 := z_e5.below k_e0); (try replace z_e6 := z_e6.below k_e0); (try replace z_e7 := z_e7.below k_e0); (try replace z_e8 := z_e8.below k_e0); (try replace z_e9 := z_e9.below k_e0); clear k_e0)
              | (go_at_call 15; (with_reducible refine (C_e1.out _ _ _ (HX1.out _ hb)).mono ?_); rintro _ w_e1 ⟨a_e1, c_e1, rfl, z_e1, k_e1⟩; replace hb := hb.trans (k_e1.mono hb.size); (try replace z_c := z_c.below k_e1); (try replace z_e0 := z_e0.below k_e1); (try replace z_e2 := z_e2.below k_e1); (try replace z_e3 := z_e3.below k_e1); (try replace z_e4 := z_e4.below k_e1); (try replace z_e5 := z_e5.below k_e1); (try replace z_e6 := z_e6.below k_e1); (try replace z_e7 := z_e7.below k_e1); (try replace z_e8 := z_e8.below k_e1); (try replace z_e9 := z_e9.below k_e1); clear k_e1)
              | (go_at_call 14; (with_reducible refine (S_3.out _ _ _ _ _ z_e0 z_e1).mono ?_); rintro _ w_s3 ⟨rfl, k_s3⟩; replace hb := hb.trans (k_s3.mono hb.size); (try replace z_c := z_c.below k_s3); (try replace z_e0 := z_e0.below k_s3); (try replace z_e1 := z_e1.below k_s3); (try replace z_e2 := z_e2.below k_s3); (try replace z_e3 := z_e3.below k_s3); (try replace z_e4 := z_e4.below k_s3); (try replace z_e5 := z_e5.below k_s3); (try replace z_e6 := z_e6.below k_s3); (try replace z_e7 := z_e7.below k_s3); (try replace z_e8 := z_e8.below k_s3); (try replace z_e9 := z_e9.below k_s3); clear k_s3)
              | (go_at_call 17; (with_reducible refine (C_e2.out _ _ _ _ _ z_c (HX2.out _ hb)).mono ?_); rintro _ w_e2 ⟨a_e2, c_e2, rfl, z_e2, k_e2⟩; replace hb := hb.trans (k_e2.mono hb.size); (try replace z_c := z_c.below k_e2); (try replace z_e0 := z_e0.below k_e2); (try replace z_e1 := z_e1.below k_e2); (try replace z_e3 := z_e3.below k_e2); (try replace z_e4 := z_e4.below k_e2); (try replace z_e5 := z_e5.below k_e2); (try replace z_e6 := z_e6.below k_e2); (try replace z_e7 := z_e7.below k_e2); (try replace z_e8 := z_e8.below k_e2); (try replace z_e9 := z_e9.below k_e2); clear k_e2)
              | (go_at_call 17; (with_reducible refine (C_e3.out _ _ _ _ _ (HX1.out _ hb) (HX2.out _ hb)).mono ?_); rintro _ w_e3 ⟨a_e3, c_e3, rfl, z_e3, k_e3⟩; replace hb := hb.trans (k_e3.mono hb.size); (try replace z_c := z_c.below k_e3); (try replace z_e0 := z_e0.below k_e3); (try replace z_e1 := z_e1.below k_e3); (try replace z_e2 := z_e2.below k_e3); (try replace z_e4 := z_e4.below k_e3); (try replace z_e5 := z_e5.below k_e3); (try replace z_e6 := z_e6.below k_e3); (try replace z_e7 := z_e7.below k_e3); (try replace z_e8 := z_e8.below k_e3); (try replace z_e9 := z_e9.below k_e3); clear k_e3)
              | (go_at_call 14; (with_reducible refine (S_6.out _ _ _ _ _ z_e2 z_e3).mono ?_); rintro _ w_s6 ⟨rfl, k_s6⟩; replace hb := hb.trans (k_s6.mono hb.size); (try replace z_c := z_c.below k_s6); (try replace z_e0 := z_e0.below k_s6); (try replace z_e1 := z_e1.below k_s6); (try replace z_e2 := z_e2.below k_s6); (try replace z_e3 := z_e3.below k_s6); (try replace z_e4 := z_e4.below k_s6); (try replace z_e5 := z_e5.below k_s6); (try replace z_e6 := z_e6.below k_s6); (try replace z_e7 := z_e7.below k_s6); (try replace z_e8 := z_e8.below k_s6); (try replace z_e9 := z_e9.below k_s6); clear k_s6)
              | (go_at_call 19; (with_reducible refine (C_e4.out _ _ _ _ _ (HX2.out _ hb) z_c).mono ?_); rintro _ w_e4 ⟨a_e4, c_e4, rfl, z_e4, k_e4⟩; replace hb := hb.trans (k_e4.mono hb.size); (try replace z_c := z_c.below k_e4); (try replace z_e0 := z_e0.below k_e4); (try replace z_e1 := z_e1.below k_e4); (try replace z_e2 := z_e2.below k_e4); (try replace z_e3 := z_e3.below k_e4); (try replace z_e5 := z_e5.below k_e4); (try replace z_e6 := z_e6.below k_e4); (try replace z_e7 := z_e7.below k_e4); (try replace z_e8 := z_e8.below k_e4); (try replace z_e9 := z_e9.below k_e4); clear k_e4)
              | (go_at_call 19; (with_reducible refine (C_e5.out _ _ _ _ _ (HX2.out _ hb) (HX1.out _ hb)).mono ?_); rintro _ w_e5 ⟨a_e5, c_e5, rfl, z_e5, k_e5⟩; replace hb := hb.trans (k_e5.mono hb.size); (try replace z_c := z_c.below k_e5); (try replace z_e0 := z_e0.below k_e5); (try replace z_e1 := z_e1.below k_e5); (try replace z_e2 := z_e2.below k_e5); (try replace z_e3 := z_e3.below k_e5); (try replace z_e4 := z_e4.below k_e5); (try replace z_e6 := z_e6.below k_e5); (try replace z_e7 := z_e7.below k_e5); (try replace z_e8 := z_e8.below k_e5); (try replace z_e9 := z_e9.below k_e5); clear k_e5)
              | (go_at_call 14; (with_reducible refine (S_9.out _ _ _ _ _ z_e4 z_e5).mono ?_); rintro _ w_s9 ⟨rfl, k_s9⟩; replace hb := hb.trans (k_s9.mono hb.size); (try replace z_c := z_c.below k_s9); (try replace z_e0 := z_e0.below k_s9); (try replace z_e1 := z_e1.below k_s9); (try replace z_e2 := z_e2.below k_s9); (try replace z_e3 := z_e3.below k_s9); (try replace z_e4 := z_e4.below k_s9); (try replace z_e5 := z_e5.below k_s9); (try replace z_e6 := z_e6.below k_s9); (try replace z_e7 := z_e7.below k_s9); (try replace z_e8 := z_e8.below k_s9); (try replace z_e9 := z_e9.below k_s9); clear k_s9)
              | (go_at_call 21; (with_reducible refine (C_e6.out _ _ _ _ _ z_c (HX2.out _ hb)).mono ?_); rintro _ w_e6 ⟨a_e6, c_e6, rfl, z_e6, k_e6⟩; replace hb := hb.trans (k_e6.mono hb.size); (try replace z_c := z_c.below k_e6); (try replace z_e0 := z_e0.below k_e6); (try replace z_e1 := z_e1.below k_e6); (try replace z_e2 := z_e2.below k_e6); (try replace z_e3 := z_e3.below k_e6); (try replace z_e4 := z_e4.below k_e6); (try replace z_e5 := z_e5.below k_e6); (try replace z_e7 := z_e7.below k_e6); (try replace z_e8 := z_e8.below k_e6); (try replace z_e9 := z_e9.below k_e6); clear k_e6)
              | (go_at_call 21; (with_reducible refine (C_e7.out _ _ _ _ _ (HX1.out _ hb) (HX2.out _ hb)).mono ?_); rintro _ w_e7 ⟨a_e7, c_e7, rfl, z_e7, k_e7⟩; replace hb := hb.trans (k_e7.mono hb.size); (try replace z_c := z_c.below k_e7); (try replace z_e0 := z_e0.below k_e7); (try replace z_e1 := z_e1.below k_e7); (try replace z_e2 := z_e2.below k_e7); (try replace z_e3 := z_e3.below k_e7); (try replace z_e4 := z_e4.below k_e7); (try replace z_e5 := z_e5.below k_e7); (try replace z_e6 := z_e6.below k_e7); (try replace z_e8 := z_e8.below k_e7); (try replace z_e9 := z_e9.below k_e7); clear k_e7)
              | (go_at_call 14; (with_reducible refine (S_12.out _ _ _ _ _ z_e6 z_e7).mono ?_); rintro _ w_s12 ⟨rfl, k_s12⟩; replace hb := hb.trans (k_s12.mono hb.size); (try replace z_c := z_c.below k_s12); (try replace z_e0 := z_e0.below k_s12); (try replace z_e1 := z_e1.below k_s12); (try replace z_e2 := z_e2.below k_s12); (try replace z_e3 := z_e3.below k_s12); (try replace z_e4 := z_e4.below k_s12); (try replace z_e5 := z_e5.below k_s12); (try replace z_e6 := z_e6.below k_s12); (try replace z_e7 := z_e7.below k_s12); (try replace z_e8 := z_e8.below k_s12); (try replace z_e9 := z_e9.below k_s12); clear k_s12)
              | (go_at_call 21; (with_reducible refine (C_e8.out _ _ _ _ _ (HX2.out _ hb) z_c).mono ?_); rintro _ w_e8 ⟨a_e8, c_e8, rfl, z_e8, k_e8⟩; replace hb := hb.trans (k_e8.mono hb.size); (try replace z_c := z_c.below k_e8); (try replace z_e0 := z_e0.below k_e8); (try replace z_e1 := z_e1.below k_e8); (try replace z_e2 := z_e2.below k_e8); (try replace z_e3 := z_e3.below k_e8); (try replace z_e4 := z_e4.below k_e8); (try replace z_e5 := z_e5.below k_e8); (try replace z_e6 := z_e6.below k_e8); (try replace z_e7 := z_e7.below k_e8); (try replace z_e9 := z_e9.below k_e8); clear k_e8)
              | (go_at_call 21; (with_reducible refine (C_e9.out _ _ _ _ _ (HX2.out _ hb) (HX1.out _ hb)).mono ?_); rintro _ w_e9 ⟨a_e9, c_e9, rfl, z_e9, k_e9⟩; replace hb := hb.trans (k_e9.mono hb.size); (try replace z_c := z_c.below k_e9); (try replace z_e0 := z_e0.below k_e9); (try replace z_e1 := z_e1.below k_e9); (try replace z_e2 := z_e2.below k_e9); (try replace z_e3 := z_e3.below k_e9); (try replace z_e4 := z_e4.below k_e9); (try replace z_e5 := z_e5.below k_e9); (try replace z_e6 := z_e6.below k_e9); (try replace z_e7 := z_e7.below k_e9); (try replace z_e8 := z_e8.below k_e9); clear k_e9)
              | (go_at_call 14; (with_reducible refine (S_15.out _ _ _ _ _ z_e8 z_e9).mono ?_); rintro _ w_s15 ⟨rfl, k_s15⟩; replace hb := hb.trans (k_s15.mono hb.size); (try replace z_c := z_c.below k_s15); (try replace z_e0 := z_e0.below k_s15); (try replace z_e1 := z_e1.below k_s15); (try replace z_e2 := z_e2.below k_s15); (try replace z_e3 := z_e3.below k_s15); (try replace z_e4 := z_e4.below k_s15); (try replace z_e5 := z_e5.below k_s15); (try replace z_e6 := z_e6.below k_s15); (try replace z_e7 := z_e7.below k_s15); (try replace z_e8 := z_e8.below k_s15); (try replace z_e9 := z_e9.below k_s15); clear k_s15)
              | (go_at_call 25; (with_reducible refine (V_16.out _ _ _ (HX1.out _ hb)).mono ?_); rintro _ w_v16 ⟨rfl, k_v16⟩; replace hb := hb.trans (k_v16.mono hb.size); (try replace z_c := z_c.below k_v16); (try replace z_e0 := z_e0.below k_v16); (try replace z_e1 := z_e1.below k_v16); (try replace z_e2 := z_e2.below k_v16); (try replace z_e3 := z_e3.below k_v16); (try replace z_e4 := z_e4.below k_v16); (try replace z_e5 := z_e5.below k_v16); (try replace z_e6 := z_e6.below k_v16); (try replace z_e7 := z_e7.below k_v16); (try replace z_e8 := z_e8.below k_v16); (try replace z_e9 := z_e9.below k_v16); clear k_v16)
              | (go_at_call 25; (with_reducible refine (V_17.out _ _ _ z_c).mono ?_); rintro _ w_v17 ⟨rfl, k_v17⟩; replace hb := hb.trans (k_v17.mono hb.size); (try replace z_c := z_c.below k_v17); (try replace z_e0 := z_e0.below k_v17); (try replace z_e1 := z_e1.below k_v17); (try replace z_e2 := z_e2.below k_v17); (try replace z_e3 := z_e3.below k_v17); (try replace z_e4 := z_e4.below k_v17); (try replace z_e5 := z_e5.below k_v17); (try replace z_e6 := z_e6.below k_v17); (try replace z_e7 := z_e7.below k_v17); (try replace z_e8 := z_e8.below k_v17); (try replace z_e9 := z_e9.below k_v17); clear k_v17)
              | (go_at_call 23; (with_reducible refine (V_18.out _ _ _ z_c).mono ?_); rintro _ w_v18 ⟨rfl, k_v18⟩; replace hb := hb.trans (k_v18.mono hb.size); (try replace z_c := z_c.below k_v18); (try replace z_e0 := z_e0.below k_v18); (try replace z_e1 := z_e1.below k_v18); (try replace z_e2 := z_e2.below k_v18); (try replace z_e3 := z_e3.below k_v18); (try replace z_e4 := z_e4.below k_v18); (try replace z_e5 := z_e5.below k_v18); (try replace z_e6 := z_e6.below k_v18); (try replace z_e7 := z_e7.below k_v18); (try replace z_e8 := z_e8.below k_v18); (try replace z_e9 := z_e9.below k_v18); clear k_v18)
              | (go_at_call 23; (with_reducible refine (V_19.out _ _ _ z_c).mono ?_); rintro _ w_v19 ⟨rfl, k_v19⟩; replace hb := hb.trans (k_v19.mono hb.size); (try replace z_c := z_c.below k_v19); (try replace z_e0 := z_e0.below k_v19); (try replace z_e1 := z_e1.below k_v19); (try replace z_e2 := z_e2.below k_v19); (try replace z_e3 := z_e3.below k_v19); (try replace z_e4 := z_e4.below k_v19); (try replace z_e5 := z_e5.below k_v19); (try replace z_e6 := z_e6.below k_v19); (try replace z_e7 := z_e7.below k_v19); (try replace z_e8 := z_e8.below k_v19); (try replace z_e9 := z_e9.below k_v19); clear k_v19))
            all_goals go_ret
            all_goals exact ⟨rfl, hb⟩
      · have PRP : Hid (∀ w, Calls Try.prog 30 #[sv f t] w fun r w' => r = .returned (.bool false) ∧ Below w.heap.size w w') := fun w => (rproper_any f t w).mono fun r w' ⟨hr, hw⟩ => ⟨hr.trans (ret_bool (decide_eq_false hpp)), hw⟩
        go_enter Try.func9, Try.ntmps9
        go_wp2_with (first
          | (go_at_call 10; (with_reducible refine (head_any _).mono ?_); rintro _ wh ⟨rfl, kh⟩; replace hb := hb.trans (kh.mono hb.size); clear kh)
          | (go_at_call 11; (with_reducible refine (SH.out _).mono ?_); rintro _ ws ⟨rfl, ks⟩; replace hb := hb.trans (ks.mono hb.size); clear ks; obtain ⟨s1, s2⟩ := HC1.out _ hb)
          | (go_at_call 30; (with_reducible refine (PRP.out _).mono ?_); rintro _ w_p ⟨rfl, kp⟩; have e1 := box_fst kp; have e2 := box_snd kp; replace hb := hb.trans ((box_below kp).mono hb.size); clear kp s1 s2))
        go_ret
        exact ⟨rfl, hb⟩
  · have SH : Hid (∀ w0 : World, Calls Try.prog 11 #[.slice (some ⟨w0.heap.size, 0, none⟩) 2 2] (w0.alloc (.cells #[.slice a1 n1 c1, .slice a2 n2 c2] 22)) fun r w' => r = .returned (.bool false) ∧ Below w0.heap.size w0 w') := fun w0 => (short_new [(a1, n1, c1), (a2, n2, c2)] w0 22 (by simp)).mono fun r w' ⟨hr, hw⟩ => ⟨hr.trans (ret_bool (by simp only [List.all_cons, List.all_nil, Bool.and_true]; first | (simp only [Bool.and_eq_true, decide_eq_true_eq]; exact hs) | (rw [Bool.eq_false_iff]; intro h; simp only [Bool.and_eq_true, decide_eq_true_eq] at h; exact hs h))), hw⟩
    clear hs hn1 hn2
    go_enter Try.func9, Try.ntmps9
    go_wp2_with (first
      | (go_at_call 10; (with_reducible refine (head_any _).mono ?_); rintro _ wh ⟨rfl, kh⟩; replace hb := hb.trans (kh.mono hb.size); clear kh)
      | (go_at_call 11; (with_reducible refine (SH.out _).mono ?_); rintro _ ws ⟨rfl, ks⟩; replace hb := hb.trans (ks.mono hb.size); clear ks))
    go_ret
    exact ⟨rfl, hb⟩
end Go.Proofs.Ytahionbbpfmplaa.Sp
