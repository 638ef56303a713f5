/- The walk of the law SpanMembership: it returns true. Conditions: the lists lie in memory as the arguments say; the numbers are within Go's types. -/
import Derived.Test.YtahionbbpfmplaaSpanHead
import Derived.Test.YtahionbbpfmplaaSpanOpen
import Derived.Test.YtahionbbpfmplaaSpanRef6
namespace Go.Proofs.Ytahionbbpfmplaa.Sp
open Go.RowKit
set_option maxHeartbeats 16000000 in
set_option maxRecDepth 100000 in
theorem membership_walk (a1 a2 : Option Addr) (c1 c2 : Nat) (xs ys : List Sn) (q p d : Int) (w : World) (z1 : In a1 c1 xs w) (z2 : In a2 c2 ys w) (_hq : -9223372036854775808 ≤ q ∧ q ≤ 9223372036854775807) (hp : 0 ≤ p ∧ p ≤ 255) (hd : -128 ≤ d ∧ d ≤ 127) :
    Calls Try.prog 5 #[.slice a1 xs.length c1, .slice a2 ys.length c2, .int .i64 q, .int .u8 p, .int .i8 d] w fun r w' => r = .returned (.bool true) ∧ Below w.heap.size w w' := by
  have HX1 := Lib.hid (fun w' (k : Below w.heap.size w w') => z1.at_.below k)
  have HIN1 := Lib.hid z1
  have HX2 := Lib.hid (fun w' (k : Below w.heap.size w w') => z2.at_.below k)
  have HIN2 := Lib.hid z2
  obtain ⟨n1, hn1⟩ : ∃ n, n = xs.length := ⟨_, rfl⟩
  obtain ⟨n2, hn2⟩ : ∃ n, n = ys.length := ⟨_, rfl⟩
  rw [← hn1, ← hn2]
  have HN1 := Lib.hid (show Ln n1 xs from hn1)
  have HN2 := Lib.hid (show Ln n2 ys from hn2)
  have hb := Below.refl w.heap.size w
  clear z1 z2
  have HSX := Lib.hid (fun w' (k : Below w.heap.size w w') => (show SrcAt w' (.slice a1 n1 c1) n1 (flat xs) by have h := (HX1.out w' k).src HIN1.out.none (c := c1); rwa [← HN1.out] at h))
  have HFX := Lib.hid (show (flat xs).length = n1 * 2 by rw [flat_length, ← HN1.out])
  have HSY := Lib.hid (fun w' (k : Below w.heap.size w w') => (show SrcAt w' (.slice a2 n2 c2) n2 (flat ys) by have h := (HX2.out w' k).src HIN2.out.none (c := c2); rwa [← HN2.out] at h))
  have HFY := Lib.hid (show (flat ys).length = n2 * 2 by rw [flat_length, ← HN2.out])
  obtain ⟨i0, hi, hz0, hz1, hz2⟩ := info_parts Try.infoS
  have HI0 := Lib.hid (And.intro hi (And.intro hz0 (And.intro hz1 hz2)))
  clear hi hz0 hz1 hz2
  obtain ⟨nn, hnn'⟩ : ∃ nn, nn = (xs ++ ys).length := ⟨_, rfl⟩
  have HNN := Lib.hid hnn'
  have HSUM := Lib.hid (show nn = n1 + n2 by rw [hnn', List.length_append, hn1, hn2])
  clear hnn'
  obtain ⟨hp0, hp1⟩ := hp
  obtain ⟨hd0, hd1⟩ := hd
  by_cases hs : n1 ≤ 60 ∧ n2 ≤ 60
  · have SH : Hid (∀ w0 : World, Calls Try.prog 11 #[.slice (some ⟨w0.heap.size, 0, none⟩) 2 2] (w0.alloc (.cells #[.slice a1 n1 c1, .slice a2 n2 c2] 22)) fun r w' => r = .returned (.bool true) ∧ Below w0.heap.size w0 w') := fun w0 => (short_new [(a1, n1, c1), (a2, n2, c2)] w0 22 (by simp)).mono fun r w' ⟨hr, hw⟩ => ⟨hr.trans (ret_bool (by simp only [List.all_cons, List.all_nil, Bool.and_true]; first | (simp only [Bool.and_eq_true, decide_eq_true_eq]; exact hs) | (rw [Bool.eq_false_iff]; intro h; simp only [Bool.and_eq_true, decide_eq_true_eq] at h; exact hs h))), hw⟩
    obtain ⟨g1, g2⟩ := hs
    clear hn1 hn2
    by_cases h0 : nn = 0
    · have hpos : ¬ (0 : Int) < (nn : Int) := by omega
      clear h0
      go_enter Try.func5, Try.ntmps5
      go_upto_region 11 with (first
        | (go_at_call 10; (with_reducible refine (head_any _).mono ?_); rintro _ wh ⟨rfl, kh⟩; replace hb := hb.trans (kh.mono hb.size); clear kh)
        | (go_at_call 11; (with_reducible refine (SH.out _).mono ?_); rintro _ ws ⟨rfl, ks⟩; replace hb := hb.trans (ks.mono hb.size); clear ks)
        | (at_builtin; refine wpList_append_src rfl _ _ 22 rfl w.heap.size 33 i0 (.agg #[.int .i64 0, .int .i64 0]) 2 16 Try.underS HI0.out.1 HI0.out.2.1 HI0.out.2.2.1 HI0.out.2.2.2 rfl (by decide) _ 0 [] rfl (World.ownsRow_made _ #[] 0 hb.size (Nat.zero_le _) rfl) _ n1 (flat xs) rfl (HSX.out _ (hb.trans ((alloc_below _ _).mono hb.size))) HFX.out (flat_cell1 _) (by unfold maxLen; omega) (by omega) (Nat.le_trans hb.size (alloc_below _ _).size) ?_; intro v1 w1 hown1 hgrow1; have HO1 := Lib.hid hown1; have hb1 := (hb.trans ((alloc_below _ _).mono hb.size)).grown hgrow1 (Nat.le_trans hb.size (alloc_below _ _).size) (fun k hk => by cases hk; exact hb.size); clear hgrow1 hown1)
        | (at_builtin; refine wpList_append_src rfl _ _ 22 rfl w.heap.size 33 i0 (.agg #[.int .i64 0, .int .i64 0]) 2 16 Try.underS HI0.out.1 HI0.out.2.1 HI0.out.2.2.1 HI0.out.2.2.2 rfl (by decide) _ (0 + n1) ([] ++ flat xs) rfl HO1.out _ n2 (flat ys) rfl (HSY.out _ hb1) HFY.out (flat_cell1 _) (by unfold maxLen; omega) (by omega) hb1.size ?_; intro v2 w2 hown2 hgrow2; replace hb := hb1.grown hgrow2 hb1.size (fun k hk => (HO1.out.lt k hk).1); obtain ⟨a3, c3, rfl, z3, -, -⟩ := RowS.cap (l := xs ++ ys) (RowS.of2 HN1.out HN2.out hown2); rw [← HNN.out]; clear hown2 hgrow2 z3 hb1 HO1))
      obtain ⟨x, hx⟩ : ∃ x, x = has xs (q) := ⟨_, rfl⟩
      obtain ⟨y, hy⟩ : ∃ y, y = has ys (q) := ⟨_, rfl⟩
      have H_x := Lib.hid hx
      have H_y := Lib.hid hy
      clear hx hy
      have V_0 : Hid (∀ a c w, SpansAt a xs w → Calls Try.prog 23 #[.slice a n1 c, .int .i64 (q)] w fun r w' => r = .returned (.bool (x)) ∧ Below w.heap.size w w') := fun a c w z => (has_at HN1.out (Nat.le_trans g1 (by decide)) (q) a c w z).mono fun r w' ⟨hr, hw⟩ => ⟨hr.trans (ret_bool H_x.out.symm), hw⟩
      have V_1 : Hid (∀ a c w, SpansAt a ys w → Calls Try.prog 23 #[.slice a n2 c, .int .i64 (q)] w fun r w' => r = .returned (.bool (y)) ∧ Below w.heap.size w w') := fun a c w z => (has_at HN2.out (Nat.le_trans g2 (by decide)) (q) a c w z).mono fun r w' ⟨hr, hw⟩ => ⟨hr.trans (ret_bool H_y.out.symm), hw⟩
      obtain ⟨n_e0, h'_e0⟩ : ∃ n, Ln n (union xs ys) := ⟨_, rfl⟩
      have h_e0 := Lib.hid h'_e0
      have b_e0 := Lib.hid (show n_e0 ≤ 120 from union_bd h_e0.out HN1.out HN2.out g1 g2)
      clear h'_e0
      have C_e0 := Lib.hid (union_at HN1.out HN2.out h_e0.out (Nat.le_trans g1 (by decide)) (Nat.le_trans g2 (by decide)))
      have V_3 : Hid (∀ a c w, SpansAt a (union xs ys) w → Calls Try.prog 23 #[.slice a n_e0 c, .int .i64 (q)] w fun r w' => r = .returned (.bool (x || y)) ∧ Below w.heap.size w w') := fun a c w z => (has_at h_e0.out (Nat.le_trans b_e0.out (by decide)) (q) a c w z).mono fun r w' ⟨hr, hw⟩ => ⟨hr.trans (ret_bool (by rw [has_or, ← H_x.out, ← H_y.out])), hw⟩
      obtain ⟨n_e1, h'_e1⟩ : ∃ n, Ln n (meet xs ys) := ⟨_, rfl⟩
      have h_e1 := Lib.hid h'_e1
      have b_e1 := Lib.hid (show n_e1 ≤ 120 from meet_bd h_e1.out HN1.out HN2.out g1 g2)
      clear h'_e1
      have C_e1 := Lib.hid (meet_at HN1.out HN2.out h_e1.out (Nat.le_trans g1 (by decide)) (Nat.le_trans g2 (by decide)))
      have V_5 : Hid (∀ a c w, SpansAt a (meet xs ys) w → Calls Try.prog 23 #[.slice a n_e1 c, .int .i64 (q)] w fun r w' => r = .returned (.bool (x && y)) ∧ Below w.heap.size w w') := fun a c w z => (has_at h_e1.out (Nat.le_trans b_e1.out (by decide)) (q) a c w z).mono fun r w' ⟨hr, hw⟩ => ⟨hr.trans (ret_bool (by rw [has_and, ← H_x.out, ← H_y.out])), hw⟩
      obtain ⟨n_e2, h'_e2⟩ : ∃ n, Ln n (minus xs ys) := ⟨_, rfl⟩
      have h_e2 := Lib.hid h'_e2
      have b_e2 := Lib.hid (show n_e2 ≤ 120 from minus_bd h_e2.out HN1.out HN2.out g1 g2)
      clear h'_e2
      have C_e2 := Lib.hid (minus_at HN1.out HN2.out h_e2.out (Nat.le_trans g1 (by decide)) (Nat.le_trans g2 (by decide)))
      have V_7 : Hid (∀ a c w, SpansAt a (minus xs ys) w → Calls Try.prog 23 #[.slice a n_e2 c, .int .i64 (q)] w fun r w' => r = .returned (.bool (x && !y)) ∧ Below w.heap.size w w') := fun a c w z => (has_at h_e2.out (Nat.le_trans b_e2.out (by decide)) (q) a c w z).mono fun r w' ⟨hr, hw⟩ => ⟨hr.trans (ret_bool (by rw [has_not, ← H_x.out, ← H_y.out])), hw⟩
      clear H_x H_y HSX HSY HFX HFY HI0
      cases x <;> cases y
      all_goals (
        go_wp2_with (first
          | (go_at_call 23; (with_reducible refine (V_0.out _ _ _ (HX1.out _ hb)).mono ?_); rintro _ w_v0 ⟨rfl, k_v0⟩; replace hb := hb.trans (k_v0.mono hb.size); (try replace z_e0 := z_e0.below k_v0); (try replace z_e1 := z_e1.below k_v0); (try replace z_e2 := z_e2.below k_v0); clear k_v0)
          | (go_at_call 23; (with_reducible refine (V_1.out _ _ _ (HX2.out _ hb)).mono ?_); rintro _ w_v1 ⟨rfl, k_v1⟩; replace hb := hb.trans (k_v1.mono hb.size); (try replace z_e0 := z_e0.below k_v1); (try replace z_e1 := z_e1.below k_v1); (try replace z_e2 := z_e2.below k_v1); clear k_v1)
          | (go_at_call 17; (with_reducible refine (C_e0.out _ _ _ _ _ (HX1.out _ hb) (HX2.out _ hb)).mono ?_); rintro _ w_e0 ⟨a_e0, c_e0, rfl, z_e0, k_e0⟩; replace hb := hb.trans (k_e0.mono hb.size); (try replace z_e1 := z_e1.below k_e0); (try replace z_e2 := z_e2.below k_e0); clear k_e0)
          | (go_at_call 23; (with_reducible refine (V_3.out _ _ _ z_e0).mono ?_); rintro _ w_v3 ⟨rfl, k_v3⟩; replace hb := hb.trans (k_v3.mono hb.size); (try replace z_e0 := z_e0.below k_v3); (try replace z_e1 := z_e1.below k_v3); (try replace z_e2 := z_e2.below k_v3); clear k_v3)
          | (go_at_call 19; (with_reducible refine (C_e1.out _ _ _ _ _ (HX1.out _ hb) (HX2.out _ hb)).mono ?_); rintro _ w_e1 ⟨a_e1, c_e1, rfl, z_e1, k_e1⟩; replace hb := hb.trans (k_e1.mono hb.size); (try replace z_e0 := z_e0.below k_e1); (try replace z_e2 := z_e2.below k_e1); clear k_e1)
          | (go_at_call 23; (with_reducible refine (V_5.out _ _ _ z_e1).mono ?_); rintro _ w_v5 ⟨rfl, k_v5⟩; replace hb := hb.trans (k_v5.mono hb.size); (try replace z_e0 := z_e0.below k_v5); (try replace z_e1 := z_e1.below k_v5); (try replace z_e2 := z_e2.below k_v5); clear k_v5)
          | (go_at_call 21; (with_reducible refine (C_e2.out _ _ _ _ _ (HX1.out _ hb) (HX2.out _ hb)).mono ?_); rintro _ w_e2 ⟨a_e2, c_e2, rfl, z_e2, k_e2⟩; replace hb := hb.trans (k_e2.mono hb.size); (try replace z_e0 := z_e0.below k_e2); (try replace z_e1 := z_e1.below k_e2); clear k_e2)
          | (go_at_call 23; (with_reducible refine (V_7.out _ _ _ z_e2).mono ?_); rintro _ w_v7 ⟨rfl, k_v7⟩; replace hb := hb.trans (k_v7.mono hb.size); (try replace z_e0 := z_e0.below k_v7); (try replace z_e1 := z_e1.below k_v7); (try replace z_e2 := z_e2.below k_v7); clear k_v7))
        go_ret
        exact ⟨rfl, hb⟩)
    · have hpos : (0 : Int) < (nn : Int) := by omega
      obtain ⟨j, hj⟩ : ∃ j : Nat, p % (nn : Int) = (j : Int) := ⟨(p % (nn : Int)).toNat, (Int.toNat_of_nonneg (Int.emod_nonneg _ (by omega))).symm⟩
      have hjl : (j : Int) < (nn : Int) := by rw [← hj]; exact Int.emod_lt_of_pos _ hpos
      have hj0 : (0 : Int) ≤ (j : Int) := by omega
      obtain ⟨⟨f, t⟩, hs⟩ : ∃ s, (xs ++ ys)[j]? = some s := ⟨_, List.getElem?_eq_getElem (by have := HNN.out; omega)⟩
      have HJ := Lib.hid hs
      clear hs h0
      by_cases q1 : -2 < d
      · by_cases q2 : d < 2
        · by_cases q3 : Far f t
          · have FAR : Hid (∀ w, Calls Try.prog 27 #[sv f t] w fun r w' => r = .returned (.bool true) ∧ Below w.heap.size w w') := fun w => (far_any f t w).mono fun r w' ⟨hr, hw⟩ => ⟨hr.trans (ret_bool (decide_eq_true q3)), hw⟩
            obtain ⟨u1, u2, u3, u4⟩ := q3
            have hwf := IntWalk.i64_in (f + d) (by omega)
            have hwt := IntWalk.i64_in (t + d) (by omega)
            clear u1 u2 u3 u4
            by_cases q4 : p % 2 = 0
            · have q5 : (p % 2 == 0) = true := by rw [q4]; rfl
              go_enter Try.func5, Try.ntmps5
              go_upto_region 11 with (first
                | (go_at_call 10; (with_reducible refine (head_any _).mono ?_); rintro _ wh ⟨rfl, kh⟩; replace hb := hb.trans (kh.mono hb.size); clear kh)
                | (go_at_call 11; (with_reducible refine (SH.out _).mono ?_); rintro _ ws ⟨rfl, ks⟩; replace hb := hb.trans (ks.mono hb.size); clear ks)
                | (at_builtin; refine wpList_append_src rfl _ _ 22 rfl w.heap.size 33 i0 (.agg #[.int .i64 0, .int .i64 0]) 2 16 Try.underS HI0.out.1 HI0.out.2.1 HI0.out.2.2.1 HI0.out.2.2.2 rfl (by decide) _ 0 [] rfl (World.ownsRow_made _ #[] 0 hb.size (Nat.zero_le _) rfl) _ n1 (flat xs) rfl (HSX.out _ (hb.trans ((alloc_below _ _).mono hb.size))) HFX.out (flat_cell1 _) (by unfold maxLen; omega) (by omega) (Nat.le_trans hb.size (alloc_below _ _).size) ?_; intro v1 w1 hown1 hgrow1; have HO1 := Lib.hid hown1; have hb1 := (hb.trans ((alloc_below _ _).mono hb.size)).grown hgrow1 (Nat.le_trans hb.size (alloc_below _ _).size) (fun k hk => by cases hk; exact hb.size); clear hgrow1 hown1)
                | (at_builtin; refine wpList_append_src rfl _ _ 22 rfl w.heap.size 33 i0 (.agg #[.int .i64 0, .int .i64 0]) 2 16 Try.underS HI0.out.1 HI0.out.2.1 HI0.out.2.2.1 HI0.out.2.2.2 rfl (by decide) _ (0 + n1) ([] ++ flat xs) rfl HO1.out _ n2 (flat ys) rfl (HSY.out _ hb1) HFY.out (flat_cell1 _) (by unfold maxLen; omega) (by omega) hb1.size ?_; intro v2 w2 hown2 hgrow2; replace hb := hb1.grown hgrow2 hb1.size (fun k hk => (HO1.out.lt k hk).1); obtain ⟨a3, c3, rfl, z3, -, -⟩ := RowS.cap (l := xs ++ ys) (RowS.of2 HN1.out HN2.out hown2); rw [← HNN.out]; obtain ⟨b3, o3, rfl, s1, s2⟩ := z3 j _ HJ.out; clear hown2 hgrow2 z3 hb1 HO1)
                | (go_at_call 27; (with_reducible refine (FAR.out _).mono ?_); rintro _ w_f ⟨rfl, kf⟩; have e1 := box_fst kf; have e2 := box_snd kf; replace hb := hb.trans ((box_below kf).mono hb.size); clear kf s1 s2))
              obtain ⟨x, hx⟩ : ∃ x, x = has xs (t + d) := ⟨_, rfl⟩
              obtain ⟨y, hy⟩ : ∃ y, y = has ys (t + d) := ⟨_, rfl⟩
              have H_x := Lib.hid hx
              have H_y := Lib.hid hy
              clear hx hy
              have V_0 : Hid (∀ a c w, SpansAt a xs w → Calls Try.prog 23 #[.slice a n1 c, .int .i64 (t + d)] w fun r w' => r = .returned (.bool (x)) ∧ Below w.heap.size w w') := fun a c w z => (has_at HN1.out (Nat.le_trans g1 (by decide)) (t + d) a c w z).mono fun r w' ⟨hr, hw⟩ => ⟨hr.trans (ret_bool H_x.out.symm), hw⟩
              have V_1 : Hid (∀ a c w, SpansAt a ys w → Calls Try.prog 23 #[.slice a n2 c, .int .i64 (t + d)] w fun r w' => r = .returned (.bool (y)) ∧ Below w.heap.size w w') := fun a c w z => (has_at HN2.out (Nat.le_trans g2 (by decide)) (t + d) a c w z).mono fun r w' ⟨hr, hw⟩ => ⟨hr.trans (ret_bool H_y.out.symm), hw⟩
              obtain ⟨n_e0, h'_e0⟩ : ∃ n, Ln n (union xs ys) := ⟨_, rfl⟩
              have h_e0 := Lib.hid h'_e0
              have b_e0 := Lib.hid (show n_e0 ≤ 120 from union_bd h_e0.out HN1.out HN2.out g1 g2)
              clear h'_e0
              have C_e0 := Lib.hid (union_at HN1.out HN2.out h_e0.out (Nat.le_trans g1 (by decide)) (Nat.le_trans g2 (by decide)))
              have V_3 : Hid (∀ a c w, SpansAt a (union xs ys) w → Calls Try.prog 23 #[.slice a n_e0 c, .int .i64 (t + d)] w fun r w' => r = .returned (.bool (x || y)) ∧ Below w.heap.size w w') := fun a c w z => (has_at h_e0.out (Nat.le_trans b_e0.out (by decide)) (t + d) a c w z).mono fun r w' ⟨hr, hw⟩ => ⟨hr.trans (ret_bool (by rw [has_or, ← H_x.out, ← H_y.out])), hw⟩
              obtain ⟨n_e1, h'_e1⟩ : ∃ n, Ln n (meet xs ys) := ⟨_, rfl⟩
              have h_e1 := Lib.hid h'_e1
              have b_e1 := Lib.hid (show n_e1 ≤ 120 from meet_bd h_e1.out HN1.out HN2.out g1 g2)
              clear h'_e1
              have C_e1 := Lib.hid (meet_at HN1.out HN2.out h_e1.out (Nat.le_trans g1 (by decide)) (Nat.le_trans g2 (by decide)))
              have V_5 : Hid (∀ a c w, SpansAt a (meet xs ys) w → Calls Try.prog 23 #[.slice a n_e1 c, .int .i64 (t + d)] w fun r w' => r = .returned (.bool (x && y)) ∧ Below w.heap.size w w') := fun a c w z => (has_at h_e1.out (Nat.le_trans b_e1.out (by decide)) (t + d) a c w z).mono fun r w' ⟨hr, hw⟩ => ⟨hr.trans (ret_bool (by rw [has_and, ← H_x.out, ← H_y.out])), hw⟩
              obtain ⟨n_e2, h'_e2⟩ : ∃ n, Ln n (minus xs ys) := ⟨_, rfl⟩
              have h_e2 := Lib.hid h'_e2
              have b_e2 := Lib.hid (show n_e2 ≤ 120 from minus_bd h_e2.out HN1.out HN2.out g1 g2)
              clear h'_e2
              have C_e2 := Lib.hid (minus_at HN1.out HN2.out h_e2.out (Nat.le_trans g1 (by decide)) (Nat.le_trans g2 (by decide)))
              have V_7 : Hid (∀ a c w, SpansAt a (minus xs ys) w → Calls Try.prog 23 #[.slice a n_e2 c, .int .i64 (t + d)] w fun r w' => r = .returned (.bool (x && !y)) ∧ Below w.heap.size w w') := fun a c w z => (has_at h_e2.out (Nat.le_trans b_e2.out (by decide)) (t + d) a c w z).mono fun r w' ⟨hr, hw⟩ => ⟨hr.trans (ret_bool (by rw [has_not, ← H_x.out, ← H_y.out])), hw⟩
              clear H_x H_y HSX HSY HFX HFY HI0
              cases x <;> cases y
              all_goals (
                go_wp2_with (first
                  | (go_at_call 23; (with_reducible refine (V_0.out _ _ _ (HX1.out _ hb)).mono ?_); rintro _ w_v0 ⟨rfl, k_v0⟩; replace hb := hb.trans (k_v0.mono hb.size); (try replace z_e0 := z_e0.below k_v0); (try replace z_e1 := z_e1.below k_v0); (try replace z_e2 := z_e2.below k_v0); clear k_v0)
                  | (go_at_call 23; (with_reducible refine (V_1.out _ _ _ (HX2.out _ hb)).mono ?_); rintro _ w_v1 ⟨rfl, k_v1⟩; replace hb := hb.trans (k_v1.mono hb.size); (try replace z_e0 := z_e0.below k_v1); (try replace z_e1 := z_e1.below k_v1); (try replace z_e2 := z_e2.below k_v1); clear k_v1)
                  | (go_at_call 17; (with_reducible refine (C_e0.out _ _ _ _ _ (HX1.out _ hb) (HX2.out _ hb)).mono ?_); rintro _ w_e0 ⟨a_e0, c_e0, rfl, z_e0, k_e0⟩; replace hb := hb.trans (k_e0.mono hb.size); (try replace z_e1 := z_e1.below k_e0); (try replace z_e2 := z_e2.below k_e0); clear k_e0)
                  | (go_at_call 23; (with_reducible refine (V_3.out _ _ _ z_e0).mono ?_); rintro _ w_v3 ⟨rfl, k_v3⟩; replace hb := hb.trans (k_v3.mono hb.size); (try replace z_e0 := z_e0.below k_v3); (try replace z_e1 := z_e1.below k_v3); (try replace z_e2 := z_e2.below k_v3); clear k_v3)
                  | (go_at_call 19; (with_reducible refine (C_e1.out _ _ _ _ _ (HX1.out _ hb) (HX2.out _ hb)).mono ?_); rintro _ w_e1 ⟨a_e1, c_e1, rfl, z_e1, k_e1⟩; replace hb := hb.trans (k_e1.mono hb.size); (try replace z_e0 := z_e0.below k_e1); (try replace z_e2 := z_e2.below k_e1); clear k_e1)
                  | (go_at_call 23; (with_reducible refine (V_5.out _ _ _ z_e1).mono ?_); rintro _ w_v5 ⟨rfl, k_v5⟩; replace hb := hb.trans (k_v5.mono hb.size); (try replace z_e0 := z_e0.below k_v5); (try replace z_e1 := z_e1.below k_v5); (try replace z_e2 := z_e2.below k_v5); clear k_v5)
                  | (go_at_call 21; (with_reducible refine (C_e2.out _ _ _ _ _ (HX1.out _ hb) (HX2.out _ hb)).mono ?_); rintro _ w_e2 ⟨a_e2, c_e2, rfl, z_e2, k_e2⟩; replace hb := hb.trans (k_e2.mono hb.size); (try replace z_e0 := z_e0.below k_e2); (try replace z_e1 := z_e1.below k_e2); clear k_e2)
                  | (go_at_call 23; (with_reducible refine (V_7.out _ _ _ z_e2).mono ?_); rintro _ w_v7 ⟨rfl, k_v7⟩; replace hb := hb.trans (k_v7.mono hb.size); (try replace z_e0 := z_e0.below k_v7); (try replace z_e1 := z_e1.below k_v7); (try replace z_e2 := z_e2.below k_v7); clear k_v7))
                go_ret
                exact ⟨rfl, hb⟩)
            · have q5 : (p % 2 == 0) = false := by simpa using q4
              go_enter Try.func5, Try.ntmps5
              go_upto_region 11 with (first
                | (go_at_call 10; (with_reducible refine (head_any _).mono ?_); rintro _ wh ⟨rfl, kh⟩; replace hb := hb.trans (kh.mono hb.size); clear kh)
                | (go_at_call 11; (with_reducible refine (SH.out _).mono ?_); rintro _ ws ⟨rfl, ks⟩; replace hb := hb.trans (ks.mono hb.size); clear ks)
                | (at_builtin; refine wpList_append_src rfl _ _ 22 rfl w.heap.size 33 i0 (.agg #[.int .i64 0, .int .i64 0]) 2 16 Try.underS HI0.out.1 HI0.out.2.1 HI0.out.2.2.1 HI0.out.2.2.2 rfl (by decide) _ 0 [] rfl (World.ownsRow_made _ #[] 0 hb.size (Nat.zero_le _) rfl) _ n1 (flat xs) rfl (HSX.out _ (hb.trans ((alloc_below _ _).mono hb.size))) HFX.out (flat_cell1 _) (by unfold maxLen; omega) (by omega) (Nat.le_trans hb.size (alloc_below _ _).size) ?_; intro v1 w1 hown1 hgrow1; have HO1 := Lib.hid hown1; have hb1 := (hb.trans ((alloc_below _ _).mono hb.size)).grown hgrow1 (Nat.le_trans hb.size (alloc_below _ _).size) (fun k hk => by cases hk; exact hb.size); clear hgrow1 hown1)
                | (at_builtin; refine wpList_append_src rfl _ _ 22 rfl w.heap.size 33 i0 (.agg #[.int .i64 0, .int .i64 0]) 2 16 Try.underS HI0.out.1 HI0.out.2.1 HI0.out.2.2.1 HI0.out.2.2.2 rfl (by decide) _ (0 + n1) ([] ++ flat xs) rfl HO1.out _ n2 (flat ys) rfl (HSY.out _ hb1) HFY.out (flat_cell1 _) (by unfold maxLen; omega) (by omega) hb1.size ?_; intro v2 w2 hown2 hgrow2; replace hb := hb1.grown hgrow2 hb1.size (fun k hk => (HO1.out.lt k hk).1); obtain ⟨a3, c3, rfl, z3, -, -⟩ := RowS.cap (l := xs ++ ys) (RowS.of2 HN1.out HN2.out hown2); rw [← HNN.out]; obtain ⟨b3, o3, rfl, s1, s2⟩ := z3 j _ HJ.out; clear hown2 hgrow2 z3 hb1 HO1)
                | (go_at_call 27; (with_reducible refine (FAR.out _).mono ?_); rintro _ w_f ⟨rfl, kf⟩; have e1 := box_fst kf; have e2 := box_snd kf; replace hb := hb.trans ((box_below kf).mono hb.size); clear kf s1 s2))
              obtain ⟨x, hx⟩ : ∃ x, x = has xs (f + d) := ⟨_, rfl⟩
              obtain ⟨y, hy⟩ : ∃ y, y = has ys (f + d) := ⟨_, rfl⟩
              have H_x := Lib.hid hx
              have H_y := Lib.hid hy
              clear hx hy
              have V_0 : Hid (∀ a c w, SpansAt a xs w → Calls Try.prog 23 #[.slice a n1 c, .int .i64 (f + d)] w fun r w' => r = .returned (.bool (x)) ∧ Below w.heap.size w w') := fun a c w z => (has_at HN1.out (Nat.le_trans g1 (by decide)) (f + d) a c w z).mono fun r w' ⟨hr, hw⟩ => ⟨hr.trans (ret_bool H_x.out.symm), hw⟩
              have V_1 : Hid (∀ a c w, SpansAt a ys w → Calls Try.prog 23 #[.slice a n2 c, .int .i64 (f + d)] w fun r w' => r = .returned (.bool (y)) ∧ Below w.heap.size w w') := fun a c w z => (has_at HN2.out (Nat.le_trans g2 (by decide)) (f + d) a c w z).mono fun r w' ⟨hr, hw⟩ => ⟨hr.trans (ret_bool H_y.out.symm), hw⟩
              obtain ⟨n_e0, h'_e0⟩ : ∃ n, Ln n (union xs ys) := ⟨_, rfl⟩
              have h_e0 := Lib.hid h'_e0
              have b_e0 := Lib.hid (show n_e0 ≤ 120 from union_bd h_e0.out HN1.out HN2.out g1 g2)
              clear h'_e0
              have C_e0 := Lib.hid (union_at HN1.out HN2.out h_e0.out (Nat.le_trans g1 (by decide)) (Nat.le_trans g2 (by decide)))
              have V_3 : Hid (∀ a c w, SpansAt a (union xs ys) w → Calls Try.prog 23 #[.slice a n_e0 c, .int .i64 (f + d)] w fun r w' => r = .returned (.bool (x || y)) ∧ Below w.heap.size w w') := fun a c w z => (has_at h_e0.out (Nat.le_trans b_e0.out (by decide)) (f + d) a c w z).mono fun r w' ⟨hr, hw⟩ => ⟨hr.trans (ret_bool (by rw [has_or, ← H_x.out, ← H_y.out])), hw⟩
              obtain ⟨n_e1, h'_e1⟩ : ∃ n, Ln n (meet xs ys) := ⟨_, rfl⟩
              have h_e1 := Lib.hid h'_e1
              have b_e1 := Lib.hid (show n_e1 ≤ 120 from meet_bd h_e1.out HN1.out HN2.out g1 g2)
              clear h'_e1
              have C_e1 := Lib.hid (meet_at HN1.out HN2.out h_e1.out (Nat.le_trans g1 (by decide)) (Nat.le_trans g2 (by decide)))
              have V_5 : Hid (∀ a c w, SpansAt a (meet xs ys) w → Calls Try.prog 23 #[.slice a n_e1 c, .int .i64 (f + d)] w fun r w' => r = .returned (.bool (x && y)) ∧ Below w.heap.size w w') := fun a c w z => (has_at h_e1.out (Nat.le_trans b_e1.out (by decide)) (f + d) a c w z).mono fun r w' ⟨hr, hw⟩ => ⟨hr.trans (ret_bool (by rw [has_and, ← H_x.out, ← H_y.out])), hw⟩
              obtain ⟨n_e2, h'_e2⟩ : ∃ n, Ln n (minus xs ys) := ⟨_, rfl⟩
              have h_e2 := Lib.hid h'_e2
              have b_e2 := Lib.hid (show n_e2 ≤ 120 from minus_bd h_e2.out HN1.out HN2.out g1 g2)
              clear h'_e2
              have C_e2 := Lib.hid (minus_at HN1.out HN2.out h_e2.out (Nat.le_trans g1 (by decide)) (Nat.le_trans g2 (by decide)))
              have V_7 : Hid (∀ a c w, SpansAt a (minus xs ys) w → Calls Try.prog 23 #[.slice a n_e2 c, .int .i64 (f + d)] w fun r w' => r = .returned (.bool (x && !y)) ∧ Below w.heap.size w w') := fun a c w z => (has_at h_e2.out (Nat.le_trans b_e2.out (by decide)) (f + d) a c w z).mono fun r w' ⟨hr, hw⟩ => ⟨hr.trans (ret_bool (by rw [has_not, ← H_x.out, ← H_y.out])), hw⟩
              clear H_x H_y HSX HSY HFX HFY HI0
              cases x <;> cases y
              all_goals (
                go_wp2_with (first
                  | (go_at_call 23; (with_reducible refine (V_0.out _ _ _ (HX1.out _ hb)).mono ?_); rintro _ w_v0 ⟨rfl, k_v0⟩; replace hb := hb.trans (k_v0.mono hb.size); (try replace z_e0 := z_e0.below k_v0); (try replace z_e1 := z_e1.below k_v0); (try replace z_e2 := z_e2.below k_v0); clear k_v0)
                  | (go_at_call 23; (with_reducible refine (V_1.out _ _ _ (HX2.out _ hb)).mono ?_); rintro _ w_v1 ⟨rfl, k_v1⟩; replace hb := hb.trans (k_v1.mono hb.size); (try replace z_e0 := z_e0.below k_v1); (try replace z_e1 := z_e1.below k_v1); (try replace z_e2 := z_e2.below k_v1); clear k_v1)
                  | (go_at_call 17; (with_reducible refine (C_e0.out _ _ _ _ _ (HX1.out _ hb) (HX2.out _ hb)).mono ?_); rintro _ w_e0 ⟨a_e0, c_e0, rfl, z_e0, k_e0⟩; replace hb := hb.trans (k_e0.mono hb.size); (try replace z_e1 := z_e1.below k_e0); (try replace z_e2 := z_e2.below k_e0); clear k_e0)
                  | (go_at_call 23; (with_reducible refine (V_3.out _ _ _ z_e0).mono ?_); rintro _ w_v3 ⟨rfl, k_v3⟩; replace hb := hb.trans (k_v3.mono hb.size); (try replace z_e0 := z_e0.below k_v3); (try replace z_e1 := z_e1.below k_v3); (try replace z_e2 := z_e2.below k_v3); clear k_v3)
                  | (go_at_call 19; (with_reducible refine (C_e1.out _ _ _ _ _ (HX1.out _ hb) (HX2.out _ hb)).mono ?_); rintro _ w_e1 ⟨a_e1, c_e1, rfl, z_e1, k_e1⟩; replace hb := hb.trans (k_e1.mono hb.size); (try replace z_e0 := z_e0.below k_e1); (try replace z_e2 := z_e2.below k_e1); clear k_e1)
                  | (go_at_call 23; (with_reducible refine (V_5.out _ _ _ z_e1).mono ?_); rintro _ w_v5 ⟨rfl, k_v5⟩; replace hb := hb.trans (k_v5.mono hb.size); (try replace z_e0 := z_e0.below k_v5); (try replace z_e1 := z_e1.below k_v5); (try replace z_e2 := z_e2.below k_v5); clear k_v5)
                  | (go_at_call 21; (with_reducible refine (C_e2.out _ _ _ _ _ (HX1.out _ hb) (HX2.out _ hb)).mono ?_); rintro _ w_e2 ⟨a_e2, c_e2, rfl, z_e2, k_e2⟩; replace hb := hb.trans (k_e2.mono hb.size); (try replace z_e0 := z_e0.below k_e2); (try replace z_e1 := z_e1.below k_e2); clear k_e2)
                  | (go_at_call 23; (with_reducible refine (V_7.out _ _ _ z_e2).mono ?_); rintro _ w_v7 ⟨rfl, k_v7⟩; replace hb := hb.trans (k_v7.mono hb.size); (try replace z_e0 := z_e0.below k_v7); (try replace z_e1 := z_e1.below k_v7); (try replace z_e2 := z_e2.below k_v7); clear k_v7))
                go_ret
                exact ⟨rfl, hb⟩)
          · have FAR : Hid (∀ w, Calls Try.prog 27 #[sv f t] w fun r w' => r = .returned (.bool false) ∧ Below w.heap.size w w') := fun w => (far_any f t w).mono fun r w' ⟨hr, hw⟩ => ⟨hr.trans (ret_bool (decide_eq_false q3)), hw⟩
            clear q3
            go_enter Try.func5, Try.ntmps5
            go_upto_region 11 with (first
              | (go_at_call 10; (with_reducible refine (head_any _).mono ?_); rintro _ wh ⟨rfl, kh⟩; replace hb := hb.trans (kh.mono hb.size); clear kh)
              | (go_at_call 11; (with_reducible refine (SH.out _).mono ?_); rintro _ ws ⟨rfl, ks⟩; replace hb := hb.trans (ks.mono hb.size); clear ks)
              | (at_builtin; refine wpList_append_src rfl _ _ 22 rfl w.heap.size 33 i0 (.agg #[.int .i64 0, .int .i64 0]) 2 16 Try.underS HI0.out.1 HI0.out.2.1 HI0.out.2.2.1 HI0.out.2.2.2 rfl (by decide) _ 0 [] rfl (World.ownsRow_made _ #[] 0 hb.size (Nat.zero_le _) rfl) _ n1 (flat xs) rfl (HSX.out _ (hb.trans ((alloc_below _ _).mono hb.size))) HFX.out (flat_cell1 _) (by unfold maxLen; omega) (by omega) (Nat.le_trans hb.size (alloc_below _ _).size) ?_; intro v1 w1 hown1 hgrow1; have HO1 := Lib.hid hown1; have hb1 := (hb.trans ((alloc_below _ _).mono hb.size)).grown hgrow1 (Nat.le_trans hb.size (alloc_below _ _).size) (fun k hk => by cases hk; exact hb.size); clear hgrow1 hown1)
              | (at_builtin; refine wpList_append_src rfl _ _ 22 rfl w.heap.size 33 i0 (.agg #[.int .i64 0, .int .i64 0]) 2 16 Try.underS HI0.out.1 HI0.out.2.1 HI0.out.2.2.1 HI0.out.2.2.2 rfl (by decide) _ (0 + n1) ([] ++ flat xs) rfl HO1.out _ n2 (flat ys) rfl (HSY.out _ hb1) HFY.out (flat_cell1 _) (by unfold maxLen; omega) (by omega) hb1.size ?_; intro v2 w2 hown2 hgrow2; replace hb := hb1.grown hgrow2 hb1.size (fun k hk => (HO1.out.lt k hk).1); obtain ⟨a3, c3, rfl, z3, -, -⟩ := RowS.cap (l := xs ++ ys) (RowS.of2 HN1.out HN2.out hown2); rw [← HNN.out]; obtain ⟨b3, o3, rfl, s1, s2⟩ := z3 j _ HJ.out; clear hown2 hgrow2 z3 hb1 HO1)
              | (go_at_call 27; (with_reducible refine (FAR.out _).mono ?_); rintro _ w_f ⟨rfl, kf⟩; have e1 := box_fst kf; have e2 := box_snd kf; replace hb := hb.trans ((box_below kf).mono hb.size); clear kf s1 s2))
            obtain ⟨x, hx⟩ : ∃ x, x = has xs (q) := ⟨_, rfl⟩
            obtain ⟨y, hy⟩ : ∃ y, y = has ys (q) := ⟨_, rfl⟩
            have H_x := Lib.hid hx
            have H_y := Lib.hid hy
            clear hx hy
            have V_0 : Hid (∀ a c w, SpansAt a xs w → Calls Try.prog 23 #[.slice a n1 c, .int .i64 (q)] w fun r w' => r = .returned (.bool (x)) ∧ Below w.heap.size w w') := fun a c w z => (has_at HN1.out (Nat.le_trans g1 (by decide)) (q) a c w z).mono fun r w' ⟨hr, hw⟩ => ⟨hr.trans (ret_bool H_x.out.symm), hw⟩
            have V_1 : Hid (∀ a c w, SpansAt a ys w → Calls Try.prog 23 #[.slice a n2 c, .int .i64 (q)] w fun r w' => r = .returned (.bool (y)) ∧ Below w.heap.size w w') := fun a c w z => (has_at HN2.out (Nat.le_trans g2 (by decide)) (q) a c w z).mono fun r w' ⟨hr, hw⟩ => ⟨hr.trans (ret_bool H_y.out.symm), hw⟩
            obtain ⟨n_e0, h'_e0⟩ : ∃ n, Ln n (union xs ys) := ⟨_, rfl⟩
            have h_e0 := Lib.hid h'_e0
            have b_e0 := Lib.hid (show n_e0 ≤ 120 from union_bd h_e0.out HN1.out HN2.out g1 g2)
            clear h'_e0
            have C_e0 := Lib.hid (union_at HN1.out HN2.out h_e0.out (Nat.le_trans g1 (by decide)) (Nat.le_trans g2 (by decide)))
            have V_3 : Hid (∀ a c w, SpansAt a (union xs ys) w → Calls Try.prog 23 #[.slice a n_e0 c, .int .i64 (q)] w fun r w' => r = .returned (.bool (x || y)) ∧ Below w.heap.size w w') := fun a c w z => (has_at h_e0.out (Nat.le_trans b_e0.out (by decide)) (q) a c w z).mono fun r w' ⟨hr, hw⟩ => ⟨hr.trans (ret_bool (by rw [has_or, ← H_x.out, ← H_y.out])), hw⟩
            obtain ⟨n_e1, h'_e1⟩ : ∃ n, Ln n (meet xs ys) := ⟨_, rfl⟩
            have h_e1 := Lib.hid h'_e1
            have b_e1 := Lib.hid (show n_e1 ≤ 120 from meet_bd h_e1.out HN1.out HN2.out g1 g2)
            clear h'_e1
            have C_e1 := Lib.hid (meet_at HN1.out HN2.out h_e1.out (Nat.le_trans g1 (by decide)) (Nat.le_trans g2 (by decide)))
            have V_5 : Hid (∀ a c w, SpansAt a (meet xs ys) w → Calls Try.prog 23 #[.slice a n_e1 c, .int .i64 (q)] w fun r w' => r = .returned (.bool (x && y)) ∧ Below w.heap.size w w') := fun a c w z => (has_at h_e1.out (Nat.le_trans b_e1.out (by decide)) (q) a c w z).mono fun r w' ⟨hr, hw⟩ => ⟨hr.trans (ret_bool (by rw [has_and, ← H_x.out, ← H_y.out])), hw⟩
            obtain ⟨n_e2, h'_e2⟩ : ∃ n, Ln n (minus xs ys) := ⟨_, rfl⟩
            have h_e2 := Lib.hid h'_e2
            have b_e2 := Lib.hid (show n_e2 ≤ 120 from minus_bd h_e2.out HN1.out HN2.out g1 g2)
            clear h'_e2
            have C_e2 := Lib.hid (minus_at HN1.out HN2.out h_e2.out (Nat.le_trans g1 (by decide)) (Nat.le_trans g2 (by decide)))
            have V_7 : Hid (∀ a c w, SpansAt a (minus xs ys) w → Calls Try.prog 23 #[.slice a n_e2 c, .int .i64 (q)] w fun r w' => r = .returned (.bool (x && !y)) ∧ Below w.heap.size w w') := fun a c w z => (has_at h_e2.out (Nat.le_trans b_e2.out (by decide)) (q) a c w z).mono fun r w' ⟨hr, hw⟩ => ⟨hr.trans (ret_bool (by rw [has_not, ← H_x.out, ← H_y.out])), hw⟩
            clear H_x H_y HSX HSY HFX HFY HI0
            cases x <;> cases y
            all_goals (
              go_wp2_with (first
                | (go_at_call 23; (with_reducible refine (V_0.out _ _ _ (HX1.out _ hb)).mono ?_); rintro _ w_v0 ⟨rfl, k_v0⟩; replace hb := hb.trans (k_v0.mono hb.size); (try replace z_e0 := z_e0.below k_v0); (try replace z_e1 := z_e1.below k_v0); (try replace z_e2 := z_e2.below k_v0); clear k_v0)
                | (go_at_call 23; (with_reducible refine (V_1.out _ _ _ (HX2.out _ hb)).mono ?_); rintro _ w_v1 ⟨rfl, k_v1⟩; replace hb := hb.trans (k_v1.mono hb.size); (try replace z_e0 := z_e0.below k_v1); (try replace z_e1 := z_e1.below k_v1); (try replace z_e2 := z_e2.below k_v1); clear k_v1)
                | (go_at_call 17; (with_reducible refine (C_e0.out _ _ _ _ _ (HX1.out _ hb) (HX2.out _ hb)).mono ?_); rintro _ w_e0 ⟨a_e0, c_e0, rfl, z_e0, k_e0⟩; replace hb := hb.trans (k_e0.mono hb.size); (try replace z_e1 := z_e1.below k_e0); (try replace z_e2 := z_e2.below k_e0); clear k_e0)
                | (go_at_call 23; (with_reducible refine (V_3.out _ _ _ z_e0).mono ?_); rintro _ w_v3 ⟨rfl, k_v3⟩; replace hb := hb.trans (k_v3.mono hb.size); (try replace z_e0 := z_e0.below k_v3); (try replace z_e1 := z_e1.below k_v3); (try replace z_e2 := z_e2.below k_v3); clear k_v3)
                | (go_at_call 19; (with_reducible refine (C_e1.out _ _ _ _ _ (HX1.out _ hb) (HX2.out _ hb)).mono ?_); rintro _ w_e1 ⟨a_e1, c_e1, rfl, z_e1, k_e1⟩; replace hb := hb.trans (k_e1.mono hb.size); (try replace z_e0 := z_e0.below k_e1); (try replace z_e2 := z_e2.below k_e1); clear k_e1)
                | (go_at_call 23; (with_reducible refine (V_5.out _ _ _ z_e1).mono ?_); rintro _ w_v5 ⟨rfl, k_v5⟩; replace hb := hb.trans (k_v5.mono hb.size); (try replace z_e0 := z_e0.below k_v5); (try replace z_e1 := z_e1.below k_v5); (try replace z_e2 := z_e2.below k_v5); clear k_v5)
                | (go_at_call 21; (with_reducible refine (C_e2.out _ _ _ _ _ (HX1.out _ hb) (HX2.out _ hb)).mono ?_); rintro _ w_e2 ⟨a_e2, c_e2, rfl, z_e2, k_e2⟩; replace hb := hb.trans (k_e2.mono hb.size); (try replace z_e0 := z_e0.below k_e2); (try replace z_e1 := z_e1.below k_e2); clear k_e2)
                | (go_at_call 23; (with_reducible refine (V_7.out _ _ _ z_e2).mono ?_); rintro _ w_v7 ⟨rfl, k_v7⟩; replace hb := hb.trans (k_v7.mono hb.size); (try replace z_e0 := z_e0.below k_v7); (try replace z_e1 := z_e1.below k_v7); (try replace z_e2 := z_e2.below k_v7); clear k_v7))
              go_ret
              exact ⟨rfl, hb⟩)
        · skip
          go_enter Try.func5, Try.ntmps5
          go_upto_region 11 with (first
            | (go_at_call 10; (with_reducible refine (head_any _).mono ?_); rintro _ wh ⟨rfl, kh⟩; replace hb := hb.trans (kh.mono hb.size); clear kh)
            | (go_at_call 11; (with_reducible refine (SH.out _).mono ?_); rintro _ ws ⟨rfl, ks⟩; replace hb := hb.trans (ks.mono hb.size); clear ks)
            | (at_builtin; refine wpList_append_src rfl _ _ 22 rfl w.heap.size 33 i0 (.agg #[.int .i64 0, .int .i64 0]) 2 16 Try.underS HI0.out.1 HI0.out.2.1 HI0.out.2.2.1 HI0.out.2.2.2 rfl (by decide) _ 0 [] rfl (World.ownsRow_made _ #[] 0 hb.size (Nat.zero_le _) rfl) _ n1 (flat xs) rfl (HSX.out _ (hb.trans ((alloc_below _ _).mono hb.size))) HFX.out (flat_cell1 _) (by unfold maxLen; omega) (by omega) (Nat.le_trans hb.size (alloc_below _ _).size) ?_; intro v1 w1 hown1 hgrow1; have HO1 := Lib.hid hown1; have hb1 := (hb.trans ((alloc_below _ _).mono hb.size)).grown hgrow1 (Nat.le_trans hb.size (alloc_below _ _).size) (fun k hk => by cases hk; exact hb.size); clear hgrow1 hown1)
            | (at_builtin; refine wpList_append_src rfl _ _ 22 rfl w.heap.size 33 i0 (.agg #[.int .i64 0, .int .i64 0]) 2 16 Try.underS HI0.out.1 HI0.out.2.1 HI0.out.2.2.1 HI0.out.2.2.2 rfl (by decide) _ (0 + n1) ([] ++ flat xs) rfl HO1.out _ n2 (flat ys) rfl (HSY.out _ hb1) HFY.out (flat_cell1 _) (by unfold maxLen; omega) (by omega) hb1.size ?_; intro v2 w2 hown2 hgrow2; replace hb := hb1.grown hgrow2 hb1.size (fun k hk => (HO1.out.lt k hk).1); obtain ⟨a3, c3, rfl, z3, -, -⟩ := RowS.cap (l := xs ++ ys) (RowS.of2 HN1.out HN2.out hown2); rw [← HNN.out]; obtain ⟨b3, o3, rfl, s1, s2⟩ := z3 j _ HJ.out; clear hown2 hgrow2 z3 hb1 HO1))
          replace hb := hb.trans ((alloc_below _ (.cells #[.int .i64 f, .int .i64 t] 33)).mono hb.size)
          obtain ⟨x, hx⟩ : ∃ x, x = has xs (q) := ⟨_, rfl⟩
          obtain ⟨y, hy⟩ : ∃ y, y = has ys (q) := ⟨_, rfl⟩
          have H_x := Lib.hid hx
          have H_y := Lib.hid hy
          clear hx hy
          have V_0 : Hid (∀ a c w, SpansAt a xs w → Calls Try.prog 23 #[.slice a n1 c, .int .i64 (q)] w fun r w' => r = .returned (.bool (x)) ∧ Below w.heap.size w w') := fun a c w z => (has_at HN1.out (Nat.le_trans g1 (by decide)) (q) a c w z).mono fun r w' ⟨hr, hw⟩ => ⟨hr.trans (ret_bool H_x.out.symm), hw⟩
          have V_1 : Hid (∀ a c w, SpansAt a ys w → Calls Try.prog 23 #[.slice a n2 c, .int .i64 (q)] w fun r w' => r = .returned (.bool (y)) ∧ Below w.heap.size w w') := fun a c w z => (has_at HN2.out (Nat.le_trans g2 (by decide)) (q) a c w z).mono fun r w' ⟨hr, hw⟩ => ⟨hr.trans (ret_bool H_y.out.symm), hw⟩
          obtain ⟨n_e0, h'_e0⟩ : ∃ n, Ln n (union xs ys) := ⟨_, rfl⟩
          have h_e0 := Lib.hid h'_e0
          have b_e0 := Lib.hid (show n_e0 ≤ 120 from union_bd h_e0.out HN1.out HN2.out g1 g2)
          clear h'_e0
          have C_e0 := Lib.hid (union_at HN1.out HN2.out h_e0.out (Nat.le_trans g1 (by decide)) (Nat.le_trans g2 (by decide)))
          have V_3 : Hid (∀ a c w, SpansAt a (union xs ys) w → Calls Try.prog 23 #[.slice a n_e0 c, .int .i64 (q)] w fun r w' => r = .returned (.bool (x || y)) ∧ Below w.heap.size w w') := fun a c w z => (has_at h_e0.out (Nat.le_trans b_e0.out (by decide)) (q) a c w z).mono fun r w' ⟨hr, hw⟩ => ⟨hr.trans (ret_bool (by rw [has_or, ← H_x.out, ← H_y.out])), hw⟩
          obtain ⟨n_e1, h'_e1⟩ : ∃ n, Ln n (meet xs ys) := ⟨_, rfl⟩
          have h_e1 := Lib.hid h'_e1
          have b_e1 := Lib.hid (show n_e1 ≤ 120 from meet_bd h_e1.out HN1.out HN2.out g1 g2)
          clear h'_e1
          have C_e1 := Lib.hid (meet_at HN1.out HN2.out h_e1.out (Nat.le_trans g1 (by decide)) (Nat.le_trans g2 (by decide)))
          have V_5 : Hid (∀ a c w, SpansAt a (meet xs ys) w → Calls Try.prog 23 #[.slice a n_e1 c, .int .i64 (q)] w fun r w' => r = .returned (.bool (x && y)) ∧ Below w.heap.size w w') := fun a c w z => (has_at h_e1.out (Nat.le_trans b_e1.out (by decide)) (q) a c w z).mono fun r w' ⟨hr, hw⟩ => ⟨hr.trans (ret_bool (by rw [has_and, ← H_x.out, ← H_y.out])), hw⟩
          obtain ⟨n_e2, h'_e2⟩ : ∃ n, Ln n (minus xs ys) := ⟨_, rfl⟩
          have h_e2 := Lib.hid h'_e2
          have b_e2 := Lib.hid (show n_e2 ≤ 120 from minus_bd h_e2.out HN1.out HN2.out g1 g2)
          clear h'_e2
          have C_e2 := Lib.hid (minus_at HN1.out HN2.out h_e2.out (Nat.le_trans g1 (by decide)) (Nat.le_trans g2 (by decide)))
          have V_7 : Hid (∀ a c w, SpansAt a (minus xs ys) w → Calls Try.prog 23 #[.slice a n_e2 c, .int .i64 (q)] w fun r w' => r = .returned (.bool (x && !y)) ∧ Below w.heap.size w w') := fun a c w z => (has_at h_e2.out (Nat.le_trans b_e2.out (by decide)) (q) a c w z).mono fun r w' ⟨hr, hw⟩ => ⟨hr.trans (ret_bool (by rw [has_not, ← H_x.out, ← H_y.out])), hw⟩
          clear H_x H_y HSX HSY HFX HFY HI0
          cases x <;> cases y
          all_goals (
            go_wp2_with (first
              | (go_at_call 23; (with_reducible refine (V_0.out _ _ _ (HX1.out _ hb)).mono ?_); rintro _ w_v0 ⟨rfl, k_v0⟩; replace hb := hb.trans (k_v0.mono hb.size); (try replace z_e0 := z_e0.below k_v0); (try replace z_e1 := z_e1.below k_v0); (try replace z_e2 := z_e2.below k_v0); clear k_v0)
              | (go_at_call 23; (with_reducible refine (V_1.out _ _ _ (HX2.out _ hb)).mono ?_); rintro _ w_v1 ⟨rfl, k_v1⟩; replace hb := hb.trans (k_v1.mono hb.size); (try replace z_e0 := z_e0.below k_v1); (try replace z_e1 := z_e1.below k_v1); (try replace z_e2 := z_e2.below k_v1); clear k_v1)
              | (go_at_call 17; (with_reducible refine (C_e0.out _ _ _ _ _ (HX1.out _ hb) (HX2.out _ hb)).mono ?_); rintro _ w_e0 ⟨a_e0, c_e0, rfl, z_e0, k_e0⟩; replace hb := hb.trans (k_e0.mono hb.size); (try replace z_e1 := z_e1.below k_e0); (try replace z_e2 := z_e2.below k_e0); clear k_e0)
              | (go_at_call 23; (with_reducible refine (V_3.out _ _ _ z_e0).mono ?_); rintro _ w_v3 ⟨rfl, k_v3⟩; replace hb := hb.trans (k_v3.mono hb.size); (try replace z_e0 := z_e0.below k_v3); (try replace z_e1 := z_e1.below k_v3); (try replace z_e2 := z_e2.below k_v3); clear k_v3)
              | (go_at_call 19; (with_reducible refine (C_e1.out _ _ _ _ _ (HX1.out _ hb) (HX2.out _ hb)).mono ?_); rintro _ w_e1 ⟨a_e1, c_e1, rfl, z_e1, k_e1⟩; replace hb := hb.trans (k_e1.mono hb.size); (try replace z_e0 := z_e0.below k_e1); (try replace z_e2 := z_e2.below k_e1); clear k_e1)
              | (go_at_call 23; (with_reducible refine (V_5.out _ _ _ z_e1).mono ?_); rintro _ w_v5 ⟨rfl, k_v5⟩; replace hb := hb.trans (k_v5.mono hb.size); (try replace z_e0 := z_e0.below k_v5); (try replace z_e1 := z_e1.below k_v5); (try replace z_e2 := z_e2.below k_v5); clear k_v5)
              | (go_at_call 21; (with_reducible refine (C_e2.out _ _ _ _ _ (HX1.out _ hb) (HX2.out _ hb)).mono ?_); rintro _ w_e2 ⟨a_e2, c_e2, rfl, z_e2, k_e2⟩; replace hb := hb.trans (k_e2.mono hb.size); (try replace z_e0 := z_e0.below k_e2); (try replace z_e1 := z_e1.below k_e2); clear k_e2)
              | (go_at_call 23; (with_reducible refine (V_7.out _ _ _ z_e2).mono ?_); rintro _ w_v7 ⟨rfl, k_v7⟩; replace hb := hb.trans (k_v7.mono hb.size); (try replace z_e0 := z_e0.below k_v7); (try replace z_e1 := z_e1.below k_v7); (try replace z_e2 := z_e2.below k_v7); clear k_v7))
            go_ret
            exact ⟨rfl, hb⟩)
      · skip
        go_enter Try.func5, Try.ntmps5
        go_upto_region 11 with (first
          | (go_at_call 10; (with_reducible refine (head_any _).mono ?_); rintro _ wh ⟨rfl, kh⟩; replace hb := hb.trans (kh.mono hb.size); clear kh)
          | (go_at_call 11; (with_reducible refine (SH.out _).mono ?_); rintro _ ws ⟨rfl, ks⟩; replace hb := hb.trans (ks.mono hb.size); clear ks)
          | (at_builtin; refine wpList_append_src rfl _ _ 22 rfl w.heap.size 33 i0 (.agg #[.int .i64 0, .int .i64 0]) 2 16 Try.underS HI0.out.1 HI0.out.2.1 HI0.out.2.2.1 HI0.out.2.2.2 rfl (by decide) _ 0 [] rfl (World.ownsRow_made _ #[] 0 hb.size (Nat.zero_le _) rfl) _ n1 (flat xs) rfl (HSX.out _ (hb.trans ((alloc_below _ _).mono hb.size))) HFX.out (flat_cell1 _) (by unfold maxLen; omega) (by omega) (Nat.le_trans hb.size (alloc_below _ _).size) ?_; intro v1 w1 hown1 hgrow1; have HO1 := Lib.hid hown1; have hb1 := (hb.trans ((alloc_below _ _).mono hb.size)).grown hgrow1 (Nat.le_trans hb.size (alloc_below _ _).size) (fun k hk => by cases hk; exact hb.size); clear hgrow1 hown1)
          | (at_builtin; refine wpList_append_src rfl _ _ 22 rfl w.heap.size 33 i0 (.agg #[.int .i64 0, .int .i64 0]) 2 16 Try.underS HI0.out.1 HI0.out.2.1 HI0.out.2.2.1 HI0.out.2.2.2 rfl (by decide) _ (0 + n1) ([] ++ flat xs) rfl HO1.out _ n2 (flat ys) rfl (HSY.out _ hb1) HFY.out (flat_cell1 _) (by unfold maxLen; omega) (by omega) hb1.size ?_; intro v2 w2 hown2 hgrow2; replace hb := hb1.grown hgrow2 hb1.size (fun k hk => (HO1.out.lt k hk).1); obtain ⟨a3, c3, rfl, z3, -, -⟩ := RowS.cap (l := xs ++ ys) (RowS.of2 HN1.out HN2.out hown2); rw [← HNN.out]; obtain ⟨b3, o3, rfl, s1, s2⟩ := z3 j _ HJ.out; clear hown2 hgrow2 z3 hb1 HO1))
        replace hb := hb.trans ((alloc_below _ (.cells #[.int .i64 f, .int .i64 t] 33)).mono hb.size)
        obtain ⟨x, hx⟩ : ∃ x, x = has xs (q) := ⟨_, rfl⟩
        obtain ⟨y, hy⟩ : ∃ y, y = has ys (q) := ⟨_, rfl⟩
        have H_x := Lib.hid hx
        have H_y := Lib.hid hy
        clear hx hy
        have V_0 : Hid (∀ a c w, SpansAt a xs w → Calls Try.prog 23 #[.slice a n1 c, .int .i64 (q)] w fun r w' => r = .returned (.bool (x)) ∧ Below w.heap.size w w') := fun a c w z => (has_at HN1.out (Nat.le_trans g1 (by decide)) (q) a c w z).mono fun r w' ⟨hr, hw⟩ => ⟨hr.trans (ret_bool H_x.out.symm), hw⟩
        have V_1 : Hid (∀ a c w, SpansAt a ys w → Calls Try.prog 23 #[.slice a n2 c, .int .i64 (q)] w fun r w' => r = .returned (.bool (y)) ∧ Below w.heap.size w w') := fun a c w z => (has_at HN2.out (Nat.le_trans g2 (by decide)) (q) a c w z).mono fun r w' ⟨hr, hw⟩ => ⟨hr.trans (ret_bool H_y.out.symm), hw⟩
        obtain ⟨n_e0, h'_e0⟩ : ∃ n, Ln n (union xs ys) := ⟨_, rfl⟩
        have h_e0 := Lib.hid h'_e0
        have b_e0 := Lib.hid (show n_e0 ≤ 120 from union_bd h_e0.out HN1.out HN2.out g1 g2)
        clear h'_e0
        have C_e0 := Lib.hid (union_at HN1.out HN2.out h_e0.out (Nat.le_trans g1 (by decide)) (Nat.le_trans g2 (by decide)))
        have V_3 : Hid (∀ a c w, SpansAt a (union xs ys) w → Calls Try.prog 23 #[.slice a n_e0 c, .int .i64 (q)] w fun r w' => r = .returned (.bool (x || y)) ∧ Below w.heap.size w w') := fun a c w z => (has_at h_e0.out (Nat.le_trans b_e0.out (by decide)) (q) a c w z).mono fun r w' ⟨hr, hw⟩ => ⟨hr.trans (ret_bool (by rw [has_or, ← H_x.out, ← H_y.out])), hw⟩
        obtain ⟨n_e1, h'_e1⟩ : ∃ n, Ln n (meet xs ys) := ⟨_, rfl⟩
        have h_e1 := Lib.hid h'_e1
        have b_e1 := Lib.hid (show n_e1 ≤ 120 from meet_bd h_e1.out HN1.out HN2.out g1 g2)
        clear h'_e1
        have C_e1 := Lib.hid (meet_at HN1.out HN2.out h_e1.out (Nat.le_trans g1 (by decide)) (Nat.le_trans g2 (by decide)))
        have V_5 : Hid (∀ a c w, SpansAt a (meet xs ys) w → Calls Try.prog 23 #[.slice a n_e1 c, .int .i64 (q)] w fun r w' => r = .returned (.bool (x && y)) ∧ Below w.heap.size w w') := fun a c w z => (has_at h_e1.out (Nat.le_trans b_e1.out (by decide)) (q) a c w z).mono fun r w' ⟨hr, hw⟩ => ⟨hr.trans (ret_bool (by rw [has_and, ← H_x.out, ← H_y.out])), hw⟩
        obtain ⟨n_e2, h'_e2⟩ : ∃ n, Ln n (minus xs ys) := ⟨_, rfl⟩
        have h_e2 := Lib.hid h'_e2
        have b_e2 := Lib.hid (show n_e2 ≤ 120 from minus_bd h_e2.out HN1.out HN2.out g1 g2)
        clear h'_e2
        have C_e2 := Lib.hid (minus_at HN1.out HN2.out h_e2.out (Nat.le_trans g1 (by decide)) (Nat.le_trans g2 (by decide)))
        have V_7 : Hid (∀ a c w, SpansAt a (minus xs ys) w → Calls Try.prog 23 #[.slice a n_e2 c, .int .i64 (q)] w fun r w' => r = .returned (.bool (x && !y)) ∧ Below w.heap.size w w') := fun a c w z => (has_at h_e2.out (Nat.le_trans b_e2.out (by decide)) (q) a c w z).mono fun r w' ⟨hr, hw⟩ => ⟨hr.trans (ret_bool (by rw [has_not, ← H_x.out, ← H_y.out])), hw⟩
        clear H_x H_y HSX HSY HFX HFY HI0
        cases x <;> cases y
        all_goals (
          go_wp2_with (first
            | (go_at_call 23; (with_reducible refine (V_0.out _ _ _ (HX1.out _ hb)).mono ?_); rintro _ w_v0 ⟨rfl, k_v0⟩; replace hb := hb.trans (k_v0.mono hb.size); (try replace z_e0 := z_e0.below k_v0); (try replace z_e1 := z_e1.below k_v0); (try replace z_e2 := z_e2.below k_v0); clear k_v0)
            | (go_at_call 23; (with_reducible refine (V_1.out _ _ _ (HX2.out _ hb)).mono ?_); rintro _ w_v1 ⟨rfl, k_v1⟩; replace hb := hb.trans (k_v1.mono hb.size); (try replace z_e0 := z_e0.below k_v1); (try replace z_e1 := z_e1.below k_v1); (try replace z_e2 := z_e2.below k_v1); clear k_v1)
            | (go_at_call 17; (with_reducible refine (C_e0.out _ _ _ _ _ (HX1.out _ hb) (HX2.out _ hb)).mono ?_); rintro _ w_e0 ⟨a_e0, c_e0, rfl, z_e0, k_e0⟩; replace hb := hb.trans (k_e0.mono hb.size); (try replace z_e1 := z_e1.below k_e0); (try replace z_e2 := z_e2.below k_e0); clear k_e0)
            | (go_at_call 23; (with_reducible refine (V_3.out _ _ _ z_e0).mono ?_); rintro _ w_v3 ⟨rfl, k_v3⟩; replace hb := hb.trans (k_v3.mono hb.size); (try replace z_e0 := z_e0.below k_v3); (try replace z_e1 := z_e1.below k_v3); (try replace z_e2 := z_e2.below k_v3); clear k_v3)
            | (go_at_call 19; (with_reducible refine (C_e1.out _ _ _ _ _ (HX1.out _ hb) (HX2.out _ hb)).mono ?_); rintro _ w_e1 ⟨a_e1, c_e1, rfl, z_e1, k_e1⟩; replace hb := hb.trans (k_e1.mono hb.size); (try replace z_e0 := z_e0.below k_e1); (try replace z_e2 := z_e2.below k_e1); clear k_e1)
            | (go_at_call 23; (with_reducible refine (V_5.out _ _ _ z_e1).mono ?_); rintro _ w_v5 ⟨rfl, k_v5⟩; replace hb := hb.trans (k_v5.mono hb.size); (try replace z_e0 := z_e0.below k_v5); (try replace z_e1 := z_e1.below k_v5); (try replace z_e2 := z_e2.below k_v5); clear k_v5)
            | (go_at_call 21; (with_reducible refine (C_e2.out _ _ _ _ _ (HX1.out _ hb) (HX2.out _ hb)).mono ?_); rintro _ w_e2 ⟨a_e2, c_e2, rfl, z_e2, k_e2⟩; replace hb := hb.trans (k_e2.mono hb.size); (try replace z_e0 := z_e0.below k_e2); (try replace z_e1 := z_e1.below k_e2); clear k_e2)
            | (go_at_call 23; (with_reducible refine (V_7.out _ _ _ z_e2).mono ?_); rintro _ w_v7 ⟨rfl, k_v7⟩; replace hb := hb.trans (k_v7.mono hb.size); (try replace z_e0 := z_e0.below k_v7); (try replace z_e1 := z_e1.below k_v7); (try replace z_e2 := z_e2.below k_v7); clear k_v7))
          go_ret
          exact ⟨rfl, hb⟩)
  · have SH : Hid (∀ w0 : World, Calls Try.prog 11 #[.slice (some ⟨w0.heap.size, 0, none⟩) 2 2] (w0.alloc (.cells #[.slice a1 n1 c1, .slice a2 n2 c2] 22)) fun r w' => r = .returned (.bool false) ∧ Below w0.heap.size w0 w') := fun w0 => (short_new [(a1, n1, c1), (a2, n2, c2)] w0 22 (by simp)).mono fun r w' ⟨hr, hw⟩ => ⟨hr.trans (ret_bool (by simp only [List.all_cons, List.all_nil, Bool.and_true]; first | (simp only [Bool.and_eq_true, decide_eq_true_eq]; exact hs) | (rw [Bool.eq_false_iff]; intro h; simp only [Bool.and_eq_true, decide_eq_true_eq] at h; exact hs h))), hw⟩
    clear hs hn1 hn2
    go_enter Try.func5, Try.ntmps5
    go_wp2_with (first
      | (go_at_call 10; (with_reducible refine (head_any _).mono ?_); rintro _ wh ⟨rfl, kh⟩; replace hb := hb.trans (kh.mono hb.size); clear kh)
      | (go_at_call 11; (with_reducible refine (SH.out _).mono ?_); rintro _ ws ⟨rfl, ks⟩; replace hb := hb.trans (ks.mono hb.size); clear ks))
    go_ret
    exact ⟨rfl, hb⟩
end Go.Proofs.Ytahionbbpfmplaa.Sp
