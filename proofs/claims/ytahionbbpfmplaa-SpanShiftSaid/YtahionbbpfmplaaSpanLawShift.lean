/- The walk of the law SpanShift: it returns true. Conditions: the lists lie in memory as the arguments say; the number is one of Go's ints. -/
import Derived.Test.YtahionbbpfmplaaSpanHead
import Derived.Test.YtahionbbpfmplaaSpanOpen
import Derived.Test.YtahionbbpfmplaaSpanRef6
import Derived.Test.YtahionbbpfmplaaSpanMoved
namespace Go.Proofs.Ytahionbbpfmplaa.Sp
open Go.RowKit
set_option maxHeartbeats 16000000 in
set_option maxRecDepth 100000 in
theorem shift_walk (a1 a2 : Option Addr) (c1 c2 : Nat) (xs ys : List Sn) (q : Int) (w : World) (z1 : In a1 c1 xs w) (z2 : In a2 c2 ys w) (_hq : -9223372036854775808 ≤ q ∧ q ≤ 9223372036854775807) :
    Calls Try.prog 8 #[.slice a1 xs.length c1, .slice a2 ys.length c2, .int .i64 q] w fun r w' => r = .returned (.bool true) ∧ Below w.heap.size w w' := by
  have HX1 := Lib.hid (fun w' (k : Below w.heap.size w w') => z1.at_.below k)
  have HIN1 := Lib.hid z1
  have HX2 := Lib.hid (fun w' (k : Below w.heap.size w w') => z2.at_.below k)
  have HIN2 := Lib.hid z2
  obtain ⟨n1, hn1⟩ : ∃ n, n = xs.length := ⟨_, rfl⟩
  obtain ⟨n2, hn2⟩ : ∃ n, n = ys.length := ⟨_, rfl⟩
  rw [← hn1, ← hn2]
  have HN1 := Lib.hid (show Ln n1 xs from hn1)
  have HN2 := Lib.hid (show Ln n2 ys from hn2)
  have hb := Below.refl w.heap.size w
  clear z1 z2
  have HSX := Lib.hid (fun w' (k : Below w.heap.size w w') => (show SrcAt w' (.slice a1 n1 c1) n1 (flat xs) by have h := (HX1.out w' k).src HIN1.out.none (c := c1); rwa [← HN1.out] at h))
  have HFX := Lib.hid (show (flat xs).length = n1 * 2 by rw [flat_length, ← HN1.out])
  have HSY := Lib.hid (fun w' (k : Below w.heap.size w w') => (show SrcAt w' (.slice a2 n2 c2) n2 (flat ys) by have h := (HX2.out w' k).src HIN2.out.none (c := c2); rwa [← HN2.out] at h))
  have HFY := Lib.hid (show (flat ys).length = n2 * 2 by rw [flat_length, ← HN2.out])
  obtain ⟨i0, hi, hz0, hz1, hz2⟩ := info_parts Try.infoS
  have HI0 := Lib.hid (And.intro hi (And.intro hz0 (And.intro hz1 hz2)))
  clear hi hz0 hz1 hz2
  obtain ⟨nn, hnn'⟩ : ∃ nn, nn = (xs ++ ys).length := ⟨_, rfl⟩
  have HNN := Lib.hid hnn'
  have HSUM := Lib.hid (show nn = n1 + n2 by rw [hnn', List.length_append, hn1, hn2])
  clear hnn'
  by_cases hs : n1 ≤ 60 ∧ n2 ≤ 60
  · have SH : Hid (∀ w0 : World, Calls Try.prog 11 #[.slice (some ⟨w0.heap.size, 0, none⟩) 2 2] (w0.alloc (.cells #[.slice a1 n1 c1, .slice a2 n2 c2] 22)) fun r w' => r = .returned (.bool true) ∧ Below w0.heap.size w0 w') := fun w0 => (short_new [(a1, n1, c1), (a2, n2, c2)] w0 22 (by simp)).mono fun r w' ⟨hr, hw⟩ => ⟨hr.trans (ret_bool (by simp only [List.all_cons, List.all_nil, Bool.and_true]; first | (simp only [Bool.and_eq_true, decide_eq_true_eq]; exact hs) | (rw [Bool.eq_false_iff]; intro h; simp only [Bool.and_eq_true, decide_eq_true_eq] at h; exact hs h))), hw⟩
    obtain ⟨g1, g2⟩ := hs
    clear hn1 hn2
    by_cases r1 : q < -1125899906842624
    · clear HSX HSY HFX HFY HI0
      go_enter Try.func8, Try.ntmps8
      go_wp2_with (first
        | (go_at_call 10; (with_reducible refine (head_any _).mono ?_); rintro _ wh ⟨rfl, kh⟩; replace hb := hb.trans (kh.mono hb.size); clear kh)
        | (go_at_call 11; (with_reducible refine (SH.out _).mono ?_); rintro _ ws ⟨rfl, ks⟩; replace hb := hb.trans (ks.mono hb.size); clear ks))
      go_ret
      exact ⟨rfl, hb⟩
    · by_cases r2 : 1125899906842624 < q
      · clear HSX HSY HFX HFY HI0
        go_enter Try.func8, Try.ntmps8
        go_wp2_with (first
          | (go_at_call 10; (with_reducible refine (head_any _).mono ?_); rintro _ wh ⟨rfl, kh⟩; replace hb := hb.trans (kh.mono hb.size); clear kh)
          | (go_at_call 11; (with_reducible refine (SH.out _).mono ?_); rintro _ ws ⟨rfl, ks⟩; replace hb := hb.trans (ks.mono hb.size); clear ks))
        go_ret
        exact ⟨rfl, hb⟩
      · have HQ := Lib.hid (show -1125899906842624 ≤ q ∧ q ≤ 1125899906842624 by omega)
        go_enter Try.func8, Try.ntmps8
        go_wp2_with (first
          | (go_at_call 10; (with_reducible refine (head_any _).mono ?_); rintro _ wh ⟨rfl, kh⟩; replace hb := hb.trans (kh.mono hb.size); clear kh)
          | (go_at_call 11; (with_reducible refine (SH.out _).mono ?_); rintro _ ws ⟨rfl, ks⟩; replace hb := hb.trans (ks.mono hb.size); clear ks)
          | (at_builtin; refine wpList_append_src rfl _ _ 22 rfl w.heap.size 33 i0 (.agg #[.int .i64 0, .int .i64 0]) 2 16 Try.underS HI0.out.1 HI0.out.2.1 HI0.out.2.2.1 HI0.out.2.2.2 rfl (by decide) _ 0 [] rfl (World.ownsRow_made _ #[] 0 hb.size (Nat.zero_le _) rfl) _ n1 (flat xs) rfl (HSX.out _ (hb.trans ((alloc_below _ _).mono hb.size))) HFX.out (flat_cell1 _) (by unfold maxLen; omega) (by omega) (Nat.le_trans hb.size (alloc_below _ _).size) ?_; intro v1 w1 hown1 hgrow1; have HO1 := Lib.hid hown1; have hb1 := (hb.trans ((alloc_below _ _).mono hb.size)).grown hgrow1 (Nat.le_trans hb.size (alloc_below _ _).size) (fun k hk => by cases hk; exact hb.size); clear hgrow1 hown1)
          | (at_builtin; refine wpList_append_src rfl _ _ 22 rfl w.heap.size 33 i0 (.agg #[.int .i64 0, .int .i64 0]) 2 16 Try.underS HI0.out.1 HI0.out.2.1 HI0.out.2.2.1 HI0.out.2.2.2 rfl (by decide) _ (0 + n1) ([] ++ flat xs) rfl HO1.out _ n2 (flat ys) rfl (HSY.out _ hb1) HFY.out (flat_cell1 _) (by unfold maxLen; omega) (by omega) hb1.size ?_; intro v2 w2 hown2 hgrow2; replace hb := hb1.grown hgrow2 hb1.size (fun k hk => (HO1.out.lt k hk).1); obtain ⟨a3, c3, rfl, z3, -, -⟩ := RowS.cap (l := xs ++ ys) (RowS.of2 HN1.out HN2.out hown2); rw [← HNN.out]; have HZ3 := Lib.hid (fun w' (k : Below w2.heap.size w2 w') => z3.below k); have k3 := Below.refl w2.heap.size w2; clear hown2 hgrow2 z3 hb1 HO1))
        have HB2 := Lib.hid hb
        have hnb : nn ≤ 120 := by have := HSUM.out; omega
        clear HSX HSY HFX HFY HI0 k3 hb
        go_loopg [34] nn (fun g s34 wx => ∃ i : Nat, i + g = nn ∧ s34 = .int .i64 i ∧ Hid (∀ j x, j < i → (xs ++ ys)[j]? = some x → -1125899906842624 ≤ x.1 ∧ x.1 ≤ 1125899906842624 ∧ -1125899906842624 ≤ x.2 ∧ x.2 ≤ 1125899906842624) ∧ Below w2.heap.size w2 wx)
        case atStart => exact ⟨0, by omega, rfl, (fun j x hj => by omega), Below.refl _ _⟩
        case round =>
          obtain ⟨i, hi, rfl, HJ, hbx⟩ := hrel
          cases gk with
          | zero =>
            have hlt : ¬ (i : Int) < (nn : Int) := by omega
            have hall : ∀ x ∈ xs ++ ys, -1125899906842624 ≤ x.1 ∧ x.1 ≤ 1125899906842624 ∧ -1125899906842624 ≤ x.2 ∧ x.2 ≤ 1125899906842624 := fun x hx => by
              obtain ⟨j, hj⟩ := List.getElem?_of_mem hx
              exact HJ.out j x (by have := (List.getElem?_eq_some_iff.1 hj).1; have := HNN.out; omega) hj
            have N1 : Near xs := fun x hx => hall x (List.mem_append_left _ hx)
            have N2 : Near ys := fun x hx => hall x (List.mem_append_right _ hx)
            have NU : Near (union xs ys) := nf_near (union_nf xs ys) (fun n hn => ((union_el xs ys n).1 hn).elim (near_el N1) (near_el N2))
            have NM : Near (meet xs ys) := nf_near (meet_nf xs ys) (fun n hn => near_el N1 ((meet_el xs ys n).1 hn).1)
            have ND : Near (minus xs ys) := nf_near (minus_nf xs ys) (fun n hn => near_el N1 ((minus_el xs ys n).1 hn).1)
            have FT : ∀ l, Near l → Fits q l := fun l hl x hx => by have := hl x hx; have := HQ.out; omega
            have hb := HB2.out.trans (hbx.mono HB2.out.size)
            obtain ⟨bv, h'bv⟩ : ∃ b, b = decide (Nf xs) := ⟨_, rfl⟩
            have h_bv := Lib.hid h'bv
            clear h'bv
            have C_e0 := Lib.hid (moved_at (k := q) HN1.out (Nat.le_trans g1 (by decide)) (FT _ N1))
            have C_e1 := Lib.hid (moved_at (k := q) HN2.out (Nat.le_trans g2 (by decide)) (FT _ N2))
            obtain ⟨n_e2, h'_e2⟩ : ∃ n, Ln n (union (mv q xs) (mv q ys)) := ⟨_, rfl⟩
            have h_e2 := Lib.hid h'_e2
            have b_e2 := Lib.hid (show n_e2 ≤ 120 from union_bd h_e2.out (show Ln n1 (mv q xs) from HN1.out.trans (mv_len q _).symm) (show Ln n2 (mv q ys) from HN2.out.trans (mv_len q _).symm) g1 g2)
            clear h'_e2
            have C_e2 := Lib.hid (union_at (show Ln n1 (mv q xs) from HN1.out.trans (mv_len q _).symm) (show Ln n2 (mv q ys) from HN2.out.trans (mv_len q _).symm) h_e2.out (Nat.le_trans g1 (by decide)) (Nat.le_trans g2 (by decide)))
            obtain ⟨n_e3, h'_e3⟩ : ∃ n, Ln n (union xs ys) := ⟨_, rfl⟩
            have h_e3 := Lib.hid h'_e3
            have b_e3 := Lib.hid (show n_e3 ≤ 120 from union_bd h_e3.out HN1.out HN2.out g1 g2)
            clear h'_e3
            have C_e3 := Lib.hid (union_at HN1.out HN2.out h_e3.out (Nat.le_trans g1 (by decide)) (Nat.le_trans g2 (by decide)))
            have C_e4 := Lib.hid (moved_at (k := q) h_e3.out (Nat.le_trans b_e3.out (by decide)) (FT _ NU))
            have S_5 := Lib.hid (same_at h_e2.out (show Ln n_e3 (mv q (union xs ys)) from h_e3.out.trans (mv_len q _).symm) (Nat.le_trans b_e2.out (by decide)) (mv_union HQ.out.1 HQ.out.2 N1 N2))
            obtain ⟨n_e5, h'_e5⟩ : ∃ n, Ln n (meet (mv q xs) (mv q ys)) := ⟨_, rfl⟩
            have h_e5 := Lib.hid h'_e5
            have b_e5 := Lib.hid (show n_e5 ≤ 120 from meet_bd h_e5.out (show Ln n1 (mv q xs) from HN1.out.trans (mv_len q _).symm) (show Ln n2 (mv q ys) from HN2.out.trans (mv_len q _).symm) g1 g2)
            clear h'_e5
            have C_e5 := Lib.hid (meet_at (show Ln n1 (mv q xs) from HN1.out.trans (mv_len q _).symm) (show Ln n2 (mv q ys) from HN2.out.trans (mv_len q _).symm) h_e5.out (Nat.le_trans g1 (by decide)) (Nat.le_trans g2 (by decide)))
            obtain ⟨n_e6, h'_e6⟩ : ∃ n, Ln n (meet xs ys) := ⟨_, rfl⟩
            have h_e6 := Lib.hid h'_e6
            have b_e6 := Lib.hid (show n_e6 ≤ 120 from meet_bd h_e6.out HN1.out HN2.out g1 g2)
            clear h'_e6
            have C_e6 := Lib.hid (meet_at HN1.out HN2.out h_e6.out (Nat.le_trans g1 (by decide)) (Nat.le_trans g2 (by decide)))
            have C_e7 := Lib.hid (moved_at (k := q) h_e6.out (Nat.le_trans b_e6.out (by decide)) (FT _ NM))
            have S_9 := Lib.hid (same_at h_e5.out (show Ln n_e6 (mv q (meet xs ys)) from h_e6.out.trans (mv_len q _).symm) (Nat.le_trans b_e5.out (by decide)) (mv_meet HQ.out.1 HQ.out.2 N1 N2))
            obtain ⟨n_e8, h'_e8⟩ : ∃ n, Ln n (minus (mv q xs) (mv q ys)) := ⟨_, rfl⟩
            have h_e8 := Lib.hid h'_e8
            have b_e8 := Lib.hid (show n_e8 ≤ 120 from minus_bd h_e8.out (show Ln n1 (mv q xs) from HN1.out.trans (mv_len q _).symm) (show Ln n2 (mv q ys) from HN2.out.trans (mv_len q _).symm) g1 g2)
            clear h'_e8
            have C_e8 := Lib.hid (minus_at (show Ln n1 (mv q xs) from HN1.out.trans (mv_len q _).symm) (show Ln n2 (mv q ys) from HN2.out.trans (mv_len q _).symm) h_e8.out (Nat.le_trans g1 (by decide)) (Nat.le_trans g2 (by decide)))
            obtain ⟨n_e9, h'_e9⟩ : ∃ n, Ln n (minus xs ys) := ⟨_, rfl⟩
            have h_e9 := Lib.hid h'_e9
            have b_e9 := Lib.hid (show n_e9 ≤ 120 from minus_bd h_e9.out HN1.out HN2.out g1 g2)
            clear h'_e9
            have C_e9 := Lib.hid (minus_at HN1.out HN2.out h_e9.out (Nat.le_trans g1 (by decide)) (Nat.le_trans g2 (by decide)))
            have C_e10 := Lib.hid (moved_at (k := q) h_e9.out (Nat.le_trans b_e9.out (by decide)) (FT _ ND))
            have S_13 := Lib.hid (same_at h_e8.out (show Ln n_e9 (mv q (minus xs ys)) from h_e9.out.trans (mv_len q _).symm) (Nat.le_trans b_e8.out (by decide)) (mv_minus HQ.out.1 HQ.out.2 N1 N2))
            obtain ⟨sa, h'sa⟩ : ∃ s, s = size xs := ⟨_, rfl⟩
            have h_sa := Lib.hid h'sa
            clear h'sa
            have V_14 : Hid (∀ a c w, SpansAt a xs w → Calls Try.prog 25 #[.slice a n1 c] w fun r w' => r = .returned (.int .i64 sa) ∧ Below w.heap.size w w') := fun a c w z => (size_at HN1.out (Nat.le_trans g1 (by decide)) a c w z).mono fun r w' ⟨hr, hw⟩ => ⟨hr.trans (ret_int h_sa.out.symm), hw⟩
            have V_15 : Hid (∀ a c w, SpansAt a (mv q xs) w → Calls Try.prog 25 #[.slice a n1 c] w fun r w' => r = .returned (.int .i64 sa) ∧ Below w.heap.size w w') := fun a c w z => (size_at (show Ln n1 (mv q xs) from HN1.out.trans (mv_len q _).symm) (Nat.le_trans g1 (by decide)) a c w z).mono fun r w' ⟨hr, hw⟩ => ⟨hr.trans (ret_int ((mv_size HQ.out.1 HQ.out.2 N1).trans h_sa.out.symm)), hw⟩
            have V_16 : Hid (∀ a c w, SpansAt a xs w → Calls Try.prog 12 #[.slice a n1 c] w fun r w' => r = .returned (.bool bv) ∧ Below w.heap.size w w') := fun a c w z => (valid_at HN1.out (Nat.le_trans g1 (by decide)) a c w z).mono fun r w' ⟨hr, hw⟩ => ⟨hr.trans (ret_bool h_bv.out.symm), hw⟩
            have V_17 : Hid (∀ a c w, SpansAt a (mv q xs) w → Calls Try.prog 12 #[.slice a n1 c] w fun r w' => r = .returned (.bool bv) ∧ Below w.heap.size w w') := fun a c w z => (valid_at (show Ln n1 (mv q xs) from HN1.out.trans (mv_len q _).symm) (Nat.le_trans g1 (by decide)) a c w z).mono fun r w' ⟨hr, hw⟩ => ⟨hr.trans (ret_bool ((show decide (Nf (mv q xs)) = decide (Nf xs) by rw [Bool.eq_iff_iff, decide_eq_true_eq, decide_eq_true_eq]; exact mv_valid HQ.out.1 HQ.out.2 N1).trans h_bv.out.symm)), hw⟩
            have t1 : (sa == sa) = true := by simp
            have t2 : (bv == bv) = true := by simp
            clear hall N1 N2 NU NM ND FT HJ HZ3 HB2
            go_wp2_with (first
              | (go_at_call 29; (with_reducible refine (C_e0.out _ _ _ (HX1.out _ hb)).mono ?_); rintro _ w_e0 ⟨a_e0, c_e0, rfl, z_e0, k_e0⟩; replace hb := hb.trans (k_e0.mono hb.size); (try replace z_e1 := z_e1.below k_e0); (try replace z_e2 := z_e2.below k_e0); (try replace z_e3 := z_e3.below k_e0); (try replace z_e4 := z_e4.below k_e0); (try replace z_e5 := z_e5.below k_e0); (try replace z_e6 := z_e6.below k_e0); (try replace z_e7 := z_e7.below k_e0); (try replace z_e8 := z_e8.below k_e0); (try replace z_e9 := z_e9.below k_e0); (try replace z_e10 := z_e10.below k_e0); clear k_e0)
              | (go_at_call 29; (with_reducible refine (C_e1.out _ _ _ (HX2.out _ hb)).mono ?_); rintro _ w_e1 ⟨a_e1, c_e1, rfl, z_e1, k_e1⟩; replace hb := hb.trans (k_e1.mono hb.size); (try replace z_e0 := z_e0.below k_e1); (try replace z_e2 := z_e2.below k_e1); (try replace z_e3 := z_e3.below k_e1); (try replace z_e4 := z_e4.below k_e1); (try replace z_e5 := z_e5.below k_e1); (try replace z_e6 := z_e6.below k_e1); (try replace z_e7 := z_e7.below k_e1); (try replace z_e8 := z_e8.below k_e1); (try replace z_e9 := z_e9.below k_e1); (try replace z_e10 := z_e10.below k_e1); clear k_e1)
              | (go_at_call 17; (with_reducible refine (C_e2.out _ _ _ _ _ z_e0 z_e1).mono ?_); rintro _ w_e2 ⟨a_e2, c_e2, rfl, z_e2, k_e2⟩; replace hb := hb.trans (k_e2.mono hb.size); (try replace z_e0 := z_e0.below k_e2); (try replace z_e1 := z_e1.below k_e2); (try replace z_e3 := z_e3.below k_e2); (try replace z_e4 := z_e4.below k_e2); (try replace z_e5 := z_e5.below k_e2); (try replace z_e6 := z_e6.below k_e2); (try replace z_e7 := z_e7.below k_e2); (try replace z_e8 := z_e8.below k_e2); (try replace z_e9 := z_e9.below k_e2); (try replace z_e10 := z_e10.below k_e2); clear k_e2)
              | (go_at_call 17; (with_reducible refine (C_e3.out _ _ _ _ _ (HX1.out _ hb) (HX2.out _ hb)).mono ?_); rintro _ w_e3 ⟨a_e3, c_e3, rfl, z_e3, k_e3⟩; replace hb := hb.trans (k_e3.mono hb.size); (try replace z_e0 := z_e0.below k_e3); (try replace z_e1 := z_e1.below k_e3); (try replace z_e2 := z_e2.below k_e3); (try replace z_e4 := z_e4.below k_e3); (try replace z_e5 := z_e5.below k_e3); (try replace z_e6 := z_e6.below k_e3); (try replace z_e7 := z_e7.below k_e3); (try replace z_e8 := z_e8.below k_e3); (try replace z_e9 := z_e9.below k_e3); (try replace z_e10 := z_e10.below k_e3); clear k_e3)
              | (go_at_call 29; (with_reducible refine (C_e4.out _ _ _ z_e3).mono ?_); rintro _ w_e4 ⟨a_e4, c_e4, rfl, z_e4, k_e4⟩; replace hb := hb.trans (k_e4.mono hb.size); (try replace z_e0 := z_e0.below k_e4); (try replace z_e1 := z_e1.below k_e4); (try replace z_e2 := z_e2.below k_e4); (try replace z_e3 := z_e3.below k_e4); (try replace z_e5 := z_e5.below k_e4); (try replace z_e6 := z_e6.below k_e4); (try replace z_e7 := z_e7.below k_e4); (try replace z_e8 := z_e8.below k_e4); (try replace z_e9 := z_e9.below k_e4); (try replace z_e10 := z_e10.below k_e4); clear k_e4)
              | (go_at_call 14; (with_reducible refine (S_5.out _ _ _ _ _ z_e2 z_e4).mono ?_); rintro _ w_s5 ⟨rfl, k_s5⟩; replace hb := hb.trans (k_s5.mono hb.size); (try replace z_e0 := z_e0.below k_s5); (try replace z_e1 := z_e1.below k_s5); (try replace z_e2 := z_e2.below k_s5); (try replace z_e3 := z_e3.below k_s5); (try replace z_e4 := z_e4.below k_s5); (try replace z_e5 := z_e5.below k_s5); (try replace z_e6 := z_e6.below k_s5); (try replace z_e7 := z_e7.below k_s5); (try replace z_e8 := z_e8.below k_s5); (try replace z_e9 := z_e9.below k_s5); (try replace z_e10 := z_e10.below k_s5); clear k_s5)
              | (go_at_call 19; (with_reducible refine (C_e5.out _ _ _ _ _ z_e0 z_e1).mono ?_); rintro _ w_e5 ⟨a_e5, c_e5, rfl, z_e5, k_e5⟩; replace hb := hb.trans (k_e5.mono hb.size); (try replace z_e0 := z_e0.below k_e5); (try replace z_e1 := z_e1.below k_e5); (try replace z_e2 := z_e2.below k_e5); (try replace z_e3 := z_e3.below k_e5); (try replace z_e4 := z_e4.below k_e5); (try replace z_e6 := z_e6.below k_e5); (try replace z_e7 := z_e7.below k_e5); (try replace z_e8 := z_e8.below k_e5); (try replace z_e9 := z_e9.below k_e5); (try replace z_e10 := z_e10.below k_e5); clear k_e5)
              | (go_at_call 19; (with_reducible refine (C_e6.out _ _ _ _ _ (HX1.out _ hb) (HX2.out _ hb)).mono ?_); rintro _ w_e6 ⟨a_e6, c_e6, rfl, z_e6, k_e6⟩; replace hb := hb.trans (k_e6.mono hb.size); (try replace z_e0 := z_e0.below k_e6); (try replace z_e1 := z_e1.below k_e6); (try replace z_e2 := z_e2.below k_e6); (try replace z_e3 := z_e3.below k_e6); (try replace z_e4 := z_e4.below k_e6); (try replace z_e5 := z_e5.below k_e6); (try replace z_e7 := z_e7.below k_e6); (try replace z_e8 := z_e8.below k_e6); (try replace z_e9 := z_e9.below k_e6); (try replace z_e10 := z_e10.below k_e6); clear k_e6)
              | (go_at_call 29; (with_reducible refine (C_e7.out _ _ _ z_e6).mono ?_); rintro _ w_e7 ⟨a_e7, c_e7, rfl, z_e7, k_e7⟩; replace hb := hb.trans (k_e7.mono hb.size); (try replace z_e0 := z_e0.below k_e7); (try replace z_e1 := z_e1.below k_e7); (try replace z_e2 := z_e2.below k_e7); (try replace z_e3 := z_e3.below k_e7); (try replace z_e4 := z_e4.below k_e7); (try replace z_e5 := z_e5.below k_e7); (try replace z_e6 := z_e6.below k_e7); (try replace z_e8 := z_e8.below k_e7); (try replace z_e9 := z_e9.below k_e7); (try replace z_e10 := z_e10.below k_e7); clear k_e7)
              | (go_at_call 14; (with_reducible refine (S_9.out _ _ _ _ _ z_e5 z_e7).mono ?_); rintro _ w_s9 ⟨rfl, k_s9⟩; replace hb := hb.trans (k_s9.mono hb.size); (try replace z_e0 := z_e0.below k_s9); (try replace z_e1 := z_e1.below k_s9); (try replace z_e2 := z_e2.below k_s9); (try replace z_e3 := z_e3.below k_s9); (try replace z_e4 := z_e4.below k_s9); (try replace z_e5 := z_e5.below k_s9); (try replace z_e6 := z_e6.below k_s9); (try replace z_e7 := z_e7.below k_s9); (try replace z_e8 := z_e8.below k_s9); (try replace z_e9 := z_e9.below k_s9); (try replace z_e10 := z_e10.below k_s9); clear k_s9)
              | (go_at_call 21; (with_reducible refine (C_e8.out _ _ _ _ _ z_e0 z_e1).mono ?_); rintro _ w_e8 ⟨a_e8, c_e8, rfl, z_e8, k_e8⟩; replace hb := hb.trans (k_e8.mono hb.size); (try replace z_e0 := z_e0.below k_e8); (try replace z_e1 := z_e1.below k_e8); (try replace z_e2 := z_e2.below k_e8); (try replace z_e3 := z_e3.below k_e8); (try replace z_e4 := z_e4.below k_e8); (try replace z_e5 := z_e5.below k_e8); (try replace z_e6 := z_e6.below k_e8); (try replace z_e7 := z_e7.below k_e8); (try replace z_e9 := z_e9.below k_e8); (try replace z_e10 := z_e10.below k_e8); clear k_e8)
              | (go_at_call 21; (with_reducible refine (C_e9.out _ _ _ _ _ (HX1.out _ hb) (HX2.out _ hb)).mono ?_); rintro _ w_e9 ⟨a_e9, c_e9, rfl, z_e9, k_e9⟩; replace hb := hb.trans (k_e9.mono hb.size); (try replace z_e0 := z_e0.below k_e9); (try replace z_e1 := z_e1.below k_e9); (try replace z_e2 := z_e2.below k_e9); (try replace z_e3 := z_e3.below k_e9); (try replace z_e4 := z_e4.below k_e9); (try replace z_e5 := z_e5.below k_e9); (try replace z_e6 := z_e6.below k_e9); (try replace z_e7 := z_e7.below k_e9); (try replace z_e8 := z_e8.below k_e9); (try replace z_e10 := z_e10.below k_e9); clear k_e9)
              | (go_at_call 29; (with_reducible refine (C_e10.out _ _ _ z_e9).mono ?_); rintro _ w_e10 ⟨a_e10, c_e10, rfl, z_e10, k_e10⟩; replace hb := hb.trans (k_e10.mono hb.size); (try replace z_e0 := z_e0.below k_e10); (try replace z_e1 := z_e1.below k_e10); (try replace z_e2 := z_e2.below k_e10); (try replace z_e3 := z_e3.below k_e10); (try replace z_e4 := z_e4.below k_e10); (try replace z_e5 := z_e5.below k_e10); (try replace z_e6 := z_e6.below k_e10); (try replace z_e7 := z_e7.below k_e10); (try replace z_e8 := z_e8.below k_e10); (try replace z_e9 := z_e9.below k_e10); clear k_e10)
              | (go_at_call 14; (with_reducible refine (S_13.out _ _ _ _ _ z_e8 z_e10).mono ?_); rintro _ w_s13 ⟨rfl, k_s13⟩; replace hb := hb.trans (k_s13.mono hb.size); (try replace z_e0 := z_e0.below k_s13); (try replace z_e1 := z_e1.below k_s13); (try replace z_e2 := z_e2.below k_s13); (try replace z_e3 := z_e3.below k_s13); (try replace z_e4 := z_e4.below k_s13); (try replace z_e5 := z_e5.below k_s13); (try replace z_e6 := z_e6.below k_s13); (try replace z_e7 := z_e7.below k_s13); (try replace z_e8 := z_e8.below k_s13); (try replace z_e9 := z_e9.below k_s13); (try replace z_e10 := z_e10.below k_s13); clear k_s13)
              | (go_at_call 25; (with_reducible refine (V_14.out _ _ _ (HX1.out _ hb)).mono ?_); rintro _ w_v14 ⟨rfl, k_v14⟩; replace hb := hb.trans (k_v14.mono hb.size); (try replace z_e0 := z_e0.below k_v14); (try replace z_e1 := z_e1.below k_v14); (try replace z_e2 := z_e2.below k_v14); (try replace z_e3 := z_e3.below k_v14); (try replace z_e4 := z_e4.below k_v14); (try replace z_e5 := z_e5.below k_v14); (try replace z_e6 := z_e6.below k_v14); (try replace z_e7 := z_e7.below k_v14); (try replace z_e8 := z_e8.below k_v14); (try replace z_e9 := z_e9.below k_v14); (try replace z_e10 := z_e10.below k_v14); clear k_v14)
              | (go_at_call 25; (with_reducible refine (V_15.out _ _ _ z_e0).mono ?_); rintro _ w_v15 ⟨rfl, k_v15⟩; replace hb := hb.trans (k_v15.mono hb.size); (try replace z_e0 := z_e0.below k_v15); (try replace z_e1 := z_e1.below k_v15); (try replace z_e2 := z_e2.below k_v15); (try replace z_e3 := z_e3.below k_v15); (try replace z_e4 := z_e4.below k_v15); (try replace z_e5 := z_e5.below k_v15); (try replace z_e6 := z_e6.below k_v15); (try replace z_e7 := z_e7.below k_v15); (try replace z_e8 := z_e8.below k_v15); (try replace z_e9 := z_e9.below k_v15); (try replace z_e10 := z_e10.below k_v15); clear k_v15)
              | (go_at_call 12; (with_reducible refine (V_16.out _ _ _ (HX1.out _ hb)).mono ?_); rintro _ w_v16 ⟨rfl, k_v16⟩; replace hb := hb.trans (k_v16.mono hb.size); (try replace z_e0 := z_e0.below k_v16); (try replace z_e1 := z_e1.below k_v16); (try replace z_e2 := z_e2.below k_v16); (try replace z_e3 := z_e3.below k_v16); (try replace z_e4 := z_e4.below k_v16); (try replace z_e5 := z_e5.below k_v16); (try replace z_e6 := z_e6.below k_v16); (try replace z_e7 := z_e7.below k_v16); (try replace z_e8 := z_e8.below k_v16); (try replace z_e9 := z_e9.below k_v16); (try replace z_e10 := z_e10.below k_v16); clear k_v16)
              | (go_at_call 12; (with_reducible refine (V_17.out _ _ _ z_e0).mono ?_); rintro _ w_v17 ⟨rfl, k_v17⟩; replace hb := hb.trans (k_v17.mono hb.size); (try replace z_e0 := z_e0.below k_v17); (try replace z_e1 := z_e1.below k_v17); (try replace z_e2 := z_e2.below k_v17); (try replace z_e3 := z_e3.below k_v17); (try replace z_e4 := z_e4.below k_v17); (try replace z_e5 := z_e5.below k_v17); (try replace z_e6 := z_e6.below k_v17); (try replace z_e7 := z_e7.below k_v17); (try replace z_e8 := z_e8.below k_v17); (try replace z_e9 := z_e9.below k_v17); (try replace z_e10 := z_e10.below k_v17); clear k_v17))
            go_ret
            exact ⟨rfl, hb⟩
          | succ g =>
            have hlt : (i : Int) < (nn : Int) := by omega
            obtain ⟨⟨f, t⟩, hs⟩ : ∃ s, (xs ++ ys)[i]? = some s := ⟨_, List.getElem?_eq_getElem (by have := HNN.out; omega)⟩
            obtain ⟨b3, o3, rfl, s1, s2⟩ := HZ3.out _ hbx i _ hs
            simp only at s1 s2
            have HS := Lib.hid hs
            clear hs
            have hbx2 := hbx.trans ((alloc_below wr (.cells #[.int .i64 f, .int .i64 t] 33)).mono hbx.size)
            have hb := HB2.out.trans (hbx2.mono HB2.out.size)
            by_cases p0 : f < -1125899906842624
            · go_wp2
              go_ret
              exact ⟨rfl, hb⟩
            · skip
              by_cases p1 : 1125899906842624 < f
              · go_wp2
                go_ret
                exact ⟨rfl, hb⟩
              · skip
                by_cases p2 : t < -1125899906842624
                · go_wp2
                  go_ret
                  exact ⟨rfl, hb⟩
                · skip
                  by_cases p3 : 1125899906842624 < t
                  · go_wp2
                    go_ret
                    exact ⟨rfl, hb⟩
                  · skip
                    have HJ2 := Lib.hid (show ∀ j x, j < i + 1 → (xs ++ ys)[j]? = some x → -1125899906842624 ≤ x.1 ∧ x.1 ≤ 1125899906842624 ∧ -1125899906842624 ≤ x.2 ∧ x.2 ≤ 1125899906842624 from fun j x hj hx => by
                      rcases Nat.lt_or_ge j i with hj' | hj'
                      · exact HJ.out j x hj' hx
                      · obtain rfl : j = i := by omega
                        rw [HS.out] at hx
                        obtain rfl := Option.some.inj hx
                        exact ⟨by show _ ≤ f; omega, by show f ≤ _; omega, by show _ ≤ t; omega, by show t ≤ _; omega⟩)
                    go_wp2
                    go_roundg g
                    case measure => omega
                    case rel => exact ⟨i + 1, by omega, by go_num, HJ2.out, hbx2⟩
  · have SH : Hid (∀ w0 : World, Calls Try.prog 11 #[.slice (some ⟨w0.heap.size, 0, none⟩) 2 2] (w0.alloc (.cells #[.slice a1 n1 c1, .slice a2 n2 c2] 22)) fun r w' => r = .returned (.bool false) ∧ Below w0.heap.size w0 w') := fun w0 => (short_new [(a1, n1, c1), (a2, n2, c2)] w0 22 (by simp)).mono fun r w' ⟨hr, hw⟩ => ⟨hr.trans (ret_bool (by simp only [List.all_cons, List.all_nil, Bool.and_true]; first | (simp only [Bool.and_eq_true, decide_eq_true_eq]; exact hs) | (rw [Bool.eq_false_iff]; intro h; simp only [Bool.and_eq_true, decide_eq_true_eq] at h; exact hs h))), hw⟩
    clear hs hn1 hn2
    go_enter Try.func8, Try.ntmps8
    go_wp2_with (first
      | (go_at_call 10; (with_reducible refine (head_any _).mono ?_); rintro _ wh ⟨rfl, kh⟩; replace hb := hb.trans (kh.mono hb.size); clear kh)
      | (go_at_call 11; (with_reducible refine (SH.out _).mono ?_); rintro _ ws ⟨rfl, ks⟩; replace hb := hb.trans (ks.mono hb.size); clear ks))
    go_ret
    exact ⟨rfl, hb⟩
end Go.Proofs.Ytahionbbpfmplaa.Sp
