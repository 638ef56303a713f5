/- The walk of the law SpanMatchesReference: it returns true. Conditions: the lists lie in memory as the arguments say. -/
import Derived.Test.YtahionbbpfmplaaSpanHead
import Derived.Test.YtahionbbpfmplaaSpanOpen
import Derived.Test.YtahionbbpfmplaaSpanRef8
namespace Go.Proofs.Ytahionbbpfmplaa.Sp
open Go.RowKit
set_option maxHeartbeats 16000000 in
set_option maxRecDepth 100000 in
theorem matches_walk (a1 a2 : Option Addr) (c1 c2 : Nat) (xs ys : List Sn) (q : Int) (w : World) (z1 : In a1 c1 xs w) (z2 : In a2 c2 ys w) (_hq : -9223372036854775808 ≤ q ∧ q ≤ 9223372036854775807) :
    Calls Try.prog 3 #[.slice a1 xs.length c1, .slice a2 ys.length c2, .int .i64 q] w fun r w' => r = .returned (.bool true) ∧ Below w.heap.size w w' := by
  have HX1 := Lib.hid (fun w' (k : Below w.heap.size w w') => z1.at_.below k)
  have HIN1 := Lib.hid z1
  have HX2 := Lib.hid (fun w' (k : Below w.heap.size w w') => z2.at_.below k)
  have HIN2 := Lib.hid z2
  obtain ⟨n1, hn1⟩ : ∃ n, n = xs.length := ⟨_, rfl⟩
  obtain ⟨n2, hn2⟩ : ∃ n, n = ys.length := ⟨_, rfl⟩
  rw [← hn1, ← hn2]
  have HN1 := Lib.hid (show Ln n1 xs from hn1)
  have HN2 := Lib.hid (show Ln n2 ys from hn2)
  have hb := Below.refl w.heap.size w
  clear z1 z2
  by_cases hs : n1 ≤ 60 ∧ n2 ≤ 60
  · have SH : Hid (∀ w0 : World, Calls Try.prog 11 #[.slice (some ⟨w0.heap.size, 0, none⟩) 2 2] (w0.alloc (.cells #[.slice a1 n1 c1, .slice a2 n2 c2] 22)) fun r w' => r = .returned (.bool true) ∧ Below w0.heap.size w0 w') := fun w0 => (short_new [(a1, n1, c1), (a2, n2, c2)] w0 22 (by simp)).mono fun r w' ⟨hr, hw⟩ => ⟨hr.trans (ret_bool (by simp only [List.all_cons, List.all_nil, Bool.and_true]; first | (simp only [Bool.and_eq_true, decide_eq_true_eq]; exact hs) | (rw [Bool.eq_false_iff]; intro h; simp only [Bool.and_eq_true, decide_eq_true_eq] at h; exact hs h))), hw⟩
    obtain ⟨g1, g2⟩ := hs
    obtain ⟨bv, h'bv⟩ : ∃ b, b = decide (Nf xs) := ⟨_, rfl⟩
    have h_bv := Lib.hid h'bv
    obtain ⟨bh, h'bh⟩ : ∃ b, b = has xs q := ⟨_, rfl⟩
    have h_bh := Lib.hid h'bh
    clear h'bv h'bh
    have V_0 : Hid (∀ a c w, SpansAt a xs w → Calls Try.prog 12 #[.slice a n1 c] w fun r w' => r = .returned (.bool bv) ∧ Below w.heap.size w w') := fun a c w z => (valid_at HN1.out (Nat.le_trans g1 (by decide)) a c w z).mono fun r w' ⟨hr, hw⟩ => ⟨hr.trans (ret_bool h_bv.out.symm), hw⟩
    have RV : Hid (∀ w', Below w.heap.size w w' → Calls Try.prog 13 #[.slice a1 n1 c1] w' fun r w'' => r = .returned (.bool bv) ∧ Below w'.heap.size w' w'') := fun w' k => by have q := rvalid_any a1 c1 xs w' (by have := HN1.out; unfold Ln at this; omega) (HX1.out _ k); rw [← HN1.out] at q; exact q.mono fun r w'' ⟨hr, hw⟩ => ⟨hr.trans (ret_bool h_bv.out.symm), hw⟩
    obtain ⟨n_e0, h'_e0⟩ : ∃ n, Ln n (norm xs) := ⟨_, rfl⟩
    have h_e0 := Lib.hid h'_e0
    have b_e0 := Lib.hid (show n_e0 ≤ 60 from norm_bd h_e0.out HN1.out g1)
    clear h'_e0
    have C_e0 := Lib.hid (normal_at' HN1.out h_e0.out (Nat.le_trans g1 (by decide)))
    have C_re0 : Hid (∀ w', Below w.heap.size w w' → Calls Try.prog 16 #[.slice a1 n1 c1] w' fun r w'' => ∃ a c, r = .returned (.slice a n_e0 c) ∧ SpansAt a (norm xs) w'' ∧ Below w'.heap.size w' w'') := fun w' k => by have q := rnormal_any a1 c1 xs w' (by have := HN1.out; unfold Ln at this; omega) HIN1.out.cap (HX1.out _ k); rw [← HN1.out] at q; exact q.mono fun r w'' h => ret_of h_e0.out h
    have S_4 := Lib.hid (same_at (xs := (norm xs)) (ys := (norm xs)) h_e0.out h_e0.out (Nat.le_trans b_e0.out (by decide)) rfl)
    obtain ⟨n_e1, h'_e1⟩ : ∃ n, Ln n (union xs ys) := ⟨_, rfl⟩
    have h_e1 := Lib.hid h'_e1
    have b_e1 := Lib.hid (show n_e1 ≤ 120 from union_bd h_e1.out HN1.out HN2.out g1 g2)
    clear h'_e1
    have C_e1 := Lib.hid (union_at HN1.out HN2.out h_e1.out (Nat.le_trans g1 (by decide)) (Nat.le_trans g2 (by decide)))
    have C_re1 : Hid (∀ w', Below w.heap.size w w' → Calls Try.prog 18 #[.slice a1 n1 c1, .slice a2 n2 c2] w' fun r w'' => ∃ a c, r = .returned (.slice a n_e1 c) ∧ SpansAt a (union xs ys) w'' ∧ Below w'.heap.size w' w'') := fun w' k => by have q := runion_any a1 a2 c1 c2 xs ys w' (by have := HN1.out; unfold Ln at this; omega) (by have := HN2.out; unfold Ln at this; omega) (HX1.out _ k) (HX2.out _ k) HIN1.out.none HIN2.out.none; rw [← HN1.out, ← HN2.out] at q; exact q.mono fun r w'' h => ret_of h_e1.out h
    have S_7 := Lib.hid (same_at (xs := (union xs ys)) (ys := (union xs ys)) h_e1.out h_e1.out (Nat.le_trans b_e1.out (by decide)) rfl)
    obtain ⟨n_e2, h'_e2⟩ : ∃ n, Ln n (meet xs ys) := ⟨_, rfl⟩
    have h_e2 := Lib.hid h'_e2
    have b_e2 := Lib.hid (show n_e2 ≤ 120 from meet_bd h_e2.out HN1.out HN2.out g1 g2)
    clear h'_e2
    have C_e2 := Lib.hid (meet_at HN1.out HN2.out h_e2.out (Nat.le_trans g1 (by decide)) (Nat.le_trans g2 (by decide)))
    have C_re2 : Hid (∀ w', Below w.heap.size w w' → Calls Try.prog 20 #[.slice a1 n1 c1, .slice a2 n2 c2] w' fun r w'' => ∃ a c, r = .returned (.slice a n_e2 c) ∧ SpansAt a (meet xs ys) w'' ∧ Below w'.heap.size w' w'') := fun w' k => by have q := rmeet_any a1 a2 c1 c2 xs ys w' (by have := HN1.out; unfold Ln at this; omega) (by have := HN2.out; unfold Ln at this; omega) (HX1.out _ k) (HX2.out _ k) HIN1.out.cap HIN2.out.cap; rw [← HN1.out, ← HN2.out] at q; exact q.mono fun r w'' h => ret_of h_e2.out h
    have S_10 := Lib.hid (same_at (xs := (meet xs ys)) (ys := (meet xs ys)) h_e2.out h_e2.out (Nat.le_trans b_e2.out (by decide)) rfl)
    obtain ⟨n_e3, h'_e3⟩ : ∃ n, Ln n (minus xs ys) := ⟨_, rfl⟩
    have h_e3 := Lib.hid h'_e3
    have b_e3 := Lib.hid (show n_e3 ≤ 120 from minus_bd h_e3.out HN1.out HN2.out g1 g2)
    clear h'_e3
    have C_e3 := Lib.hid (minus_at HN1.out HN2.out h_e3.out (Nat.le_trans g1 (by decide)) (Nat.le_trans g2 (by decide)))
    have C_re3 : Hid (∀ w', Below w.heap.size w w' → Calls Try.prog 22 #[.slice a1 n1 c1, .slice a2 n2 c2] w' fun r w'' => ∃ a c, r = .returned (.slice a n_e3 c) ∧ SpansAt a (minus xs ys) w'' ∧ Below w'.heap.size w' w'') := fun w' k => by have q := rminus_any a1 a2 c1 c2 xs ys w' (by have := HN1.out; unfold Ln at this; omega) (by have := HN2.out; unfold Ln at this; omega) (HX1.out _ k) (HX2.out _ k) HIN1.out.cap HIN2.out.cap; rw [← HN1.out, ← HN2.out] at q; exact q.mono fun r w'' h => ret_of h_e3.out h
    have S_13 := Lib.hid (same_at (xs := (minus xs ys)) (ys := (minus xs ys)) h_e3.out h_e3.out (Nat.le_trans b_e3.out (by decide)) rfl)
    have V_14 : Hid (∀ a c w, SpansAt a xs w → Calls Try.prog 23 #[.slice a n1 c, .int .i64 q] w fun r w' => r = .returned (.bool bh) ∧ Below w.heap.size w w') := fun a c w z => (has_at HN1.out (Nat.le_trans g1 (by decide)) q a c w z).mono fun r w' ⟨hr, hw⟩ => ⟨hr.trans (ret_bool h_bh.out.symm), hw⟩
    have RH : Hid (∀ w', Below w.heap.size w w' → Calls Try.prog 24 #[.slice a1 n1 c1, .int .i64 q] w' fun r w'' => r = .returned (.bool bh) ∧ Below w'.heap.size w' w'') := fun w' k => by have q' := rhas_any a1 c1 xs q w' (by have := HN1.out; unfold Ln at this; omega) (HX1.out _ k); rw [← HN1.out] at q'; exact q'.mono fun r w'' ⟨hr, hw⟩ => ⟨hr.trans (ret_bool h_bh.out.symm), hw⟩
    obtain ⟨sa, h'sa⟩ : ∃ s, s = size xs := ⟨_, rfl⟩
    have h_sa := Lib.hid h'sa
    clear h'sa
    have V_16 : Hid (∀ a c w, SpansAt a xs w → Calls Try.prog 25 #[.slice a n1 c] w fun r w' => r = .returned (.int .i64 sa) ∧ Below w.heap.size w w') := fun a c w z => (size_at HN1.out (Nat.le_trans g1 (by decide)) a c w z).mono fun r w' ⟨hr, hw⟩ => ⟨hr.trans (ret_int h_sa.out.symm), hw⟩
    have RS : Hid (∀ w', Below w.heap.size w w' → Calls Try.prog 26 #[.slice a1 n1 c1] w' fun r w'' => r = .returned (.int .i64 sa) ∧ Below w'.heap.size w' w'') := fun w' k => by have q := rsize_any a1 c1 xs w' (by have := HN1.out; unfold Ln at this; omega) HIN1.out.cap (HX1.out _ k); rw [← HN1.out] at q; exact q.mono fun r w'' ⟨hr, hw⟩ => ⟨hr.trans (ret_int h_sa.out.symm), hw⟩
    clear hn1 hn2
    have t1 : (bv == bv) = true := by simp
    have t2 : (bh == bh) = true := by simp
    have t3 : (sa == sa) = true := by simp
    go_enter Try.func3, Try.ntmps3
    go_wp2_with (first
      | (go_at_call 10; (with_reducible refine (head_any _).mono ?_); rintro _ wh ⟨rfl, kh⟩; replace hb := hb.trans (kh.mono hb.size); clear kh)
      | (go_at_call 11; (with_reducible refine (SH.out _).mono ?_); rintro _ ws ⟨rfl, ks⟩; replace hb := hb.trans (ks.mono hb.size); clear ks)
      | (go_at_call 12; (with_reducible refine (V_0.out _ _ _ (HX1.out _ hb)).mono ?_); rintro _ w_v0 ⟨rfl, k_v0⟩; replace hb := hb.trans (k_v0.mono hb.size); (try replace z_e0 := z_e0.below k_v0); (try replace z_re0 := z_re0.below k_v0); (try replace z_e1 := z_e1.below k_v0); (try replace z_re1 := z_re1.below k_v0); (try replace z_e2 := z_e2.below k_v0); (try replace z_re2 := z_re2.below k_v0); (try replace z_e3 := z_e3.below k_v0); (try replace z_re3 := z_re3.below k_v0); clear k_v0)
      | (go_at_call 13; (with_reducible refine (RV.out _ hb).mono ?_); rintro _ w_rv ⟨rfl, k_rv⟩; replace hb := hb.trans (k_rv.mono hb.size); (try replace z_e0 := z_e0.below k_rv); (try replace z_re0 := z_re0.below k_rv); (try replace z_e1 := z_e1.below k_rv); (try replace z_re1 := z_re1.below k_rv); (try replace z_e2 := z_e2.below k_rv); (try replace z_re2 := z_re2.below k_rv); (try replace z_e3 := z_e3.below k_rv); (try replace z_re3 := z_re3.below k_rv); clear k_rv)
      | (go_at_call 15; (with_reducible refine (C_e0.out _ _ _ (HX1.out _ hb)).mono ?_); rintro _ w_e0 ⟨a_e0, c_e0, rfl, z_e0, k_e0⟩; replace hb := hb.trans (k_e0.mono hb.size); (try replace z_re0 := z_re0.below k_e0); (try replace z_e1 := z_e1.below k_e0); (try replace z_re1 := z_re1.below k_e0); (try replace z_e2 := z_e2.below k_e0); (try replace z_re2 := z_re2.below k_e0); (try replace z_e3 := z_e3.below k_e0); (try replace z_re3 := z_re3.below k_e0); clear k_e0)
      | (go_at_call 16; (with_reducible refine (C_re0.out _ hb).mono ?_); rintro _ w_re0 ⟨a_re0, c_re0, rfl, z_re0, k_re0⟩; replace hb := hb.trans (k_re0.mono hb.size); (try replace z_e0 := z_e0.below k_re0); (try replace z_e1 := z_e1.below k_re0); (try replace z_re1 := z_re1.below k_re0); (try replace z_e2 := z_e2.below k_re0); (try replace z_re2 := z_re2.below k_re0); (try replace z_e3 := z_e3.below k_re0); (try replace z_re3 := z_re3.below k_re0); clear k_re0)
      | (go_at_call 14; (with_reducible refine (S_4.out _ _ _ _ _ z_e0 z_re0).mono ?_); rintro _ w_s4 ⟨rfl, k_s4⟩; replace hb := hb.trans (k_s4.mono hb.size); (try replace z_e0 := z_e0.below k_s4); (try replace z_re0 := z_re0.below k_s4); (try replace z_e1 := z_e1.below k_s4); (try replace z_re1 := z_re1.below k_s4); (try replace z_e2 := z_e2.below k_s4); (try replace z_re2 := z_re2.below k_s4); (try replace z_e3 := z_e3.below k_s4); (try replace z_re3 := z_re3.below k_s4); clear k_s4)
      | (go_at_call 17; (with_reducible refine (C_e1.out _ _ _ _ _ (HX1.out _ hb) (HX2.out _ hb)).mono ?_); rintro _ w_e1 ⟨a_e1, c_e1, rfl, z_e1, k_e1⟩; replace hb := hb.trans (k_e1.mono hb.size); (try replace z_e0 := z_e0.below k_e1); (try replace z_re0 := z_re0.below k_e1); (try replace z_re1 := z_re1.below k_e1); (try replace z_e2 := z_e2.below k_e1); (try replace z_re2 := z_re2.below k_e1); (try replace z_e3 := z_e3.below k_e1); (try replace z_re3 := z_re3.below k_e1); clear k_e1)
      | (go_at_call 18; (with_reducible refine (C_re1.out _ hb).mono ?_); rintro _ w_re1 ⟨a_re1, c_re1, rfl, z_re1, k_re1⟩; replace hb := hb.trans (k_re1.mono hb.size); (try replace z_e0 := z_e0.below k_re1); (try replace z_re0 := z_re0.below k_re1); (try replace z_e1 := z_e1.below k_re1); (try replace z_e2 := z_e2.below k_re1); (try replace z_re2 := z_re2.below k_re1); (try replace z_e3 := z_e3.below k_re1); (try replace z_re3 := z_re3.below k_re1); clear k_re1)
      | (go_at_call 14; (with_reducible refine (S_7.out _ _ _ _ _ z_e1 z_re1).mono ?_); rintro _ w_s7 ⟨rfl, k_s7⟩; replace hb := hb.trans (k_s7.mono hb.size); (try replace z_e0 := z_e0.below k_s7); (try replace z_re0 := z_re0.below k_s7); (try replace z_e1 := z_e1.below k_s7); (try replace z_re1 := z_re1.below k_s7); (try replace z_e2 := z_e2.below k_s7); (try replace z_re2 := z_re2.below k_s7); (try replace z_e3 := z_e3.below k_s7); (try replace z_re3 := z_re3.below k_s7); clear k_s7)
      | (go_at_call 19; (with_reducible refine (C_e2.out _ _ _ _ _ (HX1.out _ hb) (HX2.out _ hb)).mono ?_); rintro _ w_e2 ⟨a_e2, c_e2, rfl, z_e2, k_e2⟩; replace hb := hb.trans (k_e2.mono hb.size); (try replace z_e0 := z_e0.below k_e2); (try replace z_re0 := z_re0.below k_e2); (try replace z_e1 := z_e1.below k_e2); (try replace z_re1 := z_re1.below k_e2); (try replace z_re2 := z_re2.below k_e2); (try replace z_e3 := z_e3.below k_e2); (try replace z_re3 := z_re3.below k_e2); clear k_e2)
      | (go_at_call 20; (with_reducible refine (C_re2.out _ hb).mono ?_); rintro _ w_re2 ⟨a_re2, c_re2, rfl, z_re2, k_re2⟩; replace hb := hb.trans (k_re2.mono hb.size); (try replace z_e0 := z_e0.below k_re2); (try replace z_re0 := z_re0.below k_re2); (try replace z_e1 := z_e1.below k_re2); (try replace z_re1 := z_re1.below k_re2); (try replace z_e2 := z_e2.below k_re2); (try replace z_e3 := z_e3.below k_re2); (try replace z_re3 := z_re3.below k_re2); clear k_re2)
      | (go_at_call 14; (with_reducible refine (S_10.out _ _ _ _ _ z_e2 z_re2).mono ?_); rintro _ w_s10 ⟨rfl, k_s10⟩; replace hb := hb.trans (k_s10.mono hb.size); (try replace z_e0 := z_e0.below k_s10); (try replace z_re0 := z_re0.below k_s10); (try replace z_e1 := z_e1.below k_s10); (try replace z_re1 := z_re1.below k_s10); (try replace z_e2 := z_e2.below k_s10); (try replace z_re2 := z_re2.below k_s10); (try replace z_e3 := z_e3.below k_s10); (try replace z_re3 := z_re3.below k_s10); clear k_s10)
      | (go_at_call 21; (with_reducible refine (C_e3.out _ _ _ _ _ (HX1.out _ hb) (HX2.out _ hb)).mono ?_); rintro _ w_e3 ⟨a_e3, c_e3, rfl, z_e3, k_e3⟩; replace hb := hb.trans (k_e3.mono hb.size); (try replace z_e0 := z_e0.below k_e3); (try replace z_re0 := z_re0.below k_e3); (try replace z_e1 := z_e1.below k_e3); (try replace z_re1 := z_re1.below k_e3); (try replace z_e2 := z_e2.below k_e3); (try replace z_re2 := z_re2.below k_e3); (try replace z_re3 := z_re3.below k_e3); clear k_e3)
      | (go_at_call 22; (with_reducible refine (C_re3.out _ hb).mono ?_); rintro _ w_re3 ⟨a_re3, c_re3, rfl, z_re3, k_re3⟩; replace hb := hb.trans (k_re3.mono hb.size); (try replace z_e0 := z_e0.below k_re3); (try replace z_re0 := z_re0.below k_re3); (try replace z_e1 := z_e1.below k_re3); (try replace z_re1 := z_re1.below k_re3); (try replace z_e2 := z_e2.below k_re3); (try replace z_re2 := z_re2.below k_re3); (try replace z_e3 := z_e3.below k_re3); clear k_re3)
      | (go_at_call 14; (with_reducible refine (S_13.out _ _ _ _ _ z_e3 z_re3).mono ?_); rintro _ w_s13 ⟨rfl, k_s13⟩; replace hb := hb.trans (k_s13.mono hb.size); (try replace z_e0 := z_e0.below k_s13); (try replace z_re0 := z_re0.below k_s13); (try replace z_e1 := z_e1.below k_s13); (try replace z_re1 := z_re1.below k_s13); (try replace z_e2 := z_e2.below k_s13); (try replace z_re2 := z_re2.below k_s13); (try replace z_e3 := z_e3.below k_s13); (try replace z_re3 := z_re3.below k_s13); clear k_s13)
      | (go_at_call 23; (with_reducible refine (V_14.out _ _ _ (HX1.out _ hb)).mono ?_); rintro _ w_v14 ⟨rfl, k_v14⟩; replace hb := hb.trans (k_v14.mono hb.size); (try replace z_e0 := z_e0.below k_v14); (try replace z_re0 := z_re0.below k_v14); (try replace z_e1 := z_e1.below k_v14); (try replace z_re1 := z_re1.below k_v14); (try replace z_e2 := z_e2.below k_v14); (try replace z_re2 := z_re2.below k_v14); (try replace z_e3 := z_e3.below k_v14); (try replace z_re3 := z_re3.below k_v14); clear k_v14)
      | (go_at_call 24; (with_reducible refine (RH.out _ hb).mono ?_); rintro _ w_rh ⟨rfl, k_rh⟩; replace hb := hb.trans (k_rh.mono hb.size); (try replace z_e0 := z_e0.below k_rh); (try replace z_re0 := z_re0.below k_rh); (try replace z_e1 := z_e1.below k_rh); (try replace z_re1 := z_re1.below k_rh); (try replace z_e2 := z_e2.below k_rh); (try replace z_re2 := z_re2.below k_rh); (try replace z_e3 := z_e3.below k_rh); (try replace z_re3 := z_re3.below k_rh); clear k_rh)
      | (go_at_call 25; (with_reducible refine (V_16.out _ _ _ (HX1.out _ hb)).mono ?_); rintro _ w_v16 ⟨rfl, k_v16⟩; replace hb := hb.trans (k_v16.mono hb.size); (try replace z_e0 := z_e0.below k_v16); (try replace z_re0 := z_re0.below k_v16); (try replace z_e1 := z_e1.below k_v16); (try replace z_re1 := z_re1.below k_v16); (try replace z_e2 := z_e2.below k_v16); (try replace z_re2 := z_re2.below k_v16); (try replace z_e3 := z_e3.below k_v16); (try replace z_re3 := z_re3.below k_v16); clear k_v16)
      | (go_at_call 26; (with_reducible refine (RS.out _ hb).mono ?_); rintro _ w_rs ⟨rfl, k_rs⟩; replace hb := hb.trans (k_rs.mono hb.size); (try replace z_e0 := z_e0.below k_rs); (try replace z_re0 := z_re0.below k_rs); (try replace z_e1 := z_e1.below k_rs); (try replace z_re1 := z_re1.below k_rs); (try replace z_e2 := z_e2.below k_rs); (try replace z_re2 := z_re2.below k_rs); (try replace z_e3 := z_e3.below k_rs); (try replace z_re3 := z_re3.below k_rs); clear k_rs))
    go_ret
    exact ⟨rfl, hb⟩
  · have SH : Hid (∀ w0 : World, Calls Try.prog 11 #[.slice (some ⟨w0.heap.size, 0, none⟩) 2 2] (w0.alloc (.cells #[.slice a1 n1 c1, .slice a2 n2 c2] 22)) fun r w' => r = .returned (.bool false) ∧ Below w0.heap.size w0 w') := fun w0 => (short_new [(a1, n1, c1), (a2, n2, c2)] w0 22 (by simp)).mono fun r w' ⟨hr, hw⟩ => ⟨hr.trans (ret_bool (by simp only [List.all_cons, List.all_nil, Bool.and_true]; first | (simp only [Bool.and_eq_true, decide_eq_true_eq]; exact hs) | (rw [Bool.eq_false_iff]; intro h; simp only [Bool.and_eq_true, decide_eq_true_eq] at h; exact hs h))), hw⟩
    clear hs hn1 hn2
    go_enter Try.func3, Try.ntmps3
    go_wp2_with (first
      | (go_at_call 10; (with_reducible refine (head_any _).mono ?_); rintro _ wh ⟨rfl, kh⟩; replace hb := hb.trans (kh.mono hb.size); clear kh)
      | (go_at_call 11; (with_reducible refine (SH.out _).mono ?_); rintro _ ws ⟨rfl, ks⟩; replace hb := hb.trans (ks.mono hb.size); clear ks))
    go_ret
    exact ⟨rfl, hb⟩
end Go.Proofs.Ytahionbbpfmplaa.Sp
