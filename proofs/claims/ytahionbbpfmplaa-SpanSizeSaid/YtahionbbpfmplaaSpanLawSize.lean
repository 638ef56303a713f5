/- The walk of the law SpanSize: it returns true. Conditions: the lists lie in memory as the arguments say. -/
import Derived.Test.YtahionbbpfmplaaSpanHead
import Derived.Test.YtahionbbpfmplaaSpanOpen
namespace Go.Proofs.Ytahionbbpfmplaa.Sp
open Go.RowKit
set_option maxHeartbeats 16000000 in
set_option maxRecDepth 100000 in
theorem size_walk (a1 a2 : Option Addr) (c1 c2 : Nat) (xs ys : List Sn) (w : World) (z1 : In a1 c1 xs w) (z2 : In a2 c2 ys w) :
    Calls Try.prog 7 #[.slice a1 xs.length c1, .slice a2 ys.length c2] w fun r w' => r = .returned (.bool true) ∧ Below w.heap.size w w' := by
  have HX1 := Lib.hid (fun w' (k : Below w.heap.size w w') => z1.at_.below k)
  have HIN1 := Lib.hid z1
  have HX2 := Lib.hid (fun w' (k : Below w.heap.size w w') => z2.at_.below k)
  have HIN2 := Lib.hid z2
  obtain ⟨n1, hn1⟩ : ∃ n, n = xs.length := ⟨_, rfl⟩
  obtain ⟨n2, hn2⟩ : ∃ n, n = ys.length := ⟨_, rfl⟩
  rw [← hn1, ← hn2]
  have HN1 := Lib.hid (show Ln n1 xs from hn1)
  have HN2 := Lib.hid (show Ln n2 ys from hn2)
  have hb := Below.refl w.heap.size w
  clear z1 z2
  by_cases hs : n1 ≤ 60 ∧ n2 ≤ 60
  · by_cases hz' : size xs = 0
    · have SH : Hid (∀ w0 : World, Calls Try.prog 11 #[.slice (some ⟨w0.heap.size, 0, none⟩) 2 2] (w0.alloc (.cells #[.slice a1 n1 c1, .slice a2 n2 c2] 22)) fun r w' => r = .returned (.bool true) ∧ Below w0.heap.size w0 w') := fun w0 => (short_new [(a1, n1, c1), (a2, n2, c2)] w0 22 (by simp)).mono fun r w' ⟨hr, hw⟩ => ⟨hr.trans (ret_bool (by simp only [List.all_cons, List.all_nil, Bool.and_true]; first | (simp only [Bool.and_eq_true, decide_eq_true_eq]; exact hs) | (rw [Bool.eq_false_iff]; intro h; simp only [Bool.and_eq_true, decide_eq_true_eq] at h; exact hs h))), hw⟩
      obtain ⟨g1, g2⟩ := hs
      obtain ⟨sa, h'sa⟩ : ∃ s, s = size xs := ⟨_, rfl⟩
      have h_sa := Lib.hid h'sa
      clear h'sa
      have V_0 : Hid (∀ a c w, SpansAt a xs w → Calls Try.prog 25 #[.slice a n1 c] w fun r w' => r = .returned (.int .i64 sa) ∧ Below w.heap.size w w') := fun a c w z => (size_at HN1.out (Nat.le_trans g1 (by decide)) a c w z).mono fun r w' ⟨hr, hw⟩ => ⟨hr.trans (ret_int h_sa.out.symm), hw⟩
      obtain ⟨sb, h'sb⟩ : ∃ s, s = size ys := ⟨_, rfl⟩
      have h_sb := Lib.hid h'sb
      clear h'sb
      have V_1 : Hid (∀ a c w, SpansAt a ys w → Calls Try.prog 25 #[.slice a n2 c] w fun r w' => r = .returned (.int .i64 sb) ∧ Below w.heap.size w w') := fun a c w z => (size_at HN2.out (Nat.le_trans g2 (by decide)) a c w z).mono fun r w' ⟨hr, hw⟩ => ⟨hr.trans (ret_int h_sb.out.symm), hw⟩
      obtain ⟨n_e0, h'_e0⟩ : ∃ n, Ln n (union xs ys) := ⟨_, rfl⟩
      have h_e0 := Lib.hid h'_e0
      have b_e0 := Lib.hid (show n_e0 ≤ 120 from union_bd h_e0.out HN1.out HN2.out g1 g2)
      clear h'_e0
      have C_e0 := Lib.hid (union_at HN1.out HN2.out h_e0.out (Nat.le_trans g1 (by decide)) (Nat.le_trans g2 (by decide)))
      obtain ⟨su, h'su⟩ : ∃ s, s = size (union xs ys) := ⟨_, rfl⟩
      have h_su := Lib.hid h'su
      clear h'su
      have V_3 : Hid (∀ a c w, SpansAt a (union xs ys) w → Calls Try.prog 25 #[.slice a n_e0 c] w fun r w' => r = .returned (.int .i64 su) ∧ Below w.heap.size w w') := fun a c w z => (size_at h_e0.out (Nat.le_trans b_e0.out (by decide)) a c w z).mono fun r w' ⟨hr, hw⟩ => ⟨hr.trans (ret_int h_su.out.symm), hw⟩
      obtain ⟨n_e1, h'_e1⟩ : ∃ n, Ln n (meet xs ys) := ⟨_, rfl⟩
      have h_e1 := Lib.hid h'_e1
      have b_e1 := Lib.hid (show n_e1 ≤ 120 from meet_bd h_e1.out HN1.out HN2.out g1 g2)
      clear h'_e1
      have C_e1 := Lib.hid (meet_at HN1.out HN2.out h_e1.out (Nat.le_trans g1 (by decide)) (Nat.le_trans g2 (by decide)))
      obtain ⟨sm, h'sm⟩ : ∃ s, s = size (meet xs ys) := ⟨_, rfl⟩
      have h_sm := Lib.hid h'sm
      clear h'sm
      have V_5 : Hid (∀ a c w, SpansAt a (meet xs ys) w → Calls Try.prog 25 #[.slice a n_e1 c] w fun r w' => r = .returned (.int .i64 sm) ∧ Below w.heap.size w w') := fun a c w z => (size_at h_e1.out (Nat.le_trans b_e1.out (by decide)) a c w z).mono fun r w' ⟨hr, hw⟩ => ⟨hr.trans (ret_int h_sm.out.symm), hw⟩
      obtain ⟨n_e2, h'_e2⟩ : ∃ n, Ln n (minus xs ys) := ⟨_, rfl⟩
      have h_e2 := Lib.hid h'_e2
      have b_e2 := Lib.hid (show n_e2 ≤ 120 from minus_bd h_e2.out HN1.out HN2.out g1 g2)
      clear h'_e2
      have C_e2 := Lib.hid (minus_at HN1.out HN2.out h_e2.out (Nat.le_trans g1 (by decide)) (Nat.le_trans g2 (by decide)))
      obtain ⟨sd, h'sd⟩ : ∃ s, s = size (minus xs ys) := ⟨_, rfl⟩
      have h_sd := Lib.hid h'sd
      clear h'sd
      have V_7 : Hid (∀ a c w, SpansAt a (minus xs ys) w → Calls Try.prog 25 #[.slice a n_e2 c] w fun r w' => r = .returned (.int .i64 sd) ∧ Below w.heap.size w w') := fun a c w z => (size_at h_e2.out (Nat.le_trans b_e2.out (by decide)) a c w z).mono fun r w' ⟨hr, hw⟩ => ⟨hr.trans (ret_int h_sd.out.symm), hw⟩
      obtain ⟨n_e3, h'_e3⟩ : ∃ n, Ln n (norm xs) := ⟨_, rfl⟩
      have h_e3 := Lib.hid h'_e3
      have b_e3 := Lib.hid (show n_e3 ≤ 60 from norm_bd h_e3.out HN1.out g1)
      clear h'_e3
      have C_e3 := Lib.hid (normal_at' HN1.out h_e3.out (Nat.le_trans g1 (by decide)))
      have hz : sa = 0 := by rw [h_sa.out]; exact hz'
      clear hz'
      clear hn1 hn2
      have q1 := size_bd xs
      have q2 := size_bd ys
      have q3 := size_bd (union xs ys)
      have q4 := size_bd (meet xs ys)
      have q5 := size_bd (minus xs ys)
      have q6 := size_union xs ys
      have q7 := size_minus xs ys
      have q8 := size_zero xs
      rw [← h_sa.out] at q1 q6 q7 q8
      rw [← h_sb.out] at q2 q6
      rw [← h_su.out] at q3 q6
      rw [← h_sm.out] at q4 q6 q7
      rw [← h_sd.out] at q5 q7
      have r1 := IntWalk.i64_in (su - sa) (by omega)
      have r2 := IntWalk.i64_in (sb - sm) (by omega)
      have r3 := IntWalk.i64_in (sa - sm) (by omega)
      have t1 : ((su - sa) == (sb - sm)) = true := by rw [show su - sa = sb - sm by omega]; simp
      have t2 : (sd == (sa - sm)) = true := by rw [show sa - sm = sd by omega]; simp
      have t3 : (0 : Int) ≤ sa := q1.1
      have t4 : (sa == 0) = true := by rw [hz]; rfl
      have t5 : ((n_e3 : Int) == 0) = true := by have e := h_e3.out; unfold Ln at e; rw [q8.1 hz] at e; rw [e]; rfl
      clear q1 q2 q3 q4 q5 q6 q7 q8 hz
      go_enter Try.func7, Try.ntmps7
      go_wp2_with (first
        | (go_at_call 10; (with_reducible refine (head_any _).mono ?_); rintro _ wh ⟨rfl, kh⟩; replace hb := hb.trans (kh.mono hb.size); clear kh)
        | (go_at_call 11; (with_reducible refine (SH.out _).mono ?_); rintro _ ws ⟨rfl, ks⟩; replace hb := hb.trans (ks.mono hb.size); clear ks)
        | (go_at_call 25; (with_reducible refine (V_0.out _ _ _ (HX1.out _ hb)).mono ?_); rintro _ w_v0 ⟨rfl, k_v0⟩; replace hb := hb.trans (k_v0.mono hb.size); (try replace z_e0 := z_e0.below k_v0); (try replace z_e1 := z_e1.below k_v0); (try replace z_e2 := z_e2.below k_v0); (try replace z_e3 := z_e3.below k_v0); clear k_v0)
        | (go_at_call 25; (with_reducible refine (V_1.out _ _ _ (HX2.out _ hb)).mono ?_); rintro _ w_v1 ⟨rfl, k_v1⟩; replace hb := hb.trans (k_v1.mono hb.size); (try replace z_e0 := z_e0.below k_v1); (try replace z_e1 := z_e1.below k_v1); (try replace z_e2 := z_e2.below k_v1); (try replace z_e3 := z_e3.below k_v1); clear k_v1)
        | (go_at_call 17; (with_reducible refine (C_e0.out _ _ _ _ _ (HX1.out _ hb) (HX2.out _ hb)).mono ?_); rintro _ w_e0 ⟨a_e0, c_e0, rfl, z_e0, k_e0⟩; replace hb := hb.trans (k_e0.mono hb.size); (try replace z_e1 := z_e1.below k_e0); (try replace z_e2 := z_e2.below k_e0); (try replace z_e3 := z_e3.below k_e0); clear k_e0)
        | (go_at_call 25; (with_reducible refine (V_3.out _ _ _ z_e0).mono ?_); rintro _ w_v3 ⟨rfl, k_v3⟩; replace hb := hb.trans (k_v3.mono hb.size); (try replace z_e0 := z_e0.below k_v3); (try replace z_e1 := z_e1.below k_v3); (try replace z_e2 := z_e2.below k_v3); (try replace z_e3 := z_e3.below k_v3); clear k_v3)
        | (go_at_call 19; (with_reducible refine (C_e1.out _ _ _ _ _ (HX1.out _ hb) (HX2.out _ hb)).mono ?_); rintro _ w_e1 ⟨a_e1, c_e1, rfl, z_e1, k_e1⟩; replace hb := hb.trans (k_e1.mono hb.size); (try replace z_e0 := z_e0.below k_e1); (try replace z_e2 := z_e2.below k_e1); (try replace z_e3 := z_e3.below k_e1); clear k_e1)
        | (go_at_call 25; (with_reducible refine (V_5.out _ _ _ z_e1).mono ?_); rintro _ w_v5 ⟨rfl, k_v5⟩; replace hb := hb.trans (k_v5.mono hb.size); (try replace z_e0 := z_e0.below k_v5); (try replace z_e1 := z_e1.below k_v5); (try replace z_e2 := z_e2.below k_v5); (try replace z_e3 := z_e3.below k_v5); clear k_v5)
        | (go_at_call 21; (with_reducible refine (C_e2.out _ _ _ _ _ (HX1.out _ hb) (HX2.out _ hb)).mono ?_); rintro _ w_e2 ⟨a_e2, c_e2, rfl, z_e2, k_e2⟩; replace hb := hb.trans (k_e2.mono hb.size); (try replace z_e0 := z_e0.below k_e2); (try replace z_e1 := z_e1.below k_e2); (try replace z_e3 := z_e3.below k_e2); clear k_e2)
        | (go_at_call 25; (with_reducible refine (V_7.out _ _ _ z_e2).mono ?_); rintro _ w_v7 ⟨rfl, k_v7⟩; replace hb := hb.trans (k_v7.mono hb.size); (try replace z_e0 := z_e0.below k_v7); (try replace z_e1 := z_e1.below k_v7); (try replace z_e2 := z_e2.below k_v7); (try replace z_e3 := z_e3.below k_v7); clear k_v7)
        | (go_at_call 15; (with_reducible refine (C_e3.out _ _ _ (HX1.out _ hb)).mono ?_); rintro _ w_e3 ⟨a_e3, c_e3, rfl, z_e3, k_e3⟩; replace hb := hb.trans (k_e3.mono hb.size); (try replace z_e0 := z_e0.below k_e3); (try replace z_e1 := z_e1.below k_e3); (try replace z_e2 := z_e2.below k_e3); clear k_e3))
      go_ret
      exact ⟨rfl, hb⟩
    · have SH : Hid (∀ w0 : World, Calls Try.prog 11 #[.slice (some ⟨w0.heap.size, 0, none⟩) 2 2] (w0.alloc (.cells #[.slice a1 n1 c1, .slice a2 n2 c2] 22)) fun r w' => r = .returned (.bool true) ∧ Below w0.heap.size w0 w') := fun w0 => (short_new [(a1, n1, c1), (a2, n2, c2)] w0 22 (by simp)).mono fun r w' ⟨hr, hw⟩ => ⟨hr.trans (ret_bool (by simp only [List.all_cons, List.all_nil, Bool.and_true]; first | (simp only [Bool.and_eq_true, decide_eq_true_eq]; exact hs) | (rw [Bool.eq_false_iff]; intro h; simp only [Bool.and_eq_true, decide_eq_true_eq] at h; exact hs h))), hw⟩
      obtain ⟨g1, g2⟩ := hs
      obtain ⟨sa, h'sa⟩ : ∃ s, s = size xs := ⟨_, rfl⟩
      have h_sa := Lib.hid h'sa
      clear h'sa
      have V_0 : Hid (∀ a c w, SpansAt a xs w → Calls Try.prog 25 #[.slice a n1 c] w fun r w' => r = .returned (.int .i64 sa) ∧ Below w.heap.size w w') := fun a c w z => (size_at HN1.out (Nat.le_trans g1 (by decide)) a c w z).mono fun r w' ⟨hr, hw⟩ => ⟨hr.trans (ret_int h_sa.out.symm), hw⟩
      obtain ⟨sb, h'sb⟩ : ∃ s, s = size ys := ⟨_, rfl⟩
      have h_sb := Lib.hid h'sb
      clear h'sb
      have V_1 : Hid (∀ a c w, SpansAt a ys w → Calls Try.prog 25 #[.slice a n2 c] w fun r w' => r = .returned (.int .i64 sb) ∧ Below w.heap.size w w') := fun a c w z => (size_at HN2.out (Nat.le_trans g2 (by decide)) a c w z).mono fun r w' ⟨hr, hw⟩ => ⟨hr.trans (ret_int h_sb.out.symm), hw⟩
      obtain ⟨n_e0, h'_e0⟩ : ∃ n, Ln n (union xs ys) := ⟨_, rfl⟩
      have h_e0 := Lib.hid h'_e0
      have b_e0 := Lib.hid (show n_e0 ≤ 120 from union_bd h_e0.out HN1.out HN2.out g1 g2)
      clear h'_e0
      have C_e0 := Lib.hid (union_at HN1.out HN2.out h_e0.out (Nat.le_trans g1 (by decide)) (Nat.le_trans g2 (by decide)))
      obtain ⟨su, h'su⟩ : ∃ s, s = size (union xs ys) := ⟨_, rfl⟩
      have h_su := Lib.hid h'su
      clear h'su
      have V_3 : Hid (∀ a c w, SpansAt a (union xs ys) w → Calls Try.prog 25 #[.slice a n_e0 c] w fun r w' => r = .returned (.int .i64 su) ∧ Below w.heap.size w w') := fun a c w z => (size_at h_e0.out (Nat.le_trans b_e0.out (by decide)) a c w z).mono fun r w' ⟨hr, hw⟩ => ⟨hr.trans (ret_int h_su.out.symm), hw⟩
      obtain ⟨n_e1, h'_e1⟩ : ∃ n, Ln n (meet xs ys) := ⟨_, rfl⟩
      have h_e1 := Lib.hid h'_e1
      have b_e1 := Lib.hid (show n_e1 ≤ 120 from meet_bd h_e1.out HN1.out HN2.out g1 g2)
      clear h'_e1
      have C_e1 := Lib.hid (meet_at HN1.out HN2.out h_e1.out (Nat.le_trans g1 (by decide)) (Nat.le_trans g2 (by decide)))
      obtain ⟨sm, h'sm⟩ : ∃ s, s = size (meet xs ys) := ⟨_, rfl⟩
      have h_sm := Lib.hid h'sm
      clear h'sm
      have V_5 : Hid (∀ a c w, SpansAt a (meet xs ys) w → Calls Try.prog 25 #[.slice a n_e1 c] w fun r w' => r = .returned (.int .i64 sm) ∧ Below w.heap.size w w') := fun a c w z => (size_at h_e1.out (Nat.le_trans b_e1.out (by decide)) a c w z).mono fun r w' ⟨hr, hw⟩ => ⟨hr.trans (ret_int h_sm.out.symm), hw⟩
      obtain ⟨n_e2, h'_e2⟩ : ∃ n, Ln n (minus xs ys) := ⟨_, rfl⟩
      have h_e2 := Lib.hid h'_e2
      have b_e2 := Lib.hid (show n_e2 ≤ 120 from minus_bd h_e2.out HN1.out HN2.out g1 g2)
      clear h'_e2
      have C_e2 := Lib.hid (minus_at HN1.out HN2.out h_e2.out (Nat.le_trans g1 (by decide)) (Nat.le_trans g2 (by decide)))
      obtain ⟨sd, h'sd⟩ : ∃ s, s = size (minus xs ys) := ⟨_, rfl⟩
      have h_sd := Lib.hid h'sd
      clear h'sd
      have V_7 : Hid (∀ a c w, SpansAt a (minus xs ys) w → Calls Try.prog 25 #[.slice a n_e2 c] w fun r w' => r = .returned (.int .i64 sd) ∧ Below w.heap.size w w') := fun a c w z => (size_at h_e2.out (Nat.le_trans b_e2.out (by decide)) a c w z).mono fun r w' ⟨hr, hw⟩ => ⟨hr.trans (ret_int h_sd.out.symm), hw⟩
      obtain ⟨n_e3, h'_e3⟩ : ∃ n, Ln n (norm xs) := ⟨_, rfl⟩
      have h_e3 := Lib.hid h'_e3
      have b_e3 := Lib.hid (show n_e3 ≤ 60 from norm_bd h_e3.out HN1.out g1)
      clear h'_e3
      have C_e3 := Lib.hid (normal_at' HN1.out h_e3.out (Nat.le_trans g1 (by decide)))
      have hz : ¬ sa = 0 := by rw [h_sa.out]; exact hz'
      clear hz'
      clear hn1 hn2
      have q1 := size_bd xs
      have q2 := size_bd ys
      have q3 := size_bd (union xs ys)
      have q4 := size_bd (meet xs ys)
      have q5 := size_bd (minus xs ys)
      have q6 := size_union xs ys
      have q7 := size_minus xs ys
      have q8 := size_zero xs
      rw [← h_sa.out] at q1 q6 q7 q8
      rw [← h_sb.out] at q2 q6
      rw [← h_su.out] at q3 q6
      rw [← h_sm.out] at q4 q6 q7
      rw [← h_sd.out] at q5 q7
      have r1 := IntWalk.i64_in (su - sa) (by omega)
      have r2 := IntWalk.i64_in (sb - sm) (by omega)
      have r3 := IntWalk.i64_in (sa - sm) (by omega)
      have t1 : ((su - sa) == (sb - sm)) = true := by rw [show su - sa = sb - sm by omega]; simp
      have t2 : (sd == (sa - sm)) = true := by rw [show sa - sm = sd by omega]; simp
      have t3 : (0 : Int) ≤ sa := q1.1
      have t4 : (sa == 0) = false := by simpa using hz
      have t5 : ((n_e3 : Int) == 0) = false := by have e := h_e3.out; unfold Ln at e; have : ¬ norm xs = [] := fun h => hz (q8.2 h); have : (norm xs).length ≠ 0 := fun h => this (List.eq_nil_of_length_eq_zero h); simp; omega
      clear q1 q2 q3 q4 q5 q6 q7 q8 hz
      go_enter Try.func7, Try.ntmps7
      go_wp2_with (first
        | (go_at_call 10; (with_reducible refine (head_any _).mono ?_); rintro _ wh ⟨rfl, kh⟩; replace hb := hb.trans (kh.mono hb.size); clear kh)
        | (go_at_call 11; (with_reducible refine (SH.out _).mono ?_); rintro _ ws ⟨rfl, ks⟩; replace hb := hb.trans (ks.mono hb.size); clear ks)
        | (go_at_call 25; (with_reducible refine (V_0.out _ _ _ (HX1.out _ hb)).mono ?_); rintro _ w_v0 ⟨rfl, k_v0⟩; replace hb := hb.trans (k_v0.mono hb.size); (try replace z_e0 := z_e0.below k_v0); (try replace z_e1 := z_e1.below k_v0); (try replace z_e2 := z_e2.below k_v0); (try replace z_e3 := z_e3.below k_v0); clear k_v0)
        | (go_at_call 25; (with_reducible refine (V_1.out _ _ _ (HX2.out _ hb)).mono ?_); rintro _ w_v1 ⟨rfl, k_v1⟩; replace hb := hb.trans (k_v1.mono hb.size); (try replace z_e0 := z_e0.below k_v1); (try replace z_e1 := z_e1.below k_v1); (try replace z_e2 := z_e2.below k_v1); (try replace z_e3 := z_e3.below k_v1); clear k_v1)
        | (go_at_call 17; (with_reducible refine (C_e0.out _ _ _ _ _ (HX1.out _ hb) (HX2.out _ hb)).mono ?_); rintro _ w_e0 ⟨a_e0, c_e0, rfl, z_e0, k_e0⟩; replace hb := hb.trans (k_e0.mono hb.size); (try replace z_e1 := z_e1.below k_e0); (try replace z_e2 := z_e2.below k_e0); (try replace z_e3 := z_e3.below k_e0); clear k_e0)
        | (go_at_call 25; (with_reducible refine (V_3.out _ _ _ z_e0).mono ?_); rintro _ w_v3 ⟨rfl, k_v3⟩; replace hb := hb.trans (k_v3.mono hb.size); (try replace z_e0 := z_e0.below k_v3); (try replace z_e1 := z_e1.below k_v3); (try replace z_e2 := z_e2.below k_v3); (try replace z_e3 := z_e3.below k_v3); clear k_v3)
        | (go_at_call 19; (with_reducible refine (C_e1.out _ _ _ _ _ (HX1.out _ hb) (HX2.out _ hb)).mono ?_); rintro _ w_e1 ⟨a_e1, c_e1, rfl, z_e1, k_e1⟩; replace hb := hb.trans (k_e1.mono hb.size); (try replace z_e0 := z_e0.below k_e1); (try replace z_e2 := z_e2.below k_e1); (try replace z_e3 := z_e3.below k_e1); clear k_e1)
        | (go_at_call 25; (with_reducible refine (V_5.out _ _ _ z_e1).mono ?_); rintro _ w_v5 ⟨rfl, k_v5⟩; replace hb := hb.trans (k_v5.mono hb.size); (try replace z_e0 := z_e0.below k_v5); (try replace z_e1 := z_e1.below k_v5); (try replace z_e2 := z_e2.below k_v5); (try replace z_e3 := z_e3.below k_v5); clear k_v5)
        | (go_at_call 21; (with_reducible refine (C_e2.out _ _ _ _ _ (HX1.out _ hb) (HX2.out _ hb)).mono ?_); rintro _ w_e2 ⟨a_e2, c_e2, rfl, z_e2, k_e2⟩; replace hb := hb.trans (k_e2.mono hb.size); (try replace z_e0 := z_e0.below k_e2); (try replace z_e1 := z_e1.below k_e2); (try replace z_e3 := z_e3.below k_e2); clear k_e2)
        | (go_at_call 25; (with_reducible refine (V_7.out _ _ _ z_e2).mono ?_); rintro _ w_v7 ⟨rfl, k_v7⟩; replace hb := hb.trans (k_v7.mono hb.size); (try replace z_e0 := z_e0.below k_v7); (try replace z_e1 := z_e1.below k_v7); (try replace z_e2 := z_e2.below k_v7); (try replace z_e3 := z_e3.below k_v7); clear k_v7)
        | (go_at_call 15; (with_reducible refine (C_e3.out _ _ _ (HX1.out _ hb)).mono ?_); rintro _ w_e3 ⟨a_e3, c_e3, rfl, z_e3, k_e3⟩; replace hb := hb.trans (k_e3.mono hb.size); (try replace z_e0 := z_e0.below k_e3); (try replace z_e1 := z_e1.below k_e3); (try replace z_e2 := z_e2.below k_e3); clear k_e3))
      go_ret
      exact ⟨rfl, hb⟩
  · have SH : Hid (∀ w0 : World, Calls Try.prog 11 #[.slice (some ⟨w0.heap.size, 0, none⟩) 2 2] (w0.alloc (.cells #[.slice a1 n1 c1, .slice a2 n2 c2] 22)) fun r w' => r = .returned (.bool false) ∧ Below w0.heap.size w0 w') := fun w0 => (short_new [(a1, n1, c1), (a2, n2, c2)] w0 22 (by simp)).mono fun r w' ⟨hr, hw⟩ => ⟨hr.trans (ret_bool (by simp only [List.all_cons, List.all_nil, Bool.and_true]; first | (simp only [Bool.and_eq_true, decide_eq_true_eq]; exact hs) | (rw [Bool.eq_false_iff]; intro h; simp only [Bool.and_eq_true, decide_eq_true_eq] at h; exact hs h))), hw⟩
    clear hs hn1 hn2
    go_enter Try.func7, Try.ntmps7
    go_wp2_with (first
      | (go_at_call 10; (with_reducible refine (head_any _).mono ?_); rintro _ wh ⟨rfl, kh⟩; replace hb := hb.trans (kh.mono hb.size); clear kh)
      | (go_at_call 11; (with_reducible refine (SH.out _).mono ?_); rintro _ ws ⟨rfl, ks⟩; replace hb := hb.trans (ks.mono hb.size); clear ks))
    go_ret
    exact ⟨rfl, hb⟩
end Go.Proofs.Ytahionbbpfmplaa.Sp
