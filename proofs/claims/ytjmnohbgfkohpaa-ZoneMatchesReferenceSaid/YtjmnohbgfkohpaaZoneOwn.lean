/- What package zone's small functions, its clock and its offset return. Condition: the zone's changes lie in memory as the argument says. -/
import Derived.Test.YtjmnohbgfkohpaaZoneC
namespace Go.Proofs.Ytjmnohbgfkohpaa.Zn
open Go.RowKit
theorem zinst_any (n : Int) (w : World) : Calls Try.prog 32 #[.int .i64 n] w fun r w' => r = .returned (.bool (decide (0 ≤ n ∧ n ≤ 52595999))) ∧ w = w' := by
  go_enter Try.func32, Try.ntmps32
  go_wp2
  all_goals go_ret
  all_goals exact ⟨ret_bool (by rw [Bool.eq_iff_iff]; simp only [Bool.and_eq_true, decide_eq_true_eq, Bool.false_eq_true, false_iff, true_iff]; omega), rfl⟩
theorem zday_any (n : Int) (w : World) : Calls Try.prog 35 #[.int .i64 n] w fun r w' => r = .returned (.bool (decide (0 ≤ n ∧ n ≤ 36524))) ∧ w = w' := by
  go_enter Try.func35, Try.ntmps35
  go_wp2
  all_goals go_ret
  all_goals exact ⟨ret_bool (by rw [Bool.eq_iff_iff]; simp only [Bool.and_eq_true, decide_eq_true_eq, Bool.false_eq_true, false_iff, true_iff]; omega), rfl⟩
theorem zminute_any (n : Int) (w : World) : Calls Try.prog 53 #[.int .i64 n] w fun r w' => r = .returned (.bool (decide (0 ≤ n ∧ n ≤ 1439))) ∧ w = w' := by
  go_enter Try.func53, Try.ntmps53
  go_wp2
  all_goals go_ret
  all_goals exact ⟨ret_bool (by rw [Bool.eq_iff_iff]; simp only [Bool.and_eq_true, decide_eq_true_eq, Bool.false_eq_true, false_iff, true_iff]; omega), rfl⟩
theorem zoffs_any (n : Int) (w : World) : Calls Try.prog 39 #[.int .i64 n] w fun r w' => r = .returned (.bool (decide (-840 ≤ n ∧ n ≤ 840))) ∧ w = w' := by
  go_enter Try.func39, Try.ntmps39
  go_wp2
  all_goals go_ret
  all_goals exact ⟨ret_bool (by rw [Bool.eq_iff_iff]; simp only [Bool.and_eq_true, decide_eq_true_eq, Bool.false_eq_true, false_iff, true_iff]; omega), rfl⟩
theorem zstretch_any (f t : Int) (w : World) : Calls Try.prog 43 #[.int .i64 f, .int .i64 t] w fun r w' => r = .returned (.bool (decide (Str f t))) ∧ w = w' := by
  by_cases h0 : 0 ≤ f
  · by_cases h1 : f ≤ t
    · by_cases h2 : t ≤ 52596000
      · rw [decide_eq_true (show Str f t from ⟨h0, h1, h2⟩)]
        go_enter Try.func43, Try.ntmps43
        go_wp2
        go_ret
        exact ⟨rfl, rfl⟩
      · rw [decide_eq_false (show ¬ Str f t from fun h => h2 h.2.2)]
        have h2' : decide (t ≤ 52596000) = false := decide_eq_false h2
        go_enter Try.func43, Try.ntmps43
        go_wp2
        go_ret
        exact ⟨rfl, rfl⟩
    · rw [decide_eq_false (show ¬ Str f t from fun h => h1 h.2.1)]
      have h1' : decide (f ≤ t) = false := decide_eq_false h1
      go_enter Try.func43, Try.ntmps43
      go_wp2
      go_ret
      exact ⟨rfl, rfl⟩
  · rw [decide_eq_false (show ¬ Str f t from fun h => h0 h.1)]
    have h0' : decide (0 ≤ f) = false := decide_eq_false h0
    go_enter Try.func43, Try.ntmps43
    go_wp2
    go_ret
    exact ⟨rfl, rfl⟩
/-- Whether an offset may follow: one of the two answers. -/
theorem zfollows_ex (o p : Int) (hp : -840 ≤ p) (hp1 : p ≤ 840) : ∃ k : Bool, (k = true ↔ -840 ≤ o ∧ o ≤ 840 ∧ o - p ≤ 60 ∧ p - o ≤ 60) ∧
    ∀ w, Calls Try.prog 40 #[.int .i64 o, .int .i64 p] w fun r w' => r = .returned (.bool k) ∧ w = w' := by
  have HO := Lib.hid (fun w => zoffs_any o w)
  by_cases h : -840 ≤ o ∧ o ≤ 840
  · rw [decide_eq_true h] at HO
    obtain ⟨h0, h1⟩ := h
    by_cases h2 : o - p ≤ 60
    · by_cases h3 : -60 ≤ o - p
      · refine ⟨true, by constructor <;> intro _ <;> first | rfl | omega, fun w => ?_⟩
        go_enter Try.func40, Try.ntmps40
        go_wp2_with (go_at_call 39; with_reducible refine (HO.out _).mono ?_; rintro e w' ⟨rfl, rfl⟩)
        go_ret
        exact ⟨rfl, rfl⟩
      · have h3' : decide (-60 ≤ o - p) = false := decide_eq_false h3
        refine ⟨false, by constructor <;> intro h <;> first | (cases h; done) | (exfalso; omega), fun w => ?_⟩
        go_enter Try.func40, Try.ntmps40
        go_wp2_with (go_at_call 39; with_reducible refine (HO.out _).mono ?_; rintro e w' ⟨rfl, rfl⟩)
        go_ret
        exact ⟨rfl, rfl⟩
    · have h3 : -60 ≤ o - p := by omega
      have h2' : decide (o - p ≤ 60) = false := decide_eq_false h2
      refine ⟨false, by constructor <;> intro h <;> first | (cases h; done) | (exfalso; omega), fun w => ?_⟩
      go_enter Try.func40, Try.ntmps40
      go_wp2_with (go_at_call 39; with_reducible refine (HO.out _).mono ?_; rintro e w' ⟨rfl, rfl⟩)
      go_ret
      exact ⟨rfl, rfl⟩
  · rw [decide_eq_false h] at HO
    refine ⟨false, by constructor <;> intro h <;> first | (cases h; done) | (exfalso; omega), fun w => ?_⟩
    clear h
    go_enter Try.func40, Try.ntmps40
    go_wp2_with (go_at_call 39; with_reducible refine (HO.out _).mono ?_; rintro e w' ⟨rfl, rfl⟩)
    go_ret
    exact ⟨rfl, rfl⟩
/-- A local time as a day and its minutes. -/
theorem zclock_any (n : Int) (h0 : -1000000000 ≤ n) (h1 : n ≤ 1000000000) (w : World) : Calls Try.prog 33 #[.int .i64 n] w fun r w' => r = .returned (.agg #[.int .i64 (n / 1440), .int .i64 (n % 1440)]) ∧ Below w.heap.size w w' := by
  obtain ⟨q, hq⟩ : ∃ q, n.tdiv 1440 = q := ⟨_, rfl⟩
  obtain ⟨r, hr⟩ : ∃ r, n.tmod 1440 = r := ⟨_, rfl⟩
  have hqr : n = 1440 * q + r := by rw [← hq, ← hr]; exact (Int.mul_tdiv_add_tmod n 1440).symm
  have hrb : -1440 < r ∧ r < 1440 ∧ (0 ≤ n → 0 ≤ r) ∧ (n ≤ 0 → r ≤ 0) := by
    rw [← hr]
    refine ⟨?_, ?_, fun h => Int.tmod_nonneg _ h, fun h => ?_⟩
    · have h := Int.tmod_lt_of_pos (-n) (show (0 : Int) < 1440 by decide); rw [Int.neg_tmod] at h; omega
    · exact Int.tmod_lt_of_pos n (by decide)
    · rw [← Int.neg_neg n, Int.neg_tmod]; have := Int.tmod_nonneg (a := -n) 1440 (by omega); omega
  have q0 : -1000000 ≤ q := by omega
  have q1 : q ≤ 1000000 := by omega
  obtain ⟨r0, r1, -, -⟩ := hrb
  by_cases hn : r < 0
  · have HE := Lib.hid (show q - 1 = n / 1440 ∧ r + 1440 = n % 1440 by omega)
    clear hqr
    go_enter Try.func33, Try.ntmps33
    go_wp2
    refine bodyPost_ret (v := .agg #[.int .i64 (q - 1), .int .i64 (r + 1440)]) (by simp [results, Try.results33, go_sem]) rfl ⟨by rw [← HE.out.1, ← HE.out.2], ?_⟩
    exact (Below.refl _ _).alloc (Nat.le_refl _) _
  · have HE := Lib.hid (show q = n / 1440 ∧ r = n % 1440 by omega)
    clear hqr
    go_enter Try.func33, Try.ntmps33
    go_wp2
    refine bodyPost_ret (v := .agg #[.int .i64 q, .int .i64 r]) (by simp [results, Try.results33, go_sem]) rfl ⟨by rw [← HE.out.1, ← HE.out.2], ?_⟩
    exact (Below.refl _ _).alloc (Nat.le_refl _) _
set_option maxHeartbeats 1000000 in
theorem zoffset_any (nm : ByteArray) (b : Int) (a : Option Addr) (cap : Nat) (cs : List (Int × Int)) (t : Int) (w : World) (hl : cs.length ≤ 100) (z : ZoneAt a cs w) :
    Calls Try.prog 34 #[zv nm b a cs.length cap, .int .i64 t] w fun e w' => e = .returned (.int .i64 (offFrom b cs t)) ∧ Below w.heap.size w w' := by
  have inv := ZW.start w nm b a cs.length cap cs z
  obtain ⟨len, hlen⟩ : ∃ len, len = cs.length := ⟨_, rfl⟩
  rw [← hlen] at inv hl ⊢
  have HLEN := Lib.hid hlen
  clear z hlen
  have k1 := inv.c1
  have k2 := inv.c2
  go_enter Try.func34, Try.ntmps34
  go_wp2
  clear k1 k2
  go_loopg [5, 13] len (fun g s5 s13 wx => ∃ (i : Nat) (o : Int), i + g = len ∧ s5 = .int .i64 o ∧ s13 = .int .i64 i ∧ Hid (offFrom b cs t = offFrom o (cs.drop i) t) ∧ ZW w w.heap.size nm b a len cap cs wx)
  case atStart => exact ⟨0, b, by omega, rfl, rfl, rfl, inv⟩
  case round =>
    clear inv
    obtain ⟨i, o, hi, rfl, rfl, HO, inv⟩ := hrel
    cases gk with
    | zero =>
      have hlt : ¬ (i : Int) < (len : Int) := by omega
      go_wp2
      go_ret
      exact ⟨ret_int (by rw [HO.out, List.drop_of_length_le (by have := HLEN.out; omega)]; rfl), inv.below⟩
    | succ g =>
      have hlt : (i : Int) < (len : Int) := by omega
      obtain ⟨x, hx⟩ : ∃ x, cs[i]? = some x := ⟨_, List.getElem?_eq_getElem (by have := HLEN.out; omega)⟩
      obtain ⟨bb, off, rfl, h1, h2⟩ := inv.zone i x hx
      have HD := Lib.hid (show cs.drop i = x :: cs.drop (i + 1) by
        obtain ⟨h, he⟩ := List.getElem?_eq_some_iff.1 hx
        rw [List.drop_eq_getElem_cons h, he])
      clear hx
      obtain ⟨xa, xf⟩ := x
      by_cases hle : xa ≤ t
      · go_wp2
        go_roundg g
        case measure => omega
        case rel => exact ⟨i + 1, xf, by omega, rfl, by go_num, show offFrom b cs t = offFrom xf (cs.drop (i + 1)) t by rw [HO.out, HD.out]; show (if xa ≤ t then offFrom xf (cs.drop (i + 1)) t else o) = _; rw [if_pos hle], inv.step ((Below.refl _ _).alloc (Nat.le_refl _) _)⟩
      · go_wp2
        go_ret
        exact ⟨ret_int (by rw [HO.out, HD.out]; unfold offFrom; rw [if_neg (by omega)]), inv.below.trans (((Below.refl _ _).alloc (Nat.le_refl _) _).mono inv.below.size)⟩
set_option maxHeartbeats 4000000 in
set_option maxRecDepth 100000 in
theorem zvalid_any (nm : ByteArray) (b : Int) (a : Option Addr) (cap : Nat) (cs : List (Int × Int)) (w : World) (hlm : cs.length ≤ 9223372036854775807) (z : ZoneAt a cs w) :
    Calls Try.prog 16 #[zv nm b a cs.length cap] w fun e w' => e = .returned (.bool (decide (Valid b cs))) ∧ Below w.heap.size w w' := by
  have inv := ZW.start w nm b a cs.length cap cs z
  obtain ⟨len, hlen⟩ : ∃ len, len = cs.length := ⟨_, rfl⟩
  rw [← hlen] at inv hlm ⊢
  have HLEN := Lib.hid hlen
  clear z hlen
  have k1 := inv.c1
  have k2 := inv.c2
  by_cases h64 : 64 < len
  · have h64' : (64 : Int) < (len : Int) := by omega
    go_enter Try.func16, Try.ntmps16
    go_wp2
    go_ret
    exact ⟨ret_bool (decide_eq_false (fun v => by have := v.1; have := HLEN.out; omega)).symm, inv.below⟩
  have t64 : decide ((64 : Int) < (len : Int)) = false := decide_eq_false (by omega)
  by_cases hb : -840 ≤ b ∧ b ≤ 840
  · have HB := Lib.hid (fun w => zoffs_any b w)
    rw [decide_eq_true hb] at HB
    obtain ⟨hb0, hb1⟩ := hb
    go_enter Try.func16, Try.ntmps16
    go_wp2_with (go_at_call 39; with_reducible refine (HB.out _).mono ?_; rintro e w' ⟨rfl, rfl⟩)
    go_quiet (fail)
    go_wp2
    clear k1 k2
    go_loopg [3, 4, 22] len (fun g s3 s4 s22 wx => ∃ (i : Nat) (e o p : Int), i + g = len ∧ s3 = .int .i64 e ∧ Hid (e = p + 2880) ∧ s4 = .int .i64 o ∧ s22 = .int .i64 i ∧ -840 ≤ o ∧ o ≤ 840 ∧ 0 ≤ e ∧ e ≤ 52598879 ∧ Hid (okFrom (-2880) b cs ↔ okFrom p o (cs.drop i)) ∧ ZW w w.heap.size nm b a len cap cs wx)
    case atStart => exact ⟨0, 0, b, -2880, by omega, rfl, show (0 : Int) = -2880 + 2880 by decide, rfl, rfl, by omega, by omega, by omega, by omega, Iff.rfl, inv.step (by first | exact Below.refl _ _ | exact below_drewN (Below.refl _ _) _ | exact (Below.refl _ _).drew)⟩
    case round =>
      clear inv
      obtain ⟨i, e, o, p, hi, rfl, HE, rfl, rfl, o0, o1, e0, e1, HV, inv⟩ := hrel
      cases gk with
      | zero =>
        have hlt : ¬ (i : Int) < (len : Int) := by omega
        go_wp2
        go_ret
        exact ⟨ret_bool (decide_eq_true ⟨by have := HLEN.out; omega, by omega, by omega, HV.out.2 (by rw [List.drop_of_length_le (by have := HLEN.out; omega)]; trivial)⟩).symm, inv.below⟩
      | succ g =>
        have hlt : (i : Int) < (len : Int) := by omega
        obtain ⟨x, hx⟩ : ∃ x, cs[i]? = some x := ⟨_, List.getElem?_eq_getElem (by have := HLEN.out; omega)⟩
        obtain ⟨bb, off, rfl, h1, h2⟩ := inv.zone i x hx
        have HD := Lib.hid (show cs.drop i = x :: cs.drop (i + 1) by
          obtain ⟨h, he⟩ := List.getElem?_eq_some_iff.1 hx
          rw [List.drop_eq_getElem_cons h, he])
        clear hx
        obtain ⟨xa, xf⟩ := x
        have HF := Lib.hid (show ¬ (0 ≤ xa ∧ xa ≤ 52595999 ∧ p + 2880 ≤ xa ∧ -840 ≤ xf ∧ xf ≤ 840 ∧ xf - o ≤ 60 ∧ o - xf ≤ 60) → decide (Valid b cs) = false from fun h => decide_eq_false (fun v => by
          have h' := HV.out.1 v.2.2.2
          rw [HD.out, okFrom_cons] at h'
          exact h h'.1))
        have HAL := Lib.hid (show ∀ ob, Below w.heap.size w (wr.alloc ob) from fun ob => inv.below.trans (((Below.refl _ wr).alloc (Nat.le_refl _) ob).mono inv.below.size))
        by_cases hlo : xa < e
        · go_wp2
          go_ret
          exact ⟨ret_bool (HF.out (fun h => by have := HE.out; omega)).symm, HAL.out _⟩
        have tlo : decide (xa < e) = false := decide_eq_false hlo
        by_cases hhi : 52595999 < xa
        · go_wp2
          go_ret
          exact ⟨ret_bool (HF.out (fun h => by omega)).symm, HAL.out _⟩
        have thi : decide (52595999 < xa) = false := decide_eq_false hhi
        obtain ⟨k, hk, hc⟩ := zfollows_ex xf o o0 o1
        have HC := Lib.hid hc
        clear hc
        cases k with
        | false =>
          have HK := Lib.hid (show ¬ (-840 ≤ xf ∧ xf ≤ 840 ∧ xf - o ≤ 60 ∧ o - xf ≤ 60) from fun h => by have := hk.2 h; cases this)
          clear hk
          go_wp2_with (go_at_call 40; with_reducible refine (HC.out _).mono ?_; rintro e w' ⟨rfl, rfl⟩)
          go_ret
          exact ⟨ret_bool (HF.out (fun h => HK.out ⟨h.2.2.2.1, h.2.2.2.2.1, h.2.2.2.2.2.1, h.2.2.2.2.2.2⟩)).symm, HAL.out _⟩
        | true =>
          have hkk := hk.1 rfl
          have HG := Lib.hid (show 0 ≤ xa ∧ xa ≤ 52595999 ∧ p + 2880 ≤ xa ∧ -840 ≤ xf ∧ xf ≤ 840 ∧ xf - o ≤ 60 ∧ o - xf ≤ 60 from ⟨by omega, by omega, by have := HE.out; omega, hkk.1, hkk.2.1, hkk.2.2.1, hkk.2.2.2⟩)
          have hw := IntWalk.i64_in (xa + 2880) (by omega)
          clear hk hkk
          go_wp2_with (go_at_call 40; with_reducible refine (HC.out _).mono ?_; rintro e w' ⟨rfl, rfl⟩)
          go_quiet (fail)
          clear hw
          go_wp2
          go_roundg g
          case measure => omega
          case rel => exact ⟨i + 1, xa + 2880, xf, xa, by omega, rfl, rfl, rfl, by go_num, HG.out.2.2.2.1, HG.out.2.2.2.2.1, by omega, by omega, by rw [HV.out, HD.out, okFrom_cons]; exact ⟨fun h => h.2, fun h => ⟨HG.out, h⟩⟩, inv.step (below_drewN ((Below.refl _ wr).alloc (Nat.le_refl _) _) _)⟩
  · have HB := Lib.hid (fun w => zoffs_any b w)
    rw [decide_eq_false hb] at HB
    have HN := Lib.hid hb
    clear hb
    go_enter Try.func16, Try.ntmps16
    go_wp2_with (go_at_call 39; with_reducible refine (HB.out _).mono ?_; rintro e w' ⟨rfl, rfl⟩)
    go_ret
    exact ⟨ret_bool (decide_eq_false (fun v => HN.out ⟨v.2.1, v.2.2.1⟩)).symm, inv.below⟩
end Go.Proofs.Ytjmnohbgfkohpaa.Zn
