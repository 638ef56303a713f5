/- What the developers' Valid, rounded, Eval and Round of piecewise linear functions return. Conditions: the pieces lie in memory as the argument says. -/
import Derived.Test.YtdoojpilogcnjaaPwOwn2
set_option linter.unusedVariables false
set_option linter.unusedSimpArgs false
namespace Go.Proofs.Ytdoojpilogcnjaa.Pw
open Go.RowKit Go.Proofs.Ytdoojpilogcnjaa.Sp
/-- Valid pieces, one by one, behind one that begins at b. -/
def chB (b : Int) : List Pc → Bool
  | [] => true
  | q :: l => decide (b < q.1) && good q && chB q.1 l
theorem chB_chain : ∀ (l : List Pc) (p : Pc), chain p l = chB p.1 l
  | [], _ => rfl
  | q :: l, p => by
    show (good q && decide (p.1 < q.1) && chain q l) = (decide (p.1 < q.1) && good q && chB q.1 l)
    rw [chB_chain l q, Bool.and_comm (good q)]
theorem okB_chB {p : Pc} {l : List Pc} (h : p.1 = 0) : okB (p :: l) = chB (-1) (p :: l) := by
  show (good p && decide (p.1 = 0) && chain p l) = (decide (-1 < p.1) && good p && chB p.1 l)
  rw [chB_chain, decide_eq_true h, decide_eq_true (show (-1 : Int) < p.1 by omega), Bool.and_true, Bool.true_and]
theorem chB_drop {l : List Pc} {b : Int} {i : Nat} {q : Pc} (hq : l[i]? = some q) : chB b (l.drop i) = (decide (b < q.1) && good q && chB q.1 (l.drop (i + 1))) := by
  obtain ⟨hi, he⟩ := List.getElem?_eq_some_iff.1 hq
  rw [List.drop_eq_getElem_cons hi, he]; rfl
theorem vdB_bad {d : Int} {l : List Pc} (h : ¬ (1 ≤ d ∧ d ≤ 1000000 ∧ l.length ≤ 64)) : vdB d l = false := by unfold vdB; rw [decide_eq_false h, Bool.false_and]
theorem vdB_good {d : Int} {l : List Pc} (h : 1 ≤ d ∧ d ≤ 1000000 ∧ l.length ≤ 64) : vdB d l = okB l := by unfold vdB; rw [decide_eq_true h, Bool.true_and]
set_option maxHeartbeats 8000000 in
set_option maxRecDepth 100000 in
theorem pvalid_any (d : Int) (a : Option Addr) (c : Nat) (l : List Pc) (w : World) (z : PcsAt a l w) :
    Calls Try.prog 20 #[fv d a l.length c] w fun r w' => r = .returned (.bool (vdB d l)) ∧ Below w.heap.size w w' := by
  have HN0 := Lib.hid (show ¬ (1 ≤ d ∧ d ≤ 1000000 ∧ l.length ≤ 64) → vdB d l = false from vdB_bad)
  have HN1 := Lib.hid (show 1 ≤ d ∧ d ≤ 1000000 ∧ l.length ≤ 64 → vdB d l = okB l from vdB_good)
  have HZ := Lib.hid (fun w' (k : Below w.heap.size w w') => z.below k)
  have HW := Lib.hid (fun n k h0 h1 w => pwithin_any n k w h0 h1)
  have HE := Lib.hid (show l.length = 0 → okB l = false from fun h => by rw [List.eq_nil_of_length_eq_zero h]; rfl)
  generalize hv : vdB d l = v at *
  obtain ⟨n, hn⟩ : ∃ n, n = l.length := ⟨_, rfl⟩
  rw [← hn] at HN0 HN1 HE ⊢
  have HN := Lib.hid hn
  have e0 : (w.alloc (fb d a n c)).cell? ⟨w.heap.size, 0, none⟩ = some (.int .i64 d) := by simp [World.cell?_alloc_new]
  have e1 : (w.alloc (fb d a n c)).cell? ⟨w.heap.size, 1, none⟩ = some (.slice a n c) := by simp [World.cell?_alloc_new]
  have HB := Lib.hid (alloc_below w (fb d a n c))
  clear hn z hv
  go_enter Try.func20, Try.ntmps20
  go_upto_region 1 with (fail)
  generalize w.alloc (fb d a n c) = W1 at *
  generalize w.heap.size = xb at e0 e1 ⊢
  by_cases h1 : d < 1
  · have HR := Lib.hid (HN0.out (by omega))
    go_wp2
    go_ret
    exact ⟨ret_bool HR.out.symm, HB.out⟩
  by_cases h2 : 1000000 < d
  · have HR := Lib.hid (HN0.out (by omega))
    go_wp2
    go_ret
    exact ⟨ret_bool HR.out.symm, HB.out⟩
  by_cases h3 : (n : Int) < 1
  · have HR := Lib.hid ((HN1.out (by omega)).trans (HE.out (by omega)))
    go_wp2
    go_ret
    exact ⟨ret_bool HR.out.symm, HB.out⟩
  by_cases h4 : (64 : Int) < (n : Int)
  · have HR := Lib.hid (HN0.out (by omega))
    go_wp2
    go_ret
    exact ⟨ret_bool HR.out.symm, HB.out⟩
  have hok := HN1.out (by omega)
  obtain ⟨p, hp⟩ : ∃ p, l[0]? = some p := ⟨_, List.getElem?_eq_getElem (by have := HN.out; omega)⟩
  obtain ⟨b, off, rfl, u0, -, -⟩ := HZ.out _ HB.out 0 p hp
  have u1 : W1.cell? ⟨b, off, none⟩ = some (.int .i64 p.1) := by simpa using u0
  have hpos : (0 : Int) < (n : Int) := by omega
  obtain ⟨l', hl'⟩ : ∃ l', l = p :: l' := by
    cases hl : l with
    | nil => rw [hl] at hp; simp at hp
    | cons q l' => rw [hl] at hp; simp at hp; exact ⟨l', by rw [hp]⟩
  by_cases h5 : p.1 = 0
  · have HR := Lib.hid (show v = chB (-1) (l.drop 0) by rw [hok, hl']; exact okB_chB h5)
    rw [h5] at u1
    clear HN0 HN1 HE hok hp hl' h5 u0
    go_wp2
    clear e0 e1 u1
    go_loopg [3, 37] n (fun g s3 s37 wx => ∃ (i : Nat) (bf : Int), i + g = n ∧ s37 = .int .i64 i ∧ s3 = .int .i64 bf ∧ Hid (v = chB bf (l.drop i)) ∧ Hid (Below W1.heap.size W1 wx))
    case atStart => exact ⟨0, -1, by omega, rfl, rfl, HR, Lib.hid (Below.refl _ _)⟩
    case round =>
      obtain ⟨i, bf, hi, rfl, rfl, HV, HK⟩ := hrel
      cases gk with
      | zero =>
        have hlt : ¬ (i : Int) < (n : Int) := by omega
        have HT := Lib.hid (show v = true by rw [HV.out, List.drop_of_length_le (by have := HN.out; omega)]; rfl)
        go_wp2
        go_ret
        exact ⟨ret_bool HT.out.symm, HB.out.trans (HK.out.mono HB.out.size)⟩
      | succ g =>
        have hlt : (i : Int) < (n : Int) := by omega
        have hi0 : (0 : Int) ≤ (i : Int) := by omega
        obtain ⟨q, hq⟩ : ∃ q, l[i]? = some q := ⟨_, List.getElem?_eq_getElem (by have := HN.out; omega)⟩
        obtain ⟨b2, off2, e, k0, k1, k2⟩ := HZ.out _ (HB.out.trans (HK.out.mono HB.out.size)) i q hq
        cases e
        have HD := Lib.hid (show v = (decide (bf < q.1) && good q && chB q.1 (l.drop (i + 1))) by rw [HV.out]; exact chB_drop hq)
        clear hq
        obtain ⟨q1, q2, q3⟩ := q
        simp only at k0 k1 k2
        have hbx := HB.out.trans ((HK.out.trans ((alloc_below wr (pb (q1, q2, q3))).mono HK.out.size)).mono HB.out.size)
        have HBX := Lib.hid hbx
        have hal := Lib.hid (HK.out.trans ((alloc_below wr (pb (q1, q2, q3))).mono HK.out.size))
        clear hbx
        obtain ⟨c0, c1, c2⟩ := pb_cells wr (q1, q2, q3)
        simp only at c0 c1 c2
        go_upto_region 7 with (fail)
        generalize wr.alloc (pb (q1, q2, q3)) = W3 at *
        generalize wr.heap.size = x3 at c0 c1 c2 ⊢
        by_cases g1 : q1 ≤ bf
        · have HF := Lib.hid (show v = false by rw [HD.out, decide_eq_false (show ¬ bf < (q1, q2, q3).1 by show ¬ bf < q1; omega)]; rfl)
          go_wp2
          go_ret
          exact ⟨ret_bool HF.out.symm, HBX.out⟩
        by_cases g2 : (1000000000000 : Int) < q1
        · have HF := Lib.hid (show v = false by rw [HD.out]; unfold good; rw [decide_eq_false (show ¬ (q1, q2, q3).1 ≤ 1000000000000 by show ¬ q1 ≤ _; omega), Bool.and_false, Bool.and_false, Bool.false_and])
          go_wp2
          go_ret
          exact ⟨ret_bool HF.out.symm, HBX.out⟩
        by_cases g3 : -1000000 ≤ q3 ∧ q3 ≤ 1000000
        · have H3 := Lib.hid (fun w => (HW.out q3 1000000 (by decide) (by decide) w).mono (fun r w' (h : _ ∧ _) => (⟨h.1.trans (ret_bool (decide_eq_true g3)), h.2⟩ : r = .returned (.bool true) ∧ w' = w)))
          by_cases g4 : -1000000000000000000 ≤ q2 ∧ q2 ≤ 1000000000000000000
          · have H4 := Lib.hid (fun w => (HW.out q2 1000000000000000000 (by decide) (by decide) w).mono (fun r w' (h : _ ∧ _) => (⟨h.1.trans (ret_bool (decide_eq_true g4)), h.2⟩ : r = .returned (.bool true) ∧ w' = w)))
            have HF := Lib.hid (show v = chB q1 (l.drop (i + 1)) by rw [HD.out]; unfold good; rw [decide_eq_true (show bf < (q1, q2, q3).1 by show bf < q1; omega), decide_eq_true (show (q1, q2, q3).1 ≤ 1000000000000 by show q1 ≤ _; omega), decide_eq_true (show -1000000 ≤ (q1, q2, q3).2.2 ∧ (q1, q2, q3).2.2 ≤ 1000000 from g3), decide_eq_true (show -1000000000000000000 ≤ (q1, q2, q3).2.1 ∧ (q1, q2, q3).2.1 ≤ 1000000000000000000 from g4)]; rfl)
            clear g3 g4
            go_wp2_with (first
              | (go_at_call 37; with_reducible refine (H3.out _).mono ?_; rintro _ w4 ⟨rfl, rfl⟩)
              | (go_at_call 37; with_reducible refine (H4.out _).mono ?_; rintro _ w4 ⟨rfl, rfl⟩))
            go_roundg g
            case measure => omega
            case rel => exact ⟨i + 1, q1, by omega, by go_num, rfl, HF, hal⟩
          · have H4 := Lib.hid (fun w => (HW.out q2 1000000000000000000 (by decide) (by decide) w).mono (fun r w' (h : _ ∧ _) => (⟨h.1.trans (ret_bool (decide_eq_false g4)), h.2⟩ : r = .returned (.bool false) ∧ w' = w)))
            have HF := Lib.hid (show v = false by rw [HD.out]; unfold good; rw [decide_eq_false (show ¬ (-1000000000000000000 ≤ (q1, q2, q3).2.1 ∧ (q1, q2, q3).2.1 ≤ 1000000000000000000) from g4), Bool.and_false, Bool.false_and, Bool.and_false, Bool.false_and])
            clear g3 g4
            go_wp2_with (first
              | (go_at_call 37; with_reducible refine (H3.out _).mono ?_; rintro _ w4 ⟨rfl, rfl⟩)
              | (go_at_call 37; with_reducible refine (H4.out _).mono ?_; rintro _ w4 ⟨rfl, rfl⟩))
            go_ret
            exact ⟨ret_bool HF.out.symm, HBX.out⟩
        · have H3 := Lib.hid (fun w => (HW.out q3 1000000 (by decide) (by decide) w).mono (fun r w' (h : _ ∧ _) => (⟨h.1.trans (ret_bool (decide_eq_false g3)), h.2⟩ : r = .returned (.bool false) ∧ w' = w)))
          have HF := Lib.hid (show v = false by rw [HD.out]; unfold good; rw [decide_eq_false (show ¬ (-1000000 ≤ (q1, q2, q3).2.2 ∧ (q1, q2, q3).2.2 ≤ 1000000) from g3), Bool.false_and, Bool.false_and, Bool.and_false, Bool.false_and])
          clear g3
          go_wp2_with (go_at_call 37; with_reducible refine (H3.out _).mono ?_; rintro _ w4 ⟨rfl, rfl⟩)
          go_ret
          exact ⟨ret_bool HF.out.symm, HBX.out⟩
  · have HR := Lib.hid (show v = false by rw [hok, hl']; show (good p && decide (p.1 = 0) && chain p l') = false; rw [decide_eq_false h5, Bool.and_false, Bool.false_and])
    have t1 : (p.1 != 0) = true := by simpa using h5
    clear h5 hok hl' hp HN0 HN1 HE
    go_wp2
    go_ret
    exact ⟨ret_bool HR.out.symm, HB.out⟩
theorem prounded_any (n d m : Int) (w : World) (hd : 0 < d) (hd1 : d ≤ 1000000) (hn : -2000000000000000000 ≤ n ∧ n ≤ 2000000000000000000) (hm : m = 0 ∨ m = 1 ∨ m = 2) :
    Calls Try.prog 47 #[.int .i64 n, .int .i64 d, .int .i64 m] w fun r w' => r = .returned (.int .i64 (rnd n d m)) ∧ w' = w := by
  have HFL := Lib.hid (fun w => pfloor_any n d w hd (by omega) (by omega))
  have HRN := Lib.hid (show ∀ k, rnd n d k = n / d + (if (k ≠ 0 ∧ d - n % d < n % d) ∨ (n % d = d - n % d ∧ (k = 1 ∧ 0 < n ∨ k = 2 ∧ (n / d) % 2 ≠ 0)) then 1 else 0) from fun k => rfl)
  have he := Int.mul_ediv_add_emod n d
  have hr0 := Int.emod_nonneg n (show d ≠ 0 by omega)
  have hr1 := Int.emod_lt_of_pos n hd
  have hq : -2000000000000000001 ≤ n / d ∧ n / d ≤ 2000000000000000000 := by
    refine ⟨?_, ?_⟩
    · rw [Int.le_ediv_iff_mul_le hd]; omega
    · have : n / d < 2000000000000000001 := by rw [Int.ediv_lt_iff_lt_mul hd]; omega
      omega
  generalize n / d = q at *
  generalize n % d = r at *
  obtain ⟨P, hP⟩ : ∃ P, q * d = P := ⟨_, rfl⟩
  rw [Int.mul_comm, hP] at he
  have hw1 : IntKind.i64.wrap (q * d) = P := by rw [hP]; exact IntWalk.i64_in _ (by omega)
  have hw2 : IntKind.i64.wrap (n - P) = r := by rw [show n - P = r by omega]; exact IntWalk.i64_in _ (by omega)
  obtain ⟨T, hT⟩ : ∃ T, 2 * r = T := ⟨_, rfl⟩
  have hw3 : IntKind.i64.wrap (2 * r) = T := by rw [hT]; exact IntWalk.i64_in _ (by omega)
  have hw4 : IntKind.i64.wrap (q + 1) = q + 1 := IntWalk.i64_in _ (by omega)
  have htm := tmod_two q
  clear hP he hq hn hd hd1
  rcases hm with rfl | rfl | rfl
  · have HR := Lib.hid (show rnd n d 0 = q by rw [HRN.out, if_neg (by omega), Int.add_zero])
    clear htm hr0 hr1 hw4 HRN hT
    go_enter Try.func47, Try.ntmps47
    go_wp2_with (go_at_call 60; with_reducible refine (HFL.out _).mono ?_; rintro _ w1 ⟨rfl, rfl⟩)
    go_ret
    exact ⟨ret_int HR.out.symm, rfl⟩
  · by_cases h1 : d < T
    · skip
      have HR := Lib.hid (show rnd n d 1 = q + 1 by rw [HRN.out, if_pos (by omega)])
      clear htm hr0 hr1 HRN hT
      go_enter Try.func47, Try.ntmps47
      go_wp2_with (go_at_call 60; with_reducible refine (HFL.out _).mono ?_; rintro _ w1 ⟨rfl, rfl⟩)
      go_ret
      exact ⟨ret_int HR.out.symm, rfl⟩
    · by_cases h2 : T = d
      · have t2 : (T == d) = true := by simpa using h2
        by_cases h3 : 0 < n
        · skip
          have HR := Lib.hid (show rnd n d 1 = q + 1 by rw [HRN.out, if_pos (by omega)])
          clear htm hr0 hr1 HRN hT h2
          go_enter Try.func47, Try.ntmps47
          go_wp2_with (go_at_call 60; with_reducible refine (HFL.out _).mono ?_; rintro _ w1 ⟨rfl, rfl⟩)
          go_ret
          exact ⟨ret_int HR.out.symm, rfl⟩
        · skip
          have HR := Lib.hid (show rnd n d 1 = q by rw [HRN.out, if_neg (by omega), Int.add_zero])
          clear htm hr0 hr1 HRN hT h2
          go_enter Try.func47, Try.ntmps47
          go_wp2_with (go_at_call 60; with_reducible refine (HFL.out _).mono ?_; rintro _ w1 ⟨rfl, rfl⟩)
          go_ret
          exact ⟨ret_int HR.out.symm, rfl⟩
      · have t2 : (T == d) = false := by simpa using h2
        have HR := Lib.hid (show rnd n d 1 = q by rw [HRN.out, if_neg (by omega), Int.add_zero])
        clear htm hr0 hr1 HRN hT h2
        go_enter Try.func47, Try.ntmps47
        go_wp2_with (go_at_call 60; with_reducible refine (HFL.out _).mono ?_; rintro _ w1 ⟨rfl, rfl⟩)
        go_ret
        exact ⟨ret_int HR.out.symm, rfl⟩
  · by_cases h1 : d < T
    · skip
      have HR := Lib.hid (show rnd n d 2 = q + 1 by rw [HRN.out, if_pos (by omega)])
      clear htm hr0 hr1 HRN hT
      go_enter Try.func47, Try.ntmps47
      go_wp2_with (go_at_call 60; with_reducible refine (HFL.out _).mono ?_; rintro _ w1 ⟨rfl, rfl⟩)
      go_ret
      exact ⟨ret_int HR.out.symm, rfl⟩
    · by_cases h2 : T = d
      · have t2 : (T == d) = true := by simpa using h2
        rcases htm with ⟨h3, h4⟩ | ⟨h3, h4⟩ | ⟨h3, h4⟩
        · have t3 : IntKind.i64.wrap (q.tmod 2) = 0 := by rw [h3]; decide
          have HR := Lib.hid (show rnd n d 2 = q by rw [HRN.out, if_neg (by omega), Int.add_zero])
          clear h4 hr0 hr1 HRN hT h2
          go_enter Try.func47, Try.ntmps47
          go_wp2_with (go_at_call 60; with_reducible refine (HFL.out _).mono ?_; rintro _ w1 ⟨rfl, rfl⟩)
          go_ret
          exact ⟨ret_int HR.out.symm, rfl⟩
        · have t3 : IntKind.i64.wrap (q.tmod 2) = 1 := by rw [h3]; decide
          have HR := Lib.hid (show rnd n d 2 = q + 1 by rw [HRN.out, if_pos (by omega)])
          clear h4 hr0 hr1 HRN hT h2
          go_enter Try.func47, Try.ntmps47
          go_wp2_with (go_at_call 60; with_reducible refine (HFL.out _).mono ?_; rintro _ w1 ⟨rfl, rfl⟩)
          go_ret
          exact ⟨ret_int HR.out.symm, rfl⟩
        · have t3 : IntKind.i64.wrap (q.tmod 2) = -1 := by rw [h3]; decide
          have HR := Lib.hid (show rnd n d 2 = q + 1 by rw [HRN.out, if_pos (by omega)])
          clear h4 hr0 hr1 HRN hT h2
          go_enter Try.func47, Try.ntmps47
          go_wp2_with (go_at_call 60; with_reducible refine (HFL.out _).mono ?_; rintro _ w1 ⟨rfl, rfl⟩)
          go_ret
          exact ⟨ret_int HR.out.symm, rfl⟩
      · have t2 : (T == d) = false := by simpa using h2
        have HR := Lib.hid (show rnd n d 2 = q by rw [HRN.out, if_neg (by omega), Int.add_zero])
        clear htm hr0 hr1 HRN hT h2
        go_enter Try.func47, Try.ntmps47
        go_wp2_with (go_at_call 60; with_reducible refine (HFL.out _).mono ?_; rintro _ w1 ⟨rfl, rfl⟩)
        go_ret
        exact ⟨ret_int HR.out.symm, rfl⟩
theorem pround_ret {d x m : Int} {l : List Pc} (h : rdOk d l x m) : rdV d l x m = if rin (rnd (num l x) d m) then .tuple #[.int .i64 (rnd (num l x) d m), .int .i64 0] else .tuple #[.int .i64 0, .int .i64 3] := by unfold rdV; rw [if_pos h]
end Go.Proofs.Ytdoojpilogcnjaa.Pw
