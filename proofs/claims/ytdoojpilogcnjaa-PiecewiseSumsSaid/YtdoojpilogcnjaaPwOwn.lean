/- What the small functions of the developers' piecewise return: within, isArgument, isMode, floor, continued, exceeding. Conditions: the numbers are not too large; floor: the denominator is above zero. -/
import Derived.Test.YtdoojpilogcnjaaPwRef5
import Derived.Test.YtdoojpilogcnjaaPwMath3
set_option linter.unusedVariables false
set_option linter.unusedSimpArgs false
namespace Go.Proofs.Ytdoojpilogcnjaa.Pw
open Go.RowKit Go.Proofs.Ytdoojpilogcnjaa.Sp
theorem pwithin_any (n k : Int) (w : World) (h0 : 0 ≤ k) (h1 : k ≤ 9223372036854775807) : Calls Try.prog 37 #[.int .i64 n, .int .i64 k] w fun r w' => r = .returned (.bool (decide (-k ≤ n ∧ n ≤ k))) ∧ w' = w := by
  have hw : IntKind.i64.wrap (-k) = -k := IntWalk.i64_in (-k) (by omega)
  by_cases c : -k ≤ n
  · by_cases d : n ≤ k
    · rw [decide_eq_true (And.intro c d)]
      go_enter Try.func37, Try.ntmps37
      go_wp2
      go_ret
      exact ⟨rfl, rfl⟩
    · rw [decide_eq_false (fun e => d e.2)]
      go_enter Try.func37, Try.ntmps37
      go_wp2
      go_ret
      exact ⟨rfl, rfl⟩
  · rw [decide_eq_false (fun e => c e.1)]
    go_enter Try.func37, Try.ntmps37
    go_wp2
    go_ret
    exact ⟨rfl, rfl⟩
theorem parg_any (n : Int) (w : World) : Calls Try.prog 45 #[.int .i64 n] w fun r w' => r = .returned (.bool (decide (0 ≤ n ∧ n ≤ 1000000000000))) ∧ w' = w := by
  by_cases c : 0 ≤ n
  · by_cases d : n ≤ 1000000000000
    · rw [decide_eq_true (And.intro c d)]
      go_enter Try.func45, Try.ntmps45
      go_wp2
      go_ret
      exact ⟨rfl, rfl⟩
    · rw [decide_eq_false (fun e => d e.2)]
      go_enter Try.func45, Try.ntmps45
      go_wp2
      go_ret
      exact ⟨rfl, rfl⟩
  · rw [decide_eq_false (fun e => c e.1)]
    go_enter Try.func45, Try.ntmps45
    go_wp2
    go_ret
    exact ⟨rfl, rfl⟩
theorem pmode_any (m : Int) (w : World) : Calls Try.prog 46 #[.int .i64 m] w fun r w' => r = .returned (.bool (decide (m = 0 ∨ m = 1 ∨ m = 2))) ∧ w' = w := by
  by_cases c : m = 0
  · rw [decide_eq_true (Or.inl c)]
    have t0 : (m == 0) = true := by simpa using c
    clear c
    go_enter Try.func46, Try.ntmps46
    go_wp2
    go_ret
    exact ⟨rfl, rfl⟩
  · have t0 : (m == 0) = false := by simpa using c
    by_cases d : m = 1
    · rw [decide_eq_true (Or.inr (Or.inl d))]
      have t1 : (m == 1) = true := by simpa using d
      clear c d
      go_enter Try.func46, Try.ntmps46
      go_wp2
      go_ret
      exact ⟨rfl, rfl⟩
    · have t1 : (m == 1) = false := by simpa using d
      by_cases e : m = 2
      · rw [decide_eq_true (Or.inr (Or.inr e))]
        have t2 : (m == 2) = true := by simpa using e
        clear c d e
        go_enter Try.func46, Try.ntmps46
        go_wp2
        go_ret
        exact ⟨rfl, rfl⟩
      · rw [decide_eq_false (by omega)]
        have t2 : (m == 2) = false := by simpa using e
        clear c d e
        go_enter Try.func46, Try.ntmps46
        go_wp2
        go_ret
        exact ⟨rfl, rfl⟩
theorem tmod_bd {n d : Int} (hd : 0 < d) : -d < n.tmod d ∧ n.tmod d < d := by
  refine ⟨?_, Int.tmod_lt_of_pos n hd⟩
  have h := Int.tmod_lt_of_pos (-n) hd
  rw [Int.neg_tmod] at h
  omega
theorem fl_neg {n d : Int} (hd : 0 < d) (h : n.tmod d < 0) : n / d = n.tdiv d - 1 := by
  have e := Int.mul_tdiv_add_tmod n d
  obtain ⟨b1, -⟩ := tmod_bd (n := n) hd
  refine (ediv_of (b := n.tmod d + d) (by omega) (by omega) ?_).1
  rw [Int.sub_mul, Int.one_mul, Int.mul_comm]
  omega
theorem fl_pos {n d : Int} (hd : 0 < d) (h : ¬ n.tmod d < 0) : n / d = n.tdiv d := by
  have e := Int.mul_tdiv_add_tmod n d
  obtain ⟨-, b2⟩ := tmod_bd (n := n) hd
  refine (ediv_of (b := n.tmod d) (by omega) b2 ?_).1
  rw [Int.mul_comm]
  omega
theorem pfloor_any (n d : Int) (w : World) (hd : 0 < d) (hn : -9000000000000000000 ≤ n ∧ n ≤ 9000000000000000000) (hd1 : d ≤ 9000000000000000000) :
    Calls Try.prog 60 #[.int .i64 n, .int .i64 d] w fun r w' => r = .returned (.int .i64 (n / d)) ∧ w' = w := by
  have hb := tdiv_bd (n := n) hd
  have hm := tmod_bd (n := n) hd
  have h1 := fl_neg (n := n) hd
  have h2 := fl_pos (n := n) hd
  generalize n / d = F at *
  obtain ⟨q, hq⟩ : ∃ q, n.tdiv d = q := ⟨_, rfl⟩
  obtain ⟨r, hr⟩ : ∃ r, n.tmod d = r := ⟨_, rfl⟩
  rw [hq] at hb h1 h2
  rw [hr] at hm h1 h2
  have hw1 : IntKind.i64.wrap q = q := IntWalk.i64_in _ (by omega)
  have hw2 : IntKind.i64.wrap r = r := IntWalk.i64_in _ (by omega)
  have hd0 : ¬ d = 0 := by omega
  by_cases hneg : r < 0
  · have e := h1 hneg
    have hw3 : IntKind.i64.wrap (q - 1) = q - 1 := IntWalk.i64_in _ (by omega)
    subst e
    clear h1 h2 hb hm hn hd hd1
    go_enter Try.func60, Try.ntmps60
    go_wp2
    go_ret
    exact ⟨rfl, rfl⟩
  · have e := h2 hneg
    subst e
    clear h1 h2 hb hm hn hd hd1
    go_enter Try.func60, Try.ntmps60
    go_wp2
    go_ret
    exact ⟨rfl, rfl⟩
/-- The box of a piece that came by value. -/
abbrev pb (p : Pc) : Obj := .cells #[.int .i64 p.1, .int .i64 p.2.1, .int .i64 p.2.2] 55
theorem pb_cells (w : World) (p : Pc) : (w.alloc (pb p)).cell? ⟨w.heap.size, 0, none⟩ = some (.int .i64 p.1) ∧ (w.alloc (pb p)).cell? ⟨w.heap.size, 1, none⟩ = some (.int .i64 p.2.1) ∧ (w.alloc (pb p)).cell? ⟨w.heap.size, 2, none⟩ = some (.int .i64 p.2.2) := by
  refine ⟨?_, ?_, ?_⟩ <;> simp [World.cell?_alloc_new]
theorem pb_free (w : World) (p : Pc) (i : Nat) : (w.alloc (pb p)).frozen? ⟨w.heap.size, i, none⟩ = false := by simp
set_option maxHeartbeats 2000000 in
theorem pcont_any (p : Pc) (x : Int) (w : World) (h1 : -2000000000000 ≤ x - p.1 ∧ x - p.1 ≤ 2000000000000) (h2 : -3000000000000000000 ≤ p.2.2 * (x - p.1) ∧ p.2.2 * (x - p.1) ≤ 3000000000000000000) (h3 : -4000000000000000000 ≤ p.2.1 ∧ p.2.1 ≤ 4000000000000000000) :
    Calls Try.prog 52 #[pv p, .int .i64 x] w fun r w' => r = .returned (pv (x, p.2.1 + p.2.2 * (x - p.1), p.2.2)) ∧ Below w.heap.size w w' := by
  obtain ⟨p1, p2, p3⟩ := p
  simp only at h1 h2 h3
  have hw1 := IntWalk.i64_in (x - p1) (by omega)
  have hw2 := IntWalk.i64_in (p3 * (x - p1)) (by omega)
  have hw3 := IntWalk.i64_in (p2 + p3 * (x - p1)) (by omega)
  obtain ⟨c0, c1, c2⟩ := pb_cells w (p1, p2, p3)
  have g := pb_cells (w.alloc (pb (p1, p2, p3))) (0, 0, 0)
  have hs : (w.alloc (pb (p1, p2, p3))).heap.size = w.heap.size + 1 := by simp
  rw [hs] at g
  obtain ⟨g0, g1, g2⟩ := g
  have y0 : ∀ i, ((w.alloc (pb (p1, p2, p3))).alloc (pb (0, 0, 0))).frozen? ⟨w.heap.size + 1, i, none⟩ = false := fun i => by rw [← hs]; exact (by simp)
  have hB : Below w.heap.size w ((w.alloc (pb (p1, p2, p3))).alloc (pb (0, 0, 0))) := (alloc_below w _).trans ((alloc_below (w.alloc (pb (p1, p2, p3))) _).mono (alloc_below w _).size)
  replace c0 := cell_kept (alloc_below (w.alloc (pb (p1, p2, p3))) (pb (0, 0, 0))) c0
  replace c1 := cell_kept (alloc_below (w.alloc (pb (p1, p2, p3))) (pb (0, 0, 0))) c1
  replace c2 := cell_kept (alloc_below (w.alloc (pb (p1, p2, p3))) (pb (0, 0, 0))) c2
  simp only at c0 c1 c2 g0 g1 g2
  have yy0 := y0 0
  have yy1 := y0 1
  have yy2 := y0 2
  clear y0 hs h1 h2 h3
  go_enter Try.func52, Try.ntmps52
  go_upto_region 1 with (fail)
  generalize (w.alloc (pb (p1, p2, p3))).alloc (pb (0, 0, 0)) = W1 at *
  have hxb : w.heap.size ≤ w.heap.size + 1 := by omega
  generalize hz : w.heap.size = xb at c0 c1 c2 g0 g1 g2 yy0 yy1 yy2 hxb ⊢
  have HF := Lib.hid (fill3 (a := .int .i64 x) (b := .int .i64 (p2 + p3 * (x - p1))) (c := .int .i64 p3) (hz ▸ hB) hxb g0 g1 g2)
  have HZ := Lib.hid hz
  clear hB hz
  go_wp2
  obtain ⟨f0, f1, f2, hBf⟩ := HF.out
  generalize ((W1.setCell ⟨xb + 1, 0, none⟩ (.int .i64 x)).setCell ⟨xb + 1, 1, none⟩ (.int .i64 (p2 + p3 * (x - p1)))).setCell ⟨xb + 1, 2, none⟩ (.int .i64 p3) = W9 at *
  (try simp only [Exit.inBlock, Exit.then])
  refine bodyPost_ret (by simp [results, Try.results52, f0, f1, f2, go_sem]; try rfl) rfl ?_
  exact ⟨rfl, by rw [HZ.out]; exact hBf⟩
theorem pexceed_any (p : Pc) (n : Int) (w : World) (hm : 0 < p.2.2) (hm1 : p.2.2 ≤ 9000000000000000000) (hn : -4000000000000000000 ≤ n - p.2.1 ∧ n - p.2.1 ≤ 4000000000000000000) (hs : -4000000000000 ≤ p.1 ∧ p.1 ≤ 4000000000000) :
    Calls Try.prog 51 #[pv p, .int .i64 n] w fun r w' => r = .returned (.int .i64 (p.1 + (n - p.2.1) / p.2.2 + 1)) ∧ Below w.heap.size w w' := by
  obtain ⟨p1, p2, p3⟩ := p
  simp only at hm hm1 hn hs ⊢
  have HFL := Lib.hid (fun w => pfloor_any (n - p2) p3 w hm (by omega) hm1)
  have hq : -4000000000000000000 ≤ (n - p2) / p3 ∧ (n - p2) / p3 ≤ 4000000000000000000 := by
    have e := Int.mul_ediv_add_emod (n - p2) p3
    refine ⟨?_, ?_⟩
    · rw [Int.le_ediv_iff_mul_le hm]
      have : -4000000000000000000 * p3 ≤ -4000000000000000000 * 1 := by omega
      omega
    · have : (n - p2) / p3 < 4000000000000000001 := by
        rw [Int.ediv_lt_iff_lt_mul hm]
        omega
      omega
  generalize (n - p2) / p3 = F at *
  have hw1 := IntWalk.i64_in (n - p2) (by omega)
  have hw2 := IntWalk.i64_in (p1 + F) (by omega)
  have hw3 := IntWalk.i64_in (p1 + F + 1) (by omega)
  obtain ⟨c0, c1, c2⟩ := pb_cells w (p1, p2, p3)
  have HB := Lib.hid (alloc_below w (pb (p1, p2, p3)))
  simp only at c0 c1 c2
  clear hm hm1 hn hs hq
  go_enter Try.func51, Try.ntmps51
  go_upto_region 1 with (fail)
  generalize w.alloc (pb (p1, p2, p3)) = W1 at *
  go_quiet ((go_at_call 60; exact Calls.quiet_of_same (HFL.out _)))
  go_wp2
  go_ret
  exact ⟨rfl, below_drewN HB.out _⟩
end Go.Proofs.Ytdoojpilogcnjaa.Pw
