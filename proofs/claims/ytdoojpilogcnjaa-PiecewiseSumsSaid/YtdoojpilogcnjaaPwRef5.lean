/- What the reference implementation's Round of piecewise linear functions returns. Conditions: the pieces lie in memory as the argument says. -/
import Derived.Test.YtdoojpilogcnjaaPwRef4
set_option linter.unusedVariables false
set_option linter.unusedSimpArgs false
namespace Go.Proofs.Ytdoojpilogcnjaa.Pw
open Go.RowKit Go.Proofs.Ytdoojpilogcnjaa.Sp
/-- A quotient rounded: 0 down, 1 halves away from zero, 2 halves to the even one. -/
def rnd (n d m : Int) : Int := n / d + (if (m ≠ 0 ∧ d - n % d < n % d) ∨ (n % d = d - n % d ∧ (m = 1 ∧ 0 < n ∨ m = 2 ∧ (n / d) % 2 ≠ 0)) then 1 else 0)
theorem rnd_le (n d m : Int) : n / d ≤ rnd n d m ∧ rnd n d m ≤ n / d + 1 := by unfold rnd; split <;> omega
/-- Down: at most the value, and greater than it less 1. -/
theorem rnd_down {n d : Int} (hd : 0 < d) : rnd n d 0 * d ≤ n ∧ n < (rnd n d 0 + 1) * d := by
  have e : rnd n d 0 = n / d := by
    unfold rnd
    rw [if_neg (fun h => by rcases h with ⟨h, -⟩ | ⟨-, h | h⟩ <;> omega), Int.add_zero]
  rw [e]
  have h1 := Int.mul_ediv_add_emod n d
  have h2 := Int.emod_nonneg n (show d ≠ 0 by omega)
  have h3 := Int.emod_lt_of_pos n hd
  rw [Int.add_mul, Int.one_mul, Int.mul_comm]
  omega
/-- Near and Even: at most 1/2 from the value. -/
theorem rnd_half {n d m : Int} (hd : 0 < d) (hm : m ≠ 0) : 2 * (rnd n d m * d - n) ≤ d ∧ 2 * (n - rnd n d m * d) ≤ d := by
  have h1 := Int.mul_ediv_add_emod n d
  have h2 := Int.emod_nonneg n (show d ≠ 0 by omega)
  have h3 := Int.emod_lt_of_pos n hd
  unfold rnd
  split
  · rename_i h
    rw [Int.add_mul, Int.one_mul, Int.mul_comm (n / d) d]
    omega
  · rename_i h
    rw [Int.add_zero, Int.mul_comm (n / d) d]
    have : ¬ d - n % d < n % d := fun k => h (.inl ⟨hm, k⟩)
    omega
/-- Near and Even differ only in the middle. -/
theorem rnd_differ {n d : Int} (h : rnd n d 1 ≠ rnd n d 2) : 2 * (n % d) = d := by
  apply Classical.byContradiction
  intro k
  apply h
  unfold rnd
  by_cases c : d - n % d < n % d
  · rw [if_pos (.inl ⟨by decide, c⟩), if_pos (.inl ⟨by decide, c⟩)]
  · rw [if_neg (fun q => by rcases q with q | q <;> omega), if_neg (fun q => by rcases q with q | q <;> omega)]
/-- What Round returns. -/
def rdOk (d : Int) (l : List Pc) (x m : Int) : Prop := evOk d l x ∧ (m = 0 ∨ m = 1 ∨ m = 2)
instance (d : Int) (l : List Pc) (x m : Int) : Decidable (rdOk d l x m) := by unfold rdOk; infer_instance
def rin (q : Int) : Prop := -1000000000000 ≤ q ∧ q ≤ 1000000000000
instance (q : Int) : Decidable (rin q) := by unfold rin; infer_instance
def rdV (d : Int) (l : List Pc) (x m : Int) : Value := if rdOk d l x m then (if rin (rnd (num l x) d m) then .tuple #[.int .i64 (rnd (num l x) d m), .int .i64 0] else .tuple #[.int .i64 0, .int .i64 3]) else .tuple #[.int .i64 0, .int .i64 1]
theorem tdiv_bd {n d : Int} (hd : 0 < d) : (0 ≤ n → 0 ≤ n.tdiv d ∧ n.tdiv d ≤ n) ∧ (n ≤ 0 → n ≤ n.tdiv d ∧ n.tdiv d ≤ 0) := by
  constructor
  · intro h
    rw [Int.tdiv_eq_ediv_of_nonneg h]
    exact ⟨Int.ediv_nonneg h (by omega), Int.ediv_le_self d h⟩
  · intro h
    rw [← Int.neg_neg n, Int.neg_tdiv, Int.tdiv_eq_ediv_of_nonneg (show 0 ≤ -n by omega)]
    have h1 := Int.ediv_nonneg (show 0 ≤ -n by omega) (show 0 ≤ d by omega)
    have h2 := Int.ediv_le_self d (show 0 ≤ -n by omega)
    omega
theorem ediv_of {n d q b : Int} (h0 : 0 ≤ b) (h1 : b < d) (e : n = q * d + b) : n / d = q ∧ n % d = b := by
  subst e
  rw [Int.add_comm, Int.add_mul_ediv_right _ _ (show d ≠ 0 by omega), Int.add_mul_emod_self_right, Int.ediv_eq_zero_of_lt h0 h1, Int.emod_eq_of_lt h0 h1]
  exact ⟨Int.zero_add q, rfl⟩
theorem tmod_two (q : Int) : (q.tmod 2 = 0 ∧ q % 2 = 0) ∨ (q.tmod 2 = 1 ∧ q % 2 ≠ 0) ∨ (q.tmod 2 = -1 ∧ q % 2 ≠ 0) := by
  have h1 := Int.mul_tdiv_add_tmod q 2
  have h2 := Int.tmod_lt_of_pos q (show (0 : Int) < 2 by decide)
  have h3 := Int.tmod_lt_of_pos (-q) (show (0 : Int) < 2 by decide)
  rw [Int.neg_tmod] at h3
  omega
set_option maxHeartbeats 8000000 in
set_option maxRecDepth 100000 in
theorem rround_any (d x m : Int) (a : Option Addr) (c : Nat) (l : List Pc) (w : World) (z : PcsAt a l w) :
    Calls Try.prog 25 #[fv d a l.length c, .int .i64 x, .int .i64 m] w fun r w' => r = .returned (rdV d l x m) ∧ Below w.heap.size w w' := by
  have HV := Lib.hid (fun w' (q : Below w.heap.size w w') => reval_any d x a c l w' (z.below q))
  have HW := Lib.hid (fun q w' => rwithin_any q 1000000000000 w' (by decide) (by decide))
  generalize l.length = n at *
  have HB := Lib.hid (alloc_below w (fb d a n c))
  have e0 : (w.alloc (fb d a n c)).cell? ⟨w.heap.size, 0, none⟩ = some (.int .i64 d) := by simp [World.cell?_alloc_new]
  have e1 : (w.alloc (fb d a n c)).cell? ⟨w.heap.size, 1, none⟩ = some (.slice a n c) := by simp [World.cell?_alloc_new]
  go_enter Try.func25, Try.ntmps25
  go_upto_region 1 with (fail)
  generalize w.alloc (fb d a n c) = W1 at *
  generalize w.heap.size = xb at e0 e1 ⊢
  go_upto_region 2 with (go_at_call 23; with_reducible refine (HV.out _ HB.out).mono ?_; rintro _ W2 ⟨rfl, hn⟩)
  have HB2 := Lib.hid (HB.out.trans (hn.mono HB.out.size))
  clear hn HB HV e0 e1 z
  by_cases ok : evOk d l x
  · simp only [evN, evD, evE, if_pos ok]
    have HOUT := Lib.hid (show (m = 0 ∨ m = 1 ∨ m = 2) → rdV d l x m = if rin (rnd (num l x) d m) then .tuple #[.int .i64 (rnd (num l x) d m), .int .i64 0] else .tuple #[.int .i64 0, .int .i64 3] from fun h => by unfold rdV; rw [if_pos ⟨ok, h⟩])
    have HNO := Lib.hid (show ¬ (m = 0 ∨ m = 1 ∨ m = 2) → rdV d l x m = .tuple #[.int .i64 0, .int .i64 1] from fun h => by unfold rdV; rw [if_neg (fun q => h q.2)])
    obtain ⟨hok, hd1, hd2, -⟩ := vd_ok ok.1
    have hN := num_bd hok ok.2.1 ok.2.2
    generalize num l x = N at *
    clear ok hok
    obtain ⟨q, hq⟩ : ∃ q, N.tdiv d = q := ⟨_, rfl⟩
    obtain ⟨r, hr⟩ : ∃ r, N.tmod d = r := ⟨_, rfl⟩
    have hqr : d * q + r = N := by rw [← hq, ← hr]; exact Int.mul_tdiv_add_tmod N d
    have hqb := tdiv_bd (n := N) (d := d) (by omega)
    rw [hq] at hqb
    have hrb : -d < r ∧ r < d ∧ (0 ≤ N → 0 ≤ r) ∧ (N ≤ 0 → r ≤ 0) := by
      rw [← hr]
      refine ⟨?_, ?_, fun h => Int.tmod_nonneg _ h, fun h => ?_⟩
      · have h := Int.tmod_lt_of_pos (-N) (show (0 : Int) < d by omega); rw [Int.neg_tmod] at h; omega
      · exact Int.tmod_lt_of_pos N (by omega)
      · rw [← Int.neg_neg N, Int.neg_tmod]; have := Int.tmod_nonneg (a := -N) d (by omega); omega
    have hd0 : ¬ d = 0 := by omega
    have hw1 : IntKind.i64.wrap q = q := IntWalk.i64_in _ (by omega)
    obtain ⟨P0, hP0⟩ : ∃ P, q * d = P := ⟨_, rfl⟩
    have hP1 : P0 = N - r := by rw [← hP0, Int.mul_comm]; omega
    have hw2 : IntKind.i64.wrap (q * d) = P0 := by rw [hP0]; exact IntWalk.i64_in _ (by omega)
    by_cases hmm : m = 0 ∨ m = 1 ∨ m = 2
    · by_cases hneg : r < 0
      · have hgt : N < P0 := by omega
        obtain ⟨Q, hQ⟩ : ∃ Q, q - 1 = Q := ⟨_, rfl⟩
        obtain ⟨P, hP⟩ : ∃ P, Q * d = P := ⟨_, rfl⟩
        have hP2 : P = P0 - d := by rw [← hP, ← hQ, Int.sub_mul, hP0, Int.one_mul]
        obtain ⟨b, hb⟩ : ∃ b, N - P = b := ⟨_, rfl⟩
        obtain ⟨s, hs⟩ : ∃ s, d - b = s := ⟨_, rfl⟩
        have hw3 : IntKind.i64.wrap (q - 1) = Q := by rw [hQ]; exact IntWalk.i64_in _ (by omega)
        have hw4 : IntKind.i64.wrap (Q * d) = P := by rw [hP]; exact IntWalk.i64_in _ (by omega)
        have hw5 : IntKind.i64.wrap (N - P) = b := by rw [hb]; exact IntWalk.i64_in _ (by omega)
        have hw6 : IntKind.i64.wrap (d - b) = s := by rw [hs]; exact IntWalk.i64_in _ (by omega)
        have hw7 : IntKind.i64.wrap (Q + 1) = Q + 1 := IntWalk.i64_in _ (by omega)
        have hbd : N / d = Q ∧ N % d = b := ediv_of (by omega) (by omega) (by rw [hP]; omega)
        have HRN := Lib.hid (show ∀ k, rnd N d k = Q + (if (k ≠ 0 ∧ s < b) ∨ (b = s ∧ (k = 1 ∧ 0 < N ∨ k = 2 ∧ Q % 2 ≠ 0)) then 1 else 0) from fun k => by unfold rnd; rw [hbd.1, hbd.2, ← hs])
        have htm : (Q.tmod 2 = 0 ∧ Q % 2 = 0) ∨ (Q.tmod 2 = 1 ∧ Q % 2 ≠ 0) ∨ (Q.tmod 2 = -1 ∧ Q % 2 ≠ 0) := tmod_two Q
        clear hbd hr hqr hqb hrb hN hd1 hd2 hP0 hP1 hP2 hP hb hs hneg hQ
        by_cases hm : m = 0
        · subst hm
          by_cases hbs : b = s
          · have tb : (b == s) = true := by simpa using hbs
            have no : ¬ (((0 : Int) ≠ 0 ∧ s < b) ∨ (b = s ∧ ((0 : Int) = 1 ∧ 0 < N ∨ (0 : Int) = 2 ∧ Q % 2 ≠ 0))) := by omega
            have hR : rnd N d 0 = Q := by rw [HRN.out]; rw [if_neg no, Int.add_zero]
            by_cases hin : rin (Q)
            · have HR := Lib.hid (show rdV d l x 0 = _ by rw [HOUT.out (by decide), hR, if_pos hin])
              have HWI := Lib.hid (fun w' => (HW.out (Q) w').mono (fun r w'' (h : _ ∧ _) => (⟨h.1.trans (ret_bool (decide_eq_true hin)), h.2⟩ : r = .returned (.bool true) ∧ w'' = w')))
              clear hin hR htm no hbs hmm
              go_wp2_with (go_at_call 42; (with_reducible refine (HWI.out _).mono ?_); rintro _ _ ⟨rfl, rfl⟩)
              go_ret2
              exact ⟨by rw [HR.out]; rfl, HB2.out⟩
            · have HR := Lib.hid (show rdV d l x 0 = _ by rw [HOUT.out (by decide), hR, if_neg hin])
              have HWI := Lib.hid (fun w' => (HW.out (Q) w').mono (fun r w'' (h : _ ∧ _) => (⟨h.1.trans (ret_bool (decide_eq_false hin)), h.2⟩ : r = .returned (.bool false) ∧ w'' = w')))
              clear hin hR htm no hbs hmm
              go_wp2_with (go_at_call 42; (with_reducible refine (HWI.out _).mono ?_); rintro _ _ ⟨rfl, rfl⟩)
              go_ret2
              exact ⟨by rw [HR.out]; rfl, HB2.out⟩
          · have tb : (b == s) = false := by simpa using hbs
            have no : ¬ (((0 : Int) ≠ 0 ∧ s < b) ∨ (b = s ∧ ((0 : Int) = 1 ∧ 0 < N ∨ (0 : Int) = 2 ∧ Q % 2 ≠ 0))) := by omega
            have hR : rnd N d 0 = Q := by rw [HRN.out]; rw [if_neg no, Int.add_zero]
            by_cases hin : rin (Q)
            · have HR := Lib.hid (show rdV d l x 0 = _ by rw [HOUT.out (by decide), hR, if_pos hin])
              have HWI := Lib.hid (fun w' => (HW.out (Q) w').mono (fun r w'' (h : _ ∧ _) => (⟨h.1.trans (ret_bool (decide_eq_true hin)), h.2⟩ : r = .returned (.bool true) ∧ w'' = w')))
              clear hin hR htm no hbs hmm
              go_wp2_with (go_at_call 42; (with_reducible refine (HWI.out _).mono ?_); rintro _ _ ⟨rfl, rfl⟩)
              go_ret2
              exact ⟨by rw [HR.out]; rfl, HB2.out⟩
            · have HR := Lib.hid (show rdV d l x 0 = _ by rw [HOUT.out (by decide), hR, if_neg hin])
              have HWI := Lib.hid (fun w' => (HW.out (Q) w').mono (fun r w'' (h : _ ∧ _) => (⟨h.1.trans (ret_bool (decide_eq_false hin)), h.2⟩ : r = .returned (.bool false) ∧ w'' = w')))
              clear hin hR htm no hbs hmm
              go_wp2_with (go_at_call 42; (with_reducible refine (HWI.out _).mono ?_); rintro _ _ ⟨rfl, rfl⟩)
              go_ret2
              exact ⟨by rw [HR.out]; rfl, HB2.out⟩
        · by_cases hm : m = 1
          · subst hm
            by_cases hsb : s < b
            · have tb : (b == s) = false := by simp; omega
              have cc : (((1 : Int) ≠ 0 ∧ s < b) ∨ (b = s ∧ ((1 : Int) = 1 ∧ 0 < N ∨ (1 : Int) = 2 ∧ Q % 2 ≠ 0))) := by omega
              have hR : rnd N d 1 = Q + 1 := by rw [HRN.out]; rw [if_pos cc]
              by_cases hin : rin (Q + 1)
              · have HR := Lib.hid (show rdV d l x 1 = _ by rw [HOUT.out (by decide), hR, if_pos hin])
                have HWI := Lib.hid (fun w' => (HW.out (Q + 1) w').mono (fun r w'' (h : _ ∧ _) => (⟨h.1.trans (ret_bool (decide_eq_true hin)), h.2⟩ : r = .returned (.bool true) ∧ w'' = w')))
                clear hin hR htm cc hmm
                go_wp2_with (go_at_call 42; (with_reducible refine (HWI.out _).mono ?_); rintro _ _ ⟨rfl, rfl⟩)
                go_ret2
                exact ⟨by rw [HR.out]; rfl, HB2.out⟩
              · have HR := Lib.hid (show rdV d l x 1 = _ by rw [HOUT.out (by decide), hR, if_neg hin])
                have HWI := Lib.hid (fun w' => (HW.out (Q + 1) w').mono (fun r w'' (h : _ ∧ _) => (⟨h.1.trans (ret_bool (decide_eq_false hin)), h.2⟩ : r = .returned (.bool false) ∧ w'' = w')))
                clear hin hR htm cc hmm
                go_wp2_with (go_at_call 42; (with_reducible refine (HWI.out _).mono ?_); rintro _ _ ⟨rfl, rfl⟩)
                go_ret2
                exact ⟨by rw [HR.out]; rfl, HB2.out⟩
            · by_cases hbs : b = s
              · have tb : (b == s) = true := by simpa using hbs
                by_cases hN0 : 0 < N
                · have cc : (((1 : Int) ≠ 0 ∧ s < b) ∨ (b = s ∧ ((1 : Int) = 1 ∧ 0 < N ∨ (1 : Int) = 2 ∧ Q % 2 ≠ 0))) := by omega
                  have hR : rnd N d 1 = Q + 1 := by rw [HRN.out]; rw [if_pos cc]
                  by_cases hin : rin (Q + 1)
                  · have HR := Lib.hid (show rdV d l x 1 = _ by rw [HOUT.out (by decide), hR, if_pos hin])
                    have HWI := Lib.hid (fun w' => (HW.out (Q + 1) w').mono (fun r w'' (h : _ ∧ _) => (⟨h.1.trans (ret_bool (decide_eq_true hin)), h.2⟩ : r = .returned (.bool true) ∧ w'' = w')))
                    clear hin hR htm cc hbs hmm
                    go_wp2_with (go_at_call 42; (with_reducible refine (HWI.out _).mono ?_); rintro _ _ ⟨rfl, rfl⟩)
                    go_ret2
                    exact ⟨by rw [HR.out]; rfl, HB2.out⟩
                  · have HR := Lib.hid (show rdV d l x 1 = _ by rw [HOUT.out (by decide), hR, if_neg hin])
                    have HWI := Lib.hid (fun w' => (HW.out (Q + 1) w').mono (fun r w'' (h : _ ∧ _) => (⟨h.1.trans (ret_bool (decide_eq_false hin)), h.2⟩ : r = .returned (.bool false) ∧ w'' = w')))
                    clear hin hR htm cc hbs hmm
                    go_wp2_with (go_at_call 42; (with_reducible refine (HWI.out _).mono ?_); rintro _ _ ⟨rfl, rfl⟩)
                    go_ret2
                    exact ⟨by rw [HR.out]; rfl, HB2.out⟩
                · have cc : ¬ (((1 : Int) ≠ 0 ∧ s < b) ∨ (b = s ∧ ((1 : Int) = 1 ∧ 0 < N ∨ (1 : Int) = 2 ∧ Q % 2 ≠ 0))) := by omega
                  have hR : rnd N d 1 = Q := by rw [HRN.out]; rw [if_neg cc, Int.add_zero]
                  by_cases hin : rin (Q)
                  · have HR := Lib.hid (show rdV d l x 1 = _ by rw [HOUT.out (by decide), hR, if_pos hin])
                    have HWI := Lib.hid (fun w' => (HW.out (Q) w').mono (fun r w'' (h : _ ∧ _) => (⟨h.1.trans (ret_bool (decide_eq_true hin)), h.2⟩ : r = .returned (.bool true) ∧ w'' = w')))
                    clear hin hR htm cc hbs hmm
                    go_wp2_with (go_at_call 42; (with_reducible refine (HWI.out _).mono ?_); rintro _ _ ⟨rfl, rfl⟩)
                    go_ret2
                    exact ⟨by rw [HR.out]; rfl, HB2.out⟩
                  · have HR := Lib.hid (show rdV d l x 1 = _ by rw [HOUT.out (by decide), hR, if_neg hin])
                    have HWI := Lib.hid (fun w' => (HW.out (Q) w').mono (fun r w'' (h : _ ∧ _) => (⟨h.1.trans (ret_bool (decide_eq_false hin)), h.2⟩ : r = .returned (.bool false) ∧ w'' = w')))
                    clear hin hR htm cc hbs hmm
                    go_wp2_with (go_at_call 42; (with_reducible refine (HWI.out _).mono ?_); rintro _ _ ⟨rfl, rfl⟩)
                    go_ret2
                    exact ⟨by rw [HR.out]; rfl, HB2.out⟩
              · have tb : (b == s) = false := by simpa using hbs
                have cc : ¬ (((1 : Int) ≠ 0 ∧ s < b) ∨ (b = s ∧ ((1 : Int) = 1 ∧ 0 < N ∨ (1 : Int) = 2 ∧ Q % 2 ≠ 0))) := by omega
                have hR : rnd N d 1 = Q := by rw [HRN.out]; rw [if_neg cc, Int.add_zero]
                by_cases hin : rin (Q)
                · have HR := Lib.hid (show rdV d l x 1 = _ by rw [HOUT.out (by decide), hR, if_pos hin])
                  have HWI := Lib.hid (fun w' => (HW.out (Q) w').mono (fun r w'' (h : _ ∧ _) => (⟨h.1.trans (ret_bool (decide_eq_true hin)), h.2⟩ : r = .returned (.bool true) ∧ w'' = w')))
                  clear hin hR htm cc hbs hmm
                  go_wp2_with (go_at_call 42; (with_reducible refine (HWI.out _).mono ?_); rintro _ _ ⟨rfl, rfl⟩)
                  go_ret2
                  exact ⟨by rw [HR.out]; rfl, HB2.out⟩
                · have HR := Lib.hid (show rdV d l x 1 = _ by rw [HOUT.out (by decide), hR, if_neg hin])
                  have HWI := Lib.hid (fun w' => (HW.out (Q) w').mono (fun r w'' (h : _ ∧ _) => (⟨h.1.trans (ret_bool (decide_eq_false hin)), h.2⟩ : r = .returned (.bool false) ∧ w'' = w')))
                  clear hin hR htm cc hbs hmm
                  go_wp2_with (go_at_call 42; (with_reducible refine (HWI.out _).mono ?_); rintro _ _ ⟨rfl, rfl⟩)
                  go_ret2
                  exact ⟨by rw [HR.out]; rfl, HB2.out⟩
          · by_cases hm : m = 2
            · subst hm
              by_cases hsb : s < b
              · have tb : (b == s) = false := by simp; omega
                have cc : (((2 : Int) ≠ 0 ∧ s < b) ∨ (b = s ∧ ((2 : Int) = 1 ∧ 0 < N ∨ (2 : Int) = 2 ∧ Q % 2 ≠ 0))) := by omega
                have hR : rnd N d 2 = Q + 1 := by rw [HRN.out]; rw [if_pos cc]
                by_cases hin : rin (Q + 1)
                · have HR := Lib.hid (show rdV d l x 2 = _ by rw [HOUT.out (by decide), hR, if_pos hin])
                  have HWI := Lib.hid (fun w' => (HW.out (Q + 1) w').mono (fun r w'' (h : _ ∧ _) => (⟨h.1.trans (ret_bool (decide_eq_true hin)), h.2⟩ : r = .returned (.bool true) ∧ w'' = w')))
                  clear hin hR htm cc hmm
                  go_wp2_with (go_at_call 42; (with_reducible refine (HWI.out _).mono ?_); rintro _ _ ⟨rfl, rfl⟩)
                  go_ret2
                  exact ⟨by rw [HR.out]; rfl, HB2.out⟩
                · have HR := Lib.hid (show rdV d l x 2 = _ by rw [HOUT.out (by decide), hR, if_neg hin])
                  have HWI := Lib.hid (fun w' => (HW.out (Q + 1) w').mono (fun r w'' (h : _ ∧ _) => (⟨h.1.trans (ret_bool (decide_eq_false hin)), h.2⟩ : r = .returned (.bool false) ∧ w'' = w')))
                  clear hin hR htm cc hmm
                  go_wp2_with (go_at_call 42; (with_reducible refine (HWI.out _).mono ?_); rintro _ _ ⟨rfl, rfl⟩)
                  go_ret2
                  exact ⟨by rw [HR.out]; rfl, HB2.out⟩
              · by_cases hbs : b = s
                · have tb : (b == s) = true := by simpa using hbs
                  rcases htm with ⟨t2, t3⟩ | ⟨t2, t3⟩ | ⟨t2, t3⟩
                  · have cc : ¬ (((2 : Int) ≠ 0 ∧ s < b) ∨ (b = s ∧ ((2 : Int) = 1 ∧ 0 < N ∨ (2 : Int) = 2 ∧ Q % 2 ≠ 0))) := by omega
                    have hR : rnd N d 2 = Q := by rw [HRN.out]; rw [if_neg cc, Int.add_zero]
                    by_cases hin : rin (Q)
                    · have HR := Lib.hid (show rdV d l x 2 = _ by rw [HOUT.out (by decide), hR, if_pos hin])
                      have HWI := Lib.hid (fun w' => (HW.out (Q) w').mono (fun r w'' (h : _ ∧ _) => (⟨h.1.trans (ret_bool (decide_eq_true hin)), h.2⟩ : r = .returned (.bool true) ∧ w'' = w')))
                      clear hin hR cc hbs hmm
                      go_wp2_with (go_at_call 42; (with_reducible refine (HWI.out _).mono ?_); rintro _ _ ⟨rfl, rfl⟩)
                      go_ret2
                      exact ⟨by rw [HR.out]; rfl, HB2.out⟩
                    · have HR := Lib.hid (show rdV d l x 2 = _ by rw [HOUT.out (by decide), hR, if_neg hin])
                      have HWI := Lib.hid (fun w' => (HW.out (Q) w').mono (fun r w'' (h : _ ∧ _) => (⟨h.1.trans (ret_bool (decide_eq_false hin)), h.2⟩ : r = .returned (.bool false) ∧ w'' = w')))
                      clear hin hR cc hbs hmm
                      go_wp2_with (go_at_call 42; (with_reducible refine (HWI.out _).mono ?_); rintro _ _ ⟨rfl, rfl⟩)
                      go_ret2
                      exact ⟨by rw [HR.out]; rfl, HB2.out⟩
                  · have cc : (((2 : Int) ≠ 0 ∧ s < b) ∨ (b = s ∧ ((2 : Int) = 1 ∧ 0 < N ∨ (2 : Int) = 2 ∧ Q % 2 ≠ 0))) := by omega
                    have hR : rnd N d 2 = Q + 1 := by rw [HRN.out]; rw [if_pos cc]
                    by_cases hin : rin (Q + 1)
                    · have HR := Lib.hid (show rdV d l x 2 = _ by rw [HOUT.out (by decide), hR, if_pos hin])
                      have HWI := Lib.hid (fun w' => (HW.out (Q + 1) w').mono (fun r w'' (h : _ ∧ _) => (⟨h.1.trans (ret_bool (decide_eq_true hin)), h.2⟩ : r = .returned (.bool true) ∧ w'' = w')))
                      clear hin hR cc hbs hmm
                      go_wp2_with (go_at_call 42; (with_reducible refine (HWI.out _).mono ?_); rintro _ _ ⟨rfl, rfl⟩)
                      go_ret2
                      exact ⟨by rw [HR.out]; rfl, HB2.out⟩
                    · have HR := Lib.hid (show rdV d l x 2 = _ by rw [HOUT.out (by decide), hR, if_neg hin])
                      have HWI := Lib.hid (fun w' => (HW.out (Q + 1) w').mono (fun r w'' (h : _ ∧ _) => (⟨h.1.trans (ret_bool (decide_eq_false hin)), h.2⟩ : r = .returned (.bool false) ∧ w'' = w')))
                      clear hin hR cc hbs hmm
                      go_wp2_with (go_at_call 42; (with_reducible refine (HWI.out _).mono ?_); rintro _ _ ⟨rfl, rfl⟩)
                      go_ret2
                      exact ⟨by rw [HR.out]; rfl, HB2.out⟩
                  · have cc : (((2 : Int) ≠ 0 ∧ s < b) ∨ (b = s ∧ ((2 : Int) = 1 ∧ 0 < N ∨ (2 : Int) = 2 ∧ Q % 2 ≠ 0))) := by omega
                    have hR : rnd N d 2 = Q + 1 := by rw [HRN.out]; rw [if_pos cc]
                    by_cases hin : rin (Q + 1)
                    · have HR := Lib.hid (show rdV d l x 2 = _ by rw [HOUT.out (by decide), hR, if_pos hin])
                      have HWI := Lib.hid (fun w' => (HW.out (Q + 1) w').mono (fun r w'' (h : _ ∧ _) => (⟨h.1.trans (ret_bool (decide_eq_true hin)), h.2⟩ : r = .returned (.bool true) ∧ w'' = w')))
                      clear hin hR cc hbs hmm
                      go_wp2_with (go_at_call 42; (with_reducible refine (HWI.out _).mono ?_); rintro _ _ ⟨rfl, rfl⟩)
                      go_ret2
                      exact ⟨by rw [HR.out]; rfl, HB2.out⟩
                    · have HR := Lib.hid (show rdV d l x 2 = _ by rw [HOUT.out (by decide), hR, if_neg hin])
                      have HWI := Lib.hid (fun w' => (HW.out (Q + 1) w').mono (fun r w'' (h : _ ∧ _) => (⟨h.1.trans (ret_bool (decide_eq_false hin)), h.2⟩ : r = .returned (.bool false) ∧ w'' = w')))
                      clear hin hR cc hbs hmm
                      go_wp2_with (go_at_call 42; (with_reducible refine (HWI.out _).mono ?_); rintro _ _ ⟨rfl, rfl⟩)
                      go_ret2
                      exact ⟨by rw [HR.out]; rfl, HB2.out⟩
                · have tb : (b == s) = false := by simpa using hbs
                  have cc : ¬ (((2 : Int) ≠ 0 ∧ s < b) ∨ (b = s ∧ ((2 : Int) = 1 ∧ 0 < N ∨ (2 : Int) = 2 ∧ Q % 2 ≠ 0))) := by omega
                  have hR : rnd N d 2 = Q := by rw [HRN.out]; rw [if_neg cc, Int.add_zero]
                  by_cases hin : rin (Q)
                  · have HR := Lib.hid (show rdV d l x 2 = _ by rw [HOUT.out (by decide), hR, if_pos hin])
                    have HWI := Lib.hid (fun w' => (HW.out (Q) w').mono (fun r w'' (h : _ ∧ _) => (⟨h.1.trans (ret_bool (decide_eq_true hin)), h.2⟩ : r = .returned (.bool true) ∧ w'' = w')))
                    clear hin hR htm cc hbs hmm
                    go_wp2_with (go_at_call 42; (with_reducible refine (HWI.out _).mono ?_); rintro _ _ ⟨rfl, rfl⟩)
                    go_ret2
                    exact ⟨by rw [HR.out]; rfl, HB2.out⟩
                  · have HR := Lib.hid (show rdV d l x 2 = _ by rw [HOUT.out (by decide), hR, if_neg hin])
                    have HWI := Lib.hid (fun w' => (HW.out (Q) w').mono (fun r w'' (h : _ ∧ _) => (⟨h.1.trans (ret_bool (decide_eq_false hin)), h.2⟩ : r = .returned (.bool false) ∧ w'' = w')))
                    clear hin hR htm cc hbs hmm
                    go_wp2_with (go_at_call 42; (with_reducible refine (HWI.out _).mono ?_); rintro _ _ ⟨rfl, rfl⟩)
                    go_ret2
                    exact ⟨by rw [HR.out]; rfl, HB2.out⟩
            · exfalso; omega
      · have hgt : ¬ N < P0 := by omega
        obtain ⟨Q, hQ⟩ : ∃ Q, q = Q := ⟨_, rfl⟩
        obtain ⟨b, hb⟩ : ∃ b, N - P0 = b := ⟨_, rfl⟩
        obtain ⟨s, hs⟩ : ∃ s, d - b = s := ⟨_, rfl⟩
        subst hQ
        have hw5 : IntKind.i64.wrap (N - P0) = b := by rw [hb]; exact IntWalk.i64_in _ (by omega)
        have hw6 : IntKind.i64.wrap (d - b) = s := by rw [hs]; exact IntWalk.i64_in _ (by omega)
        have hw7 : IntKind.i64.wrap (q + 1) = q + 1 := IntWalk.i64_in _ (by omega)
        have hbd : N / d = q ∧ N % d = b := ediv_of (by omega) (by omega) (by rw [hP0]; omega)
        have HRN := Lib.hid (show ∀ k, rnd N d k = q + (if (k ≠ 0 ∧ s < b) ∨ (b = s ∧ (k = 1 ∧ 0 < N ∨ k = 2 ∧ q % 2 ≠ 0)) then 1 else 0) from fun k => by unfold rnd; rw [hbd.1, hbd.2, ← hs])
        have htm : (q.tmod 2 = 0 ∧ q % 2 = 0) ∨ (q.tmod 2 = 1 ∧ q % 2 ≠ 0) ∨ (q.tmod 2 = -1 ∧ q % 2 ≠ 0) := tmod_two q
        clear hbd hr hqr hqb hrb hN hd1 hd2 hP0 hP1 hb hs hneg
        by_cases hm : m = 0
        · subst hm
          by_cases hbs : b = s
          · have tb : (b == s) = true := by simpa using hbs
            have no : ¬ (((0 : Int) ≠ 0 ∧ s < b) ∨ (b = s ∧ ((0 : Int) = 1 ∧ 0 < N ∨ (0 : Int) = 2 ∧ q % 2 ≠ 0))) := by omega
            have hR : rnd N d 0 = q := by rw [HRN.out]; rw [if_neg no, Int.add_zero]
            by_cases hin : rin (q)
            · have HR := Lib.hid (show rdV d l x 0 = _ by rw [HOUT.out (by decide), hR, if_pos hin])
              have HWI := Lib.hid (fun w' => (HW.out (q) w').mono (fun r w'' (h : _ ∧ _) => (⟨h.1.trans (ret_bool (decide_eq_true hin)), h.2⟩ : r = .returned (.bool true) ∧ w'' = w')))
              clear hin hR htm no hbs hmm
              go_wp2_with (go_at_call 42; (with_reducible refine (HWI.out _).mono ?_); rintro _ _ ⟨rfl, rfl⟩)
              go_ret2
              exact ⟨by rw [HR.out]; rfl, HB2.out⟩
            · have HR := Lib.hid (show rdV d l x 0 = _ by rw [HOUT.out (by decide), hR, if_neg hin])
              have HWI := Lib.hid (fun w' => (HW.out (q) w').mono (fun r w'' (h : _ ∧ _) => (⟨h.1.trans (ret_bool (decide_eq_false hin)), h.2⟩ : r = .returned (.bool false) ∧ w'' = w')))
              clear hin hR htm no hbs hmm
              go_wp2_with (go_at_call 42; (with_reducible refine (HWI.out _).mono ?_); rintro _ _ ⟨rfl, rfl⟩)
              go_ret2
              exact ⟨by rw [HR.out]; rfl, HB2.out⟩
          · have tb : (b == s) = false := by simpa using hbs
            have no : ¬ (((0 : Int) ≠ 0 ∧ s < b) ∨ (b = s ∧ ((0 : Int) = 1 ∧ 0 < N ∨ (0 : Int) = 2 ∧ q % 2 ≠ 0))) := by omega
            have hR : rnd N d 0 = q := by rw [HRN.out]; rw [if_neg no, Int.add_zero]
            by_cases hin : rin (q)
            · have HR := Lib.hid (show rdV d l x 0 = _ by rw [HOUT.out (by decide), hR, if_pos hin])
              have HWI := Lib.hid (fun w' => (HW.out (q) w').mono (fun r w'' (h : _ ∧ _) => (⟨h.1.trans (ret_bool (decide_eq_true hin)), h.2⟩ : r = .returned (.bool true) ∧ w'' = w')))
              clear hin hR htm no hbs hmm
              go_wp2_with (go_at_call 42; (with_reducible refine (HWI.out _).mono ?_); rintro _ _ ⟨rfl, rfl⟩)
              go_ret2
              exact ⟨by rw [HR.out]; rfl, HB2.out⟩
            · have HR := Lib.hid (show rdV d l x 0 = _ by rw [HOUT.out (by decide), hR, if_neg hin])
              have HWI := Lib.hid (fun w' => (HW.out (q) w').mono (fun r w'' (h : _ ∧ _) => (⟨h.1.trans (ret_bool (decide_eq_false hin)), h.2⟩ : r = .returned (.bool false) ∧ w'' = w')))
              clear hin hR htm no hbs hmm
              go_wp2_with (go_at_call 42; (with_reducible refine (HWI.out _).mono ?_); rintro _ _ ⟨rfl, rfl⟩)
              go_ret2
              exact ⟨by rw [HR.out]; rfl, HB2.out⟩
        · by_cases hm : m = 1
          · subst hm
            by_cases hsb : s < b
            · have tb : (b == s) = false := by simp; omega
              have cc : (((1 : Int) ≠ 0 ∧ s < b) ∨ (b = s ∧ ((1 : Int) = 1 ∧ 0 < N ∨ (1 : Int) = 2 ∧ q % 2 ≠ 0))) := by omega
              have hR : rnd N d 1 = q + 1 := by rw [HRN.out]; rw [if_pos cc]
              by_cases hin : rin (q + 1)
              · have HR := Lib.hid (show rdV d l x 1 = _ by rw [HOUT.out (by decide), hR, if_pos hin])
                have HWI := Lib.hid (fun w' => (HW.out (q + 1) w').mono (fun r w'' (h : _ ∧ _) => (⟨h.1.trans (ret_bool (decide_eq_true hin)), h.2⟩ : r = .returned (.bool true) ∧ w'' = w')))
                clear hin hR htm cc hmm
                go_wp2_with (go_at_call 42; (with_reducible refine (HWI.out _).mono ?_); rintro _ _ ⟨rfl, rfl⟩)
                go_ret2
                exact ⟨by rw [HR.out]; rfl, HB2.out⟩
              · have HR := Lib.hid (show rdV d l x 1 = _ by rw [HOUT.out (by decide), hR, if_neg hin])
                have HWI := Lib.hid (fun w' => (HW.out (q + 1) w').mono (fun r w'' (h : _ ∧ _) => (⟨h.1.trans (ret_bool (decide_eq_false hin)), h.2⟩ : r = .returned (.bool false) ∧ w'' = w')))
                clear hin hR htm cc hmm
                go_wp2_with (go_at_call 42; (with_reducible refine (HWI.out _).mono ?_); rintro _ _ ⟨rfl, rfl⟩)
                go_ret2
                exact ⟨by rw [HR.out]; rfl, HB2.out⟩
            · by_cases hbs : b = s
              · have tb : (b == s) = true := by simpa using hbs
                by_cases hN0 : 0 < N
                · have cc : (((1 : Int) ≠ 0 ∧ s < b) ∨ (b = s ∧ ((1 : Int) = 1 ∧ 0 < N ∨ (1 : Int) = 2 ∧ q % 2 ≠ 0))) := by omega
                  have hR : rnd N d 1 = q + 1 := by rw [HRN.out]; rw [if_pos cc]
                  by_cases hin : rin (q + 1)
                  · have HR := Lib.hid (show rdV d l x 1 = _ by rw [HOUT.out (by decide), hR, if_pos hin])
                    have HWI := Lib.hid (fun w' => (HW.out (q + 1) w').mono (fun r w'' (h : _ ∧ _) => (⟨h.1.trans (ret_bool (decide_eq_true hin)), h.2⟩ : r = .returned (.bool true) ∧ w'' = w')))
                    clear hin hR htm cc hbs hmm
                    go_wp2_with (go_at_call 42; (with_reducible refine (HWI.out _).mono ?_); rintro _ _ ⟨rfl, rfl⟩)
                    go_ret2
                    exact ⟨by rw [HR.out]; rfl, HB2.out⟩
                  · have HR := Lib.hid (show rdV d l x 1 = _ by rw [HOUT.out (by decide), hR, if_neg hin])
                    have HWI := Lib.hid (fun w' => (HW.out (q + 1) w').mono (fun r w'' (h : _ ∧ _) => (⟨h.1.trans (ret_bool (decide_eq_false hin)), h.2⟩ : r = .returned (.bool false) ∧ w'' = w')))
                    clear hin hR htm cc hbs hmm
                    go_wp2_with (go_at_call 42; (with_reducible refine (HWI.out _).mono ?_); rintro _ _ ⟨rfl, rfl⟩)
                    go_ret2
                    exact ⟨by rw [HR.out]; rfl, HB2.out⟩
                · have cc : ¬ (((1 : Int) ≠ 0 ∧ s < b) ∨ (b = s ∧ ((1 : Int) = 1 ∧ 0 < N ∨ (1 : Int) = 2 ∧ q % 2 ≠ 0))) := by omega
                  have hR : rnd N d 1 = q := by rw [HRN.out]; rw [if_neg cc, Int.add_zero]
                  by_cases hin : rin (q)
                  · have HR := Lib.hid (show rdV d l x 1 = _ by rw [HOUT.out (by decide), hR, if_pos hin])
                    have HWI := Lib.hid (fun w' => (HW.out (q) w').mono (fun r w'' (h : _ ∧ _) => (⟨h.1.trans (ret_bool (decide_eq_true hin)), h.2⟩ : r = .returned (.bool true) ∧ w'' = w')))
                    clear hin hR htm cc hbs hmm
                    go_wp2_with (go_at_call 42; (with_reducible refine (HWI.out _).mono ?_); rintro _ _ ⟨rfl, rfl⟩)
                    go_ret2
                    exact ⟨by rw [HR.out]; rfl, HB2.out⟩
                  · have HR := Lib.hid (show rdV d l x 1 = _ by rw [HOUT.out (by decide), hR, if_neg hin])
                    have HWI := Lib.hid (fun w' => (HW.out (q) w').mono (fun r w'' (h : _ ∧ _) => (⟨h.1.trans (ret_bool (decide_eq_false hin)), h.2⟩ : r = .returned (.bool false) ∧ w'' = w')))
                    clear hin hR htm cc hbs hmm
                    go_wp2_with (go_at_call 42; (with_reducible refine (HWI.out _).mono ?_); rintro _ _ ⟨rfl, rfl⟩)
                    go_ret2
                    exact ⟨by rw [HR.out]; rfl, HB2.out⟩
              · have tb : (b == s) = false := by simpa using hbs
                have cc : ¬ (((1 : Int) ≠ 0 ∧ s < b) ∨ (b = s ∧ ((1 : Int) = 1 ∧ 0 < N ∨ (1 : Int) = 2 ∧ q % 2 ≠ 0))) := by omega
                have hR : rnd N d 1 = q := by rw [HRN.out]; rw [if_neg cc, Int.add_zero]
                by_cases hin : rin (q)
                · have HR := Lib.hid (show rdV d l x 1 = _ by rw [HOUT.out (by decide), hR, if_pos hin])
                  have HWI := Lib.hid (fun w' => (HW.out (q) w').mono (fun r w'' (h : _ ∧ _) => (⟨h.1.trans (ret_bool (decide_eq_true hin)), h.2⟩ : r = .returned (.bool true) ∧ w'' = w')))
                  clear hin hR htm cc hbs hmm
                  go_wp2_with (go_at_call 42; (with_reducible refine (HWI.out _).mono ?_); rintro _ _ ⟨rfl, rfl⟩)
                  go_ret2
                  exact ⟨by rw [HR.out]; rfl, HB2.out⟩
                · have HR := Lib.hid (show rdV d l x 1 = _ by rw [HOUT.out (by decide), hR, if_neg hin])
                  have HWI := Lib.hid (fun w' => (HW.out (q) w').mono (fun r w'' (h : _ ∧ _) => (⟨h.1.trans (ret_bool (decide_eq_false hin)), h.2⟩ : r = .returned (.bool false) ∧ w'' = w')))
                  clear hin hR htm cc hbs hmm
                  go_wp2_with (go_at_call 42; (with_reducible refine (HWI.out _).mono ?_); rintro _ _ ⟨rfl, rfl⟩)
                  go_ret2
                  exact ⟨by rw [HR.out]; rfl, HB2.out⟩
          · by_cases hm : m = 2
            · subst hm
              by_cases hsb : s < b
              · have tb : (b == s) = false := by simp; omega
                have cc : (((2 : Int) ≠ 0 ∧ s < b) ∨ (b = s ∧ ((2 : Int) = 1 ∧ 0 < N ∨ (2 : Int) = 2 ∧ q % 2 ≠ 0))) := by omega
                have hR : rnd N d 2 = q + 1 := by rw [HRN.out]; rw [if_pos cc]
                by_cases hin : rin (q + 1)
                · have HR := Lib.hid (show rdV d l x 2 = _ by rw [HOUT.out (by decide), hR, if_pos hin])
                  have HWI := Lib.hid (fun w' => (HW.out (q + 1) w').mono (fun r w'' (h : _ ∧ _) => (⟨h.1.trans (ret_bool (decide_eq_true hin)), h.2⟩ : r = .returned (.bool true) ∧ w'' = w')))
                  clear hin hR htm cc hmm
                  go_wp2_with (go_at_call 42; (with_reducible refine (HWI.out _).mono ?_); rintro _ _ ⟨rfl, rfl⟩)
                  go_ret2
                  exact ⟨by rw [HR.out]; rfl, HB2.out⟩
                · have HR := Lib.hid (show rdV d l x 2 = _ by rw [HOUT.out (by decide), hR, if_neg hin])
                  have HWI := Lib.hid (fun w' => (HW.out (q + 1) w').mono (fun r w'' (h : _ ∧ _) => (⟨h.1.trans (ret_bool (decide_eq_false hin)), h.2⟩ : r = .returned (.bool false) ∧ w'' = w')))
                  clear hin hR htm cc hmm
                  go_wp2_with (go_at_call 42; (with_reducible refine (HWI.out _).mono ?_); rintro _ _ ⟨rfl, rfl⟩)
                  go_ret2
                  exact ⟨by rw [HR.out]; rfl, HB2.out⟩
              · by_cases hbs : b = s
                · have tb : (b == s) = true := by simpa using hbs
                  rcases htm with ⟨t2, t3⟩ | ⟨t2, t3⟩ | ⟨t2, t3⟩
                  · have cc : ¬ (((2 : Int) ≠ 0 ∧ s < b) ∨ (b = s ∧ ((2 : Int) = 1 ∧ 0 < N ∨ (2 : Int) = 2 ∧ q % 2 ≠ 0))) := by omega
                    have hR : rnd N d 2 = q := by rw [HRN.out]; rw [if_neg cc, Int.add_zero]
                    by_cases hin : rin (q)
                    · have HR := Lib.hid (show rdV d l x 2 = _ by rw [HOUT.out (by decide), hR, if_pos hin])
                      have HWI := Lib.hid (fun w' => (HW.out (q) w').mono (fun r w'' (h : _ ∧ _) => (⟨h.1.trans (ret_bool (decide_eq_true hin)), h.2⟩ : r = .returned (.bool true) ∧ w'' = w')))
                      clear hin hR cc hbs hmm
                      go_wp2_with (go_at_call 42; (with_reducible refine (HWI.out _).mono ?_); rintro _ _ ⟨rfl, rfl⟩)
                      go_ret2
                      exact ⟨by rw [HR.out]; rfl, HB2.out⟩
                    · have HR := Lib.hid (show rdV d l x 2 = _ by rw [HOUT.out (by decide), hR, if_neg hin])
                      have HWI := Lib.hid (fun w' => (HW.out (q) w').mono (fun r w'' (h : _ ∧ _) => (⟨h.1.trans (ret_bool (decide_eq_false hin)), h.2⟩ : r = .returned (.bool false) ∧ w'' = w')))
                      clear hin hR cc hbs hmm
                      go_wp2_with (go_at_call 42; (with_reducible refine (HWI.out _).mono ?_); rintro _ _ ⟨rfl, rfl⟩)
                      go_ret2
                      exact ⟨by rw [HR.out]; rfl, HB2.out⟩
                  · have cc : (((2 : Int) ≠ 0 ∧ s < b) ∨ (b = s ∧ ((2 : Int) = 1 ∧ 0 < N ∨ (2 : Int) = 2 ∧ q % 2 ≠ 0))) := by omega
                    have hR : rnd N d 2 = q + 1 := by rw [HRN.out]; rw [if_pos cc]
                    by_cases hin : rin (q + 1)
                    · have HR := Lib.hid (show rdV d l x 2 = _ by rw [HOUT.out (by decide), hR, if_pos hin])
                      have HWI := Lib.hid (fun w' => (HW.out (q + 1) w').mono (fun r w'' (h : _ ∧ _) => (⟨h.1.trans (ret_bool (decide_eq_true hin)), h.2⟩ : r = .returned (.bool true) ∧ w'' = w')))
                      clear hin hR cc hbs hmm
                      go_wp2_with (go_at_call 42; (with_reducible refine (HWI.out _).mono ?_); rintro _ _ ⟨rfl, rfl⟩)
                      go_ret2
                      exact ⟨by rw [HR.out]; rfl, HB2.out⟩
                    · have HR := Lib.hid (show rdV d l x 2 = _ by rw [HOUT.out (by decide), hR, if_neg hin])
                      have HWI := Lib.hid (fun w' => (HW.out (q + 1) w').mono (fun r w'' (h : _ ∧ _) => (⟨h.1.trans (ret_bool (decide_eq_false hin)), h.2⟩ : r = .returned (.bool false) ∧ w'' = w')))
                      clear hin hR cc hbs hmm
                      go_wp2_with (go_at_call 42; (with_reducible refine (HWI.out _).mono ?_); rintro _ _ ⟨rfl, rfl⟩)
                      go_ret2
                      exact ⟨by rw [HR.out]; rfl, HB2.out⟩
                  · have cc : (((2 : Int) ≠ 0 ∧ s < b) ∨ (b = s ∧ ((2 : Int) = 1 ∧ 0 < N ∨ (2 : Int) = 2 ∧ q % 2 ≠ 0))) := by omega
                    have hR : rnd N d 2 = q + 1 := by rw [HRN.out]; rw [if_pos cc]
                    by_cases hin : rin (q + 1)
                    · have HR := Lib.hid (show rdV d l x 2 = _ by rw [HOUT.out (by decide), hR, if_pos hin])
                      have HWI := Lib.hid (fun w' => (HW.out (q + 1) w').mono (fun r w'' (h : _ ∧ _) => (⟨h.1.trans (ret_bool (decide_eq_true hin)), h.2⟩ : r = .returned (.bool true) ∧ w'' = w')))
                      clear hin hR cc hbs hmm
                      go_wp2_with (go_at_call 42; (with_reducible refine (HWI.out _).mono ?_); rintro _ _ ⟨rfl, rfl⟩)
                      go_ret2
                      exact ⟨by rw [HR.out]; rfl, HB2.out⟩
                    · have HR := Lib.hid (show rdV d l x 2 = _ by rw [HOUT.out (by decide), hR, if_neg hin])
                      have HWI := Lib.hid (fun w' => (HW.out (q + 1) w').mono (fun r w'' (h : _ ∧ _) => (⟨h.1.trans (ret_bool (decide_eq_false hin)), h.2⟩ : r = .returned (.bool false) ∧ w'' = w')))
                      clear hin hR cc hbs hmm
                      go_wp2_with (go_at_call 42; (with_reducible refine (HWI.out _).mono ?_); rintro _ _ ⟨rfl, rfl⟩)
                      go_ret2
                      exact ⟨by rw [HR.out]; rfl, HB2.out⟩
                · have tb : (b == s) = false := by simpa using hbs
                  have cc : ¬ (((2 : Int) ≠ 0 ∧ s < b) ∨ (b = s ∧ ((2 : Int) = 1 ∧ 0 < N ∨ (2 : Int) = 2 ∧ q % 2 ≠ 0))) := by omega
                  have hR : rnd N d 2 = q := by rw [HRN.out]; rw [if_neg cc, Int.add_zero]
                  by_cases hin : rin (q)
                  · have HR := Lib.hid (show rdV d l x 2 = _ by rw [HOUT.out (by decide), hR, if_pos hin])
                    have HWI := Lib.hid (fun w' => (HW.out (q) w').mono (fun r w'' (h : _ ∧ _) => (⟨h.1.trans (ret_bool (decide_eq_true hin)), h.2⟩ : r = .returned (.bool true) ∧ w'' = w')))
                    clear hin hR htm cc hbs hmm
                    go_wp2_with (go_at_call 42; (with_reducible refine (HWI.out _).mono ?_); rintro _ _ ⟨rfl, rfl⟩)
                    go_ret2
                    exact ⟨by rw [HR.out]; rfl, HB2.out⟩
                  · have HR := Lib.hid (show rdV d l x 2 = _ by rw [HOUT.out (by decide), hR, if_neg hin])
                    have HWI := Lib.hid (fun w' => (HW.out (q) w').mono (fun r w'' (h : _ ∧ _) => (⟨h.1.trans (ret_bool (decide_eq_false hin)), h.2⟩ : r = .returned (.bool false) ∧ w'' = w')))
                    clear hin hR htm cc hbs hmm
                    go_wp2_with (go_at_call 42; (with_reducible refine (HWI.out _).mono ?_); rintro _ _ ⟨rfl, rfl⟩)
                    go_ret2
                    exact ⟨by rw [HR.out]; rfl, HB2.out⟩
            · exfalso; omega
    · have HR := Lib.hid (HNO.out hmm)
      have t0 : (m != 0) = true := by simp; omega
      have t1 : (m != 1) = true := by simp; omega
      have t2 : (m != 2) = true := by simp; omega
      clear hmm
      go_wp2
      go_ret2
      exact ⟨by rw [HR.out]; rfl, HB2.out⟩
  · have HR := Lib.hid (show rdV d l x m = _ by unfold rdV; rw [if_neg (fun q => ok q.1)])
    simp only [evN, evD, evE, if_neg ok]
    clear ok
    go_wp2
    go_ret2
    exact ⟨by rw [HR.out]; rfl, HB2.out⟩
end Go.Proofs.Ytdoojpilogcnjaa.Pw
