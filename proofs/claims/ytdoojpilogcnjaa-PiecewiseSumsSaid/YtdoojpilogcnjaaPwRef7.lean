/- What the reference implementation's First of piecewise linear functions returns. Conditions: the function is valid, it lies in memory as the argument says; where its numerator has come to n, it stays so up to the end. -/
import Derived.Test.YtdoojpilogcnjaaPwRef6
set_option linter.unusedVariables false
set_option linter.unusedSimpArgs false
namespace Go.Proofs.Ytdoojpilogcnjaa.Pw
open Go.RowKit Go.Proofs.Ytdoojpilogcnjaa.Sp
/-- Whether a function's numerator at x has come to n, going up or down. -/
def come (l : List Pc) (n : Int) (up : Bool) (x : Int) : Bool := if up = true then decide (n ≤ num l x) else decide (num l x ≤ n)
set_option maxHeartbeats 8000000 in
set_option maxRecDepth 100000 in
theorem rfirst_any (d : Int) (a : Option Addr) (c : Nat) (l : List Pc) (N s t : Int) (up : Bool) (w : World) (h1 : l.length ≤ 64) (ol : Ok l) (hs : 0 ≤ s) (hst : s ≤ t) (ht : t ≤ 1000000000000)
    (hm : ∀ x y, s ≤ x → x ≤ y → y ≤ t → come l N up x = true → come l N up y = true) (zl : PcsAt a l w) :
    Calls Try.prog 43 #[fv d a l.length c, .int .i64 N, .bool up, .int .i64 s, .int .i64 t] w fun v w' => (∃ u, v = .returned (.int .i64 u) ∧ s ≤ u ∧ u ≤ t + 1 ∧ (∀ x, s ≤ x → x < u → come l N up x = false) ∧ (u ≤ t → come l N up u = true)) ∧ Below w.heap.size w w' := by
  have HL := Lib.hid (fun x (hx : s ≤ x ∧ x ≤ t) w' (q : Below w.heap.size w w') => rat_any d x a c l w' h1 ol (by omega) (by omega) (zl.below q))
  have HM := Lib.hid hm
  generalize l.length = n at *
  clear zl h1 ol hm
  have hB1 := alloc_below w (fb d a n c)
  have c0 : (w.alloc (fb d a n c)).cell? ⟨w.heap.size, 0, none⟩ = some (.int .i64 d) := by simp [World.cell?_alloc_new]
  have c1 : (w.alloc (fb d a n c)).cell? ⟨w.heap.size, 1, none⟩ = some (.slice a n c) := by simp [World.cell?_alloc_new]
  have hw0 : IntKind.i64.wrap (t + 1) = t + 1 := IntWalk.i64_in _ (by omega)
  go_enter Try.func43, Try.ntmps43
  go_upto_region 1 with (fail)
  generalize w.alloc (fb d a n c) = W1 at *
  generalize w.heap.size = xb at c0 c1 ⊢
  have HH := Lib.hid (And.intro c0 (And.intro c1 hB1))
  clear hB1 c0 c1
  go_wp2
  clear hw0
  go_loopg [11, 12] ((t + 1 - s).toNat) (fun g s11 s12 wx => ∃ lo hi : Int, s11 = .int .i64 lo ∧ s12 = .int .i64 hi ∧ s ≤ lo ∧ lo ≤ hi ∧ hi ≤ t + 1 ∧ hi - lo ≤ g ∧ Hid (∀ x, s ≤ x → x < lo → come l N up x = false) ∧ Hid (hi ≤ t → come l N up hi = true) ∧ Hid (wx.cell? ⟨xb, 0, none⟩ = some (.int .i64 d) ∧ wx.cell? ⟨xb, 1, none⟩ = some (.slice a n c) ∧ Below w.heap.size w wx))
  case atStart => exact ⟨s, t + 1, rfl, rfl, Int.le_refl s, by omega, Int.le_refl _, by omega, (Lib.hid (fun x h1 h2 => by omega)), (Lib.hid (fun h => by omega)), HH⟩
  case round =>
    obtain ⟨lo, hi, rfl, rfl, h1, h2, h3, h4, HLO, HHI, HS⟩ := hrel
    by_cases hc : lo < hi
    · cases gk with
      | zero => omega
      | succ g =>
        obtain ⟨q, hq⟩ : ∃ q, (hi - lo).tdiv 2 = q := ⟨_, rfl⟩
        have hq2 : q = (hi - lo) / 2 := by rw [← hq, Int.tdiv_eq_ediv_of_nonneg (by omega)]
        obtain ⟨M, hM⟩ : ∃ M, lo + q = M := ⟨_, rfl⟩
        have hw1 : IntKind.i64.wrap (hi - lo) = hi - lo := IntWalk.i64_in _ (by omega)
        have hw2 : IntKind.i64.wrap q = q := IntWalk.i64_in _ (by omega)
        have hw3 : IntKind.i64.wrap (lo + q) = M := by rw [hM]; exact IntWalk.i64_in _ (by omega)
        have hM1 : lo ≤ M := by omega
        have hM2 : M < hi := by omega
        have hM3 : s ≤ M ∧ M ≤ t := by omega
        have hw4 : IntKind.i64.wrap (M + 1) = M + 1 := IntWalk.i64_in _ (by omega)
        have HB := Lib.hid HS.out.2.2
        obtain ⟨c0, c1, -⟩ := HS.out
        clear hq2 HH
        have HNX := Lib.hid (show come l N up M = false → ∀ x, s ≤ x → x < M + 1 → come l N up x = false from fun hf x p1 p2 => by
          cases hx : come l N up x with
          | false => rfl
          | true => rw [HM.out x M p1 (by omega) hM3.2 hx] at hf; cases hf)
        cases up
        · by_cases hu : num l M ≤ N
          · have tb : decide (num l M ≤ N) = true := decide_eq_true hu
            have HU := Lib.hid (show M ≤ t → come l N false M = true from fun _ => tb)
            go_wp2_with (go_at_call 32; (with_reducible refine (HL.out M hM3 _ HB.out).mono ?_); rintro _ wc ⟨rfl, kc⟩; have HH := Lib.hid (And.intro (cell_kept kc c0) (And.intro (cell_kept kc c1) (HB.out.trans (kc.mono HB.out.size)))); clear c0 c1 kc)
            go_roundg g
            case measure => omega
            case rel => exact ⟨lo, M, by go_num, by go_num, h1, hM1, by omega, by omega, HLO, HU, HH⟩
          · have tb : decide (num l M ≤ N) = false := decide_eq_false hu
            have HU := Lib.hid (HNX.out tb)
            go_wp2_with (go_at_call 32; (with_reducible refine (HL.out M hM3 _ HB.out).mono ?_); rintro _ wc ⟨rfl, kc⟩; have HH := Lib.hid (And.intro (cell_kept kc c0) (And.intro (cell_kept kc c1) (HB.out.trans (kc.mono HB.out.size)))); clear c0 c1 kc)
            go_roundg g
            case measure => omega
            case rel => exact ⟨M + 1, hi, by go_num, by go_num, by omega, by omega, h3, by omega, HU, HHI, HH⟩
        · by_cases hu : N ≤ num l M
          · have tb : decide (N ≤ num l M) = true := decide_eq_true hu
            have HU := Lib.hid (show M ≤ t → come l N true M = true from fun _ => tb)
            go_wp2_with (go_at_call 32; (with_reducible refine (HL.out M hM3 _ HB.out).mono ?_); rintro _ wc ⟨rfl, kc⟩; have HH := Lib.hid (And.intro (cell_kept kc c0) (And.intro (cell_kept kc c1) (HB.out.trans (kc.mono HB.out.size)))); clear c0 c1 kc)
            go_roundg g
            case measure => omega
            case rel => exact ⟨lo, M, by go_num, by go_num, h1, hM1, by omega, by omega, HLO, HU, HH⟩
          · have tb : decide (N ≤ num l M) = false := decide_eq_false hu
            have HU := Lib.hid (HNX.out tb)
            go_wp2_with (go_at_call 32; (with_reducible refine (HL.out M hM3 _ HB.out).mono ?_); rintro _ wc ⟨rfl, kc⟩; have HH := Lib.hid (And.intro (cell_kept kc c0) (And.intro (cell_kept kc c1) (HB.out.trans (kc.mono HB.out.size)))); clear c0 c1 kc)
            go_roundg g
            case measure => omega
            case rel => exact ⟨M + 1, hi, by go_num, by go_num, by omega, by omega, h3, by omega, HU, HHI, HH⟩
    · have hlh : lo = hi := by omega
      have HU := Lib.hid (show lo ≤ t → come l N up lo = true by rw [hlh]; exact HHI.out)
      have hle : lo ≤ t + 1 := by omega
      clear hlh
      go_wp2
      go_ret
      exact ⟨⟨lo, rfl, h1, hle, HLO.out, HU.out⟩, HS.out.2.2⟩
end Go.Proofs.Ytdoojpilogcnjaa.Pw
