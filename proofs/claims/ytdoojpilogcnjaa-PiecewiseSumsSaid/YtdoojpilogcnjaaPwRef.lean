/- What the reference implementation's within, Piece, Slope and At of piecewise linear functions return. Conditions: the pieces lie in memory as the argument says; At: the function is valid, the argument is one. -/
import Derived.Test.YtdoojpilogcnjaaPwBase
set_option linter.unusedVariables false
set_option linter.unusedSimpArgs false
namespace Go.Proofs.Ytdoojpilogcnjaa.Pw
open Go.RowKit Go.Proofs.Ytdoojpilogcnjaa.Sp
theorem rwithin_any (n k : Int) (w : World) (h0 : 0 ≤ k) (h1 : k ≤ 9223372036854775807) : Calls Try.prog 42 #[.int .i64 n, .int .i64 k] w fun r w' => r = .returned (.bool (decide (-k ≤ n ∧ n ≤ k))) ∧ w' = w := by
  have hw : IntKind.i64.wrap (-k) = -k := IntWalk.i64_in (-k) (by omega)
  by_cases c : -k ≤ n
  · by_cases d : n ≤ k
    · rw [decide_eq_true (And.intro c d)]
      go_enter Try.func42, Try.ntmps42
      go_wp2
      go_ret
      exact ⟨rfl, rfl⟩
    · rw [decide_eq_false (fun e => d e.2)]
      go_enter Try.func42, Try.ntmps42
      go_wp2
      go_ret
      exact ⟨rfl, rfl⟩
  · rw [decide_eq_false (fun e => c e.1)]
    go_enter Try.func42, Try.ntmps42
    go_wp2
    go_ret
    exact ⟨rfl, rfl⟩
theorem ixf_drop {l : List Pc} {x : Int} {i k : Nat} {q : Pc} (hq : l[i]? = some q) : ixf x (l.drop i) i k = ixf x (l.drop (i + 1)) (i + 1) (if q.1 ≤ x then i else k) := by
  obtain ⟨hi, he⟩ := List.getElem?_eq_some_iff.1 hq
  rw [List.drop_eq_getElem_cons hi, he]; rfl
set_option maxHeartbeats 2000000 in
set_option maxRecDepth 100000 in
theorem rpiece_any (d x : Int) (a : Option Addr) (c : Nat) (l : List Pc) (w : World) (hl : l.length ≤ 1000) (z : PcsAt a l w) :
    Calls Try.prog 50 #[fv d a l.length c, .int .i64 x] w fun r w' => r = .returned (.int .i64 (ix l x : Nat)) ∧ Below w.heap.size w w' := by
  obtain ⟨n, hn⟩ : ∃ n, n = l.length := ⟨_, rfl⟩
  rw [← hn] at hl ⊢
  have HN := Lib.hid hn
  have HZ := Lib.hid (fun w' (k : Below w.heap.size w w') => z.below k)
  have e1 : (w.alloc (fb d a n c)).cell? ⟨w.heap.size, 1, none⟩ = some (.slice a n c) := by simp [World.cell?_alloc_new]
  have HB := Lib.hid (alloc_below w (fb d a n c))
  clear hn z
  go_enter Try.func50, Try.ntmps50
  go_upto_region 3 with (fail)
  generalize w.alloc (fb d a n c) = W1 at *
  generalize w.heap.size = xb at e1 ⊢
  go_wp2
  go_loopg [5, 6] n (fun g s5 s6 wx => ∃ i k : Nat, i + g = n ∧ s6 = .int .i64 i ∧ s5 = .int .i64 k ∧ Hid (ix l x = ixf x (l.drop i) i k) ∧ wx = W1)
  case atStart => exact ⟨0, 0, by omega, rfl, rfl, rfl, rfl⟩
  case round =>
    obtain ⟨i, k, hi, rfl, rfl, HK, rfl⟩ := hrel
    cases gk with
    | zero =>
      have hlt : ¬ (i : Int) < (n : Int) := by omega
      go_wp2
      go_ret
      refine ⟨ret_int ?_, HB.out⟩
      rw [HK.out, List.drop_of_length_le (by have := HN.out; omega)]; rfl
    | succ g =>
      have hlt : (i : Int) < (n : Int) := by omega
      obtain ⟨q, hq⟩ : ∃ q, l[i]? = some q := ⟨_, List.getElem?_eq_getElem (by have := HN.out; omega)⟩
      obtain ⟨b, off, rfl, c1, -, -⟩ := HZ.out _ HB.out i q hq
      have HD := Lib.hid (ixf_drop (x := x) (k := k) hq)
      clear hq
      obtain ⟨q1, q2, q3⟩ := q
      simp only at c1
      by_cases hx : q1 ≤ x
      · have HK2 := Lib.hid (show ix l x = ixf x (l.drop (i + 1)) (i + 1) i by rw [HK.out, HD.out, if_pos hx])
        go_wp2
        go_roundg g
        case measure => omega
        case rel => exact ⟨i + 1, i, by omega, by go_num, rfl, HK2.out, rfl⟩
      · have HK2 := Lib.hid (show ix l x = ixf x (l.drop (i + 1)) (i + 1) k by rw [HK.out, HD.out, if_neg hx])
        go_wp2
        go_roundg g
        case measure => omega
        case rel => exact ⟨i + 1, k, by omega, by go_num, rfl, HK2.out, rfl⟩
end Go.Proofs.Ytdoojpilogcnjaa.Pw
