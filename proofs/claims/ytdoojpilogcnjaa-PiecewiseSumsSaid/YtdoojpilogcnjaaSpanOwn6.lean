/- What the developers' Union, Meet, Minus, Normal, Valid and Size return. Conditions: the lists lie in memory as the arguments say; they are short. -/
import Derived.Test.YtdoojpilogcnjaaSpanOwn5
import Derived.Test.YtdoojpilogcnjaaSpanRef4
set_option linter.unusedVariables false
set_option linter.unusedSimpArgs false
namespace Go.Proofs.Ytdoojpilogcnjaa.Sp
open Go.RowKit
set_option maxHeartbeats 1000000 in
theorem union_any (a1 a2 : Option Addr) (c1 c2 : Nat) (xs ys : List Sn) (w : World) (hn : xs.length ≤ 2000) (hm : ys.length ≤ 2000) (z1 : SpansAt a1 xs w) (z2 : SpansAt a2 ys w) :
    Calls Try.prog 58 #[.slice a1 xs.length c1, .slice a2 ys.length c2] w fun r w' => ∃ v, r = .returned v ∧ RowS w' w.heap.size v (union xs ys) ∧ Below w.heap.size w w' := by
  have eg : ∀ args w, (callFunc 65 args).run Try.prog w = .ok (.enter 65 args) w := enters_of Try.func65 (by kernel_rfl) rfl
  have HS := Lib.hid ((sweep_any (fun x y => x || y) 65 eg or_any a1 a2 c1 c2 xs ys w hn hm z1 z2).mono (fun r w' ⟨v, hr, L, hp, hs, hrow, hb⟩ => (⟨v, hr, by rw [← run_union xs ys L hp hs]; exact hrow, hb⟩ : ∃ v, r = Ending.returned v ∧ RowS w' w.heap.size v (union xs ys) ∧ Below w.heap.size w w')))
  obtain ⟨n1, hn1⟩ : ∃ n, n = xs.length := ⟨_, rfl⟩
  obtain ⟨n2, hn2⟩ : ∃ n, n = ys.length := ⟨_, rfl⟩
  rw [← hn1, ← hn2] at HS ⊢
  clear eg hn1 hn2 z1 z2
  go_enter Try.func58, Try.ntmps58
  go_wp2_with (first
    | (go_at_call 64; (with_reducible refine HS.out.mono ?_); rintro e w1 ⟨v1, rfl, hr1, hb1⟩))
  go_ret
  exact ⟨_, rfl, hr1, hb1⟩
set_option maxHeartbeats 1000000 in
theorem normal_any (a : Option Addr) (c : Nat) (l : List Sn) (w : World) (hn : l.length ≤ 2000) (z : SpansAt a l w) :
    Calls Try.prog 41 #[.slice a l.length c] w fun r w' => ∃ v, r = .returned v ∧ RowS w' w.heap.size v (norm l) ∧ Below w.heap.size w w' := by
  have hS := union_any a none c 0 l [] w hn (by simp) z (SpansAt.nil _ _)
  rw [union_none] at hS
  have HS := Lib.hid (show Calls Try.prog 58 #[.slice a l.length c, .slice none 0 0] w fun r w' => ∃ v, r = .returned v ∧ RowS w' w.heap.size v (norm l) ∧ Below w.heap.size w w' from hS)
  obtain ⟨n1, hn1⟩ : ∃ n, n = l.length := ⟨_, rfl⟩
  rw [← hn1] at HS ⊢
  clear hS hn1 z
  go_enter Try.func41, Try.ntmps41
  go_wp2_with (first
    | (go_at_call 58; (with_reducible refine HS.out.mono ?_); rintro e w1 ⟨v1, rfl, hr1, hb1⟩))
  go_ret
  exact ⟨_, rfl, hr1, hb1⟩
theorem normal_at (a : Option Addr) (c : Nat) (l : List Sn) (w : World) (hn : l.length ≤ 2000) (z : SpansAt a l w) :
    Calls Try.prog 41 #[.slice a l.length c] w fun r w' => ∃ a' c', r = .returned (.slice a' (norm l).length c') ∧ SpansAt a' (norm l) w' ∧ Below w.heap.size w w' :=
  (normal_any a c l w hn z).mono (fun r w' ⟨v, hr, hrow, hb⟩ => by
    obtain ⟨a', c', rfl, hz⟩ := hrow.spans
    exact ⟨a', c', hr, hz, hb⟩)
end Go.Proofs.Ytdoojpilogcnjaa.Sp
