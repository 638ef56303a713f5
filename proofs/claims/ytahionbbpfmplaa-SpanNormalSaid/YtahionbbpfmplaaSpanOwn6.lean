/- What the developers' Union, Meet, Minus, Normal, Valid and Size return. Conditions: the lists lie in memory as the arguments say; they are short. -/
import Derived.Test.YtahionbbpfmplaaSpanOwn5
import Derived.Test.YtahionbbpfmplaaSpanRef5
namespace Go.Proofs.Ytahionbbpfmplaa.Sp
open Go.RowKit
set_option maxHeartbeats 1000000 in
theorem union_any (a1 a2 : Option Addr) (c1 c2 : Nat) (xs ys : List Sn) (w : World) (hn : xs.length ≤ 2000) (hm : ys.length ≤ 2000) (z1 : SpansAt a1 xs w) (z2 : SpansAt a2 ys w) :
    Calls Try.prog 17 #[.slice a1 xs.length c1, .slice a2 ys.length c2] w fun r w' => ∃ v, r = .returned v ∧ RowS w' w.heap.size v (union xs ys) ∧ Below w.heap.size w w' := by
  have eg : ∀ args w, (callFunc 35 args).run Try.prog w = .ok (.enter 35 args) w := enters_of Try.func35 (by kernel_rfl) rfl
  have HS := Lib.hid ((sweep_any (fun x y => x || y) 35 eg or_any a1 a2 c1 c2 xs ys w hn hm z1 z2).mono (fun r w' ⟨v, hr, L, hp, hs, hrow, hb⟩ => (⟨v, hr, by rw [← run_union xs ys L hp hs]; exact hrow, hb⟩ : ∃ v, r = Ending.returned v ∧ RowS w' w.heap.size v (union xs ys) ∧ Below w.heap.size w w')))
  obtain ⟨n1, hn1⟩ : ∃ n, n = xs.length := ⟨_, rfl⟩
  obtain ⟨n2, hn2⟩ : ∃ n, n = ys.length := ⟨_, rfl⟩
  rw [← hn1, ← hn2] at HS ⊢
  clear eg hn1 hn2 z1 z2
  go_enter Try.func17, Try.ntmps17
  go_wp2_with (first
    | (go_at_call 34; (with_reducible refine HS.out.mono ?_); rintro e w1 ⟨v1, rfl, hr1, hb1⟩))
  go_ret
  exact ⟨_, rfl, hr1, hb1⟩
set_option maxHeartbeats 1000000 in
theorem meet_any (a1 a2 : Option Addr) (c1 c2 : Nat) (xs ys : List Sn) (w : World) (hn : xs.length ≤ 2000) (hm : ys.length ≤ 2000) (z1 : SpansAt a1 xs w) (z2 : SpansAt a2 ys w) :
    Calls Try.prog 19 #[.slice a1 xs.length c1, .slice a2 ys.length c2] w fun r w' => ∃ v, r = .returned v ∧ RowS w' w.heap.size v (meet xs ys) ∧ Below w.heap.size w w' := by
  have eg : ∀ args w, (callFunc 36 args).run Try.prog w = .ok (.enter 36 args) w := enters_of Try.func36 (by kernel_rfl) rfl
  have HS := Lib.hid ((sweep_any (fun x y => x && y) 36 eg and_any a1 a2 c1 c2 xs ys w hn hm z1 z2).mono (fun r w' ⟨v, hr, L, hp, hs, hrow, hb⟩ => (⟨v, hr, by rw [← run_meet xs ys L hp hs]; exact hrow, hb⟩ : ∃ v, r = Ending.returned v ∧ RowS w' w.heap.size v (meet xs ys) ∧ Below w.heap.size w w')))
  obtain ⟨n1, hn1⟩ : ∃ n, n = xs.length := ⟨_, rfl⟩
  obtain ⟨n2, hn2⟩ : ∃ n, n = ys.length := ⟨_, rfl⟩
  rw [← hn1, ← hn2] at HS ⊢
  clear eg hn1 hn2 z1 z2
  go_enter Try.func19, Try.ntmps19
  go_wp2_with (first
    | (go_at_call 34; (with_reducible refine HS.out.mono ?_); rintro e w1 ⟨v1, rfl, hr1, hb1⟩))
  go_ret
  exact ⟨_, rfl, hr1, hb1⟩
set_option maxHeartbeats 1000000 in
theorem minus_any (a1 a2 : Option Addr) (c1 c2 : Nat) (xs ys : List Sn) (w : World) (hn : xs.length ≤ 2000) (hm : ys.length ≤ 2000) (z1 : SpansAt a1 xs w) (z2 : SpansAt a2 ys w) :
    Calls Try.prog 21 #[.slice a1 xs.length c1, .slice a2 ys.length c2] w fun r w' => ∃ v, r = .returned v ∧ RowS w' w.heap.size v (minus xs ys) ∧ Below w.heap.size w w' := by
  have eg : ∀ args w, (callFunc 37 args).run Try.prog w = .ok (.enter 37 args) w := enters_of Try.func37 (by kernel_rfl) rfl
  have HS := Lib.hid ((sweep_any (fun x y => x && !y) 37 eg not_any a1 a2 c1 c2 xs ys w hn hm z1 z2).mono (fun r w' ⟨v, hr, L, hp, hs, hrow, hb⟩ => (⟨v, hr, by rw [← run_minus xs ys L hp hs]; exact hrow, hb⟩ : ∃ v, r = Ending.returned v ∧ RowS w' w.heap.size v (minus xs ys) ∧ Below w.heap.size w w')))
  obtain ⟨n1, hn1⟩ : ∃ n, n = xs.length := ⟨_, rfl⟩
  obtain ⟨n2, hn2⟩ : ∃ n, n = ys.length := ⟨_, rfl⟩
  rw [← hn1, ← hn2] at HS ⊢
  clear eg hn1 hn2 z1 z2
  go_enter Try.func21, Try.ntmps21
  go_wp2_with (first
    | (go_at_call 34; (with_reducible refine HS.out.mono ?_); rintro e w1 ⟨v1, rfl, hr1, hb1⟩))
  go_ret
  exact ⟨_, rfl, hr1, hb1⟩
set_option maxHeartbeats 1000000 in
theorem normal_any (a : Option Addr) (c : Nat) (l : List Sn) (w : World) (hn : l.length ≤ 2000) (z : SpansAt a l w) :
    Calls Try.prog 15 #[.slice a l.length c] w fun r w' => ∃ v, r = .returned v ∧ RowS w' w.heap.size v (norm l) ∧ Below w.heap.size w w' := by
  have hS := union_any a none c 0 l [] w hn (by simp) z (SpansAt.nil _ _)
  rw [union_none] at hS
  have HS := Lib.hid (show Calls Try.prog 17 #[.slice a l.length c, .slice none 0 0] w fun r w' => ∃ v, r = .returned v ∧ RowS w' w.heap.size v (norm l) ∧ Below w.heap.size w w' from hS)
  obtain ⟨n1, hn1⟩ : ∃ n, n = l.length := ⟨_, rfl⟩
  rw [← hn1] at HS ⊢
  clear hS hn1 z
  go_enter Try.func15, Try.ntmps15
  go_wp2_with (first
    | (go_at_call 17; (with_reducible refine HS.out.mono ?_); rintro e w1 ⟨v1, rfl, hr1, hb1⟩))
  go_ret
  exact ⟨_, rfl, hr1, hb1⟩
theorem normal_at (a : Option Addr) (c : Nat) (l : List Sn) (w : World) (hn : l.length ≤ 2000) (z : SpansAt a l w) :
    Calls Try.prog 15 #[.slice a l.length c] w fun r w' => ∃ a' c', r = .returned (.slice a' (norm l).length c') ∧ SpansAt a' (norm l) w' ∧ Below w.heap.size w w' :=
  (normal_any a c l w hn z).mono (fun r w' ⟨v, hr, hrow, hb⟩ => by
    obtain ⟨a', c', rfl, hz⟩ := hrow.spans
    exact ⟨a', c', hr, hz, hb⟩)
set_option maxHeartbeats 1000000 in
theorem valid_any (a : Option Addr) (c : Nat) (l : List Sn) (w : World) (hn : l.length ≤ 2000) (z : SpansAt a l w) :
    Calls Try.prog 12 #[.slice a l.length c] w fun r w' => r = .returned (.bool (decide (Nf l))) ∧ Below w.heap.size w w' := by
  have HS := Lib.hid (normal_at a c l w hn z)
  have HQ := Lib.hid (fun a' c' w' (k : Below w.heap.size w w') (z' : SpansAt a' (norm l) w') => equal_any a a' c c' l (norm l) w' (by omega) (z.below k) z')
  have HE := Lib.hid (show decide (l = norm l) = decide (Nf l) by rw [Bool.eq_iff_iff, decide_eq_true_eq, decide_eq_true_eq, nf_iff]; exact eq_comm)
  generalize decide (Nf l) = q at HE ⊢
  obtain ⟨n1, hn1⟩ : ∃ n, n = l.length := ⟨_, rfl⟩
  obtain ⟨n2, hn2⟩ : ∃ n, n = (norm l).length := ⟨_, rfl⟩
  rw [← hn1] at HS HQ ⊢
  rw [← hn2] at HS HQ
  clear hn1 hn2 z
  go_enter Try.func12, Try.ntmps12
  go_wp2_with (first
    | (go_at_call 15; (with_reducible refine HS.out.mono ?_); rintro e w1 ⟨a1, d1, rfl, z1, hb1⟩; have HB1 := Lib.hid hb1; have HZ1 := Lib.hid z1; clear hb1 z1)
    | (go_at_call 32; (with_reducible refine (HQ.out _ _ _ HB1.out HZ1.out).mono ?_); rintro e w2 ⟨rfl, hb2⟩))
  go_ret
  exact ⟨ret_bool HE.out, HB1.out.trans (hb2.mono HB1.out.size)⟩
set_option maxHeartbeats 4000000 in
set_option maxRecDepth 100000 in
theorem size_any (a : Option Addr) (c : Nat) (l : List Sn) (w : World) (hl : l.length ≤ 2000) (z : SpansAt a l w) :
    Calls Try.prog 25 #[.slice a l.length c] w fun r w' => r = .returned (.int .i64 (size l)) ∧ Below w.heap.size w w' := by
  have hS := normal_at a c l w hl z
  have HS := Lib.hid hS
  have hnl := norm_len l
  have HB := Lib.hid (fun i => tot_take_bd (norm_nf l).2 i)
  have HSB := Lib.hid (size_bd l)
  have HP := Lib.hid (norm_nf l).2
  show Calls _ _ _ _ (fun r w' => r = .returned (.int .i64 (tot (norm l))) ∧ _)
  have HSB2 := Lib.hid (show tot (norm l) ≤ 2305843009213693952 from HSB.out.2)
  generalize norm l = s at *
  obtain ⟨m, hm⟩ : ∃ m, m = s.length := ⟨_, rfl⟩
  rw [← hm] at HS hnl
  have HM := Lib.hid hm
  generalize l.length = n at *
  clear hm hS z HSB
  go_enter Try.func25, Try.ntmps25
  go_wp2_with (first
    | (go_at_call 15; (with_reducible refine HS.out.mono ?_); rintro e w1 ⟨a1, d1, rfl, z1, hn1⟩))
  have HB1 := Lib.hid hn1
  have HZ := Lib.hid (fun w' (k : Below w1.heap.size w1 w') => z1.below k)
  clear hn1 z1 HS
  go_loopg [3, 9] m (fun g s3 s9 wx => ∃ i : Nat, i + g = m ∧ s3 = .int .i64 (tot (s.take i)) ∧ s9 = .int .i64 i ∧ Below w1.heap.size w1 wx)
  case atStart => exact ⟨0, by omega, by rw [List.take_zero]; rfl, rfl, Below.refl _ _⟩
  case round =>
    obtain ⟨i, hi, rfl, rfl, hb⟩ := hrel
    cases gk with
    | zero =>
      have hlt : ¬ (i : Int) < (m : Int) := by omega
      go_wp2
      go_ret
      exact ⟨ret_int (by rw [List.take_of_length_le (by have := HM.out; omega)]), HB1.out.trans (hb.mono HB1.out.size)⟩
    | succ g =>
      have hlt : (i : Int) < (m : Int) := by omega
      obtain ⟨x, hx⟩ : ∃ x, s[i]? = some x := ⟨_, List.getElem?_eq_getElem (by have := HM.out; omega)⟩
      obtain ⟨bb, off, rfl, c1, c2⟩ := HZ.out _ hb i x hx
      have hs := tot_take_snoc hx
      have h1 := HB.out i
      have h2 := HB.out (i + 1)
      have h3 := HSB2.out
      have hp := HP.out x (List.mem_of_getElem? hx)
      clear hx
      obtain ⟨x1, x2⟩ := x
      obtain ⟨p1, p2, p3⟩ := hp
      simp only at hs p1 p2 p3
      have HSN := Lib.hid hs
      have hT1 : 0 ≤ tot (s.take i) ∧ tot (s.take i) + (x2 - x1) ≤ 2305843009213693952 := by omega
      clear hs h1 h2 h3
      generalize tot (s.take i) = T at *
      have hw1 := IntWalk.i64_in (x2 - x1) (by omega)
      have hw2 := IntWalk.i64_in (T + (x2 - x1)) (by omega)
      go_wp2
      go_roundg g
      case measure => omega
      case rel => exact ⟨i + 1, by omega, by rw [HSN.out], by go_num, hb.trans ((alloc_below _ _).mono hb.size)⟩
end Go.Proofs.Ytahionbbpfmplaa.Sp
