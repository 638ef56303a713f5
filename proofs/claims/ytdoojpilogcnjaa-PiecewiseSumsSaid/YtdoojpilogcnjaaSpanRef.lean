/- What the reference implementation's Proper, Same, Has and Valid of spans return. Conditions: the lists lie in memory as the arguments say. -/
import Derived.Test.YtdoojpilogcnjaaSpanBase
set_option linter.unusedVariables false
set_option linter.unusedSimpArgs false
namespace Go.Proofs.Ytdoojpilogcnjaa.Sp
open Go.RowKit
theorem rproper_any (f t : Int) (w : World) : Calls Try.prog 48 #[sv f t] w fun r w' => r = .returned (.bool (decide (Proper (f, t)))) ∧ Below w.heap.size w w' := by
  have hb := alloc_below w (.cells #[.int .i64 f, .int .i64 t] 50)
  have k0 : (w.alloc (.cells #[.int .i64 f, .int .i64 t] 50)).cell? ⟨w.heap.size, 0, none⟩ = some (.int .i64 f) := by simp [World.cell?_alloc_new]
  have k1 : (w.alloc (.cells #[.int .i64 f, .int .i64 t] 50)).cell? ⟨w.heap.size, 1, none⟩ = some (.int .i64 t) := by simp [World.cell?_alloc_new]
  go_enter Try.func48, Try.ntmps48
  go_wp2
  all_goals go_ret
  all_goals exact ⟨ret_bool (by rw [Bool.eq_iff_iff, decide_eq_true_iff (p := Proper (f, t))]; show _ ↔ (-1152921504606846976 ≤ f ∧ t ≤ 1152921504606846976 ∧ f < t); first | exact iff_of_false (by decide) (by omega) | (simp only [decide_eq_true_eq]; omega)), hb⟩
set_option maxHeartbeats 2000000 in
theorem rsame_any (a a' : Option Addr) (c c' : Nat) (l r : List Sn) (w : World) (hl : l.length ≤ 9223372036854775807) (z : SpansAt a l w) (z' : SpansAt a' r w) :
    Calls Try.prog 19 #[.slice a l.length c, .slice a' r.length c'] w fun e w' => e = .returned (.bool (decide (l = r))) ∧ Below w.heap.size w w' := by
  obtain ⟨n, hn⟩ : ∃ n, n = l.length := ⟨_, rfl⟩
  obtain ⟨m, hm⟩ : ∃ m, m = r.length := ⟨_, rfl⟩
  rw [← hn] at hl ⊢
  rw [← hm]
  have HN := Lib.hid hn
  have HM := Lib.hid hm
  clear hn hm
  by_cases hnm : n = m
  · subst hnm
    go_enter Try.func19, Try.ntmps19
    go_wp2
    go_loopg [5] n (fun g s5 wx => ∃ i : Nat, i + g = n ∧ s5 = .int .i64 i ∧ Hid (∀ j, j < i → l[j]? = r[j]?) ∧ Below w.heap.size w wx ∧ SpansAt a l wx ∧ SpansAt a' r wx)
    case atStart => exact ⟨0, by omega, rfl, fun j hj => by omega, Below.refl _ _, z, z'⟩
    case round =>
      clear z z'
      obtain ⟨i, hi, rfl, HE, hb, z, z'⟩ := hrel
      cases gk with
      | zero =>
        have hlt : ¬ (i : Int) < (n : Int) := by omega
        go_wp2
        go_ret
        exact ⟨ret_bool (decide_eq_true (list_two HN.out.symm HM.out.symm (fun j hj => HE.out j (by omega)))).symm, hb⟩
      | succ g =>
        have hlt : (i : Int) < (n : Int) := by omega
        obtain ⟨x, hx⟩ : ∃ x, l[i]? = some x := ⟨_, List.getElem?_eq_getElem (by have := HN.out; omega)⟩
        obtain ⟨y, hy⟩ : ∃ y, r[i]? = some y := ⟨_, List.getElem?_eq_getElem (by have := HM.out; omega)⟩
        obtain ⟨b1, o1, rfl, h1, h1'⟩ := z i x hx
        obtain ⟨b2, o2, rfl, h2, h2'⟩ := z' i y hy
        have HX := Lib.hid (And.intro hx hy)
        clear hx hy
        obtain ⟨x1, x2⟩ := x
        obtain ⟨y1, y2⟩ := y
        have hb2 : ∀ k, Below w.heap.size w (wr.drewN k) := fun k => below_drewN hb k
        have HB := Lib.hid hb2
        clear hb2
        by_cases hxy : x1 = y1 ∧ x2 = y2
        · have t1 : (x1 == y1) = true := by simpa using hxy.1
          have t2 : (x2 == y2) = true := by simpa using hxy.2
          have HQ := Lib.hid hxy
          clear hxy
          go_wp2_with fail
          go_quiet (fail)
          go_wp2
          go_roundg g
          case measure => omega
          case rel => exact ⟨i + 1, by omega, by go_num, fun j hj => by
            by_cases e : j = i
            · subst e; rw [HX.out.1, HX.out.2, HQ.out.1, HQ.out.2]
            · exact HE.out j (by omega), HB.out _, z.below (below_drewN (Below.refl _ _) _), z'.below (below_drewN (Below.refl _ _) _)⟩
        · by_cases h1' : x1 = y1
          · have t1 : (x1 == y1) = true := by simpa using h1'
            have t2 : (x2 == y2) = false := by simp; exact fun e => hxy ⟨h1', e⟩
            have HQ := Lib.hid hxy
            clear hxy h1'
            go_wp2_with fail
            go_quiet (fail)
            go_wp2
            go_ret
            exact ⟨ret_bool (decide_eq_false (fun e => by have h := HX.out; rw [e, h.2] at h; exact HQ.out (by have h3 := Option.some.inj h.1; simp only [Prod.mk.injEq] at h3; exact ⟨h3.1.symm, h3.2.symm⟩))).symm, HB.out _⟩
          · have t1 : (x1 == y1) = false := by simpa using h1'
            have HQ := Lib.hid hxy
            clear hxy h1'
            go_wp2_with fail
            go_quiet (fail)
            go_wp2
            go_ret
            exact ⟨ret_bool (decide_eq_false (fun e => by have h := HX.out; rw [e, h.2] at h; exact HQ.out (by have h3 := Option.some.inj h.1; simp only [Prod.mk.injEq] at h3; exact ⟨h3.1.symm, h3.2.symm⟩))).symm, HB.out _⟩
  · have t : ((n : Int) != (m : Int)) = true := by simp; omega
    have HNM := Lib.hid hnm
    clear hnm
    go_enter Try.func19, Try.ntmps19
    go_wp2
    go_ret
    exact ⟨ret_bool (decide_eq_false (fun e => HNM.out (by rw [HN.out, HM.out, e]))).symm, Below.refl _ _⟩
theorem has_cons (x : Sn) (l : List Sn) (n : Int) : has (x :: l) n = ((decide (Proper x) && decide (x.1 ≤ n ∧ n < x.2)) || has l n) := rfl
set_option maxHeartbeats 2000000 in
theorem rhas_any (a : Option Addr) (c : Nat) (l : List Sn) (n : Int) (w : World) (hl : l.length ≤ 9223372036854775807) (z : SpansAt a l w) :
    Calls Try.prog 27 #[.slice a l.length c, .int .i64 n] w fun r w' => r = .returned (.bool (has l n)) ∧ Below w.heap.size w w' := by
  obtain ⟨m, hm⟩ : ∃ m, m = l.length := ⟨_, rfl⟩
  rw [← hm] at hl ⊢
  have HM := Lib.hid hm
  have HZ := Lib.hid (fun w' (k : Below w.heap.size w w') => z.below k)
  clear hm z
  go_enter Try.func27, Try.ntmps27
  go_wp2
  go_loopg [5] m (fun g s5 wx => ∃ i : Nat, i + g = m ∧ s5 = .int .i64 i ∧ Hid (has l n = has (l.drop i) n) ∧ Below w.heap.size w wx)
  case atStart => exact ⟨0, by omega, rfl, rfl, Below.refl _ _⟩
  case round =>
    obtain ⟨i, hi, rfl, HH, hb⟩ := hrel
    cases gk with
    | zero =>
      have hlt : ¬ (i : Int) < (m : Int) := by omega
      go_wp2
      go_ret
      exact ⟨ret_bool (by rw [HH.out, List.drop_of_length_le (by have := HM.out; omega)]; rfl), hb⟩
    | succ g =>
      have hlt : (i : Int) < (m : Int) := by omega
      obtain ⟨x, hx⟩ : ∃ x, l[i]? = some x := ⟨_, List.getElem?_eq_getElem (by have := HM.out; omega)⟩
      obtain ⟨bb, off, rfl, c1, c2⟩ := HZ.out _ hb i x hx
      have HD := Lib.hid (show l.drop i = x :: l.drop (i + 1) by
        obtain ⟨h, he⟩ := List.getElem?_eq_some_iff.1 hx
        rw [List.drop_eq_getElem_cons h, he])
      clear hx
      obtain ⟨x1, x2⟩ := x
      have HNX := fun (k : (decide (Proper (x1, x2)) && decide (x1 ≤ n ∧ n < x2)) = false) => Lib.hid (show has l n = has (l.drop (i + 1)) n by
        rw [HH.out, HD.out, has_cons, k]; rfl)
      have HC2 := Lib.hid (fun w' (k : Below wr.heap.size wr w') => cell_kept k c2)
      have hq := fun w => rproper_any x1 x2 w
      by_cases hp : Proper (x1, x2)
      · rw [decide_eq_true hp] at hq
        have HP := Lib.hid hq
        clear hq
        by_cases h1 : x1 ≤ n
        · by_cases h2 : n < x2
          · clear HNX
            go_wp2_with (first
              | (go_at_call 48; with_reducible refine (HP.out _).mono ?_; rintro e w2 ⟨rfl, hn⟩; replace hb := hb.trans (hn.mono hb.size); replace c1 := cell_kept hn c1; replace c2 := cell_kept hn c2; clear hn))
            go_ret
            exact ⟨ret_bool (by rw [HH.out, HD.out, has_cons, decide_eq_true hp, decide_eq_true (show (x1, x2).1 ≤ n ∧ n < (x1, x2).2 from ⟨h1, h2⟩)]; rfl), hb⟩
          · have HNX := HNX (by rw [decide_eq_false (show ¬ (x1 ≤ n ∧ n < x2) by omega), Bool.and_false])
            go_wp2_with (first
              | (go_at_call 48; with_reducible refine (HP.out _).mono ?_; rintro e w2 ⟨rfl, hn⟩; replace hb := hb.trans (hn.mono hb.size); replace c1 := cell_kept hn c1; replace c2 := cell_kept hn c2; clear hn))
            go_roundg g
            case measure => omega
            case rel => exact ⟨i + 1, by omega, by go_num, HNX.out, hb⟩
        · have HNX := HNX (by rw [decide_eq_false (show ¬ (x1 ≤ n ∧ n < x2) by omega), Bool.and_false])
          go_wp2_with (first
            | (go_at_call 48; with_reducible refine (HP.out _).mono ?_; rintro e w2 ⟨rfl, hn⟩; replace hb := hb.trans (hn.mono hb.size); replace c1 := cell_kept hn c1; replace c2 := cell_kept hn c2; clear hn))
          go_roundg g
          case measure => omega
          case rel => exact ⟨i + 1, by omega, by go_num, HNX.out, hb⟩
      · rw [decide_eq_false hp] at hq
        have HP := Lib.hid hq
        have HNX := HNX (by rw [decide_eq_false hp, Bool.false_and])
        clear hq
        go_wp2_with (first
          | (go_at_call 48; with_reducible refine (HP.out _).mono ?_; rintro e w2 ⟨rfl, hn⟩; replace hb := hb.trans (hn.mono hb.size); replace c1 := cell_kept hn c1; replace c2 := cell_kept hn c2; clear hn))
        go_roundg g
        case measure => omega
        case rel => exact ⟨i + 1, by omega, by go_num, HNX.out, hb⟩
end Go.Proofs.Ytdoojpilogcnjaa.Sp
