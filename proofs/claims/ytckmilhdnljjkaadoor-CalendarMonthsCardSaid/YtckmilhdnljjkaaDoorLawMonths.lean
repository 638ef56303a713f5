/- CalendarMonths returns true for every day and month: the day belongs to the month exactly if it is not before its first day and before its end; the end is the first day of the next month; 48 successive months have 1461 days. Condition: the package's table and the library's read as their initialisers lay them (the card ties them). -/
import Derived.Test.YtckmilhdnljjkaaDoorCalPick
namespace Go.Proofs.YtckmilhdnljjkaaDoor.Cal
open Go.ChangeShapes Go.WideShapes Go.ChangeAt Go.RowKit Go.Sort
/-- Two cells of a block. -/
def TwoCells (b : Nat) (x y : Int) (w : World) : Prop := w.cell? ⟨b, 0, none⟩ = some (.int .i64 x) ∧ w.cell? ⟨b, 1, none⟩ = some (.int .i64 y)
theorem two_at {b : Nat} {x y : Int} {w : World} (h : TwoCells b x y w) (k : Nat) (hk : k < 2) (hx0 : -1 ≤ x) (hx1 : x ≤ 1200) (hy0 : -1 ≤ y) (hy1 : y ≤ 1200) :
    ∃ z : Int, w.cell? ⟨b, k, none⟩ = some (.int .i64 z) ∧ -1 ≤ z ∧ z ≤ 1200 := by
  match k, hk with
  | 0, _ => exact ⟨x, h.1, hx0, hx1⟩
  | 1, _ => exact ⟨y, h.2, hy0, hy1⟩
/-- The month's test comes out as its bounds say. -/
theorem month_test (n x : Int) (n0 : 0 ≤ n) (n1 : n ≤ 36524) (x0 : 0 ≤ x) (x1 : x ≤ 1199) :
    (mo n = x ∧ beg x ≤ n ∧ n < beg x + len x) ∨ (mo n ≠ x ∧ n < beg x) ∨ (mo n ≠ x ∧ beg x ≤ n ∧ beg x + len x ≤ n) := by
  have hs := beg_succ x
  by_cases a : beg x ≤ n
  · by_cases b : n < beg x + len x
    · exact Or.inl ⟨mo_of ⟨x0, x1, a, by omega⟩, a, b⟩
    · refine Or.inr (Or.inr ⟨fun e => ?_, a, by omega⟩)
      have := (mo_loc n n0 n1).2.2.2
      rw [e] at this; omega
  · refine Or.inr (Or.inl ⟨fun e => ?_, by omega⟩)
    have := (mo_loc n n0 n1).2.2.1
    rw [e] at this; omega
set_option maxHeartbeats 4000000 in
set_option maxRecDepth 100000 in
theorem months_walk (c d : Int) (w : World) (hc0 : -9223372036854775808 ≤ c) (hc1 : c ≤ 9223372036854775807) (hd0 : -9223372036854775808 ≤ d) (hd1 : d ≤ 9223372036854775807) (ok : Ok w) :
    Calls Tryd.prog 6 #[.int .i64 c, .int .i64 d] w fun e w' => e = .returned (.bool true) ∧ Below w.heap.size w w' := by
  obtain ⟨n, n0, n1, -, hp⟩ := pick_ex c 36525 hc0 hc1 (by decide) (by decide)
  obtain ⟨r, r0, r1, -, hp3⟩ := pick_ex d 3 hd0 hd1 (by decide) (by decide)
  obtain ⟨m, m0, m1, -, hp4⟩ := pick_ex d 1200 hd0 hd1 (by decide) (by decide)
  obtain ⟨u, u0, u1, -, hp5⟩ := pick_ex d 1153 hd0 hd1 (by decide) (by decide)
  obtain ⟨f0, f1, f2, f3, f4, f5, f6⟩ := mo_facts n n0 (by omega)
  have HM := Lib.hid (fun w h => month_in n w n0 (by omega) h)
  have HT := Lib.hid (fun x a b => month_test n x n0 (by omega) a b)
  have HP := Lib.hid hp
  have HP3 := Lib.hid hp3
  have HP4 := Lib.hid hp4
  have HP5 := Lib.hid hp5
  clear hp hp3 hp4 hp5 hc0 hc1 hd0 hd1 f2 f3 f4 f5 f6
  generalize hM : mo n = M at *
  clear hM
  obtain ⟨q, hq⟩ : ∃ q, q = M + r - 1 := ⟨_, rfl⟩
  have q0 : -1 ≤ q := by omega
  have q1 : q ≤ 1200 := by omega
  have HQ := Lib.hid hq
  clear hq
  have hb : Below w.heap.size w w := Below.refl _ _
  go_enter Tryd.func6, Tryd.ntmps6
  go_wp2_with (first
      | (go_at_call 9; with_reducible refine (head_any _ ok).mono ?_; rintro e w1 ⟨rfl, hn⟩; replace hb := block_then hb hn; replace ok := ok.below hn; clear hn)
      | (go_at_call 10; with_reducible refine (HP.out _).mono ?_; rintro e w' ⟨rfl, rfl⟩)
      | (go_at_call 10; with_reducible refine (HP3.out _).mono ?_; rintro e w' ⟨rfl, rfl⟩)
      | (go_at_call 10; with_reducible refine (HP4.out _).mono ?_; rintro e w' ⟨rfl, rfl⟩)
      | (go_at_call 17; with_reducible refine (HM.out _ ok.tab).mono ?_; rintro e w' ⟨rfl, rfl⟩))
  have hz : w1.heap.size < (w1.alloc (.cells #[.int .i64 m, .int .i64 (M + r - 1)] 3)).heap.size := by simp
  go_loopg [5, 29] 2 (fun g s5 s29 wx => ∃ k : Nat, k + g = 2 ∧ s5 = .bool true ∧ s29 = .int .i64 k ∧ TwoCells w1.heap.size m q wx ∧ Below w.heap.size w wx ∧ Ok wx)
  case atStart =>
    refine ⟨0, by omega, rfl, rfl, ⟨?_, ?_⟩, hb.alloc hb.size _, ok.below ((Below.refl _ _).alloc (Nat.le_refl _) _)⟩
    · simp [World.cell?_alloc_new]
    · rw [HQ.out]; simp [World.cell?_alloc_new]
  case round =>
    clear hb ok hz
    obtain ⟨k, hkg, rfl, rfl, hcs, hb, ok⟩ := hrel
    cases gk with
    | zero =>
      obtain rfl : k = 2 := by omega
      have HL2 := Lib.hid (fun x (a : 0 ≤ x) (b : x ≤ 1199) w h => length_in x w a b h)
      clear hcs
      go_wp2_with (first
        | (go_at_call 10; with_reducible refine (HP5.out _).mono ?_; rintro e w' ⟨rfl, rfl⟩))
      go_loopg [12, 14] 48 (fun g s12 s14 wx => ∃ j : Int, 0 ≤ j ∧ j + g = 48 ∧ s12 = .int .i64 (beg (u + j) - beg u) ∧ s14 = .int .i64 j ∧ wr = wx)
      case atStart => exact ⟨0, by omega, by omega, by simp, rfl, rfl⟩
      case round =>
        obtain ⟨j, j0, jg, rfl, rfl, rfl⟩ := hrel
        have b1 := beg_bd u u0 (by omega)
        have b2 := beg_bd (u + j) (by omega) (by omega)
        cases gk with
        | zero =>
          obtain rfl : j = 48 := by omega
          have t : (beg (u + 48) - beg u == 1461) = true := by
            have := beg_cycle u 1
            rw [show 48 * 1 + u = u + 48 by omega] at this
            simp; omega
          go_wp2
          go_ret
          exact ⟨rfl, hb⟩
        | succ g =>
          have hj : j < 48 := by omega
          have hl := len_bd (u + j)
          go_wp2_with (first
            | (go_at_call 23; with_reducible refine (HL2.out _ ?ha ?hb2 _ ok.tab).mono ?_; (case ha => omega); (case hb2 => omega); rintro e w' ⟨rfl, rfl⟩))
          go_roundg g
          case measure => omega
          case rel =>
            have hs := beg_succ (u + j)
            exact ⟨j + 1, by omega, by omega, by rw [show u + (j + 1) = u + j + 1 by omega, hs]; congr 1; omega, rfl, rfl⟩
    | succ g =>
      obtain ⟨x, hcell, x0, x1⟩ := two_at hcs k (by omega) (by omega) (by omega) q0 q1
      have HCS := Lib.hid hcs
      clear hcs
      have hk2 : (k : Int) < 2 := by omega
      by_cases hxl : x < 0
      · go_wp2
        go_roundg g
        case measure => omega
        case rel => exact ⟨k + 1, by omega, rfl, by go_num, HCS.out, hb, ok⟩
      by_cases hxh : 1199 < x
      · go_wp2
        go_roundg g
        case measure => omega
        case rel => exact ⟨k + 1, by omega, rfl, by go_num, HCS.out, hb, ok⟩
      have hl := len_bd x
      have hbb := beg_bd x (by omega) (by omega)
      have HF := Lib.hid (fun w h => first_in x w (by omega) (by omega) h)
      have HL := Lib.hid (fun w h => length_in x w (by omega) (by omega) h)
      by_cases hlast : x < 1199
      · have HF1 := Lib.hid (fun w h => first_in (x + 1) w (by omega) (by omega) h)
        have t3 : (beg (x + 1) == beg x + len x) = true := by rw [beg_succ]; simp
        rcases HT.out x (by omega) (by omega) with ⟨e, a, b⟩ | ⟨e, a⟩ | ⟨e, a, b⟩
        · subst e
          go_wp2_with (first
            | (go_at_call 17; with_reducible refine (HM.out _ ok.tab).mono ?_; rintro e w' ⟨rfl, rfl⟩)
            | (go_at_call 21; with_reducible refine (HF.out _ ok.tab).mono ?_; rintro e w' ⟨rfl, rfl⟩)
            | (go_at_call 21; with_reducible refine (HF1.out _ ok.tab).mono ?_; rintro e w' ⟨rfl, rfl⟩)
            | (go_at_call 23; with_reducible refine (HL.out _ ok.tab).mono ?_; rintro e w' ⟨rfl, rfl⟩))
          go_roundg g
          case measure => omega
          case rel => exact ⟨k + 1, by omega, rfl, by go_num, HCS.out, hb, ok⟩
        · have t1 : (M == x) = false := by simpa using e
          clear e
          go_wp2_with (first
            | (go_at_call 17; with_reducible refine (HM.out _ ok.tab).mono ?_; rintro e w' ⟨rfl, rfl⟩)
            | (go_at_call 21; with_reducible refine (HF.out _ ok.tab).mono ?_; rintro e w' ⟨rfl, rfl⟩)
            | (go_at_call 21; with_reducible refine (HF1.out _ ok.tab).mono ?_; rintro e w' ⟨rfl, rfl⟩)
            | (go_at_call 23; with_reducible refine (HL.out _ ok.tab).mono ?_; rintro e w' ⟨rfl, rfl⟩))
          go_roundg g
          case measure => omega
          case rel => exact ⟨k + 1, by omega, rfl, by go_num, HCS.out, hb, ok⟩
        · have t1 : (M == x) = false := by simpa using e
          have t2 : decide (n < beg x + len x) = false := decide_eq_false (by omega)
          clear e
          go_wp2_with (first
            | (go_at_call 17; with_reducible refine (HM.out _ ok.tab).mono ?_; rintro e w' ⟨rfl, rfl⟩)
            | (go_at_call 21; with_reducible refine (HF.out _ ok.tab).mono ?_; rintro e w' ⟨rfl, rfl⟩)
            | (go_at_call 21; with_reducible refine (HF1.out _ ok.tab).mono ?_; rintro e w' ⟨rfl, rfl⟩)
            | (go_at_call 23; with_reducible refine (HL.out _ ok.tab).mono ?_; rintro e w' ⟨rfl, rfl⟩))
          go_roundg g
          case measure => omega
          case rel => exact ⟨k + 1, by omega, rfl, by go_num, HCS.out, hb, ok⟩
      · have t3 : (beg x + len x == 36525) = true := by
          have h1 := beg_succ x
          have h2 := beg_last
          rw [show x + 1 = 1200 by omega] at h1
          simp; omega
        rcases HT.out x (by omega) (by omega) with ⟨e, a, b⟩ | ⟨e, a⟩ | ⟨e, a, b⟩
        · subst e
          go_wp2_with (first
            | (go_at_call 17; with_reducible refine (HM.out _ ok.tab).mono ?_; rintro e w' ⟨rfl, rfl⟩)
            | (go_at_call 21; with_reducible refine (HF.out _ ok.tab).mono ?_; rintro e w' ⟨rfl, rfl⟩)
            | (go_at_call 23; with_reducible refine (HL.out _ ok.tab).mono ?_; rintro e w' ⟨rfl, rfl⟩))
          go_roundg g
          case measure => omega
          case rel => exact ⟨k + 1, by omega, rfl, by go_num, HCS.out, hb, ok⟩
        · have t1 : (M == x) = false := by simpa using e
          clear e
          go_wp2_with (first
            | (go_at_call 17; with_reducible refine (HM.out _ ok.tab).mono ?_; rintro e w' ⟨rfl, rfl⟩)
            | (go_at_call 21; with_reducible refine (HF.out _ ok.tab).mono ?_; rintro e w' ⟨rfl, rfl⟩)
            | (go_at_call 23; with_reducible refine (HL.out _ ok.tab).mono ?_; rintro e w' ⟨rfl, rfl⟩))
          go_roundg g
          case measure => omega
          case rel => exact ⟨k + 1, by omega, rfl, by go_num, HCS.out, hb, ok⟩
        · have t1 : (M == x) = false := by simpa using e
          have t2 : decide (n < beg x + len x) = false := decide_eq_false (by omega)
          clear e
          go_wp2_with (first
            | (go_at_call 17; with_reducible refine (HM.out _ ok.tab).mono ?_; rintro e w' ⟨rfl, rfl⟩)
            | (go_at_call 21; with_reducible refine (HF.out _ ok.tab).mono ?_; rintro e w' ⟨rfl, rfl⟩)
            | (go_at_call 23; with_reducible refine (HL.out _ ok.tab).mono ?_; rintro e w' ⟨rfl, rfl⟩))
          go_roundg g
          case measure => omega
          case rel => exact ⟨k + 1, by omega, rfl, by go_num, HCS.out, hb, ok⟩
-- CARD
set_option maxRecDepth 100000 in
theorem months_lifted (os : Os) (started : os.Started) (H : Type) (enc : TypeId × Value → H) :
    ReturnsInHanded {} Tryd.checked os 6 .any (fun w args => (Rows.calendarMonthsSpec.pre enc Tryd.prog Tryd.f6 [] false w args ∧ laidMetH Tryd.prog laid w) ∧ sizedMet enc Tryd.prog Tryd.f6 (OpenSpec.ofChange Rows.calendarMonthsSpec) false w args)
      (Rows.calendarMonthsSpec.post enc Tryd.prog Tryd.f6 false true false false) := by
  refine returnsInHanded_of_change_and (C := Tryd.checked) (X := fun w _ => laidMetH Tryd.prog laid w) (fun _ _ _ hh h => h.of_heap hh) own started (by kernel_rfl) Tryd.func6
    (ChangeSpec.witness_shaped (enc := enc) (C := Tryd.checked) (os := os) (X := fun w _ => laidMetH Tryd.prog laid w) false (World.laidAll Tryd.prog os laid) #[.int .i64 0, .int .i64 0] 8 (World.laidAll_os _ _ _)
      (World.shaped_of_ZipB (by kernel_rfl) (by kernel_rfl)) (by kernel_rfl) (by kernel_rfl) (by kernel_rfl) (met os _)) ?_
  intro W base args ds gs before hval0 hW _ _ hL _
  have hval : ∀ (j : Nat) t v, Tryd.f6.params[j]? = some t → args[j]? = some v → Value.okWide Tryd.prog W .any base t v := hval0
  have hW' := hW
  obtain ⟨p, q, hA0, hV, rfl, _, _⟩ := hW
  have hA : DataW.TrodAll enc Tryd.prog W 0 (fun _ => true) true Tryd.f6.params.toList args.toList ds p := hA0
  rw [Tryd.params6] at hA hval
  obtain ⟨v0, v1, d0, d1, p0, p1, rfl, rfl, rfl, h0, h1⟩ := trodAll_two hA
  obtain ⟨rfl, rfl⟩ := trodVars_none hV
  obtain ⟨x0, rfl, rfl, rfl, wx0⟩ := open_int Tryd.underlying3 (hval 0 3 v0 rfl rfl) h0
  have bx0 := bounds_i64 wx0
  obtain ⟨x1, rfl, rfl, rfl, wx1⟩ := open_int Tryd.underlying3 (hval 1 3 v1 rfl rfl) h1
  have bx1 := bounds_i64 wx1
  simp only [List.append_nil] at hW'
  refine (months_walk x0 x1 W bx0.1 bx0.2 bx1.1 bx1.2 (ok_of hL)).mono fun e W' ⟨he, hb⟩ => ?_
  subst he
  exact ⟨_, rfl, _, _, _, [], [], [], hW', trodAll_mk1 (shut_bool Tryd.underlying4 _), trodAll_mk2 (shut_int Tryd.underlying3 wx0) (shut_int Tryd.underlying3 wx1), rfl, hb.frame _, fun h => by cases h⟩
theorem months_said : Rows.CalendarMonthsSaid :=
  OpenClaim.holds_of_wide 6 Tryd.f6 rfl rfl rfl rfl rfl rfl rfl ⟨rfl, rfl, rfl, rfl, rfl⟩ rfl rfl rfl rfl rfl (by kernel_rfl) Tryd.func6 (by kernel_rfl)
    (of_decide_eq_true (by kernel_rfl)) (by unfold Func.isWrapper; first | (rw [if_pos (by decide +kernel)]; kernel_rfl) | (rw [if_neg (by decide +kernel)]; exact ⟨rfl, rfl⟩))
    (fun os started H enc _ => months_lifted os started H enc)
theorem months_plain (f : FuncId) (fn : Func) (hf : Tryd.pinned.checked.prog.funcNamed "wageoffice/wageofficelaw02.CalendarMonths" = some f) (hfn : Tryd.pinned.checked.prog.funcs[f]? = some fn) :
    false = Tryd.pinned.checked.prog.looks [] ∧ ∀ (j : Nat) t, fn.params[j]? = some t → Tryd.pinned.checked.prog.wantsStandIn t = false := by
  obtain rfl : f = 6 := Option.some.inj ((show Tryd.prog.funcNamed "wageoffice/wageofficelaw02.CalendarMonths" = some 6 by kernel_rfl).symm.trans hf) |>.symm
  obtain rfl : fn = Tryd.f6 := (Option.some.inj (Tryd.func6.symm.trans hfn)).symm
  refine ⟨by kernel_rfl, fun j t ht => ?_⟩
  rw [Tryd.params6] at ht
  obtain rfl : t = 3 := by simpa using Array.mem_of_getElem? ht
  exact (show Tryd.prog.wantsStandIn 3 = false by kernel_rfl)
theorem months_holds : Rows.CalendarMonthsCardSaid :=
  Claim7.holds_tied_plain_at .later [] _ _ _ _ months_said (fun _ h => by cases h) (by kernel_rfl) (fun _ h => by cases h) calendarMonths_row_tie rfl ⟨rfl, rfl⟩ (by kernel_rfl) rfl months_plain (by kernel_rfl)
end Go.Proofs.YtckmilhdnljjkaaDoor.Cal
