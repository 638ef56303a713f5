/- CalendarNext returns true for every day: the next day has the next day of the month and the next weekday, or is the first day of the next month. Condition: the package's table and the library's read as their initialisers lay them (the card ties them). -/
import Derived.Test.YtckmilhdnljjkaaDoorCalPick
namespace Go.Proofs.YtckmilhdnljjkaaDoor.Cal
open Go.ChangeShapes Go.WideShapes Go.ChangeAt Go.RowKit Go.Sort
/-- The two ways from a day to the next one. -/
theorem next_two (n : Int) (h0 : 0 ≤ n) (h1 : n ≤ 36523) :
    (mo (n + 1) = mo n ∧ dm (n + 1) = dm n + 1) ∨ (mo (n + 1) = mo n + 1 ∧ dm (n + 1) = 0 ∧ dm n + 1 = len (mo n)) := by
  obtain ⟨f0, f1, f2, f3, f4, f5, f6⟩ := mo_facts n h0 (by omega)
  by_cases h : dm n + 1 < len (mo n)
  · have := mo_mk (m := mo n) (b := dm n + 1) f0 f1 (by omega) h
    rw [show beg (mo n) + (dm n + 1) = n + 1 by omega] at this
    exact Or.inl this
  · have hl : dm n + 1 = len (mo n) := by omega
    have hs := beg_succ (mo n)
    have hm : mo n + 1 ≤ 1199 := by
      rcases Int.lt_or_le 1198 (mo n) with h' | h'
      · have e : mo n = 1199 := by omega
        have hb := beg_last
        rw [e] at hs f5 hl
        rw [show (1199 : Int) + 1 = 1200 from rfl] at hs
        omega
      · omega
    have := mo_mk (m := mo n + 1) (b := 0) (by omega) hm (by omega) (by have := len_bd (mo n + 1); omega)
    rw [show beg (mo n + 1) + 0 = n + 1 by omega] at this
    exact Or.inr ⟨this.1, this.2, hl⟩
theorem ret_bool {a b : Bool} (h : a = b) : Ending.returned (.bool a) = .returned (.bool b) := by rw [h]
theorem next_walk (c : Int) (w : World) (hc0 : -9223372036854775808 ≤ c) (hc1 : c ≤ 9223372036854775807) (ok : Ok w) :
    Calls Tryd.prog 5 #[.int .i64 c] w fun e w' => e = .returned (.bool true) ∧ Below w.heap.size w w' := by
  obtain ⟨n, n0, n1, -, hp⟩ := pick_ex c 36524 hc0 hc1 (by decide) (by decide)
  obtain ⟨f0, f1, f2, f3, f4, f5, f6⟩ := mo_facts n n0 (by omega)
  have hD := fun w h => date_in n w n0 (by omega) h
  have hM := fun w h => month_in n w n0 (by omega) h
  have hL := fun w h => length_in (mo n) w f0 f1 h
  have hD1 := fun w h => date_in (n + 1) w (by omega) (by omega) h
  have hM1 := fun w h => month_in (n + 1) w (by omega) (by omega) h
  have HW := Lib.hid (fun w => weekday_in n w n0 (by omega))
  have HW1 := Lib.hid (fun w => weekday_in (n + 1) w (by omega) (by omega))
  have HP := Lib.hid hp
  have h2 := next_two n n0 (by omega)
  clear hp hc0 hc1 f3 f5 f6
  have hb : Below w.heap.size w w := Below.refl _ _
  generalize hm' : mo n = M at *
  generalize hd' : dm n = D at *
  clear hm' hd'
  rcases h2 with ⟨a, b⟩ | ⟨a, b, hl⟩
  · rw [a, b] at hD1
    rw [a] at hM1
    clear a b
    have HD := Lib.hid hD
    have HM := Lib.hid hM
    have HL := Lib.hid hL
    have HD1 := Lib.hid hD1
    have HM1 := Lib.hid hM1
    clear hD hM hL hD1 hM1
    go_enter Tryd.func5, Tryd.ntmps5
    go_wp2_with (first
      | (go_at_call 9; with_reducible refine (head_any _ ok).mono ?_; rintro e w1 ⟨rfl, hn⟩; replace hb := block_then hb hn; replace ok := ok.below hn; clear hn)
      | (go_at_call 10; with_reducible refine (HP.out _).mono ?_; rintro e w' ⟨rfl, rfl⟩)
      | (go_at_call 11; with_reducible refine (HD.out _ ok.tab).mono ?_; rintro e w' ⟨rfl, rfl⟩)
      | (go_at_call 11; with_reducible refine (HD1.out _ ok.tab).mono ?_; rintro e w' ⟨rfl, rfl⟩)
      | (go_at_call 15; with_reducible refine (HW.out _).mono ?_; rintro e w' ⟨rfl, rfl⟩)
      | (go_at_call 15; with_reducible refine (HW1.out _).mono ?_; rintro e w' ⟨rfl, rfl⟩)
      | (go_at_call 17; with_reducible refine (HM.out _ ok.tab).mono ?_; rintro e w' ⟨rfl, rfl⟩)
      | (go_at_call 17; with_reducible refine (HM1.out _ ok.tab).mono ?_; rintro e w' ⟨rfl, rfl⟩)
      | (go_at_call 23; with_reducible refine (HL.out _ ok.tab).mono ?_; rintro e w' ⟨rfl, rfl⟩))
    go_ret
    exact ⟨ret_bool (by simp; try omega), hb⟩
  · rw [a, b] at hD1
    rw [a] at hM1
    have hq : (D + 1 == len M) = true := by simpa using hl
    clear a b hl
    by_cases h11 : M % 12 = 11
    · have e1 : (M + 1) / 12 = M / 12 + 1 := by omega
      have e2 : (M + 1) % 12 = 0 := by omega
      rw [e1, e2] at hD1
      rw [h11] at hD
      clear e1 e2
      have H11 := Lib.hid h11
      clear h11
      have HD := Lib.hid hD
      have HM := Lib.hid hM
      have HL := Lib.hid hL
      have HD1 := Lib.hid hD1
      have HM1 := Lib.hid hM1
      clear hD hM hL hD1 hM1
      go_enter Tryd.func5, Tryd.ntmps5
      go_wp2_with (first
        | (go_at_call 9; with_reducible refine (head_any _ ok).mono ?_; rintro e w1 ⟨rfl, hn⟩; replace hb := block_then hb hn; replace ok := ok.below hn; clear hn)
        | (go_at_call 10; with_reducible refine (HP.out _).mono ?_; rintro e w' ⟨rfl, rfl⟩)
        | (go_at_call 11; with_reducible refine (HD.out _ ok.tab).mono ?_; rintro e w' ⟨rfl, rfl⟩)
        | (go_at_call 11; with_reducible refine (HD1.out _ ok.tab).mono ?_; rintro e w' ⟨rfl, rfl⟩)
        | (go_at_call 15; with_reducible refine (HW.out _).mono ?_; rintro e w' ⟨rfl, rfl⟩)
        | (go_at_call 15; with_reducible refine (HW1.out _).mono ?_; rintro e w' ⟨rfl, rfl⟩)
        | (go_at_call 17; with_reducible refine (HM.out _ ok.tab).mono ?_; rintro e w' ⟨rfl, rfl⟩)
        | (go_at_call 17; with_reducible refine (HM1.out _ ok.tab).mono ?_; rintro e w' ⟨rfl, rfl⟩)
        | (go_at_call 23; with_reducible refine (HL.out _ ok.tab).mono ?_; rintro e w' ⟨rfl, rfl⟩))
      go_ret
      exact ⟨ret_bool (by simp; try omega), hb⟩
    · have e1 : (M + 1) / 12 = M / 12 := by omega
      have e2 : (M + 1) % 12 = M % 12 + 1 := by omega
      rw [e1, e2] at hD1
      clear e1 e2
      have HD := Lib.hid hD
      have HM := Lib.hid hM
      have HL := Lib.hid hL
      have HD1 := Lib.hid hD1
      have HM1 := Lib.hid hM1
      clear hD hM hL hD1 hM1
      go_enter Tryd.func5, Tryd.ntmps5
      go_wp2_with (first
        | (go_at_call 9; with_reducible refine (head_any _ ok).mono ?_; rintro e w1 ⟨rfl, hn⟩; replace hb := block_then hb hn; replace ok := ok.below hn; clear hn)
        | (go_at_call 10; with_reducible refine (HP.out _).mono ?_; rintro e w' ⟨rfl, rfl⟩)
        | (go_at_call 11; with_reducible refine (HD.out _ ok.tab).mono ?_; rintro e w' ⟨rfl, rfl⟩)
        | (go_at_call 11; with_reducible refine (HD1.out _ ok.tab).mono ?_; rintro e w' ⟨rfl, rfl⟩)
        | (go_at_call 15; with_reducible refine (HW.out _).mono ?_; rintro e w' ⟨rfl, rfl⟩)
        | (go_at_call 15; with_reducible refine (HW1.out _).mono ?_; rintro e w' ⟨rfl, rfl⟩)
        | (go_at_call 17; with_reducible refine (HM.out _ ok.tab).mono ?_; rintro e w' ⟨rfl, rfl⟩)
        | (go_at_call 17; with_reducible refine (HM1.out _ ok.tab).mono ?_; rintro e w' ⟨rfl, rfl⟩)
        | (go_at_call 23; with_reducible refine (HL.out _ ok.tab).mono ?_; rintro e w' ⟨rfl, rfl⟩))
      go_ret
      exact ⟨ret_bool (by simp; try omega), hb⟩
set_option maxRecDepth 100000 in
theorem next_lifted (os : Os) (started : os.Started) (H : Type) (enc : TypeId × Value → H) :
    ReturnsInHanded {} Tryd.checked os 5 .any (fun w args => (Rows.calendarNextSpec.pre enc Tryd.prog Tryd.f5 [] false w args ∧ laidMetH Tryd.prog laid w) ∧ sizedMet enc Tryd.prog Tryd.f5 (OpenSpec.ofChange Rows.calendarNextSpec) false w args)
      (Rows.calendarNextSpec.post enc Tryd.prog Tryd.f5 false true false false) := by
  refine returnsInHanded_of_change_and (C := Tryd.checked) (X := fun w _ => laidMetH Tryd.prog laid w) (fun _ _ _ hh h => h.of_heap hh) own started (by kernel_rfl) Tryd.func5
    (ChangeSpec.witness_shaped (enc := enc) (C := Tryd.checked) (os := os) (X := fun w _ => laidMetH Tryd.prog laid w) false (World.laidAll Tryd.prog os laid) #[.int .i64 0] 8 (World.laidAll_os _ _ _)
      (World.shaped_of_ZipB (by kernel_rfl) (by kernel_rfl)) (by kernel_rfl) (by kernel_rfl) (by kernel_rfl) (met os _)) ?_
  intro W base args ds gs before hval0 hW _ _ hL _
  have hval : ∀ (j : Nat) t v, Tryd.f5.params[j]? = some t → args[j]? = some v → Value.okWide Tryd.prog W .any base t v := hval0
  have hW' := hW
  obtain ⟨p, q, hA0, hV, rfl, _, _⟩ := hW
  have hA : DataW.TrodAll enc Tryd.prog W 0 (fun _ => true) true Tryd.f5.params.toList args.toList ds p := hA0
  rw [Tryd.params5] at hA hval
  obtain ⟨v0, d0, rfl, rfl, h0⟩ := trodAll_one hA
  obtain ⟨rfl, rfl⟩ := trodVars_none hV
  obtain ⟨x, rfl, rfl, rfl, wx⟩ := open_int Tryd.underlying3 (hval 0 3 v0 rfl rfl) h0
  simp only [List.append_nil] at hW'
  have hbd := Go.bounds_i64 wx
  refine (next_walk x W hbd.1 hbd.2 (ok_of hL)).mono fun e W' ⟨he, hb⟩ => ?_
  subst he
  exact ⟨_, rfl, _, _, _, [], [], [], hW', trodAll_mk1 (shut_bool Tryd.underlying4 _), trodAll_mk1 (shut_int Tryd.underlying3 wx), rfl, hb.frame _, fun h => by cases h⟩
theorem next_said : Rows.CalendarNextSaid :=
  OpenClaim.holds_of_wide 5 Tryd.f5 rfl rfl rfl rfl rfl rfl rfl ⟨rfl, rfl, rfl, rfl, rfl⟩ rfl rfl rfl rfl rfl (by kernel_rfl) Tryd.func5 (by kernel_rfl)
    (of_decide_eq_true (by kernel_rfl)) (by unfold Func.isWrapper; first | (rw [if_pos (by decide +kernel)]; kernel_rfl) | (rw [if_neg (by decide +kernel)]; exact ⟨rfl, rfl⟩))
    (fun os started H enc _ => next_lifted os started H enc)
theorem next_plain (f : FuncId) (fn : Func) (hf : Tryd.pinned.checked.prog.funcNamed "wageoffice/wageofficelaw02.CalendarNext" = some f) (hfn : Tryd.pinned.checked.prog.funcs[f]? = some fn) :
    false = Tryd.pinned.checked.prog.looks [] ∧ ∀ (j : Nat) t, fn.params[j]? = some t → Tryd.pinned.checked.prog.wantsStandIn t = false := by
  obtain rfl : f = 5 := Option.some.inj ((show Tryd.prog.funcNamed "wageoffice/wageofficelaw02.CalendarNext" = some 5 by kernel_rfl).symm.trans hf) |>.symm
  obtain rfl : fn = Tryd.f5 := (Option.some.inj (Tryd.func5.symm.trans hfn)).symm
  refine ⟨by kernel_rfl, fun j t ht => ?_⟩
  rw [Tryd.params5] at ht
  obtain rfl : t = 3 := by simpa using Array.mem_of_getElem? ht
  exact (show Tryd.prog.wantsStandIn 3 = false by kernel_rfl)
theorem next_holds : Rows.CalendarNextCardSaid :=
  Claim7.holds_tied_plain_at .later [] _ _ _ _ next_said (fun _ h => by cases h) (by kernel_rfl) (fun _ h => by cases h) calendarNext_row_tie rfl ⟨rfl, rfl⟩ (by kernel_rfl) rfl next_plain (by kernel_rfl)
end Go.Proofs.YtckmilhdnljjkaaDoor.Cal
