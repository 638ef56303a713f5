/- CalendarInverse returns true for every two days and date: Day returns a day for its Date, and Parse returns it for its Text; for every date that Day accepts, Date returns it; different days have different texts, in the order of the days. Condition: the package's table and the library's read as their initialisers lay them (the card ties them). -/
import Derived.Test.YtckmilhdnljjkaaDoorCalText2
import Derived.Test.YtckmilhdnljjkaaDoorCalArr
import Derived.Deep.RegionHeld3
import Derived.Deep.DeepCutAuto
import Derived.IntWalk
namespace Go.Proofs.YtckmilhdnljjkaaDoor.Cal
open Go.ChangeShapes Go.WideShapes Go.ChangeAt Go.RowKit Go.Sort
/-- What holds of the world on the way: nothing that was there has turned, the tables, the three cells of a block. -/
structure Inv (w : World) (g : Nat) (a b c : Int) (wc : World) : Prop where
  below : Below w.heap.size w wc
  ok : Ok wc
  c0 : wc.cell? ⟨g, 0, none⟩ = some (.int .i64 a)
  c1 : wc.cell? ⟨g, 1, none⟩ = some (.int .i64 b)
  c2 : wc.cell? ⟨g, 2, none⟩ = some (.int .i64 c)
theorem Inv.step {w : World} {g : Nat} {a b c : Int} {wc wn : World} (h : Inv w g a b c wc) (k : Below wc.heap.size wc wn) : Inv w g a b c wn :=
  ⟨h.below.trans (k.mono h.below.size), h.ok.below k, cell_kept k h.c0, cell_kept k h.c1, cell_kept k h.c2⟩
theorem Inv.start (w : World) (a b c : Int) (ok : Ok w) : Inv w w.heap.size a b c (w.alloc (.cells #[.int .i64 a, .int .i64 b, .int .i64 c] 22)) :=
  ⟨(Below.refl _ _).alloc (Nat.le_refl _) _, ok.below ((Below.refl _ _).alloc (Nat.le_refl _) _), by simp [World.cell?_alloc_new], by simp [World.cell?_alloc_new], by simp [World.cell?_alloc_new]⟩
theorem new_inv {w wc : World} (hb : Below w.heap.size w wc) (ok : Ok wc) (a b q : Int) (a0 : 0 ≤ a) (a1 : a ≤ 102) :
    Inv w wc.heap.size (1999 + a) b q ((wc.alloc (.cells #[.int .i64 (IntKind.i64.wrap (1999 + a)), .int .i64 b, .int .i64 q] 22)).drew) := by
  rw [IntWalk.i64_in (1999 + a) (by omega)]
  have h1 : Below wc.heap.size wc ((wc.alloc (.cells #[.int .i64 (1999 + a), .int .i64 b, .int .i64 q] 22)).drew) := ((Below.refl _ _).alloc (Nat.le_refl _) _).drew
  exact ⟨hb.trans (h1.mono hb.size), ok.below h1, by simp [World.cell?_alloc_new], by simp [World.cell?_alloc_new], by simp [World.cell?_alloc_new]⟩
set_option maxHeartbeats 4000000 in
set_option maxRecDepth 100000 in
theorem inverse_walk (c d x y z : Int) (w : World) (hc0 : -9223372036854775808 ≤ c) (hc1 : c ≤ 9223372036854775807) (hd0 : -9223372036854775808 ≤ d) (hd1 : d ≤ 9223372036854775807)
    (hx0 : -9223372036854775808 ≤ x) (hx1 : x ≤ 9223372036854775807) (hy0 : -9223372036854775808 ≤ y) (hy1 : y ≤ 9223372036854775807) (hz0 : -9223372036854775808 ≤ z) (hz1 : z ≤ 9223372036854775807) (ok : Ok w) :
    Calls Tryd.prog 4 #[.int .i64 c, .int .i64 d, .agg #[.int .i64 x, .int .i64 y, .int .i64 z]] w fun e w' => e = .returned (.bool true) ∧ Below w.heap.size w w' := by
  obtain ⟨n, n0, n1, -, hp⟩ := pick_ex c 36525 hc0 hc1 (by decide) (by decide)
  obtain ⟨k, k0, k1, -, hp2⟩ := pick_ex d 36525 hd0 hd1 (by decide) (by decide)
  obtain ⟨a, a0, a1, -, hpx⟩ := pick_ex x 102 hx0 hx1 (by decide) (by decide)
  obtain ⟨b, b0, b1, -, hpy⟩ := pick_ex y 14 hy0 hy1 (by decide) (by decide)
  obtain ⟨q, q0, q1, -, hpz⟩ := pick_ex z 33 hz0 hz1 (by decide) (by decide)
  have hD := fun w h => date_in n w n0 (by omega) h
  have hDy := fun w h => day_back n w n0 (by omega) h
  have hT := fun w h => text_in n w n0 (by omega) h
  have hTk := fun w h => text_in k w k0 (by omega) h
  have hPa := fun w h => parse_back n w n0 (by omega) h
  have hE := text_eq n k n0 (by omega) k0 (by omega)
  have hLt := text_less n k n0 (by omega) k0 (by omega)
  have hS : (((dtxt n).size : Int) == 10) = true := by rw [text_size]; rfl
  have HP := Lib.hid hp
  have HP2 := Lib.hid hp2
  have HPX := Lib.hid hpx
  have HPY := Lib.hid hpy
  have HPZ := Lib.hid hpz
  have HD := Lib.hid hD
  have HDy := Lib.hid hDy
  generalize dtxt n = s at *
  generalize dtxt k = t at *
  have HT := Lib.hid hT
  have HTk := Lib.hid hTk
  have HPa := Lib.hid hPa
  clear hp hp2 hpx hpy hpz hD hDy hT hTk hPa hc0 hc1 hd0 hd1 hx0 hx1 hy0 hy1 hz0 hz1
  have inv := Inv.start w x y z ok
  clear ok
  go_enter Tryd.func4, Tryd.ntmps4
  go_upto_region 9 with (first
    | (go_at_call 9; with_reducible refine (head_any _ inv.ok).mono ?_; rintro e w1 ⟨rfl, hn⟩; replace inv := inv.step hn; clear hn)
    | (go_at_call 10; with_reducible refine (HP.out _).mono ?_; rintro e w' ⟨rfl, rfl⟩)
    | (go_at_call 10; with_reducible refine (HP2.out _).mono ?_; rintro e w' ⟨rfl, rfl⟩)
    | (go_at_call 11; with_reducible refine (HD.out _ inv.ok.tab).mono ?_; rintro e w' ⟨rfl, rfl⟩)
    | (go_at_call 25; with_reducible refine (HDy.out _ inv.ok.tab).mono ?_; rintro e w' ⟨rfl, rfl⟩)
    | (go_at_call 19; with_reducible refine (HT.out _ inv.ok).mono ?_; rintro e w1 ⟨rfl, hn⟩; replace inv := inv.step hn; clear hn)
    | (go_at_call 19; with_reducible refine (HTk.out _ inv.ok).mono ?_; rintro e w1 ⟨rfl, hn⟩; replace inv := inv.step hn; clear hn)
    | (go_at_call 27; with_reducible refine (HPa.out _ inv.ok.tab).mono ?_; rintro e w1 ⟨rfl, hn⟩; replace inv := inv.step hn; clear hn))
  obtain ⟨hb, ok, e0, e1, e2⟩ := inv
  clear hE hLt hS
  go_cut [18] (fun s18 wx => ∃ g : Nat, s18 = .pointer (some ⟨g, 0, none⟩) ∧ Inv w g (1999 + a) b q wx)
  case first =>
    go_region_held3 (fun w' => w'.cell? ⟨w.heap.size, 0, none⟩ = some (.int .i64 x) ∧ w'.cell? ⟨w.heap.size, 1, none⟩ = some (.int .i64 y) ∧ w'.cell? ⟨w.heap.size, 2, none⟩ = some (.int .i64 z)) (go_keep)
      (first
        | (go_at_call 10; with_reducible refine (HPX.out _).mono ?_; rintro e w' ⟨rfl, rfl⟩)
        | (go_at_call 10; with_reducible refine (HPY.out _).mono ?_; rintro e w' ⟨rfl, rfl⟩)
        | (go_at_call 10; with_reducible refine (HPZ.out _).mono ?_; rintro e w' ⟨rfl, rfl⟩))
    all_goals (go_wp2_with fail; go_meet; exact ⟨_, rfl, new_inv hb ok a b q a0 (by omega)⟩)
  case rest =>
    obtain ⟨g, rfl, ⟨hb2, ok2, g0, g1, g2⟩⟩ := hcut
    clear hb ok e0 e1 e2
    by_cases hno : NoDate (1999 + a) b q
    · have HN := Lib.hid (fun w h => day_no (1999 + a) b q w hno h)
      clear hno
      go_wp2_with (first
        | (go_at_call 25; with_reducible refine (HN.out _ ok2.tab).mono ?_; rintro e w' ⟨rfl, rfl⟩))
      go_ret
      exact ⟨rfl, hb2⟩
    · have hno' := hno
      unfold NoDate at hno'
      have HN := Lib.hid (fun w h => day_yes (1999 + a) b q w (by omega) (by omega) (by omega) (by omega) (by omega) (by omega) h)
      have HO := Lib.hid (fun w h => date_of (1999 + a) b q w hno h)
      clear hno hno'
      generalize beg (12 * (1999 + a - 2000) + b - 1) + q - 1 = o at *
      go_wp2_with (first
        | (go_at_call 25; with_reducible refine (HN.out _ ok2.tab).mono ?_; rintro e w' ⟨rfl, rfl⟩)
        | (go_at_call 11; with_reducible refine (HO.out _ ok2.tab).mono ?_; rintro e w' ⟨rfl, rfl⟩))
      go_ret
      exact ⟨rfl, hb2⟩
-- CARD
set_option maxRecDepth 100000 in
theorem inverse_lifted (os : Os) (started : os.Started) (H : Type) (enc : TypeId × Value → H) :
    ReturnsInHanded {} Tryd.checked os 4 .any (fun w args => (Rows.calendarInverseSpec.pre enc Tryd.prog Tryd.f4 [] false w args ∧ laidMetH Tryd.prog laid w) ∧ sizedMet enc Tryd.prog Tryd.f4 (OpenSpec.ofChange Rows.calendarInverseSpec) false w args)
      (Rows.calendarInverseSpec.post enc Tryd.prog Tryd.f4 false true false false) := by
  refine returnsInHanded_of_change_and (C := Tryd.checked) (X := fun w _ => laidMetH Tryd.prog laid w) (fun _ _ _ hh h => h.of_heap hh) own started (by kernel_rfl) Tryd.func4
    (ChangeSpec.witness_shaped (enc := enc) (C := Tryd.checked) (os := os) (X := fun w _ => laidMetH Tryd.prog laid w) false (World.laidAll Tryd.prog os laid) #[.int .i64 0, .int .i64 0, .agg #[.int .i64 0, .int .i64 0, .int .i64 0]] 8 (World.laidAll_os _ _ _)
      (World.shaped_of_ZipB (by kernel_rfl) (by kernel_rfl)) (by kernel_rfl) (by kernel_rfl) (by kernel_rfl) (met os _)) ?_
  intro W base args ds gs before hval0 hW _ _ hL _
  have hval : ∀ (j : Nat) t v, Tryd.f4.params[j]? = some t → args[j]? = some v → Value.okWide Tryd.prog W .any base t v := hval0
  have hW' := hW
  obtain ⟨p, q, hA0, hV, rfl, _, _⟩ := hW
  have hA : DataW.TrodAll enc Tryd.prog W 0 (fun _ => true) true Tryd.f4.params.toList args.toList ds p := hA0
  rw [Tryd.params4] at hA hval
  obtain ⟨v0, v1, v2, d0, d1, d2, p0, p1, p2, rfl, rfl, rfl, h0, h1, h2⟩ := trodAll_three hA
  obtain ⟨rfl, rfl⟩ := trodVars_none hV
  obtain ⟨x0, rfl, rfl, rfl, wx0⟩ := open_int Tryd.underlying3 (hval 0 3 v0 rfl rfl) h0
  have bx0 := bounds_i64 wx0
  obtain ⟨x1, rfl, rfl, rfl, wx1⟩ := open_int Tryd.underlying3 (hval 1 3 v1 rfl rfl) h1
  have bx1 := bounds_i64 wx1
  obtain ⟨a2, b2, c2, rfl, rfl, rfl, wa2, wb2, wc2⟩ := open_arr3 (hval 2 22 v2 rfl rfl) h2
  have ba2 := bounds_i64 wa2
  have bb2 := bounds_i64 wb2
  have bc2 := bounds_i64 wc2
  simp only [List.append_nil] at hW'
  refine (inverse_walk x0 x1 a2 b2 c2 W bx0.1 bx0.2 bx1.1 bx1.2 ba2.1 ba2.2 bb2.1 bb2.2 bc2.1 bc2.2 (ok_of hL)).mono fun e W' ⟨he, hb⟩ => ?_
  subst he
  exact ⟨_, rfl, _, _, _, [], [], [], hW', trodAll_mk1 (shut_bool Tryd.underlying4 _), trodAll_mk3 (shut_int Tryd.underlying3 wx0) (shut_int Tryd.underlying3 wx1) (shut_arr3 wa2 wb2 wc2), rfl, hb.frame _, fun h => by cases h⟩
theorem inverse_said : Rows.CalendarInverseSaid :=
  OpenClaim.holds_of_wide 4 Tryd.f4 rfl rfl rfl rfl rfl rfl rfl ⟨rfl, rfl, rfl, rfl, rfl⟩ rfl rfl rfl rfl rfl (by kernel_rfl) Tryd.func4 (by kernel_rfl)
    (of_decide_eq_true (by kernel_rfl)) (by unfold Func.isWrapper; first | (rw [if_pos (by decide +kernel)]; kernel_rfl) | (rw [if_neg (by decide +kernel)]; exact ⟨rfl, rfl⟩))
    (fun os started H enc _ => inverse_lifted os started H enc)
theorem inverse_plain (f : FuncId) (fn : Func) (hf : Tryd.pinned.checked.prog.funcNamed "wageoffice/wageofficelaw02.CalendarInverse" = some f) (hfn : Tryd.pinned.checked.prog.funcs[f]? = some fn) :
    false = Tryd.pinned.checked.prog.looks [] ∧ ∀ (j : Nat) t, fn.params[j]? = some t → Tryd.pinned.checked.prog.wantsStandIn t = false := by
  obtain rfl : f = 4 := Option.some.inj ((show Tryd.prog.funcNamed "wageoffice/wageofficelaw02.CalendarInverse" = some 4 by kernel_rfl).symm.trans hf) |>.symm
  obtain rfl : fn = Tryd.f4 := (Option.some.inj (Tryd.func4.symm.trans hfn)).symm
  refine ⟨by kernel_rfl, fun j t ht => ?_⟩
  rw [Tryd.params4] at ht
  have hm := Array.mem_of_getElem? ht
  simp only [List.mem_toArray, List.mem_cons, List.not_mem_nil, or_false] at hm
  rcases hm with rfl | rfl | rfl
  · exact (show Tryd.prog.wantsStandIn 3 = false by kernel_rfl)
  · exact (show Tryd.prog.wantsStandIn 3 = false by kernel_rfl)
  · exact (show Tryd.prog.wantsStandIn 22 = false by kernel_rfl)
theorem inverse_holds : Rows.CalendarInverseCardSaid :=
  Claim7.holds_tied_plain_at .later [] _ _ _ _ inverse_said (fun _ h => by cases h) (by kernel_rfl) (fun _ h => by cases h) calendarInverse_row_tie rfl ⟨rfl, rfl⟩ (by kernel_rfl) rfl inverse_plain (by kernel_rfl)
end Go.Proofs.YtckmilhdnljjkaaDoor.Cal
