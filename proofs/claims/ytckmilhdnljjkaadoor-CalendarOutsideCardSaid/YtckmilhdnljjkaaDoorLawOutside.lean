/- CalendarOutside returns true for every number, day, place and byte: the functions return what is specified for a number that is no day or no month, and a text that differs from a date's in one byte is another date's or no date's. Condition: the package's table and the library's read as their initialisers lay them (the card ties them). -/
import Derived.Test.YtckmilhdnljjkaaDoorCalBytes
import Derived.Deep.RegionHeld3
import Derived.Deep.DeepCutAuto
namespace Go.Proofs.YtckmilhdnljjkaaDoor.Cal
open Go.ChangeShapes Go.WideShapes Go.ChangeAt Go.RowKit Go.Sort
theorem parse_nodate (s : ByteArray) (w : World) (f : Form s) (h : NoDate (pY s) (pM s) (pD s)) (hT : HasTab w) :
    Calls Tryd.prog 27 #[.string s] w fun e w' => e = .returned (.tuple #[.int .i64 0, .int .i64 21]) ∧ Below w.heap.size w w' :=
  (parse_any s w f hT).mono fun _ _ ⟨v, he, hr, k, hw⟩ => by
    subst hw
    rcases hr with ⟨_, hv⟩ | ⟨h', _⟩
    · subst hv; exact ⟨he, below_drewN (Below.refl _ _) _⟩
    · exact absurd h h'
theorem parse_date (s : ByteArray) (w : World) (i : Int) (f : Form s) (h : ¬ NoDate (pY s) (pM s) (pD s)) (hi : beg (12 * (pY s - 2000) + pM s - 1) + pD s - 1 = i) (hT : HasTab w) :
    Calls Tryd.prog 27 #[.string s] w fun e w' => e = .returned (.tuple #[.int .i64 i, .int .i64 0]) ∧ Below w.heap.size w w' :=
  (parse_any s w f hT).mono fun _ _ ⟨v, he, hr, k, hw⟩ => by
    subst hw
    rcases hr with ⟨h', _⟩ | ⟨_, hv⟩
    · exact absurd h' h
    · subst hv; subst hi; exact ⟨he, below_drewN (Below.refl _ _) _⟩
set_option maxHeartbeats 8000000 in
set_option maxRecDepth 100000 in
theorem outside_walk (n d p x : Int) (w : World) (hn0 : -9223372036854775808 ≤ n) (hn1 : n ≤ 9223372036854775807) (hd0 : -9223372036854775808 ≤ d) (hd1 : d ≤ 9223372036854775807)
    (hp0 : -9223372036854775808 ≤ p) (hp1 : p ≤ 9223372036854775807) (x0 : 0 ≤ x) (x1 : x ≤ 255) (ok : Ok w) :
    Calls Tryd.prog 8 #[.int .i64 n, .int .i64 d, .int .i64 p, .int .u8 x] w fun e w' => e = .returned (.bool true) ∧ Below w.heap.size w w' := by
  obtain ⟨k, k0, k1, -, hp⟩ := pick_ex d 36525 hd0 hd1 (by decide) (by decide)
  obtain ⟨q, q0, q1, -, hq⟩ := pick_ex p 10 hp0 hp1 (by decide) (by decide)
  obtain ⟨j, rfl⟩ : ∃ j : Nat, q = j := ⟨q.toNat, by omega⟩
  have HP := Lib.hid hp
  have HQ := Lib.hid hq
  have hT := fun w h => text_in k w k0 (by omega) h
  have HE := Lib.hid (fun i (a : 0 ≤ i) (b : i ≤ 36524) => text_eq i k a b k0 (by omega))
  have hS : (((dtxt k).size : Int) != 10) = false := by rw [text_size]; rfl
  have HSZ := Lib.hid (text_size k)
  generalize dtxt k = t at *
  have HT := Lib.hid hT
  clear hp hq hT hd0 hd1 hp0 hp1
  obtain ⟨b1, hb1⟩ : ∃ b : Bool, b = decide (n < 0 ∨ 36524 < n) := ⟨_, rfl⟩
  obtain ⟨b2, hb2⟩ : ∃ b : Bool, b = decide (n < 0 ∨ 1199 < n) := ⟨_, rfl⟩
  have B1 := Lib.hid hb1
  have B2 := Lib.hid hb2
  clear hb1 hb2
  have hb : Below w.heap.size w w := Below.refl _ _
  go_enter Tryd.func8, Tryd.ntmps8
  go_upto_region 2 with (go_at_call 9; with_reducible refine (head_any _ ok).mono ?_; rintro e w1 ⟨rfl, hn⟩; replace hb := block_then hb hn; replace ok := ok.below hn; clear hn)
  go_upto_region 2 with fail
  go_cut [26] (fun s wx => s = .bool b1 ∧ Below w.heap.size w wx ∧ Ok wx)
  case first =>
    by_cases ho : n < 0
    · have HB := Lib.hid hb
      go_wp2_with fail
      go_meet
      exact ⟨by rw [B1.out, decide_eq_true (Or.inl (by omega))], HB.out, ok⟩
    · have h0 : decide (n < 0) = false := decide_eq_false ho
      by_cases hp : 36524 < n
      · go_wp2_with fail
        go_meet
        exact ⟨by rw [B1.out, decide_eq_true (Or.inr (by omega))], hb, ok⟩
      · have h1 : decide (36524 < n) = false := decide_eq_false hp
        go_wp2_with fail
        go_meet
        exact ⟨by rw [B1.out, decide_eq_false (by omega)], hb, ok⟩
  clear hb ok
  obtain ⟨rfl, hb, ok⟩ := hcut
  go_upto_if 26 with fail
  go_cut [9] (fun s wx => s = .bool true ∧ Below w.heap.size w wx ∧ Ok wx)
  case first =>
    cases b1 with
    | true =>
      have HO := Lib.hid (of_decide_eq_true B1.out.symm)
      go_wp2_with (first
        | (go_at_call 11; with_reducible refine (date_out _ _ HO.out).mono ?_; rintro e w' ⟨rfl, rfl⟩)
        | (go_at_call 13; with_reducible refine (later_out _ _ _ HO.out).mono ?_; rintro e w' ⟨rfl, rfl⟩)
        | (go_at_call 15; with_reducible refine (weekday_out _ _ HO.out).mono ?_; rintro e w' ⟨rfl, rfl⟩)
        | (go_at_call 17; with_reducible refine (month_out _ _ HO.out).mono ?_; rintro e w' ⟨rfl, rfl⟩)
        | (go_at_call 19; with_reducible refine (text_out _ _ HO.out).mono ?_; rintro e w' ⟨rfl, rfl⟩))
      go_meet
      exact ⟨rfl, hb, ok⟩
    | false =>
      go_wp2_with fail
      go_meet
      exact ⟨rfl, hb, ok⟩
  clear hb ok
  obtain ⟨rfl, hb, ok⟩ := hcut
  go_upto_region 6 with fail
  go_cut [75] (fun s wx => s = .bool b2 ∧ Below w.heap.size w wx ∧ Ok wx)
  case first =>
    by_cases ho : n < 0
    · have HB := Lib.hid hb
      go_wp2_with fail
      go_meet
      exact ⟨by rw [B2.out, decide_eq_true (Or.inl (by omega))], HB.out, ok⟩
    · have h0 : decide (n < 0) = false := decide_eq_false ho
      by_cases hp : 1199 < n
      · go_wp2_with fail
        go_meet
        exact ⟨by rw [B2.out, decide_eq_true (Or.inr (by omega))], hb, ok⟩
      · have h1 : decide (1199 < n) = false := decide_eq_false hp
        go_wp2_with fail
        go_meet
        exact ⟨by rw [B2.out, decide_eq_false (by omega)], hb, ok⟩
  clear hb ok
  obtain ⟨rfl, hb, ok⟩ := hcut
  go_upto_if 75 with fail
  go_cut [9] (fun s wx => s = .bool true ∧ Below w.heap.size w wx ∧ Ok wx)
  case first =>
    cases b2 with
    | true =>
      have HO := Lib.hid (of_decide_eq_true B2.out.symm)
      go_wp2_with (first
        | (go_at_call 21; with_reducible refine (first_out _ _ HO.out).mono ?_; rintro e w' ⟨rfl, rfl⟩)
        | (go_at_call 23; with_reducible refine (length_out _ _ HO.out).mono ?_; rintro e w' ⟨rfl, rfl⟩))
      go_meet
      exact ⟨rfl, hb, ok⟩
    | false =>
      go_wp2_with fail
      go_meet
      exact ⟨rfl, hb, ok⟩
  clear hb ok
  obtain ⟨rfl, hb, ok⟩ := hcut
  go_upto_region 12 with (first
    | (go_at_call 10; with_reducible refine (HP.out _).mono ?_; rintro e w' ⟨rfl, rfl⟩)
    | (go_at_call 19; with_reducible refine (HT.out _ ok).mono ?_; rintro e w2 ⟨rfl, hn⟩; replace hb := block_then hb hn; replace ok := ok.below hn; clear hn))
  obtain ⟨cap, wn, hconv, hk, hz⟩ := conv_to w w2 hb ok t HSZ.out
  have hlen : t.data.toList.length = 10 := by have := HSZ.out; rw [Array.length_toList]; exact this
  generalize hl : t.data.toList = l at *
  have HL := Lib.hid hl
  have HLEN := Lib.hid hlen
  clear hb ok hl hlen
  go_cut [17] (fun s17 wx => ∃ g cap, s17 = .slice (some ⟨g, 0, none⟩) 10 cap ∧ Keep w g l wx ∧ ∀ j, j < 10 → wx.frozen? ⟨g, j, none⟩ = false)
  case first =>
    have HK := Lib.hid hk
    have HZ := Lib.hid hz
    clear hk hz
    go_wp2_with fail
    go_meet
    exact ⟨_, _, rfl, HK.out, HZ.out⟩
  clear hconv hk hz
  obtain ⟨g, cap, rfl, hk, hz⟩ := hcut
  have hc := hk.bytes j (by have := HLEN.out; omega)
  have hz' := hz j (by omega)
  clear hz
  have hj : (j : Int) < 10 := by omega
  go_upto_region 14 with (first
    | (go_at_call 10; with_reducible refine (HQ.out _).mono ?_; rintro e w' ⟨rfl, rfl⟩))
  have hk2 := hk.store j (by have := HLEN.out; omega) x x0 x1
  have hl2 : (l.set j (UInt8.ofNat x.toNat)).length = 10 := by rw [List.length_set]; exact HLEN.out
  clear hc hz' hk
  generalize wc.setCell ⟨g, j, none⟩ (.int .u8 x) = wd at *
  generalize l.set j (UInt8.ofNat x.toNat) = m at *
  have hback := fun (w1 : World) (h : Keep w g m w1) => conv_back h cap hl2
  obtain ⟨r, hr⟩ : ∃ r : ByteArray, r = ⟨m.toArray⟩ := ⟨_, rfl⟩
  rw [← hr] at hback
  have hconv := hback wd hk2
  have HBK := Lib.hid hback
  clear hback
  by_cases hf : Form r
  · by_cases hd : NoDate (pY r) (pM r) (pD r)
    · have HPa := Lib.hid (fun w h => parse_nodate r w hf hd h)
      clear hf hd hr hl2
      go_wp2_with (first
        | (go_at_call 27; with_reducible refine (HPa.out _ hk2.ok.tab).mono ?_; rintro e w3 ⟨rfl, hn⟩; have hk3 := hk2.step hn; clear hn))
      go_ret
      exact ⟨rfl, hk3.below⟩
    · obtain ⟨i, i0, i1, hi, ht⟩ := text_of_form m (hr ▸ hf) (hr ▸ hd)
      rw [← hr] at ht hi
      have hE := HE.out i i0 i1
      have hTi := fun w h => text_in i w i0 i1 h
      rw [ht] at hE hTi
      have HPa := Lib.hid (fun w h => parse_date r w i hf hd hi h)
      have HTi := Lib.hid hTi
      clear hf hd hr hl2 hTi ht hi
      go_upto_region 17 with (first
        | (go_at_call 27; with_reducible refine (HPa.out _ hk2.ok.tab).mono ?_; rintro e w3 ⟨rfl, hn⟩; have hk3 := hk2.step hn; clear hn))
      have hkd := hk3.drew
      have hcd := HBK.out _ hkd
      clear hk2 hconv
      go_region_held3 (fun w' => (convert 41 9 (.slice (some ⟨g, 0, none⟩) 10 cap)).run Tryd.prog w' = .ok (.string r) w' ∧ Keep w g m w')
        (first
          | exact ⟨hcd, hkd⟩
          | exact ⟨HBK.out _ hk4, hk4⟩)
        (first
          | (go_at_call 19; with_reducible refine (HTi.out _ hkd.ok).mono ?_; rintro e w4 ⟨rfl, hn⟩; have hk4 := hkd.step hn; clear hn))
      go_wp2
      go_ret
      exact ⟨rfl, Keep.below (by assumption)⟩
  · have HPa := Lib.hid (fun w => parse_form r w hf)
    clear hf hr hl2
    go_wp2_with (first
      | (go_at_call 27; with_reducible refine (HPa.out _).mono ?_; rintro e w3 ⟨rfl, rfl⟩))
    go_ret
    exact ⟨rfl, hk2.below⟩
-- CARD
set_option maxRecDepth 100000 in
theorem outside_lifted (os : Os) (started : os.Started) (H : Type) (enc : TypeId × Value → H) :
    ReturnsInHanded {} Tryd.checked os 8 .any (fun w args => (Rows.calendarOutsideSpec.pre enc Tryd.prog Tryd.f8 [] false w args ∧ laidMetH Tryd.prog laid w) ∧ sizedMet enc Tryd.prog Tryd.f8 (OpenSpec.ofChange Rows.calendarOutsideSpec) false w args)
      (Rows.calendarOutsideSpec.post enc Tryd.prog Tryd.f8 false true false false) := by
  refine returnsInHanded_of_change_and (C := Tryd.checked) (X := fun w _ => laidMetH Tryd.prog laid w) (fun _ _ _ hh h => h.of_heap hh) own started (by kernel_rfl) Tryd.func8
    (ChangeSpec.witness_shaped (enc := enc) (C := Tryd.checked) (os := os) (X := fun w _ => laidMetH Tryd.prog laid w) false (World.laidAll Tryd.prog os laid) #[.int .i64 0, .int .i64 0, .int .i64 0, .int .u8 0] 8 (World.laidAll_os _ _ _)
      (World.shaped_of_ZipB (by kernel_rfl) (by kernel_rfl)) (by kernel_rfl) (by kernel_rfl) (by kernel_rfl) (met os _)) ?_
  intro W base args ds gs before hval0 hW _ _ hL _
  have hval : ∀ (j : Nat) t v, Tryd.f8.params[j]? = some t → args[j]? = some v → Value.okWide Tryd.prog W .any base t v := hval0
  have hW' := hW
  obtain ⟨p, q, hA0, hV, rfl, _, _⟩ := hW
  have hA : DataW.TrodAll enc Tryd.prog W 0 (fun _ => true) true Tryd.f8.params.toList args.toList ds p := hA0
  rw [Tryd.params8] at hA hval
  obtain ⟨v0, v1, v2, v3, d0, d1, d2, d3, p0, p1, p2, p3, rfl, rfl, rfl, h0, h1, h2, h3⟩ := trodAll_four hA
  obtain ⟨rfl, rfl⟩ := trodVars_none hV
  obtain ⟨x0, rfl, rfl, rfl, wx0⟩ := open_int Tryd.underlying3 (hval 0 3 v0 rfl rfl) h0
  have bx0 := bounds_i64 wx0
  obtain ⟨x1, rfl, rfl, rfl, wx1⟩ := open_int Tryd.underlying3 (hval 1 3 v1 rfl rfl) h1
  have bx1 := bounds_i64 wx1
  obtain ⟨x2, rfl, rfl, rfl, wx2⟩ := open_int Tryd.underlying3 (hval 2 3 v2 rfl rfl) h2
  have bx2 := bounds_i64 wx2
  obtain ⟨x3, rfl, rfl, rfl, wx3⟩ := open_int Tryd.underlying5 (hval 3 5 v3 rfl rfl) h3
  have bx3 := bounds_u8 wx3
  simp only [List.append_nil] at hW'
  refine (outside_walk x0 x1 x2 x3 W bx0.1 bx0.2 bx1.1 bx1.2 bx2.1 bx2.2 bx3.1 bx3.2 (ok_of hL)).mono fun e W' ⟨he, hb⟩ => ?_
  subst he
  exact ⟨_, rfl, _, _, _, [], [], [], hW', trodAll_mk1 (shut_bool Tryd.underlying4 _), trodAll_mk4 (shut_int Tryd.underlying3 wx0) (shut_int Tryd.underlying3 wx1) (shut_int Tryd.underlying3 wx2) (shut_int Tryd.underlying5 wx3), rfl, hb.frame _, fun h => by cases h⟩
theorem outside_said : Rows.CalendarOutsideSaid :=
  OpenClaim.holds_of_wide 8 Tryd.f8 rfl rfl rfl rfl rfl rfl rfl ⟨rfl, rfl, rfl, rfl, rfl⟩ rfl rfl rfl rfl rfl (by kernel_rfl) Tryd.func8 (by kernel_rfl)
    (of_decide_eq_true (by kernel_rfl)) (by unfold Func.isWrapper; first | (rw [if_pos (by decide +kernel)]; kernel_rfl) | (rw [if_neg (by decide +kernel)]; exact ⟨rfl, rfl⟩))
    (fun os started H enc _ => outside_lifted os started H enc)
theorem outside_plain (f : FuncId) (fn : Func) (hf : Tryd.pinned.checked.prog.funcNamed "wageoffice/wageofficelaw02.CalendarOutside" = some f) (hfn : Tryd.pinned.checked.prog.funcs[f]? = some fn) :
    false = Tryd.pinned.checked.prog.looks [] ∧ ∀ (j : Nat) t, fn.params[j]? = some t → Tryd.pinned.checked.prog.wantsStandIn t = false := by
  obtain rfl : f = 8 := Option.some.inj ((show Tryd.prog.funcNamed "wageoffice/wageofficelaw02.CalendarOutside" = some 8 by kernel_rfl).symm.trans hf) |>.symm
  obtain rfl : fn = Tryd.f8 := (Option.some.inj (Tryd.func8.symm.trans hfn)).symm
  refine ⟨by kernel_rfl, fun j t ht => ?_⟩
  rw [Tryd.params8] at ht
  have hm := Array.mem_of_getElem? ht
  simp only [List.mem_toArray, List.mem_cons, List.not_mem_nil, or_false] at hm
  rcases hm with rfl | rfl | rfl | rfl
  · exact (show Tryd.prog.wantsStandIn 3 = false by kernel_rfl)
  · exact (show Tryd.prog.wantsStandIn 3 = false by kernel_rfl)
  · exact (show Tryd.prog.wantsStandIn 3 = false by kernel_rfl)
  · exact (show Tryd.prog.wantsStandIn 5 = false by kernel_rfl)
theorem outside_holds : Rows.CalendarOutsideCardSaid :=
  Claim7.holds_tied_plain_at .later [] _ _ _ _ outside_said (fun _ h => by cases h) (by kernel_rfl) (fun _ h => by cases h) calendarOutside_row_tie rfl ⟨rfl, rfl⟩ (by kernel_rfl) rfl outside_plain (by kernel_rfl)
end Go.Proofs.YtckmilhdnljjkaaDoor.Cal
