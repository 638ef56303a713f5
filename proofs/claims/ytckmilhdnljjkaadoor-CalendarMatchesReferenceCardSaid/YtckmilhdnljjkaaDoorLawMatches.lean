/- CalendarMatchesReference returns true for all numbers and texts: all functions of package calendar return what the reference implementation returns. Condition: the package's table and the library's read as their initialisers lay them (the card ties them). -/
import Derived.Test.YtckmilhdnljjkaaDoorRefBoth
import Derived.Test.YtckmilhdnljjkaaDoorCalArr
import Derived.Deep.RegionHeld3
import Derived.Deep.DeepCutAuto
import Derived.IntWalk
namespace Go.Proofs.YtckmilhdnljjkaaDoor.Cal
open Go.ChangeShapes Go.WideShapes Go.ChangeAt Go.RowKit Go.Sort
/-- What holds of the world on the way: nothing that was there has turned, the tables, the three cells of a block. -/
structure Trip (w : World) (g : Nat) (a b c : Int) (wc : World) : Prop where
  below : Below w.heap.size w wc
  ok : Ok wc
  c0 : wc.cell? ⟨g, 0, none⟩ = some (.int .i64 a)
  c1 : wc.cell? ⟨g, 1, none⟩ = some (.int .i64 b)
  c2 : wc.cell? ⟨g, 2, none⟩ = some (.int .i64 c)
theorem Trip.step {w : World} {g : Nat} {a b c : Int} {wc wn : World} (h : Trip w g a b c wc) (k : Below wc.heap.size wc wn) : Trip w g a b c wn :=
  ⟨h.below.trans (k.mono h.below.size), h.ok.below k, cell_kept k h.c0, cell_kept k h.c1, cell_kept k h.c2⟩
theorem Trip.start (w : World) (a b c : Int) (ok : Ok w) : Trip w w.heap.size a b c (w.alloc (.cells #[.int .i64 a, .int .i64 b, .int .i64 c] 22)) :=
  ⟨(Below.refl _ _).alloc (Nat.le_refl _) _, ok.below ((Below.refl _ _).alloc (Nat.le_refl _) _), by simp [World.cell?_alloc_new], by simp [World.cell?_alloc_new], by simp [World.cell?_alloc_new]⟩
/-- The same, and two cells of a second block. -/
structure Mid (w : World) (g : Nat) (a b c : Int) (g1 : Nat) (u v : Int) (wc : World) : Prop where
  trip : Trip w g a b c wc
  u0 : wc.cell? ⟨g1, 0, none⟩ = some (.int .i64 u)
  u1 : wc.cell? ⟨g1, 1, none⟩ = some (.int .i64 v)
theorem Mid.step {w : World} {g : Nat} {a b c : Int} {g1 : Nat} {u v : Int} {wc wn : World} (h : Mid w g a b c g1 u v wc) (k : Below wc.heap.size wc wn) : Mid w g a b c g1 u v wn :=
  ⟨h.trip.step k, cell_kept k h.u0, cell_kept k h.u1⟩
theorem Mid.at {w : World} {g : Nat} {a b c : Int} {g1 : Nat} {u v : Int} {wc : World} (h : Mid w g a b c g1 u v wc) (k : Nat) (hk : k < 2) : ∃ t : Int, wc.cell? ⟨g1, k, none⟩ = some (.int .i64 t) := by
  match k, hk with
  | 0, _ => exact ⟨u, h.u0⟩
  | 1, _ => exact ⟨v, h.u1⟩
/-- Six cells of a block: two arrays of three ints. -/
structure Six (w : World) (g : Nat) (a b c d e f : Int) (wc : World) : Prop where
  below : Below w.heap.size w wc
  ok : Ok wc
  c0 : wc.cell? ⟨g, 0, none⟩ = some (.int .i64 a)
  c1 : wc.cell? ⟨g, 1, none⟩ = some (.int .i64 b)
  c2 : wc.cell? ⟨g, 2, none⟩ = some (.int .i64 c)
  c3 : wc.cell? ⟨g, 3, none⟩ = some (.int .i64 d)
  c4 : wc.cell? ⟨g, 4, none⟩ = some (.int .i64 e)
  c5 : wc.cell? ⟨g, 5, none⟩ = some (.int .i64 f)
theorem Six.step {w : World} {g : Nat} {a b c d e f : Int} {wc wn : World} (h : Six w g a b c d e f wc) (k : Below wc.heap.size wc wn) : Six w g a b c d e f wn :=
  ⟨h.below.trans (k.mono h.below.size), h.ok.below k, cell_kept k h.c0, cell_kept k h.c1, cell_kept k h.c2, cell_kept k h.c3, cell_kept k h.c4, cell_kept k h.c5⟩
theorem new_six {w wc : World} (hb : Below w.heap.size w wc) (ok : Ok wc) (x y z a b q : Int) (a0 : 0 ≤ a) (a1 : a ≤ 101) :
    Six w wc.heap.size x y z (2000 + a) b q ((wc.alloc (.cells #[.int .i64 x, .int .i64 y, .int .i64 z, .int .i64 (IntKind.i64.wrap (2000 + a)), .int .i64 b, .int .i64 q] 22)).drew) := by
  rw [IntWalk.i64_in (2000 + a) (by omega)]
  have h1 : Below wc.heap.size wc ((wc.alloc (.cells #[.int .i64 x, .int .i64 y, .int .i64 z, .int .i64 (2000 + a), .int .i64 b, .int .i64 q] 22)).drew) := ((Below.refl _ _).alloc (Nat.le_refl _) _).drew
  exact ⟨hb.trans (h1.mono hb.size), ok.below h1, by simp [World.cell?_alloc_new], by simp [World.cell?_alloc_new], by simp [World.cell?_alloc_new], by simp [World.cell?_alloc_new], by simp [World.cell?_alloc_new], by simp [World.cell?_alloc_new]⟩
set_option maxHeartbeats 16000000 in
set_option maxRecDepth 100000 in
theorem matches_walk (c x y z m : Int) (s : ByteArray) (w : World) (hc0 : -9223372036854775808 ≤ c) (hc1 : c ≤ 9223372036854775807)
    (hx0 : -9223372036854775808 ≤ x) (hx1 : x ≤ 9223372036854775807) (hy0 : -9223372036854775808 ≤ y) (hy1 : y ≤ 9223372036854775807) (hz0 : -9223372036854775808 ≤ z) (hz1 : z ≤ 9223372036854775807)
    (hm0 : -9223372036854775808 ≤ m) (hm1 : m ≤ 9223372036854775807) (hs : s.size ≤ maxLen) (ok : Ok w) :
    Calls Tryd.prog 3 #[.int .i64 c, .agg #[.int .i64 x, .int .i64 y, .int .i64 z], .int .i64 m, .string s] w fun e w' => e = .returned (.bool true) ∧ Below w.heap.size w w' := by
  unfold maxLen at hs
  obtain ⟨n, n0, n1, -, hp⟩ := pick_ex c 36525 hc0 hc1 (by decide) (by decide)
  obtain ⟨a, a0, a1, -, hpx⟩ := pick_ex x 101 hx0 hx1 (by decide) (by decide)
  obtain ⟨b, b0, b1, -, hpy⟩ := pick_ex y 14 hy0 hy1 (by decide) (by decide)
  obtain ⟨q, q0, q1, -, hpz⟩ := pick_ex z 33 hz0 hz1 (by decide) (by decide)
  obtain ⟨u, u0, u1, -, hpm⟩ := pick_ex m 1200 hm0 hm1 (by decide) (by decide)
  have HP := Lib.hid hp
  have HPX := Lib.hid hpx
  have HPY := Lib.hid hpy
  have HPZ := Lib.hid hpz
  have HPM := Lib.hid hpm
  clear hp hpx hpy hpz hpm hc0 hc1 hx0 hx1 hy0 hy1 hz0 hz1 hm0 hm1
  have inv := Trip.start w x y z ok
  clear ok
  go_enter Tryd.func3, Tryd.ntmps3
  go_wp2_with (first
      | (go_at_call 9; with_reducible refine (head_any _ inv.ok).mono ?_; rintro e w1 ⟨rfl, hn⟩; replace inv := inv.step hn; clear hn)
      | (go_at_call 10; with_reducible refine (HP.out _).mono ?_; rintro e w' ⟨rfl, rfl⟩))
  go_loopg [9, 39] 2 (fun g s9 s39 wx => ∃ k : Nat, k + g = 2 ∧ s9 = .bool true ∧ s39 = .int .i64 k ∧ Mid w w.heap.size x y z w1.heap.size c n wx)
  case atStart =>
    exact ⟨0, by omega, rfl, rfl, inv.step ((Below.refl _ _).alloc (Nat.le_refl _) _), by simp [World.cell?_alloc_new], by simp [World.cell?_alloc_new]⟩
  case round =>
    clear inv
    obtain ⟨k, hkg, rfl, rfl, inv⟩ := hrel
    cases gk with
    | zero =>
      obtain rfl : k = 2 := by omega
      replace inv := inv.trip
      obtain ⟨hb, ok, e0, e1, e2⟩ := inv
      go_upto_region 12 with fail
      go_cut [142, 143, 144] (fun s142 s143 s144 wx => ∃ g : Nat, s142 = .slice (some ⟨g, 0, none⟩) 2 2 ∧ s143 = .int .i64 2 ∧ s144 = .int .i64 0 ∧ Six w g x y z (2000 + a) b q wx)
      case first =>
        go_region_held3 (fun w' => w'.cell? ⟨w.heap.size, 0, none⟩ = some (.int .i64 x) ∧ w'.cell? ⟨w.heap.size, 1, none⟩ = some (.int .i64 y) ∧ w'.cell? ⟨w.heap.size, 2, none⟩ = some (.int .i64 z)) (go_keep)
          (first
            | (go_at_call 10; with_reducible refine (HPX.out _).mono ?_; rintro e w' ⟨rfl, rfl⟩)
            | (go_at_call 10; with_reducible refine (HPY.out _).mono ?_; rintro e w' ⟨rfl, rfl⟩)
            | (go_at_call 10; with_reducible refine (HPZ.out _).mono ?_; rintro e w' ⟨rfl, rfl⟩))
        all_goals (go_wp2_with fail; go_meet; exact ⟨_, rfl, rfl, rfl, new_six hb ok x y z a b q a0 (by omega)⟩)
      case rest =>
        clear hb ok e0 e1 e2
        obtain ⟨g2, rfl, rfl, rfl, six⟩ := hcut
        go_wp2_with fail
        go_loopg [9, 144] 2 (fun g s9 s144 wx => ∃ k : Nat, k + g = 2 ∧ s9 = .bool true ∧ s144 = .int .i64 k ∧ Six w g2 x y z (2000 + a) b q wx)
        case atStart => exact ⟨0, by omega, rfl, rfl, six⟩
        case round =>
          clear six
          obtain ⟨k, hkg, rfl, rfl, six⟩ := hrel
          cases gk with
          | zero =>
            obtain rfl : k = 2 := by omega
            have hsl : ∀ W, (Instr.slice 9 (.string s) none (some (.int .i64 (min (s.size : Int) 30))) none).run Tryd.prog W = .ok (.string (s.extract 0 (min (s.size : Int) 30).toNat)) W := fun W => run_slice_string_h W 9 s Tryd.underlying9 .i64 _ (by omega) (by omega)
            generalize s.extract 0 (min (s.size : Int) 30).toNat = r at hsl
            obtain ⟨i, f, ha1, ha2⟩ := parse_both r
            obtain ⟨fi, hf1, hf2⟩ := first_both u
            obtain ⟨ln, hn1, hn2⟩ := length_both u
            have HA1 := Lib.hid ha1
            have HA2 := Lib.hid ha2
            have HF1 := Lib.hid hf1
            have HF2 := Lib.hid hf2
            have HN1 := Lib.hid hn1
            have HN2 := Lib.hid hn2
            clear ha1 ha2 hf1 hf2 hn1 hn2
            go_wp2_with (first
              | (go_at_call 27; with_reducible refine (HA1.out _ six.ok.tab).mono ?_; rintro e w1 ⟨rfl, hn⟩; replace six := six.step hn; clear hn)
              | (go_at_call 28; with_reducible refine (HA2.out _).mono ?_; rintro e w' ⟨rfl, rfl⟩)
              | (go_at_call 10; with_reducible refine (HPM.out _).mono ?_; rintro e w' ⟨rfl, rfl⟩)
              | (go_at_call 21; with_reducible refine (HF1.out _ six.ok.tab).mono ?_; rintro e w' ⟨rfl, rfl⟩)
              | (go_at_call 22; with_reducible refine (HF2.out _).mono ?_; rintro e w' ⟨rfl, rfl⟩)
              | (go_at_call 23; with_reducible refine (HN1.out _ six.ok.tab).mono ?_; rintro e w' ⟨rfl, rfl⟩)
              | (go_at_call 24; with_reducible refine (HN2.out _).mono ?_; rintro e w' ⟨rfl, rfl⟩))
            go_ret
            exact ⟨rfl, six.below⟩
          | succ g =>
            have hk : k = 0 ∨ k = 1 := by omega
            have k0 := six.c0
            have k1 := six.c1
            have k2 := six.c2
            have k3 := six.c3
            have k4 := six.c4
            have k5 := six.c5
            rcases hk with rfl | rfl
            · obtain ⟨i, f, hd1, hd2, -⟩ := day_both x y z
              have HD1 := Lib.hid hd1
              have HD2 := Lib.hid hd2
              clear hd1 hd2
              go_wp2_with (first
            | (go_at_call 25; with_reducible refine (HD1.out _ (six.ok.below ((Below.refl _ _).alloc (Nat.le_refl _) _)).tab).mono ?_; rintro e w' ⟨rfl, rfl⟩)
            | (go_at_call 26; with_reducible refine (HD2.out _).mono ?_; rintro e w' ⟨rfl, rfl⟩))
              go_roundg g
              case measure => omega
              case rel => exact ⟨1, by omega, rfl, rfl, six.step ((Below.refl _ _).alloc (Nat.le_refl _) _)⟩
            · obtain ⟨i, f, hd1, hd2, -⟩ := day_both (2000 + a) b q
              have HD1 := Lib.hid hd1
              have HD2 := Lib.hid hd2
              clear hd1 hd2
              go_wp2_with (first
            | (go_at_call 25; with_reducible refine (HD1.out _ (six.ok.below ((Below.refl _ _).alloc (Nat.le_refl _) _)).tab).mono ?_; rintro e w' ⟨rfl, rfl⟩)
            | (go_at_call 26; with_reducible refine (HD2.out _).mono ?_; rintro e w' ⟨rfl, rfl⟩))
              go_roundg g
              case measure => omega
              case rel => exact ⟨2, by omega, rfl, rfl, six.step ((Below.refl _ _).alloc (Nat.le_refl _) _)⟩
    | succ g =>
      obtain ⟨t, hcell⟩ := inv.at k (by omega)
      obtain ⟨dy, dmm, dd, hd1, hd2⟩ := date_both t
      obtain ⟨li, lf, hl1, hl2⟩ := later_both t m
      obtain ⟨wk, hw1, hw2⟩ := weekday_both t
      obtain ⟨mn, hm1, hm2⟩ := month_both t
      obtain ⟨tx, ht1, ht2⟩ := text_both t
      obtain ⟨fi, hf1, hf2⟩ := first_both t
      obtain ⟨ln, hn1, hn2⟩ := length_both t
      have HD1 := Lib.hid hd1
      have HD2 := Lib.hid hd2
      have HL1 := Lib.hid hl1
      have HL2 := Lib.hid hl2
      have HW1 := Lib.hid hw1
      have HW2 := Lib.hid hw2
      have HM1 := Lib.hid hm1
      have HM2 := Lib.hid hm2
      have HT1 := Lib.hid ht1
      have HT2 := Lib.hid ht2
      have HF1 := Lib.hid hf1
      have HF2 := Lib.hid hf2
      have HN1 := Lib.hid hn1
      have HN2 := Lib.hid hn2
      clear hd1 hd2 hl1 hl2 hw1 hw2 hm1 hm2 ht1 ht2 hf1 hf2 hn1 hn2
      have hk2 : (k : Int) < 2 := by omega
      go_wp2_with (first
          | (go_at_call 11; with_reducible refine (HD1.out _ inv.trip.ok.tab).mono ?_; rintro e w' ⟨rfl, rfl⟩)
          | (go_at_call 12; with_reducible refine (HD2.out _).mono ?_; rintro e w' ⟨rfl, rfl⟩)
          | (go_at_call 13; with_reducible refine (HL1.out _ inv.trip.ok.tab).mono ?_; rintro e w' ⟨rfl, rfl⟩)
          | (go_at_call 14; with_reducible refine (HL2.out _).mono ?_; rintro e w' ⟨rfl, rfl⟩)
          | (go_at_call 15; with_reducible refine (HW1.out _).mono ?_; rintro e w' ⟨rfl, rfl⟩)
          | (go_at_call 16; with_reducible refine (HW2.out _).mono ?_; rintro e w' ⟨rfl, rfl⟩)
          | (go_at_call 17; with_reducible refine (HM1.out _ inv.trip.ok.tab).mono ?_; rintro e w' ⟨rfl, rfl⟩)
          | (go_at_call 18; with_reducible refine (HM2.out _).mono ?_; rintro e w' ⟨rfl, rfl⟩)
          | (go_at_call 19; with_reducible refine (HT1.out _ inv.trip.ok).mono ?_; rintro e w1 ⟨rfl, hn⟩; replace inv := inv.step hn; clear hn)
          | (go_at_call 20; with_reducible refine (HT2.out _).mono ?_; rintro e w1 ⟨rfl, hn⟩; replace inv := inv.step hn; clear hn)
          | (go_at_call 21; with_reducible refine (HF1.out _ inv.trip.ok.tab).mono ?_; rintro e w' ⟨rfl, rfl⟩)
          | (go_at_call 22; with_reducible refine (HF2.out _).mono ?_; rintro e w' ⟨rfl, rfl⟩)
          | (go_at_call 23; with_reducible refine (HN1.out _ inv.trip.ok.tab).mono ?_; rintro e w' ⟨rfl, rfl⟩)
          | (go_at_call 24; with_reducible refine (HN2.out _).mono ?_; rintro e w' ⟨rfl, rfl⟩))
      go_roundg g
      case measure => omega
      case rel => exact ⟨k + 1, by omega, rfl, by go_num, inv⟩
-- CARD
open Go.ChangeMaps (open_string shut_string)
set_option maxRecDepth 100000 in
theorem matches_lifted (os : Os) (started : os.Started) (H : Type) (enc : TypeId × Value → H) :
    ReturnsInHanded {} Tryd.checked os 3 .any (fun w args => (Rows.calendarMatchesReferenceSpec.pre enc Tryd.prog Tryd.f3 [] false w args ∧ laidMetH Tryd.prog laid w) ∧ sizedMet enc Tryd.prog Tryd.f3 (OpenSpec.ofChange Rows.calendarMatchesReferenceSpec) false w args)
      (Rows.calendarMatchesReferenceSpec.post enc Tryd.prog Tryd.f3 false true false false) := by
  refine returnsInHanded_of_change_and (C := Tryd.checked) (X := fun w _ => laidMetH Tryd.prog laid w) (fun _ _ _ hh h => h.of_heap hh) own started (by kernel_rfl) Tryd.func3
    (ChangeSpec.witness_shaped (enc := enc) (C := Tryd.checked) (os := os) (X := fun w _ => laidMetH Tryd.prog laid w) false (World.laidAll Tryd.prog os laid) #[.int .i64 0, .agg #[.int .i64 0, .int .i64 0, .int .i64 0], .int .i64 0, .string ⟨#[]⟩] 8 (World.laidAll_os _ _ _)
      (World.shaped_of_ZipB (by kernel_rfl) (by kernel_rfl)) (by kernel_rfl) (by kernel_rfl) (by kernel_rfl) (met os _)) ?_
  intro W base args ds gs before hval0 hW _ _ hL _
  have hval : ∀ (j : Nat) t v, Tryd.f3.params[j]? = some t → args[j]? = some v → Value.okWide Tryd.prog W .any base t v := hval0
  have hW' := hW
  obtain ⟨p, q, hA0, hV, rfl, _, _⟩ := hW
  have hA : DataW.TrodAll enc Tryd.prog W 0 (fun _ => true) true Tryd.f3.params.toList args.toList ds p := hA0
  rw [Tryd.params3] at hA hval
  obtain ⟨v0, v1, v2, v3, d0, d1, d2, d3, p0, p1, p2, p3, rfl, rfl, rfl, h0, h1, h2, h3⟩ := trodAll_four hA
  obtain ⟨rfl, rfl⟩ := trodVars_none hV
  obtain ⟨x0, rfl, rfl, rfl, wx0⟩ := open_int Tryd.underlying3 (hval 0 3 v0 rfl rfl) h0
  have bx0 := bounds_i64 wx0
  obtain ⟨a1, b1, c1, rfl, rfl, rfl, wa1, wb1, wc1⟩ := open_arr3 (hval 1 22 v1 rfl rfl) h1
  have ba1 := bounds_i64 wa1
  have bb1 := bounds_i64 wb1
  have bc1 := bounds_i64 wc1
  obtain ⟨x2, rfl, rfl, rfl, wx2⟩ := open_int Tryd.underlying3 (hval 2 3 v2 rfl rfl) h2
  have bx2 := bounds_i64 wx2
  obtain ⟨s3, rfl, rfl, rfl, hs3⟩ := open_string Tryd.underlying9 (hval 3 9 v3 rfl rfl) h3
  simp only [List.append_nil] at hW'
  refine (matches_walk x0 a1 b1 c1 x2 s3 W bx0.1 bx0.2 ba1.1 ba1.2 bb1.1 bb1.2 bc1.1 bc1.2 bx2.1 bx2.2 hs3 (ok_of hL)).mono fun e W' ⟨he, hb⟩ => ?_
  subst he
  exact ⟨_, rfl, _, _, _, [], [], [], hW', trodAll_mk1 (shut_bool Tryd.underlying4 _), trodAll_mk4 (shut_int Tryd.underlying3 wx0) (shut_arr3 wa1 wb1 wc1) (shut_int Tryd.underlying3 wx2) (shut_string Tryd.underlying9 hs3), rfl, hb.frame _, fun h => by cases h⟩
theorem matches_said : Rows.CalendarMatchesReferenceSaid :=
  OpenClaim.holds_of_wide 3 Tryd.f3 rfl rfl rfl rfl rfl rfl rfl ⟨rfl, rfl, rfl, rfl, rfl⟩ rfl rfl rfl rfl rfl (by kernel_rfl) Tryd.func3 (by kernel_rfl)
    (of_decide_eq_true (by kernel_rfl)) (by unfold Func.isWrapper; first | (rw [if_pos (by decide +kernel)]; kernel_rfl) | (rw [if_neg (by decide +kernel)]; exact ⟨rfl, rfl⟩))
    (fun os started H enc _ => matches_lifted os started H enc)
theorem matches_plain (f : FuncId) (fn : Func) (hf : Tryd.pinned.checked.prog.funcNamed "wageoffice/wageofficelaw02.CalendarMatchesReference" = some f) (hfn : Tryd.pinned.checked.prog.funcs[f]? = some fn) :
    false = Tryd.pinned.checked.prog.looks [] ∧ ∀ (j : Nat) t, fn.params[j]? = some t → Tryd.pinned.checked.prog.wantsStandIn t = false := by
  obtain rfl : f = 3 := Option.some.inj ((show Tryd.prog.funcNamed "wageoffice/wageofficelaw02.CalendarMatchesReference" = some 3 by kernel_rfl).symm.trans hf) |>.symm
  obtain rfl : fn = Tryd.f3 := (Option.some.inj (Tryd.func3.symm.trans hfn)).symm
  refine ⟨by kernel_rfl, fun j t ht => ?_⟩
  rw [Tryd.params3] at ht
  have hm := Array.mem_of_getElem? ht
  simp only [List.mem_toArray, List.mem_cons, List.not_mem_nil, or_false] at hm
  rcases hm with rfl | rfl | rfl | rfl
  · exact (show Tryd.prog.wantsStandIn 3 = false by kernel_rfl)
  · exact (show Tryd.prog.wantsStandIn 22 = false by kernel_rfl)
  · exact (show Tryd.prog.wantsStandIn 3 = false by kernel_rfl)
  · exact (show Tryd.prog.wantsStandIn 9 = false by kernel_rfl)
theorem matches_holds : Rows.CalendarMatchesReferenceCardSaid :=
  Claim7.holds_tied_plain_at .later [] _ _ _ _ matches_said (fun _ h => by cases h) (by kernel_rfl) (fun _ h => by cases h) calendarMatchesReference_row_tie rfl ⟨rfl, rfl⟩ (by kernel_rfl) rfl matches_plain (by kernel_rfl)
end Go.Proofs.YtckmilhdnljjkaaDoor.Cal
