/- The law LexerErrors returns true for every source: the given statement. Condition: the tables of classes and symbols hold what their initialisers lay (tied to the program's text). -/
import Derived.Test.YtlpombnmeioafaaDoorLexOk
set_option linter.unusedVariables false
set_option linter.unusedSimpArgs false
namespace Go.Proofs.YtlpombnmeioafaaDoor.Lx
open Go Go.ChangeShapes Go.WideShapes Go.ChangeAt Go.RowKit Go.PlainAid
/-- A source without errors. -/
theorem lex_good {s : ByteArray} {ts : List Tok} (h : Ok (bl s) ts) (w : World) (hs : s.size ≤ 9223372036854775807) (hT : Tabs w) :
    Calls Tryd.prog 11 #[.string s] w (LexPost s (ts, 0, 0) w) := lex_at s w hs hT (ok_lex h)
theorem bl_pre (s : ByteArray) (k : Nat) : bl (s.extract 0 k) = (bl s).take k := by rw [bl_extract, List.drop_zero]
set_option maxHeartbeats 8000000 in
theorem errors_walk (s : ByteArray) (w : World) (hs : s.size ≤ maxLen) (hT : Tabs w) :
    Calls Tryd.prog 8 #[.string s] w fun r w' => r = .returned (.bool true) ∧ Below w.heap.size w w' := by
  unfold maxLen at hs
  have HH := Lib.hid (head_any w hT)
  have HT := Lib.hid hT
  have hs' : s.size ≤ 9223372036854775807 := by omega
  by_cases hl : 7000 < s.size
  · have hd : decide ((7000 : Int) < (s.size : Int)) = true := decide_eq_true (by omega)
    clear hT hl
    go_enter Tryd.func8, Tryd.ntmps8
    go_wp2_with (go_at_call 10; (with_reducible refine HH.out.mono ?_); rintro _ w1 ⟨rfl, hb⟩; have HB := Lib.hid hb; clear hb)
    go_ret
    exact ⟨rfl, HB.out⟩
  · have hd : decide ((7000 : Int) < (s.size : Int)) = false := decide_eq_false (by omega)
    rcases lex_cases (bl s) with ⟨ts, he, hok⟩ | ⟨hlong, he⟩ | ⟨ts, e', er, at_, h6, he, hat, hch, hnx, hn, hor⟩
    · have HL := Lib.hid (fun w' h => lex_at s w' hs' h he)
      have h6 := hok.1
      rw [bl_len] at h6
      have hd2 : decide ((s.size : Int) ≤ 6000) = true := decide_eq_true (by omega)
      clear hT he hok hl
      go_enter Tryd.func8, Tryd.ntmps8
      go_wp2_with (first
        | (go_at_call 10; (with_reducible refine HH.out.mono ?_); rintro _ w1 ⟨rfl, hb⟩; have HB := Lib.hid hb; clear hb)
        | (go_at_call 11; (with_reducible refine (HL.out _ (HT.out.below HB.out)).mono ?_); rintro _ w2 ⟨a1, c1, rfl, -, -, -, -, hb⟩; replace HB := Lib.hid (HB.out.trans (hb.mono HB.out.size)); clear hb))
      go_ret
      exact ⟨rfl, HB.out⟩
    · have HL := Lib.hid (fun w' h => lex_at s w' hs' h he)
      rw [bl_len] at hlong
      have hd2 : decide ((6000 : Int) < (s.size : Int)) = true := decide_eq_true (by omega)
      have hd3 : decide ((s.size : Int) ≤ 0) = false := decide_eq_false (by omega)
      have hd4 : decide (s = ByteArray.empty) = false := decide_eq_false (fun e => by rw [e] at hlong; exact absurd hlong (by decide))
      have hd5 : ¬ s = ByteArray.empty := fun e => by rw [e] at hlong; exact absurd hlong (by decide)
      clear hT he hl
      go_enter Tryd.func8, Tryd.ntmps8
      go_wp2_with (first
        | (go_at_call 10; (with_reducible refine HH.out.mono ?_); rintro _ w1 ⟨rfl, hb⟩; have HB := Lib.hid hb; clear hb)
        | (go_at_call 11; (with_reducible refine (HL.out _ (HT.out.below HB.out)).mono ?_); rintro _ w2 ⟨a1, c1, rfl, -, -, -, -, hb⟩; replace HB := Lib.hid (HB.out.trans (hb.mono HB.out.size)); clear hb))
      go_ret
      exact ⟨rfl, HB.out⟩
    · have HL := Lib.hid (fun w' h => lex_at s w' hs' h he)
      rw [bl_len] at h6 hat
      have hok := ok_before (by rw [bl_len]; exact h6) hch hn (by rw [bl_len]; omega)
      rw [hnx, ← bl_pre] at hok
      have HL2 := Lib.hid (fun w' h => lex_good (s := s.extract 0 at_) hok w' (by rw [extract_size']; omega) h)
      have hd2 : decide ((6000 : Int) < (s.size : Int)) = false := decide_eq_false (by omega)
      have hd3 : decide ((s.size : Int) ≤ (at_ : Int)) = false := decide_eq_false (by omega)
      have hd4 : decide (s.size ≤ at_) = false := decide_eq_false (by omega)
      clear hT he hl hch hnx hok
      obtain ⟨n, hnn⟩ : ∃ n, n = ts.length := ⟨_, rfl⟩
      rw [← hnn] at hor
      have HN := Lib.hid hnn
      clear hn hnn
      have HL3 : Hid (∀ w', Tabs w' → Calls Tryd.prog 11 #[.string (s.extract 0 at_)] w' fun r w2 => ∃ a c, r = .returned (.tuple #[.slice a n c, .int .i64 0, .int .i64 0]) ∧ Below w'.heap.size w' w2) := Lib.hid fun w' h => (HL2.out w' h).mono fun r w2 ⟨a, c, h1, _, _, _, _, h6⟩ => ⟨a, c, by rw [HN.out]; exact h1, h6⟩
      clear HL2
      rcases hor with rfl | ⟨rfl, rfl⟩
      all_goals
        go_enter Tryd.func8, Tryd.ntmps8
        go_wp2_with (first
          | (go_at_call 10; (with_reducible refine HH.out.mono ?_); rintro _ w1 ⟨rfl, hb⟩; have HB := Lib.hid hb; clear hb)
          | (go_at_call 11; (with_reducible refine (HL.out _ (HT.out.below HB.out)).mono ?_); rintro _ w2 ⟨a1, c1, rfl, -, -, -, -, hb⟩; replace HB := Lib.hid (HB.out.trans (hb.mono HB.out.size)); clear hb)
          | (go_at_call 11; (with_reducible refine (HL3.out _ (HT.out.below HB.out)).mono ?_); rintro _ w3 ⟨a1, c1, rfl, hb⟩; replace HB := Lib.hid (HB.out.trans (hb.mono HB.out.size)); clear hb))
        go_ret
        exact ⟨rfl, HB.out⟩
-- CARD
open Go.ChangeMaps (open_string shut_string)
set_option maxRecDepth 100000 in
theorem errors_lifted (os : Os) (started : os.Started) (H : Type) (enc : TypeId × Value → H) :
    ReturnsInHanded {} Tryd.checked os 8 .any (fun w args => (Rows.lexerErrorsSpec.pre enc Tryd.prog Tryd.f8 [] false w args ∧ laidMetH Tryd.prog laid w) ∧ sizedMet enc Tryd.prog Tryd.f8 (OpenSpec.ofChange Rows.lexerErrorsSpec) false w args)
      (Rows.lexerErrorsSpec.post enc Tryd.prog Tryd.f8 false true false false) := by
  refine returnsInHanded_of_change_and (C := Tryd.checked) (X := fun w _ => laidMetH Tryd.prog laid w) (fun _ _ _ hh h => h.of_heap hh) own started (by kernel_rfl) Tryd.func8
    (ChangeSpec.witness_shaped (enc := enc) (C := Tryd.checked) (os := os) (X := fun w _ => laidMetH Tryd.prog laid w) false (World.laidAll Tryd.prog os laid) #[.string ⟨#[]⟩] 8 (World.laidAll_os _ _ _)
      (World.shaped_of_ZipB (by kernel_rfl) (by kernel_rfl)) (by kernel_rfl) (by kernel_rfl) (by kernel_rfl) (met os _)) ?_
  intro W base args ds gs before hval0 hW _ _ hL _
  have hval : ∀ (j : Nat) t v, Tryd.f8.params[j]? = some t → args[j]? = some v → Value.okWide Tryd.prog W .any base t v := hval0
  have hW' := hW
  obtain ⟨p, q, hA0, hV, rfl, _, _⟩ := hW
  have hA : DataW.TrodAll enc Tryd.prog W 0 (fun _ => true) true Tryd.f8.params.toList args.toList ds p := hA0
  rw [Tryd.params8] at hA hval
  obtain ⟨v0, d0, rfl, rfl, h0⟩ := trodAll_one hA
  obtain ⟨rfl, rfl⟩ := trodVars_none hV
  obtain ⟨s0, rfl, rfl, rfl, hs0⟩ := open_string Tryd.underlying9 (hval 0 9 v0 rfl rfl) h0
  simp only [List.append_nil] at hW'
  refine (errors_walk s0 W hs0 (tabs_of hL)).mono fun e W' ⟨he, hb⟩ => ?_
  subst he
  exact ⟨_, rfl, _, _, _, [], [], [], hW', trodAll_mk1 (shut_bool Tryd.underlying4 _), trodAll_mk1 (shut_string Tryd.underlying9 hs0), rfl, hb.frame _, fun h => by cases h⟩
theorem errors_said : Rows.LexerErrorsSaid :=
  OpenClaim.holds_of_wide 8 Tryd.f8 rfl rfl rfl rfl rfl rfl rfl ⟨rfl, rfl, rfl, rfl, rfl⟩ rfl rfl rfl rfl rfl (by kernel_rfl) Tryd.func8 (by kernel_rfl)
    (of_decide_eq_true (by kernel_rfl)) (by unfold Func.isWrapper; first | (rw [if_pos (by decide +kernel)]; kernel_rfl) | (rw [if_neg (by decide +kernel)]; exact ⟨rfl, rfl⟩))
    (fun os started H enc _ => errors_lifted os started H enc)
theorem errors_plain (f : FuncId) (fn : Func) (hf : Tryd.pinned.checked.prog.funcNamed "wageoffice/wageofficelaw06.LexerErrors" = some f) (hfn : Tryd.pinned.checked.prog.funcs[f]? = some fn) :
    false = Tryd.pinned.checked.prog.looks [] ∧ ∀ (j : Nat) t, fn.params[j]? = some t → Tryd.pinned.checked.prog.wantsStandIn t = false := by
  obtain rfl : f = 8 := Option.some.inj ((show Tryd.prog.funcNamed "wageoffice/wageofficelaw06.LexerErrors" = some 8 by kernel_rfl).symm.trans hf) |>.symm
  obtain rfl : fn = Tryd.f8 := (Option.some.inj (Tryd.func8.symm.trans hfn)).symm
  refine ⟨by kernel_rfl, fun j t ht => ?_⟩
  rw [Tryd.params8] at ht
  obtain rfl : t = 9 := by simpa using Array.mem_of_getElem? ht
  exact (show Tryd.prog.wantsStandIn 9 = false by kernel_rfl)
theorem errors_holds : Rows.LexerErrorsCardSaid :=
  Claim7.holds_tied_plain_at .later [] _ _ _ _ errors_said (fun _ h => by cases h) (by kernel_rfl) (fun _ h => by cases h) lexerErrors_row_tie rfl ⟨rfl, rfl⟩ (by kernel_rfl) rfl errors_plain (by kernel_rfl)
end Go.Proofs.YtlpombnmeioafaaDoor.Lx
