/- The law LexerMatchesReference returns true for every source: the given statement. Condition: the tables of classes and symbols hold what their initialisers lay (tied to the program's text). -/
import Derived.Test.YtlpombnmeioafaaDoorLexOk
import Derived.Test.YtlpombnmeioafaaDoorLexSame
import Derived.Test.YtlpombnmeioafaaDoorLexRef7
set_option linter.unusedVariables false
set_option linter.unusedSimpArgs false
namespace Go.Proofs.YtlpombnmeioafaaDoor.Lx
open Go Go.ChangeShapes Go.WideShapes Go.ChangeAt Go.RowKit Go.PlainAid Go.Lib
theorem lex_few (s : ByteArray) : ∃ (ts : List Tok) (er at_ : Nat), lexL (bl s) = (ts, er, at_) ∧ ts.length ≤ 10000 := by
  rcases lex_cases (bl s) with ⟨ts, he, hok⟩ | ⟨h, he⟩ | ⟨ts, e', er, at_, h6, he, _, _, _, _, hor⟩
  · exact ⟨ts, 0, 0, he, Nat.le_trans hok.2.1 (by decide)⟩
  · exact ⟨[], 2, 0, he, Nat.zero_le _⟩
  · exact ⟨[], er, at_, he, Nat.zero_le _⟩
set_option maxHeartbeats 16000000 in
set_option maxRecDepth 100000 in
theorem matches_walk (s : ByteArray) (w : World) (hs : s.size ≤ maxLen) (hT : Tabs w) :
    Calls Tryd.prog 3 #[.string s] w fun r w' => r = .returned (.bool true) ∧ Below w.heap.size w w' := by
  unfold maxLen at hs
  have HH := Lib.hid (head_any w hT)
  have HT := Lib.hid hT
  clear hT
  by_cases hl : 7000 < s.size
  · have hd : decide ((7000 : Int) < (s.size : Int)) = true := decide_eq_true (by omega)
    go_enter Tryd.func3, Tryd.ntmps3
    go_wp2_with (go_at_call 10; (with_reducible refine HH.out.mono ?_); rintro _ w1 ⟨rfl, hb⟩; have HB := Lib.hid hb; clear hb)
    go_ret
    exact ⟨rfl, HB.out⟩
  · have hd : decide ((7000 : Int) < (s.size : Int)) = false := decide_eq_false (by omega)
    obtain ⟨ts, er, at_, he, hn⟩ := lex_few s
    obtain ⟨n, hn1⟩ : ∃ n, n = ts.length := ⟨_, rfl⟩
    have hnl : n = (toks s ts).length := by rw [toks_len, hn1]
    have HV1 : Hid (∀ w', Tabs w' → Calls Tryd.prog 11 #[.string s] w' fun r w2 => ∃ d c, r = .returned (.tuple #[.slice d n c, .int .i64 er, .int .i64 at_]) ∧ TokAt d (toks s ts) w2 ∧ Below w'.heap.size w' w2) := Lib.hid fun w' h => (lex_at s w' hs h he).mono fun r w2 ⟨a, c, h1, h2, h3, h4, _, h6⟩ => ⟨a, c, by rw [hn1]; exact h1, h2, h6⟩
    have HV2 : Hid (∀ w', Calls Tryd.prog 12 #[.string s] w' fun r w2 => ∃ d c, r = .returned (.tuple #[.slice d n c, .int .i64 er, .int .i64 at_]) ∧ TokAt d (toks s ts) w2 ∧ Below w'.heap.size w' w2) := Lib.hid fun w' => (rlex_any s w').mono fun r w2 ⟨a, c, h1, h2, h6⟩ => ⟨a, c, by rw [hn1]; rw [he] at h1; exact h1, by rw [he] at h2; exact h2, h6⟩
    have HSM := Lib.hid (fun d e cd ce w' => same_any d e cd ce n (toks s ts) w' hnl (by rw [hn1]; exact hn))
    have e1 : ((er : Int) == (er : Int)) = true := by simp
    have e2 : ((at_ : Int) == (at_ : Int)) = true := by simp
    clear he hn hn1 hnl
    generalize toks s ts = L at *
    go_enter Tryd.func3, Tryd.ntmps3
    go_wp2_with (first
      | (go_at_call 10; (with_reducible refine HH.out.mono ?_); rintro _ w1 ⟨rfl, hb⟩; have HB := Lib.hid hb; clear hb)
      | (go_at_call 11; (with_reducible refine (HV1.out _ (HT.out.below HB.out)).mono ?_); rintro _ w2 ⟨d1, c1, rfl, z1, hb⟩; replace HB := Lib.hid (HB.out.trans (hb.mono HB.out.size)); have HZ1 := Lib.hid z1; clear hb z1)
      | (go_at_call 12; (with_reducible refine (HV2.out _).mono ?_); rintro _ w3 ⟨d2, c2, rfl, z2, hb⟩; replace HB := Lib.hid (HB.out.trans (hb.mono HB.out.size)); replace HZ1 := Lib.hid (HZ1.out.below hb); have HZ2 := Lib.hid z2; clear hb z2)
      | (go_at_call 13; (with_reducible refine (HSM.out _ _ _ _ _ HZ1.out HZ2.out).mono ?_); rintro _ w4 ⟨rfl, hb⟩; replace HB := Lib.hid (HB.out.trans (hb.below.mono HB.out.size)); clear hb))
    go_ret
    exact ⟨rfl, HB.out⟩
-- CARD
open Go.ChangeMaps (open_string shut_string)
set_option maxRecDepth 100000 in
theorem matches_lifted (os : Os) (started : os.Started) (H : Type) (enc : TypeId × Value → H) :
    ReturnsInHanded {} Tryd.checked os 3 .any (fun w args => (Rows.lexerMatchesReferenceSpec.pre enc Tryd.prog Tryd.f3 [] false w args ∧ laidMetH Tryd.prog laid w) ∧ sizedMet enc Tryd.prog Tryd.f3 (OpenSpec.ofChange Rows.lexerMatchesReferenceSpec) false w args)
      (Rows.lexerMatchesReferenceSpec.post enc Tryd.prog Tryd.f3 false true false false) := by
  refine returnsInHanded_of_change_and (C := Tryd.checked) (X := fun w _ => laidMetH Tryd.prog laid w) (fun _ _ _ hh h => h.of_heap hh) own started (by kernel_rfl) Tryd.func3
    (ChangeSpec.witness_shaped (enc := enc) (C := Tryd.checked) (os := os) (X := fun w _ => laidMetH Tryd.prog laid w) false (World.laidAll Tryd.prog os laid) #[.string ⟨#[]⟩] 8 (World.laidAll_os _ _ _)
      (World.shaped_of_ZipB (by kernel_rfl) (by kernel_rfl)) (by kernel_rfl) (by kernel_rfl) (by kernel_rfl) (met os _)) ?_
  intro W base args ds gs before hval0 hW _ _ hL _
  have hval : ∀ (j : Nat) t v, Tryd.f3.params[j]? = some t → args[j]? = some v → Value.okWide Tryd.prog W .any base t v := hval0
  have hW' := hW
  obtain ⟨p, q, hA0, hV, rfl, _, _⟩ := hW
  have hA : DataW.TrodAll enc Tryd.prog W 0 (fun _ => true) true Tryd.f3.params.toList args.toList ds p := hA0
  rw [Tryd.params3] at hA hval
  obtain ⟨v0, d0, rfl, rfl, h0⟩ := trodAll_one hA
  obtain ⟨rfl, rfl⟩ := trodVars_none hV
  obtain ⟨s0, rfl, rfl, rfl, hs0⟩ := open_string Tryd.underlying9 (hval 0 9 v0 rfl rfl) h0
  simp only [List.append_nil] at hW'
  refine (matches_walk s0 W hs0 (tabs_of hL)).mono fun e W' ⟨he, hb⟩ => ?_
  subst he
  exact ⟨_, rfl, _, _, _, [], [], [], hW', trodAll_mk1 (shut_bool Tryd.underlying4 _), trodAll_mk1 (shut_string Tryd.underlying9 hs0), rfl, hb.frame _, fun h => by cases h⟩
theorem matches_said : Rows.LexerMatchesReferenceSaid :=
  OpenClaim.holds_of_wide 3 Tryd.f3 rfl rfl rfl rfl rfl rfl rfl ⟨rfl, rfl, rfl, rfl, rfl⟩ rfl rfl rfl rfl rfl (by kernel_rfl) Tryd.func3 (by kernel_rfl)
    (of_decide_eq_true (by kernel_rfl)) (by unfold Func.isWrapper; first | (rw [if_pos (by decide +kernel)]; kernel_rfl) | (rw [if_neg (by decide +kernel)]; exact ⟨rfl, rfl⟩))
    (fun os started H enc _ => matches_lifted os started H enc)
theorem matches_plain (f : FuncId) (fn : Func) (hf : Tryd.pinned.checked.prog.funcNamed "wageoffice/wageofficelaw06.LexerMatchesReference" = some f) (hfn : Tryd.pinned.checked.prog.funcs[f]? = some fn) :
    false = Tryd.pinned.checked.prog.looks [] ∧ ∀ (j : Nat) t, fn.params[j]? = some t → Tryd.pinned.checked.prog.wantsStandIn t = false := by
  obtain rfl : f = 3 := Option.some.inj ((show Tryd.prog.funcNamed "wageoffice/wageofficelaw06.LexerMatchesReference" = some 3 by kernel_rfl).symm.trans hf) |>.symm
  obtain rfl : fn = Tryd.f3 := (Option.some.inj (Tryd.func3.symm.trans hfn)).symm
  refine ⟨by kernel_rfl, fun j t ht => ?_⟩
  rw [Tryd.params3] at ht
  obtain rfl : t = 9 := by simpa using Array.mem_of_getElem? ht
  exact (show Tryd.prog.wantsStandIn 9 = false by kernel_rfl)
theorem matches_holds : Rows.LexerMatchesReferenceCardSaid :=
  Claim7.holds_tied_plain_at .later [] _ _ _ _ matches_said (fun _ h => by cases h) (by kernel_rfl) (fun _ h => by cases h) lexerMatchesReference_row_tie rfl ⟨rfl, rfl⟩ (by kernel_rfl) rfl matches_plain (by kernel_rfl)
end Go.Proofs.YtlpombnmeioafaaDoor.Lx
