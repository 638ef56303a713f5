/- The law LexerPrefixes returns true for every source and number: the given statement. Condition: the tables of classes and symbols hold what their initialisers lay (tied to the program's text). -/
import Derived.Test.YtlpombnmeioafaaDoorLexOk
import Derived.Test.YtlpombnmeioafaaDoorLexSame
import Derived.Deep.Cut
set_option linter.unusedVariables false
set_option linter.unusedSimpArgs false
namespace Go.Proofs.YtlpombnmeioafaaDoor.Lx
open Go Go.ChangeShapes Go.WideShapes Go.ChangeAt Go.RowKit Go.PlainAid
theorem bl_pre0 (s : ByteArray) (k : Nat) : bl (s.extract 0 k) = (bl s).take k := by rw [bl_extract, List.drop_zero]
theorem ex_ex (s : ByteArray) (e b q : Nat) (h : b + q ≤ e) : (s.extract 0 e).extract b (b + q) = s.extract b (b + q) := by
  apply bytes_eq
  rw [bl_extract, bl_extract, bl_extract, List.drop_zero, List.take_take, Nat.min_eq_left h]
theorem Chn.ends {L : List Int} {e e' : Nat} {ts : List Tok} (h : Chn L e ts e') : ∀ t ∈ ts, t.2.1 + t.2.2 ≤ e' := by
  induction ts generalizing e with
  | nil => intro t ht; cases ht
  | cons u ts ih =>
    intro t ht
    rcases List.mem_cons.1 ht with rfl | ht
    · exact h.2.2.2.2.le
    · exact ih h.2.2.2.2 t ht
theorem toks_prefix (s : ByteArray) (ts : List Tok) (e : Nat) (h : ∀ t ∈ ts, t.2.1 + t.2.2 ≤ e) : toks (s.extract 0 e) ts = toks s ts := by
  unfold toks
  refine List.map_congr_left fun t ht => ?_
  show (t.1, (s.extract 0 e).extract t.2.1 (t.2.1 + t.2.2), t.2.1) = (t.1, s.extract t.2.1 (t.2.1 + t.2.2), t.2.1)
  rw [ex_ex s e t.2.1 t.2.2 (h t ht)]
theorem TokAt.take {a : Option Addr} {l : List ATok} {w : World} (h : TokAt a l w) (k : Nat) : TokAt a (l.take k) w := fun i x hx => by
  rw [List.getElem?_take] at hx
  split at hx
  · exact h i x hx
  · cases hx
theorem slice_to (s : ByteArray) (a m : Nat) (h : a + m ≤ s.size) (w : World) : (Instr.slice 9 (.string s) none (some (.int .i64 ((a : Int) + (m : Int)))) none).run Tryd.prog w = .ok (.string (s.extract 0 (a + m))) w := by
  rw [run_slice_string_h w _ s Tryd.underlying9 _ _ (by omega) (by omega)]; rfl
set_option maxHeartbeats 16000000 in
set_option maxRecDepth 100000 in
theorem prefixes_walk (s : ByteArray) (q : Int) (w : World) (hs : s.size ≤ maxLen) (q0 : 0 ≤ q) (q1 : q ≤ 65535) (hT : Tabs w) :
    Calls Tryd.prog 5 #[.string s, .int .u16 q] w fun r w' => r = .returned (.bool true) ∧ Below w.heap.size w w' := by
  unfold maxLen at hs
  have HH := Lib.hid (head_any w hT)
  have HT := Lib.hid hT
  have hs' : s.size ≤ 9223372036854775807 := by omega
  obtain ⟨c, rfl⟩ : ∃ c : Nat, q = c := ⟨q.toNat, by omega⟩
  have hc1 : c ≤ 65535 := by omega
  clear q0 q1
  by_cases hl : 7000 < s.size
  · have hd : decide ((7000 : Int) < (s.size : Int)) = true := decide_eq_true (by omega)
    clear hT hl
    go_enter Tryd.func5, Tryd.ntmps5
    go_wp2_with (go_at_call 10; (with_reducible refine HH.out.mono ?_); rintro _ w1 ⟨rfl, hb⟩; have HB := Lib.hid hb; clear hb)
    go_ret
    exact ⟨rfl, HB.out⟩
  · have hd : decide ((7000 : Int) < (s.size : Int)) = false := decide_eq_false (by omega)
    have hgood : (∃ ts, lexL (bl s) = (ts, 0, 0) ∧ Ok (bl s) ts ∧ 0 < ts.length) ∨ (∃ er at_ : Nat, lexL (bl s) = ([], er, at_)) := by
      rcases lex_cases (bl s) with ⟨ts, he, hok⟩ | ⟨_, he⟩ | ⟨ts, e', er, at_, _, he, _⟩
      · rcases Nat.eq_zero_or_pos ts.length with h | h
        · right
          rw [List.length_eq_zero_iff.1 h] at he
          exact ⟨0, 0, he⟩
        · exact .inl ⟨ts, he, hok, h⟩
      · exact .inr ⟨2, 0, he⟩
      · exact .inr ⟨er, at_, he⟩
    rcases hgood with ⟨ts, he, hok, hpos⟩ | ⟨er, at_, he⟩
    · have HL := Lib.hid (fun w' h => lex_at s w' hs' h he)
      obtain ⟨n, hn⟩ : ∃ n, n = ts.length := ⟨_, rfl⟩
      have hn0 : 0 < n := by omega
      have hn2 : n ≤ 2000 := by have := hok.2.1; omega
      have hn00 : ((n : Int) == 0) = false := by simp; omega
      obtain ⟨K, hK⟩ : ∃ K, K = c % n := ⟨_, rfl⟩
      have hKn : K < n := by rw [hK]; exact Nat.mod_lt _ hn0
      have hr1 : (c : Int) % (n : Int) = (K : Int) := by rw [hK]; exact (Int.natCast_emod c n).symm
      have hr2 : Int.tmod (c : Int) (n : Int) = (K : Int) := by rw [Int.tmod_eq_emod_of_nonneg (by omega)]; exact hr1
      obtain ⟨⟨κ, a, m⟩, ht⟩ : ∃ x, ts[K]? = some x := ⟨_, List.getElem?_eq_getElem (by omega)⟩
      obtain ⟨-, ho2, e9, hch, hend⟩ := id hok
      obtain ⟨e1, q1, q2, q3, q4, q5, q6⟩ := hch.get ht
      have hf := meas_facts q4 q5
      simp only at q3 hf
      rw [bl_len] at q3
      rw [List.length_drop, bl_len] at hf
      have ham : a + m ≤ s.size := by omega
      obtain ⟨P, hP⟩ : ∃ P, P = s.extract 0 (a + m) := ⟨_, rfl⟩
      have hPs : P.size ≤ 7000 := by rw [hP, extract_size']; omega
      have hok2 := ok_prefix hok ht
      simp only at hok2
      rw [← bl_pre0, ← hP] at hok2
      have hL2 := fun w' h => lex_at P w' (by omega) h (ok_lex hok2)
      have htk : toks P (ts.take (K + 1)) = (toks s ts).take (K + 1) := by
        have h1 := (hch.part ht).ends
        rw [hP, toks_prefix s _ _ h1]; unfold toks; rw [List.map_take]
      have hlen : (ts.take (K + 1)).length = K + 1 := by rw [List.length_take]; omega
      have HL1 : Hid (∀ w', Tabs w' → Calls Tryd.prog 11 #[.string s] w' fun r w2 => ∃ b c1, r = .returned (.tuple #[.slice b n c1, .int .i64 0, .int .i64 0]) ∧ TokAt b (toks s ts) w2 ∧ n ≤ c1 ∧ Below w'.heap.size w' w2) := Lib.hid fun w' h => (HL.out w' h).mono fun r w2 ⟨a, c, h1, h2, _, h4, _, h6⟩ => ⟨a, c, by rw [hn]; exact h1, h2, by rw [hn]; exact h4, h6⟩
      have HL2 : Hid (∀ w', Tabs w' → Calls Tryd.prog 11 #[.string P] w' fun r w2 => ∃ b c1, r = .returned (.tuple #[.slice b (K + 1) c1, .int .i64 0, .int .i64 0]) ∧ TokAt b ((toks s ts).take (K + 1)) w2 ∧ Below w'.heap.size w' w2) := Lib.hid fun w' h => (hL2 w' h).mono fun r w2 ⟨a, c, h1, h2, _, h4, _, h6⟩ => ⟨a, c, by rw [hlen] at h1; exact h1, by rw [htk] at h2; exact h2, h6⟩
      obtain ⟨T, hTx⟩ : ∃ T, T = s.extract a (a + m) := ⟨_, rfl⟩
      have hTs : T.size = m := by rw [hTx, extract_size']; omega
      have hx : (toks s ts)[K]? = some (κ, T, a) := by unfold toks; rw [List.getElem?_map, ht, hTx]; rfl
      have hln : (toks s ts).length = n := by rw [toks_len, hn]
      have hsl := slice_to s a m ham
      rw [← hP] at hsl
      clear hL2 htk hlen hok2 hTx hP ht q1 q2 q4 q5 q6 hch hend HL hok ho2 he hpos hT hl hn hK
      generalize toks s ts = L at *
      have HX := Lib.hid hx
      have HLN := Lib.hid hln
      have HSM := Lib.hid (fun b d cb cd w' => same_any b d cb cd (K + 1) (L.take (K + 1)) w' (by rw [List.length_take]; omega) (by omega))
      have w1' : IntKind.i64.wrap ((a : Int) + (m : Int)) = (a : Int) + (m : Int) := IntWalk.i64_in _ (by omega)
      have w2' : IntKind.i64.wrap ((K : Int) + 1) = (K : Int) + 1 := IntWalk.i64_in _ (by omega)
      have d1 : decide ((a : Int) < 0) = false := decide_eq_false (by omega)
      have d2 : decide ((s.size : Int) < (a : Int) + (m : Int)) = false := decide_eq_false (by omega)
      have hk0 : (0 : Int) ≤ (K : Int) := by omega
      have k1 : (0 : Int) ≤ (K : Int) + 1 := by omega
      have k2 : ((K : Int) + 1).toNat = K + 1 := by omega
      clear hx hln hf q3 ham
      go_enter Tryd.func5, Tryd.ntmps5
      go_upto_region 8 with (first
        | (go_at_call 10; (with_reducible refine HH.out.mono ?_); rintro _ w1 ⟨rfl, hb⟩; have HB := Lib.hid hb; clear hb)
        | (go_at_call 11; (with_reducible refine (HL1.out _ (HT.out.below HB.out)).mono ?_); rintro _ w2 ⟨a1, c1, rfl, hta, hcap, hb⟩; replace HB := Lib.hid (HB.out.trans (hb.mono HB.out.size)); have HTA := Lib.hid hta; clear hb hta))
      obtain ⟨g1, o1, rfl, t0, t1, t2⟩ := HTA.out K (κ, T, a) HX.out
      go_quiet (fail)
      have HB2 := Lib.hid (HB.out.trans ((Drw.below ⟨nq, rfl⟩).mono HB.out.size))
      have HTA2 := Lib.hid (HTA.out.below (Drw.below ⟨nq, rfl⟩))
      clear t0 t1 t2
      generalize w2.drewN nq = W3 at *
      obtain ⟨g2, o2, e, t0, t1, t2⟩ := HTA2.out K (κ, T, a) HX.out
      obtain ⟨rfl, rfl⟩ : g1 = g2 ∧ o1 = o2 := by cases e; exact ⟨rfl, rfl⟩
      clear e t0 t1
      go_wp2_with (first
        | (go_at_call 11; (with_reducible refine (HL2.out _ (HT.out.below HB2.out)).mono ?_); rintro _ w4 ⟨a4, c4, rfl, hta, hb⟩; have HB4 := Lib.hid (HB2.out.trans (hb.mono HB2.out.size)); have HTB := Lib.hid hta; have HTC := Lib.hid ((HTA2.out.below hb).take (K + 1)); clear hb hta t2)
        | (go_at_call 13; (with_reducible refine (HSM.out _ _ _ _ _ HTB.out HTC.out).mono ?_); rintro _ w5 ⟨rfl, hb⟩; have HB5 := Lib.hid (HB4.out.trans (hb.below.mono HB4.out.size)); clear hb))
      go_ret
      exact ⟨rfl, HB5.out⟩
    · have HL := Lib.hid (fun w' h => lex_at s w' hs' h he)
      clear hT he hl
      obtain ⟨b, hb⟩ : ∃ b, ((er : Int) != 0) = b := ⟨_, rfl⟩
      cases b
      all_goals
        go_enter Tryd.func5, Tryd.ntmps5
        go_wp2_with (first
          | (go_at_call 10; (with_reducible refine HH.out.mono ?_); rintro _ w1 ⟨rfl, hb⟩; have HB := Lib.hid hb; clear hb)
          | (go_at_call 11; (with_reducible refine (HL.out _ (HT.out.below HB.out)).mono ?_); rintro _ w2 ⟨a1, c1, rfl, -, -, -, -, hb⟩; replace HB := Lib.hid (HB.out.trans (hb.mono HB.out.size)); clear hb))
        go_ret
        exact ⟨rfl, HB.out⟩
-- CARD
open Go.ChangeMaps (open_string shut_string)
set_option maxRecDepth 100000 in
theorem prefixes_lifted (os : Os) (started : os.Started) (H : Type) (enc : TypeId × Value → H) :
    ReturnsInHanded {} Tryd.checked os 5 .any (fun w args => (Rows.lexerPrefixesSpec.pre enc Tryd.prog Tryd.f5 [] false w args ∧ laidMetH Tryd.prog laid w) ∧ sizedMet enc Tryd.prog Tryd.f5 (OpenSpec.ofChange Rows.lexerPrefixesSpec) false w args)
      (Rows.lexerPrefixesSpec.post enc Tryd.prog Tryd.f5 false true false false) := by
  refine returnsInHanded_of_change_and (C := Tryd.checked) (X := fun w _ => laidMetH Tryd.prog laid w) (fun _ _ _ hh h => h.of_heap hh) own started (by kernel_rfl) Tryd.func5
    (ChangeSpec.witness_shaped (enc := enc) (C := Tryd.checked) (os := os) (X := fun w _ => laidMetH Tryd.prog laid w) false (World.laidAll Tryd.prog os laid) #[.string ⟨#[]⟩, .int .u16 0] 8 (World.laidAll_os _ _ _)
      (World.shaped_of_ZipB (by kernel_rfl) (by kernel_rfl)) (by kernel_rfl) (by kernel_rfl) (by kernel_rfl) (met os _)) ?_
  intro W base args ds gs before hval0 hW _ _ hL _
  have hval : ∀ (j : Nat) t v, Tryd.f5.params[j]? = some t → args[j]? = some v → Value.okWide Tryd.prog W .any base t v := hval0
  have hW' := hW
  obtain ⟨p, q, hA0, hV, rfl, _, _⟩ := hW
  have hA : DataW.TrodAll enc Tryd.prog W 0 (fun _ => true) true Tryd.f5.params.toList args.toList ds p := hA0
  rw [Tryd.params5] at hA hval
  obtain ⟨v0, v1, d0, d1, p0, p1, rfl, rfl, rfl, h0, h1⟩ := trodAll_two hA
  obtain ⟨rfl, rfl⟩ := trodVars_none hV
  obtain ⟨s0, rfl, rfl, rfl, hs0⟩ := open_string Tryd.underlying9 (hval 0 9 v0 rfl rfl) h0
  obtain ⟨x1, rfl, rfl, rfl, wx1⟩ := open_int Tryd.underlying31 (hval 1 31 v1 rfl rfl) h1
  have bx1 := bounds_u16 wx1
  simp only [List.append_nil] at hW'
  refine (prefixes_walk s0 x1 W hs0 bx1.1 bx1.2 (tabs_of hL)).mono fun e W' ⟨he, hb⟩ => ?_
  subst he
  exact ⟨_, rfl, _, _, _, [], [], [], hW', trodAll_mk1 (shut_bool Tryd.underlying4 _), trodAll_mk2 (shut_string Tryd.underlying9 hs0) (shut_int Tryd.underlying31 wx1), rfl, hb.frame _, fun h => by cases h⟩
theorem prefixes_said : Rows.LexerPrefixesSaid :=
  OpenClaim.holds_of_wide 5 Tryd.f5 rfl rfl rfl rfl rfl rfl rfl ⟨rfl, rfl, rfl, rfl, rfl⟩ rfl rfl rfl rfl rfl (by kernel_rfl) Tryd.func5 (by kernel_rfl)
    (of_decide_eq_true (by kernel_rfl)) (by unfold Func.isWrapper; first | (rw [if_pos (by decide +kernel)]; kernel_rfl) | (rw [if_neg (by decide +kernel)]; exact ⟨rfl, rfl⟩))
    (fun os started H enc _ => prefixes_lifted os started H enc)
theorem prefixes_plain (f : FuncId) (fn : Func) (hf : Tryd.pinned.checked.prog.funcNamed "wageoffice/wageofficelaw06.LexerPrefixes" = some f) (hfn : Tryd.pinned.checked.prog.funcs[f]? = some fn) :
    false = Tryd.pinned.checked.prog.looks [] ∧ ∀ (j : Nat) t, fn.params[j]? = some t → Tryd.pinned.checked.prog.wantsStandIn t = false := by
  obtain rfl : f = 5 := Option.some.inj ((show Tryd.prog.funcNamed "wageoffice/wageofficelaw06.LexerPrefixes" = some 5 by kernel_rfl).symm.trans hf) |>.symm
  obtain rfl : fn = Tryd.f5 := (Option.some.inj (Tryd.func5.symm.trans hfn)).symm
  refine ⟨by kernel_rfl, fun j t ht => ?_⟩
  rw [Tryd.params5] at ht
  have hm := Array.mem_of_getElem? ht
  simp only [List.mem_toArray, List.mem_cons, List.not_mem_nil, or_false] at hm
  rcases hm with rfl | rfl
  · exact (show Tryd.prog.wantsStandIn 9 = false by kernel_rfl)
  · exact (show Tryd.prog.wantsStandIn 31 = false by kernel_rfl)
theorem prefixes_holds : Rows.LexerPrefixesCardSaid :=
  Claim7.holds_tied_plain_at .later [] _ _ _ _ prefixes_said (fun _ h => by cases h) (by kernel_rfl) (fun _ h => by cases h) lexerPrefixes_row_tie rfl ⟨rfl, rfl⟩ (by kernel_rfl) rfl prefixes_plain (by kernel_rfl)
end Go.Proofs.YtlpombnmeioafaaDoor.Lx
