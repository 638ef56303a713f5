/- The law LexerCoverage returns true for every source: the given statement. Condition: the tables of classes and symbols hold what their initialisers lay (tied to the program's text). -/
import Derived.Test.YtlpombnmeioafaaDoorLexOk
import Derived.Deep.Cut
set_option linter.unusedVariables false
set_option linter.unusedSimpArgs false
namespace Go.Proofs.YtlpombnmeioafaaDoor.Lx
open Go Go.ChangeShapes Go.WideShapes Go.ChangeAt Go.RowKit Go.PlainAid
theorem white_eq (c : Int) : white c = (c == 32 || c == 9 || c == 10 || c == 13) := rfl
/-- Where the line that begins at an offset ends. -/
def lineE (s : ByteArray) (k : Nat) : Nat := k + runL (fun c => c != 10) ((bl s).drop k)
theorem lineE_le (s : ByteArray) (k : Nat) (h : k ≤ s.size) : k ≤ lineE s k ∧ lineE s k ≤ s.size := by
  have := runL_le (fun c => c != 10) ((bl s).drop k)
  rw [List.length_drop, bl_len] at this
  unfold lineE; omega
theorem lineE_in (s : ByteArray) (k j : Nat) (h1 : k ≤ j) (h2 : j < lineE s k) (h3 : j < s.size) : (bt s j != 10) = true := by
  unfold lineE at h2
  obtain ⟨c, hc, hp⟩ := runL_get (fun c => c != 10) ((bl s).drop k) (j - k) (by omega)
  rw [List.getElem?_drop, show k + (j - k) = j by omega, bl_get s j h3] at hc
  obtain rfl : bt s j = c := by simpa using hc
  exact hp
theorem lineE_at (s : ByteArray) (k : Nat) (h3 : lineE s k < s.size) : (bt s (lineE s k) != 10) = false := by
  refine runL_end (fun c => c != 10) ((bl s).drop k) _ ?_
  rw [List.getElem?_drop]
  exact bl_get s _ h3
/-- The rest of a gap. -/
def Rest (s : ByteArray) (k : Nat) : Prop := gapN false ((bl s).drop k) = s.size - k
theorem Rest.step {s : ByteArray} {k : Nat} (h : Rest s k) (hk : k < s.size) (hw : white (bt s k) = true) : Rest s (k + 1) := by
  unfold Rest at h ⊢
  rw [bl_cons s k hk, gapN_white hw] at h; omega
theorem Rest.slash {s : ByteArray} {k : Nat} (h : Rest s k) (hk : k < s.size) (hw : white (bt s k) = false) : k + 1 < s.size ∧ bt s k = 47 ∧ bt s (k + 1) = 47 ∧ Rest s (lineE s k) ∧ k + 1 < lineE s k := by
  have h0 := h
  unfold Rest at h
  rw [bl_cons s k hk] at h
  simp only [gapN, hw] at h
  rw [if_neg (by simp)] at h
  split at h
  · rename_i hc
    have hk1 : k + 1 < s.size := by
      rcases Nat.lt_or_ge (k + 1) s.size with q | q
      · exact q
      · rw [List.drop_of_length_le (by rw [bl_len]; omega)] at hc; simp at hc
    have h2 : bt s (k + 1) = 47 := by
      rw [bl_cons s (k + 1) hk1] at hc; simpa using hc.2
    have hp : pre [47, 47] ((bl s).drop k) = true := by
      rw [bl_cons s k hk, bl_cons s (k + 1) hk1, hc.1, h2]; rfl
    have hg := gapN_comment _ hp
    rw [List.drop_drop] at hg
    have hr : 2 ≤ runL (fun c => c != 10) ((bl s).drop k) := by
      rw [bl_cons s k hk, bl_cons s (k + 1) hk1, hc.1, h2]; simp [runL]
    refine ⟨hk1, hc.1, h2, ?_, by unfold lineE; omega⟩
    unfold Rest lineE
    unfold Rest at h0
    omega
  · omega
theorem four_false : ∀ {a b c d : Bool}, (a || b || c || d) = false → a = false ∧ b = false ∧ c = false ∧ d = false := by decide
set_option maxHeartbeats 4000000 in
theorem gap_any (s : ByteArray) (w : World) (hs : s.size ≤ 7000) (h : gapN false (bl s) = s.size) :
    Calls Tryd.prog 14 #[.string s] w fun e w' => e = .returned (.bool true) ∧ w = w' := by
  have HR := Lib.hid (show Rest s 0 by unfold Rest; rw [List.drop_zero, h]; rfl)
  have HB := Lib.hid (get_bt s)
  clear h
  go_enter Tryd.func14, Tryd.ntmps14
  go_wp2
  go_loopg [3] s.size (fun g n W => ∃ k : Nat, w = W ∧ g = s.size - k ∧ k ≤ s.size ∧ Hid (Rest s k) ∧ n = .int .i64 k)
  case atStart => exact ⟨0, rfl, rfl, Nat.zero_le _, HR, rfl⟩
  case round =>
    obtain ⟨k, rfl, hg, hk, hu, rfl⟩ := hrel
    have HG := Lib.hid hg
    clear hg
    by_cases hlt : k < s.size
    · have hgb := HB.out
      have b0 := bt_nonneg s k
      obtain ⟨p1, h1⟩ : ∃ p, (bt s k == 32) = p := ⟨_, rfl⟩
      obtain ⟨p2, h2⟩ : ∃ p, (bt s k == 9) = p := ⟨_, rfl⟩
      obtain ⟨p3, h3⟩ : ∃ p, (bt s k == 10) = p := ⟨_, rfl⟩
      obtain ⟨p4, h4⟩ : ∃ p, (bt s k == 13) = p := ⟨_, rfl⟩
      have hw : white (bt s k) = (p1 || p2 || p3 || p4) := by rw [white_eq, h1, h2, h3, h4]
      rcases Bool.eq_false_or_eq_true (white (bt s k)) with hv | hv
      · have HN := Lib.hid (hu.out.step hlt hv)
        rw [hw] at hv
        clear hw
        cases p1
        · cases p2
          · cases p3
            · cases p4
              · cases hv
              · clear hv
                go_wp2
                have hg2 := HG.out
                go_roundg (s.size - (k + 1))
                case measure => omega
                case rel => exact ⟨k + 1, rfl, rfl, by omega, HN, by go_num⟩
            · clear hv h4
              go_wp2
              have hg2 := HG.out
              go_roundg (s.size - (k + 1))
              case measure => omega
              case rel => exact ⟨k + 1, rfl, rfl, by omega, HN, by go_num⟩
          · clear hv h3 h4
            go_wp2
            have hg2 := HG.out
            go_roundg (s.size - (k + 1))
            case measure => omega
            case rel => exact ⟨k + 1, rfl, rfl, by omega, HN, by go_num⟩
        · clear hv h2 h3 h4
          go_wp2
          have hg2 := HG.out
          go_roundg (s.size - (k + 1))
          case measure => omega
          case rel => exact ⟨k + 1, rfl, rfl, by omega, HN, by go_num⟩
      · obtain ⟨s1, s2, s3, s4, s5⟩ := hu.out.slash hlt hv
        rw [hw] at hv
        clear hw
        have hq : p1 = false ∧ p2 = false ∧ p3 = false ∧ p4 = false := four_false hv
        obtain ⟨rfl, rfl, rfl, rfl⟩ := hq
        have t1 : (bt s k == 47) = true := by rw [s2]; rfl
        have t2 : (bt s (k + 1) == 47) = true := by rw [s3]; rfl
        have t3 : decide ((k : Int) + 1 < (s.size : Int)) = true := decide_eq_true (by omega)
        have t4 : (0 : Int) ≤ (k : Int) + 1 := by omega
        have t5 : ((k : Int) + 1).toNat = k + 1 := by omega
        have t6 : (k : Int) + 1 < (s.size : Int) := by omega
        obtain ⟨hl1, hl2⟩ := lineE_le s k hk
        have HI := Lib.hid (lineE_in s k)
        have HA := Lib.hid (lineE_at s k)
        have HS4 := Lib.hid s4
        clear s2 s3 s4 hv
        generalize lineE s k = E at *
        go_wp2
        go_loopg [3] (E - k) (fun g n W => ∃ j : Nat, w = W ∧ g = E - j ∧ k ≤ j ∧ j ≤ E ∧ n = .int .i64 j)
        case atStart => exact ⟨k, rfl, rfl, Nat.le_refl _, hl1, rfl⟩
        case round =>
          clear t1 t2 t3 t4 t5 t6 h1 h2 h3 h4
          obtain ⟨j, rfl, hg, hj1, hj2, rfl⟩ := hrel
          have HG3 := Lib.hid hg
          clear hg
          by_cases hje : j < E
          · have hjs : j < s.size := by omega
            have t1 := HI.out j hj1 hje hjs
            go_wp2
            have hg2 := HG3.out
            go_roundg (E - (j + 1))
            case measure => omega
            case rel => exact ⟨j + 1, rfl, rfl, by omega, by omega, by go_num⟩
          · obtain rfl : j = E := by omega
            by_cases hjs : j < s.size
            · have t1 := HA.out hjs
              go_wp2
              have hg2 := HG.out
              go_roundg (s.size - j)
              case measure => omega
              case rel => exact ⟨j, rfl, rfl, hl2, HS4, rfl⟩
            · go_wp2
              have hg2 := HG.out
              go_roundg (s.size - j)
              case measure => omega
              case rel => exact ⟨j, rfl, rfl, hl2, HS4, rfl⟩
    · go_wp2
      go_ret
      exact ⟨rfl, rfl⟩
theorem Chn.uniq {L : List Int} {e e1 e2 : Nat} {ts : List Tok} (h : Chn L e ts e1) (k : Chn L e ts e2) : e1 = e2 := by
  induction ts generalizing e with
  | nil => exact (show e1 = e from h).trans (show e2 = e from k).symm
  | cons t ts ih => exact ih h.2.2.2.2 k.2.2.2.2
theorem slice_any (s : ByteArray) (k j : Nat) (h1 : k ≤ j) (h : j ≤ s.size) (w : World) : (Instr.slice 9 (.string s) (some (.int .i64 k)) (some (.int .i64 j)) none).run Tryd.prog w = .ok (.string (s.extract k j)) w := by
  rw [run_slice_string_if _ _ _ _ _ _ _ Tryd.underlying9, if_pos (by omega), if_pos (by omega)]; rfl
theorem gap_ex {s : ByteArray} {e a : Nat} (he : e ≤ s.size) (ha : a = nx (bl s) e) (h2 : a ≤ s.size) : gapN false (bl (s.extract e a)) = (s.extract e a).size := by
  have h := gap_part (L := bl s) (e := e) (by rw [bl_len]; exact he)
  have e1 : bl (s.extract e a) = ((bl s).drop e).take (nx (bl s) e - e) := by rw [bl_extract, ← ha, List.drop_take]
  rw [e1, h, List.length_take, List.length_drop, bl_len, extract_size', ← ha]; omega
set_option maxHeartbeats 16000000 in
set_option maxRecDepth 100000 in
theorem coverage_walk (s : ByteArray) (w : World) (hs : s.size ≤ maxLen) (hT : Tabs w) :
    Calls Tryd.prog 4 #[.string s] w fun r w' => r = .returned (.bool true) ∧ Below w.heap.size w w' := by
  unfold maxLen at hs
  have HH := Lib.hid (head_any w hT)
  have HT := Lib.hid hT
  have hs' : s.size ≤ 9223372036854775807 := by omega
  by_cases hl : 7000 < s.size
  · have hd : decide ((7000 : Int) < (s.size : Int)) = true := decide_eq_true (by omega)
    clear hT hl
    go_enter Tryd.func4, Tryd.ntmps4
    go_wp2_with (go_at_call 10; (with_reducible refine HH.out.mono ?_); rintro _ w1 ⟨rfl, hb⟩; have HB := Lib.hid hb; clear hb)
    go_ret
    exact ⟨rfl, HB.out⟩
  · have hd : decide ((7000 : Int) < (s.size : Int)) = false := decide_eq_false (by omega)
    rcases lex_cases (bl s) with ⟨ts, he, hok⟩ | h2
    · have HL := Lib.hid (fun w' h => lex_at s w' hs' h he)
      obtain ⟨ho1, ho2, e9, hch, hend⟩ := hok
      rw [bl_len] at ho1 hend
      obtain ⟨n, hn⟩ : ∃ n, n = ts.length := ⟨_, rfl⟩
      have HL2 : Hid (∀ w', Tabs w' → Calls Tryd.prog 11 #[.string s] w' fun r w2 => ∃ a c, r = .returned (.tuple #[.slice a n c, .int .i64 0, .int .i64 0]) ∧ TokAt a (toks s ts) w2 ∧ Below w'.heap.size w' w2) := Lib.hid fun w' h => (HL.out w' h).mono fun r w2 ⟨a, c, h1, h2, _, _, _, h6⟩ => ⟨a, c, by rw [hn]; exact h1, h2, h6⟩
      have HC := Lib.hid hch
      have HE := Lib.hid hend
      have HN := Lib.hid hn
      have hn2 : n ≤ 2000 := by omega
      have hss : s.size ≤ 7000 := by omega
      clear hT he hl HL hch hend hn ho2
      go_enter Tryd.func4, Tryd.ntmps4
      go_wp2_with (first
        | (go_at_call 10; (with_reducible refine HH.out.mono ?_); rintro _ w1 ⟨rfl, hb⟩; have HB := Lib.hid hb; clear hb)
        | (go_at_call 11; (with_reducible refine (HL2.out _ (HT.out.below HB.out)).mono ?_); rintro _ w2 ⟨a1, c1, rfl, hta, hb⟩; replace HB := Lib.hid (HB.out.trans (hb.mono HB.out.size)); have HTA := Lib.hid hta; clear hb hta))
      go_loopw [7, 8] (fun a i W => ∃ k e : Nat, k ≤ n ∧ i = .int .i64 k ∧ a = .int .i64 e ∧ e ≤ s.size ∧ Hid (Chn (bl s) 0 (ts.take k) e) ∧ Hid (Below w2.heap.size w2 W)) (fun a i W => n - (intOf i).toNat)
      case atStart => exact ⟨0, 0, Nat.zero_le _, rfl, rfl, Nat.zero_le _, Lib.hid rfl, Lib.hid (Below.refl _ _)⟩
      case round =>
        obtain ⟨k, e, hk, rfl, rfl, hes, hCk, hBk⟩ := hrel
        by_cases hlt : k < n
        · obtain ⟨⟨κ, a, m⟩, ht⟩ : ∃ x, ts[k]? = some x := ⟨_, List.getElem?_eq_getElem (by rw [← HN.out]; exact hlt)⟩
          obtain ⟨e1, q1, q2, q3, q4, q5, q6⟩ := HC.out.get ht
          obtain rfl := q1.uniq hCk.out
          simp only at q2 q3 q4 q5
          rw [bl_len] at q3
          have hf := meas_facts q4 q5
          rw [List.length_drop, bl_len] at hf
          have hea : e1 ≤ a := by rw [q2]; exact nx_le _ _
          have ham : a + m ≤ s.size := by omega
          obtain ⟨T, hTx⟩ : ∃ T, T = s.extract a (a + m) := ⟨_, rfl⟩
          have hTs : T.size = m := by rw [hTx, extract_size']; omega
          obtain ⟨G, hG⟩ : ∃ G, G = s.extract e1 a := ⟨_, rfl⟩
          have hgp := gap_ex hes q2 (by omega)
          rw [← hG] at hgp
          have hGs : G.size ≤ 7000 := by rw [hG, extract_size']; omega
          have HGP := Lib.hid (fun W => gap_any G W hGs hgp)
          have hsl1 := fun W : World => slice_both s a m ham W
          rw [← hTx] at hsl1
          have hsl2 := fun W : World => slice_any s e1 a hea (by omega) W
          rw [← hG] at hsl2
          obtain ⟨g1, o1, rfl, t0, t1, t2⟩ := (HTA.out.below hBk.out) k (κ, T, a) (by unfold toks; rw [List.getElem?_map, ht, hTx]; rfl)
          have c1' : decide (a < e1) = false := decide_eq_false (by omega)
          have c1'' : decide ((a : Int) < (e1 : Int)) = false := decide_eq_false (by omega)
          have c2 : ((m : Int) == 0) = false := by simp; omega
          have c3 : decide ((s.size : Int) < (a : Int) + (m : Int)) = false := decide_eq_false (by omega)
          have c4 : (T.toList != T.toList) = false := by simp
          have c5 : decide ((κ : Int) < 1) = false := decide_eq_false (by omega)
          have c6 : decide ((6 : Int) < (κ : Int)) = false := decide_eq_false (by omega)
          have w1' : IntKind.i64.wrap ((a : Int) + (m : Int)) = (a : Int) + (m : Int) := IntWalk.i64_in _ (by omega)
          have hk0 : (0 : Int) ≤ (k : Int) := by omega
          have HCN : Hid (Chn (bl s) 0 (ts.take (k + 1)) (a + m)) := Lib.hid (HC.out.part ht)
          have HZ := Lib.hid (And.intro hea (And.intro ham hf))
          clear hTx hG hgp q1 q2 q3 q4 q5 q6 ht hf hea
          go_upto_region 13 with (fail)
          go_quiet ((go_at_call 14; exact Calls.quiet_of_same ((HGP.out _).mono fun _ _ h => ⟨h.1, h.2.symm⟩)))
          go_wp2
          go_roundw
          case rel => exact ⟨k + 1, a + m, by omega, by go_num, rfl, HZ.out.2.1, HCN, Lib.hid (hBk.out.trans (((((Below.refl _ _).alloc (Nat.le_refl _) _)).trans (Drw.below ⟨_, rfl⟩ |>.mono (by simp))).mono hBk.out.size))⟩
          case measure => simp [intOf]; omega
        · obtain rfl : k = n := by omega
          have hee : e = e9 := by
            have h1 := hCk.out
            rw [List.take_of_length_le (by rw [← HN.out]; exact Nat.le_refl _)] at h1
            exact h1.uniq HC.out
          have HGP := Lib.hid (fun W => gap_any (s.extract e s.size) W (by rw [extract_size']; omega) (by
            rw [bl_rest s e hes, extract_size']
            have h1 := HE.out
            rw [← hee] at h1
            unfold nx at h1; omega))
          clear hee
          go_wp2_with (go_at_call 14; (with_reducible refine (HGP.out _).mono ?_); rintro _ w ⟨rfl, rfl⟩)
          go_ret
          exact ⟨rfl, HB.out.trans (hBk.out.mono HB.out.size)⟩
    · obtain ⟨er, at_, he, hne⟩ : ∃ er at_ : Nat, lexL (bl s) = ([], er, at_) ∧ er ≠ 0 := by
        rcases h2 with ⟨_, he⟩ | ⟨ts, e', er, at_, _, he, _, _, _, _, hor⟩
        · exact ⟨2, 0, he, by decide⟩
        · exact ⟨er, at_, he, by omega⟩
      have HL := Lib.hid (fun w' h => lex_at s w' hs' h he)
      have hne' : ((er : Int) != 0) = true := by simp; omega
      clear hT he hl h2 hne
      go_enter Tryd.func4, Tryd.ntmps4
      go_wp2_with (first
        | (go_at_call 10; (with_reducible refine HH.out.mono ?_); rintro _ w1 ⟨rfl, hb⟩; have HB := Lib.hid hb; clear hb)
        | (go_at_call 11; (with_reducible refine (HL.out _ (HT.out.below HB.out)).mono ?_); rintro _ w2 ⟨a1, c1, rfl, -, -, -, -, hb⟩; replace HB := Lib.hid (HB.out.trans (hb.mono HB.out.size)); clear hb))
      go_ret
      exact ⟨rfl, HB.out⟩
-- CARD
open Go.ChangeMaps (open_string shut_string)
set_option maxRecDepth 100000 in
theorem coverage_lifted (os : Os) (started : os.Started) (H : Type) (enc : TypeId × Value → H) :
    ReturnsInHanded {} Tryd.checked os 4 .any (fun w args => (Rows.lexerCoverageSpec.pre enc Tryd.prog Tryd.f4 [] false w args ∧ laidMetH Tryd.prog laid w) ∧ sizedMet enc Tryd.prog Tryd.f4 (OpenSpec.ofChange Rows.lexerCoverageSpec) false w args)
      (Rows.lexerCoverageSpec.post enc Tryd.prog Tryd.f4 false true false false) := by
  refine returnsInHanded_of_change_and (C := Tryd.checked) (X := fun w _ => laidMetH Tryd.prog laid w) (fun _ _ _ hh h => h.of_heap hh) own started (by kernel_rfl) Tryd.func4
    (ChangeSpec.witness_shaped (enc := enc) (C := Tryd.checked) (os := os) (X := fun w _ => laidMetH Tryd.prog laid w) false (World.laidAll Tryd.prog os laid) #[.string ⟨#[]⟩] 8 (World.laidAll_os _ _ _)
      (World.shaped_of_ZipB (by kernel_rfl) (by kernel_rfl)) (by kernel_rfl) (by kernel_rfl) (by kernel_rfl) (met os _)) ?_
  intro W base args ds gs before hval0 hW _ _ hL _
  have hval : ∀ (j : Nat) t v, Tryd.f4.params[j]? = some t → args[j]? = some v → Value.okWide Tryd.prog W .any base t v := hval0
  have hW' := hW
  obtain ⟨p, q, hA0, hV, rfl, _, _⟩ := hW
  have hA : DataW.TrodAll enc Tryd.prog W 0 (fun _ => true) true Tryd.f4.params.toList args.toList ds p := hA0
  rw [Tryd.params4] at hA hval
  obtain ⟨v0, d0, rfl, rfl, h0⟩ := trodAll_one hA
  obtain ⟨rfl, rfl⟩ := trodVars_none hV
  obtain ⟨s0, rfl, rfl, rfl, hs0⟩ := open_string Tryd.underlying9 (hval 0 9 v0 rfl rfl) h0
  simp only [List.append_nil] at hW'
  refine (coverage_walk s0 W hs0 (tabs_of hL)).mono fun e W' ⟨he, hb⟩ => ?_
  subst he
  exact ⟨_, rfl, _, _, _, [], [], [], hW', trodAll_mk1 (shut_bool Tryd.underlying4 _), trodAll_mk1 (shut_string Tryd.underlying9 hs0), rfl, hb.frame _, fun h => by cases h⟩
theorem coverage_said : Rows.LexerCoverageSaid :=
  OpenClaim.holds_of_wide 4 Tryd.f4 rfl rfl rfl rfl rfl rfl rfl ⟨rfl, rfl, rfl, rfl, rfl⟩ rfl rfl rfl rfl rfl (by kernel_rfl) Tryd.func4 (by kernel_rfl)
    (of_decide_eq_true (by kernel_rfl)) (by unfold Func.isWrapper; first | (rw [if_pos (by decide +kernel)]; kernel_rfl) | (rw [if_neg (by decide +kernel)]; exact ⟨rfl, rfl⟩))
    (fun os started H enc _ => coverage_lifted os started H enc)
theorem coverage_plain (f : FuncId) (fn : Func) (hf : Tryd.pinned.checked.prog.funcNamed "wageoffice/wageofficelaw06.LexerCoverage" = some f) (hfn : Tryd.pinned.checked.prog.funcs[f]? = some fn) :
    false = Tryd.pinned.checked.prog.looks [] ∧ ∀ (j : Nat) t, fn.params[j]? = some t → Tryd.pinned.checked.prog.wantsStandIn t = false := by
  obtain rfl : f = 4 := Option.some.inj ((show Tryd.prog.funcNamed "wageoffice/wageofficelaw06.LexerCoverage" = some 4 by kernel_rfl).symm.trans hf) |>.symm
  obtain rfl : fn = Tryd.f4 := (Option.some.inj (Tryd.func4.symm.trans hfn)).symm
  refine ⟨by kernel_rfl, fun j t ht => ?_⟩
  rw [Tryd.params4] at ht
  obtain rfl : t = 9 := by simpa using Array.mem_of_getElem? ht
  exact (show Tryd.prog.wantsStandIn 9 = false by kernel_rfl)
theorem coverage_holds : Rows.LexerCoverageCardSaid :=
  Claim7.holds_tied_plain_at .later [] _ _ _ _ coverage_said (fun _ h => by cases h) (by kernel_rfl) (fun _ h => by cases h) lexerCoverage_row_tie rfl ⟨rfl, rfl⟩ (by kernel_rfl) rfl coverage_plain (by kernel_rfl)
end Go.Proofs.YtlpombnmeioafaaDoor.Lx
