/- What package lexer's measure and afterGap return for every text. Conditions: the tables of classes and symbols hold what their initialisers lay; texts of at most 7000 bytes; measure is asked at a text that is not empty, afterGap at an offset within the text. -/
import Derived.Test.YtlpombnmeioafaaDoorLexSym
set_option linter.unusedVariables false
set_option linter.unusedSimpArgs false
namespace Go.Proofs.YtlpombnmeioafaaDoor.Lx
open Go.RowKit Go.PlainAid
theorem meas_eq {l : List Int} {c : Int} {r : List Int} (h : l = c :: r) {b1 b2 b3 : Bool} (h1 : b1 = lo c) (h2 : b2 = up c) (h3 : b3 = dg c) : meas l = if b1 = true then mName l else if b2 = true then mCur l else if b3 = true then mDig l else mSym l := by
  subst h h1 h2 h3; rfl
set_option maxHeartbeats 2000000 in
theorem measure_any (s : ByteArray) (w : World) (hs : s.size ≤ 7000) (hp : 0 < s.size) (hT : Tabs w) :
    Calls Tryd.prog 24 #[.string s] w fun e w' => e = .returned (kn (meas (bl s))) ∧ Drw w w' := by
  obtain ⟨b1, hb1⟩ : ∃ b, b = lo (bt s 0) := ⟨_, rfl⟩
  obtain ⟨b2, hb2⟩ : ∃ b, b = up (bt s 0) := ⟨_, rfl⟩
  obtain ⟨b3, hb3⟩ : ∃ b, b = dg (bt s 0) := ⟨_, rfl⟩
  obtain ⟨r, hr⟩ := bl_head s hp
  have HM := Lib.hid (meas_eq hr hb1 hb2 hb3)
  have b0 := bt_nonneg s 0
  have bq := bt_le s 0
  have HB := Lib.hid (get_bt s)
  have hc := blg_cls b0 bq
  have H1 := Lib.hid (belongs_any (bt s 0) 16 w b0 bq hT.c)
  have H2 := Lib.hid (belongs_any (bt s 0) 4 w b0 bq hT.c)
  have H3 := Lib.hid (belongs_any (bt s 0) 2 w b0 bq hT.c)
  rw [hc.2.2.2.1, ← hb1] at H1
  rw [hc.2.2.1, ← hb2] at H2
  rw [hc.2.1, ← hb3] at H3
  have K1 := Lib.hid (name_any s w hs hT.c)
  have K2 := Lib.hid (cur_any s w hs hT.c)
  have K3 := Lib.hid (mdig_any s w hs hT.c)
  have K4 := Lib.hid (sym_any s w hs hT)
  clear hb1 hb2 hb3 hr hc hT
  have HD := Lib.hid (Drw.refl w)
  have hgb := HB.out
  cases b1
  · rw [if_neg (by simp)] at HM
    cases b2
    · rw [if_neg (by simp)] at HM
      cases b3
      · rw [if_neg (by simp)] at HM
        rw [← HM.out] at K4
        generalize meas (bl s) = M at *
        go_enter Tryd.func24, Tryd.ntmps24
        go_wp2_with (first | ((with_reducible refine H1.out.mono ?_); rintro e w ⟨rfl, rfl⟩) | ((with_reducible refine H2.out.mono ?_); rintro e w ⟨rfl, rfl⟩) | ((with_reducible refine H3.out.mono ?_); rintro e w ⟨rfl, rfl⟩) | ((with_reducible refine K4.out.mono ?_); rintro e w ⟨rfl, rfl⟩))
        go_ret2
        exact ⟨rfl, HD.out⟩
      · rw [if_pos rfl] at HM
        rw [← HM.out] at K3
        generalize meas (bl s) = M at *
        go_enter Tryd.func24, Tryd.ntmps24
        go_wp2_with (first | ((with_reducible refine H1.out.mono ?_); rintro e w ⟨rfl, rfl⟩) | ((with_reducible refine H2.out.mono ?_); rintro e w ⟨rfl, rfl⟩) | ((with_reducible refine H3.out.mono ?_); rintro e w ⟨rfl, rfl⟩) | ((with_reducible refine K3.out.mono ?_); rintro e w1 ⟨rfl, hd⟩; replace HD := Lib.hid hd; clear hd))
        go_ret2
        exact ⟨rfl, HD.out⟩
    · rw [if_pos rfl] at HM
      rw [← HM.out] at K2
      generalize meas (bl s) = M at *
      go_enter Tryd.func24, Tryd.ntmps24
      go_wp2_with (first | ((with_reducible refine H1.out.mono ?_); rintro e w ⟨rfl, rfl⟩) | ((with_reducible refine H2.out.mono ?_); rintro e w ⟨rfl, rfl⟩) | ((with_reducible refine K2.out.mono ?_); rintro e w ⟨rfl, rfl⟩))
      go_ret2
      exact ⟨rfl, HD.out⟩
  · rw [if_pos rfl] at HM
    rw [← HM.out] at K1
    generalize meas (bl s) = M at *
    go_enter Tryd.func24, Tryd.ntmps24
    go_wp2_with (first | ((with_reducible refine H1.out.mono ?_); rintro e w ⟨rfl, rfl⟩) | ((with_reducible refine K1.out.mono ?_); rintro e w ⟨rfl, rfl⟩))
    go_ret2
    exact ⟨rfl, HD.out⟩
theorem bl_rest (s : ByteArray) (k : Nat) (hk : k ≤ s.size) : bl (s.extract k s.size) = (bl s).drop k := by
  rw [bl_extract, List.take_of_length_le (by rw [bl_len]; omega)]
theorem nx_white {s : ByteArray} {k : Nat} (hk : k < s.size) (h : white (bt s k) = true) : nx (bl s) (k + 1) = nx (bl s) k := by
  unfold nx; rw [bl_cons s k hk, gapN_white h]; omega
theorem nx_comment {s : ByteArray} {k : Nat} (h : pre [47, 47] ((bl s).drop k) = true) : nx (bl s) (k + runL (fun c => c != 10) ((bl s).drop k)) = nx (bl s) k := by
  unfold nx
  have := gapN_comment _ h
  rw [List.drop_drop] at this
  omega
theorem nx_stop {s : ByteArray} {k : Nat} (hk : k < s.size) (h1 : white (bt s k) = false) (h2 : pre [47, 47] ((bl s).drop k) = false) : nx (bl s) k = k := by
  unfold nx
  rw [gapN_none _ h2]; · rfl
  · intro c hc
    rw [bl_cons s k hk] at hc
    obtain rfl : bt s k = c := by simpa using hc
    exact h1
theorem nx_end {s : ByteArray} {k : Nat} (hk : s.size ≤ k) : nx (bl s) k = k := by
  unfold nx; rw [List.drop_of_length_le (by rw [bl_len]; omega)]; rfl
theorem extract_size' (s : ByteArray) (a b : Nat) : (s.extract a b).size = min b s.size - a := ByteArray.size_extract
set_option maxHeartbeats 4000000 in
theorem afterGap_any (s : ByteArray) (k0 : Nat) (w : World) (hs : s.size ≤ 7000) (hk0 : k0 ≤ s.size) (hT : Tabs w) :
    Calls Tryd.prog 23 #[.string s, .int .i64 k0] w fun e w' => e = .returned (.int .i64 (nx (bl s) k0)) ∧ Drw w w' := by
  obtain ⟨T, hTT⟩ : ∃ T, T = nx (bl s) k0 := ⟨_, rfl⟩
  have HTT := Lib.hid hTT
  rw [← hTT]
  clear hTT
  have HT := Lib.hid hT
  have HB := Lib.hid (get_bt s)
  clear hT
  go_enter Tryd.func23, Tryd.ntmps23
  go_wp2
  go_step3
  go_wp2
  go_step3
  go_wp2
  go_loopw [1] (fun n W => ∃ k : Nat, k ≤ s.size ∧ Hid (nx (bl s) k = T) ∧ n = .int .i64 k ∧ Hid (Drw w W)) (fun n W => s.size - (intOf n).toNat)
  case atStart => exact ⟨k0, hk0, Lib.hid HTT.out.symm, rfl, Lib.hid (Drw.refl w)⟩
  case round =>
    obtain ⟨k, hk, hu, rfl, hq⟩ := hrel
    by_cases hlt : k < s.size
    · have b0 := bt_nonneg s k
      have b1 := bt_le s k
      have HC : Hid (Calls Tryd.prog 34 #[.int .u8 (bt s k), .int .u8 1] wr fun e w' => e = .returned (.bool (white (bt s k))) ∧ wr = w') := by
        have := belongs_any (bt s k) 1 wr b0 b1 (hq.out.cls HT.out.c)
        rw [(blg_cls b0 b1).1] at this; exact Lib.hid this
      have HP : Hid (Calls Tryd.prog 35 #[.string (s.extract k s.size), .string ⟨#[47, 47]⟩] wr fun e w' => e = .returned (.bool (pre [47, 47] ((bl s).drop k))) ∧ wr = w') := by
        have := hasPrefix_any (s.extract k s.size) ⟨#[47, 47]⟩ wr (by rw [extract_size']; omega) (by decide)
        rw [bl_rest s k hk] at this; exact Lib.hid this
      have HU := Lib.hid (gcut_any (s.extract k s.size) wr (by rw [extract_size']; omega))
      have hgb := HB.out
      rcases Bool.eq_false_or_eq_true (white (bt s k)) with hv | hv
      · have HN := Lib.hid (nx_white hlt hv)
        rw [hv] at HC
        clear hv
        go_wp2_with ((with_reducible refine HC.out.mono ?_); rintro e w' ⟨rfl, rfl⟩)
        go_roundw
        case rel => exact ⟨k + 1, by omega, Lib.hid (HN.out.trans hu.out), by go_num, hq⟩
        case measure => simp [intOf]; omega
      · have HV := Lib.hid hv
        rw [hv] at HC
        clear hv
        rcases Bool.eq_false_or_eq_true (pre [47, 47] ((bl s).drop k)) with hv | hv
        · obtain ⟨m, hm⟩ : ∃ m, m = lineN (s.extract k s.size) := ⟨_, rfl⟩
          have hm1 : m = runL (fun c => c != 10) ((bl s).drop k) := by rw [hm]; unfold lineN; rw [bl_rest s k hk]
          have HN := Lib.hid (nx_comment (s := s) (k := k) hv)
          rw [← hm1] at HN
          have hm2 : k + m ≤ s.size := by
            have := lineN_le (s.extract k s.size)
            rw [← hm, extract_size'] at this; omega
          have hm3 : 2 ≤ m := by
            rw [hm1]
            have h2 := pre_len _ _ hv
            rw [pre_iff] at hv
            rcases e : (bl s).drop k with _ | ⟨c, _ | ⟨d, l⟩⟩
            · rw [e] at h2; simp at h2
            · rw [e] at h2; simp at h2
            · rw [e] at hv
              have : c = 47 ∧ d = 47 := by simpa using hv
              obtain ⟨rfl, rfl⟩ := this
              simp [runL]
          obtain ⟨t, ht⟩ : ∃ t, t = (s.extract k s.size).extract 0 m := ⟨_, rfl⟩
          have hts : t.size = m := by
            rw [ht, extract_size', extract_size']; omega
          have HU2 : Hid (Calls Tryd.prog 36 #[.string (s.extract k s.size), .string ⟨#[10]⟩] wr fun e w' => (∃ u b, e = .returned (.tuple #[.string t, .string u, .bool b])) ∧ Hid (Drw wr w')) := by
            have h := HU.out
            unfold CutPost at h
            rw [← hm, ← ht] at h
            exact Lib.hid (h.mono fun _ _ q => ⟨q.1, Lib.hid q.2⟩)
          rw [hv] at HP
          have hts' : (t.size : Int) = (m : Int) := by omega
          have HTS := Lib.hid hts
          clear hv hm hm1 ht HU hts
          have w1 : IntKind.i64.wrap ((k : Int) + (m : Int)) = ((k + m : Nat) : Int) := by rw [IntWalk.i64_in _ (by omega)]; rfl
          go_wp2_with (first | ((with_reducible refine HC.out.mono ?_); rintro e w' ⟨rfl, rfl⟩) | ((with_reducible refine HP.out.mono ?_); rintro e w' ⟨rfl, rfl⟩) | ((with_reducible refine HU2.out.mono ?_); rintro e w2 ⟨⟨u, b, rfl⟩, hd⟩))
          go_roundw
          case rel => exact ⟨k + m, hm2, Lib.hid (HN.out.trans hu.out), rfl, Lib.hid (hq.out.trans hd.out)⟩
          case measure => simp [intOf]; omega
        · have HN := Lib.hid (nx_stop hlt HV.out hv)
          rw [hv] at HP
          clear hv
          go_wp2_with (first | ((with_reducible refine HC.out.mono ?_); rintro e w' ⟨rfl, rfl⟩) | ((with_reducible refine HP.out.mono ?_); rintro e w' ⟨rfl, rfl⟩))
          rw [Exit.noGoto_ret]
          go_ret
          exact ⟨ret_int (by rw [← hu.out, HN.out]), hq.out⟩
    · have HN := Lib.hid (nx_end (s := s) (k := k) (by omega))
      go_wp2
      rw [Exit.noGoto_ret]
      go_ret
      exact ⟨ret_int (by rw [← hu.out, HN.out]), hq.out⟩
end Go.Proofs.YtlpombnmeioafaaDoor.Lx
