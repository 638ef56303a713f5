/- What package lexer's measureName, measureCurrency, measureForm and measureDigits return for every text. Conditions: the table of classes holds what its initialiser lays; texts of at most 7000 bytes. -/
import Derived.Test.YtlpombnmeioafaaDoorLexOwn2
set_option linter.unusedVariables false
set_option linter.unusedSimpArgs false
namespace Go.Proofs.YtlpombnmeioafaaDoor.Lx
open Go.RowKit Go.PlainAid
def Drw (w w' : World) : Prop := ∃ n, w' = w.drewN n
theorem Drw.refl (w : World) : Drw w w := ⟨0, rfl⟩
theorem Drw.trans {a b c : World} (h : Drw a b) (k : Drw b c) : Drw a c := by
  obtain ⟨n, rfl⟩ := h; obtain ⟨m, rfl⟩ := k; exact ⟨n + m, World.drewN_drewN _ _ _⟩
theorem Drw.cls {a b : World} (h : Drw a b) (k : HasCls a) : HasCls b := by obtain ⟨n, rfl⟩ := h; exact k
theorem Drw.drewN {a b : World} (h : Drw a b) (n : Nat) : Drw a (b.drewN n) := h.trans ⟨n, rfl⟩
theorem Drw.below {a b : World} (h : Drw a b) : Below a.heap.size a b := by obtain ⟨n, rfl⟩ := h; exact ⟨rfl, rfl, rfl, Nat.le_refl _, fun _ _ => rfl⟩
/-- A kind and a size. -/
abbrev kn (r : Nat × Nat) : Value := .tuple #[.int .i64 r.1, .int .i64 r.2]
theorem ret_kn {r : Nat × Nat} {k n : Nat} (h : r = (k, n)) : Ending.returned (.tuple #[.int .i64 (k : Nat), .int .i64 (n : Nat)]) = .returned (kn r) := by rw [h]
theorem run_at (s : ByteArray) (of_ : Int) (p : Int → Bool) (hs : s.size ≤ 7000) (hp : ∀ b, 0 ≤ b → b ≤ 255 → blg b of_ = p b) (n : Nat) (hn : n = runL p (bl s)) (w : World) (hT : HasCls w) :
    Calls Tryd.prog 47 #[.string s, .int .u8 of_] w fun e w' => e = .returned (.int .i64 n) ∧ w = w' := hn ▸ run_any s of_ p w hs hp hT
theorem form_at (s f : ByteArray) (hs : s.size ≤ 7000) (hf : f.size ≤ 7000) (b : Bool) (hb : b = fit (bl f) (bl s)) (w : World) (hT : HasCls w) :
    Calls Tryd.prog 51 #[.string s, .string f] w fun e w' => e = .returned (.bool b) ∧ Drw w w' := hb ▸ hasForm_any s f w hs hf hT
theorem name_any (s : ByteArray) (w : World) (hs : s.size ≤ 7000) (hT : HasCls w) :
    Calls Tryd.prog 37 #[.string s] w fun e w' => e = .returned (kn (mName (bl s))) ∧ w = w' := by
  obtain ⟨a, ha⟩ : ∃ a, a = runL wd (bl s) := ⟨_, rfl⟩
  obtain ⟨b, hb⟩ : ∃ b, b = runL nm (bl s) := ⟨_, rfl⟩
  have H1 := Lib.hid (run_at s 30 wd hs (fun b h0 h1 => (blg_cls h0 h1).2.2.2.2.2) a ha w hT)
  have H2 := Lib.hid (run_at s 26 nm hs (fun b h0 h1 => (blg_cls h0 h1).2.2.2.2.1) b hb w hT)
  have HA := Lib.hid ha
  have HB := Lib.hid hb
  clear ha hb hT
  have hle : a ≤ 7000 := by rw [HA.out]; have := runL_le wd (bl s); rw [bl_len] at this; omega
  have hle2 : b ≤ 7000 := by rw [HB.out]; have := runL_le nm (bl s); rw [bl_len] at this; omega
  have HM : Hid (mName (bl s) = if 16 < a ∨ b ≠ a then (0, 0) else (1, a)) := Lib.hid (by unfold mName; rw [HA.out, HB.out])
  by_cases h : 16 < a
  · have hd : decide ((16 : Int) < (a : Int)) = true := decide_eq_true (by omega)
    rw [if_pos (.inl h)] at HM
    go_enter Tryd.func37, Tryd.ntmps37
    go_wp2_with (first | ((with_reducible refine H1.out.mono ?_); rintro e w ⟨rfl, rfl⟩) | ((with_reducible refine H2.out.mono ?_); rintro e w ⟨rfl, rfl⟩))
    go_ret2
    exact ⟨ret_kn HM.out, rfl⟩
  · have hd : decide ((16 : Int) < (a : Int)) = false := decide_eq_false (by omega)
    by_cases h2 : b = a
    · rw [if_neg (by omega)] at HM
      have hd2 : ((b : Int) != (a : Int)) = false := by simp [h2]
      go_enter Tryd.func37, Tryd.ntmps37
      have h2' := Lib.hid h2
      clear h2
      go_wp2_with (first | ((with_reducible refine H1.out.mono ?_); rintro e w ⟨rfl, rfl⟩) | ((with_reducible refine H2.out.mono ?_); rintro e w ⟨rfl, rfl⟩))
      go_ret2
      exact ⟨ret_kn HM.out, rfl⟩
    · rw [if_pos (.inr h2)] at HM
      have hd2 : ((b : Int) != (a : Int)) = true := by simp; omega
      go_enter Tryd.func37, Tryd.ntmps37
      go_wp2_with (first | ((with_reducible refine H1.out.mono ?_); rintro e w ⟨rfl, rfl⟩) | ((with_reducible refine H2.out.mono ?_); rintro e w ⟨rfl, rfl⟩))
      go_ret2
      exact ⟨ret_kn HM.out, rfl⟩
theorem cur_any (s : ByteArray) (w : World) (hs : s.size ≤ 7000) (hT : HasCls w) :
    Calls Tryd.prog 38 #[.string s] w fun e w' => e = .returned (kn (mCur (bl s))) ∧ w = w' := by
  obtain ⟨a, ha⟩ : ∃ a, a = runL wd (bl s) := ⟨_, rfl⟩
  obtain ⟨b, hb⟩ : ∃ b, b = runL up (bl s) := ⟨_, rfl⟩
  have H1 := Lib.hid (run_at s 30 wd hs (fun b h0 h1 => (blg_cls h0 h1).2.2.2.2.2) a ha w hT)
  have H2 := Lib.hid (run_at s 4 up hs (fun b h0 h1 => (blg_cls h0 h1).2.2.1) b hb w hT)
  have HM : Hid (mCur (bl s) = if a ≠ 3 ∨ b ≠ 3 then (0, 0) else (2, 3)) := Lib.hid (by unfold mCur; rw [ha, hb])
  clear ha hb hT
  by_cases h : a = 3
  · have hd : ((a : Int) != 3) = false := by simp [h]
    by_cases h2 : b = 3
    · rw [if_neg (by omega)] at HM
      have hd2 : ((b : Int) != 3) = false := by simp [h2]
      have h2' := Lib.hid (And.intro h h2)
      clear h h2
      go_enter Tryd.func38, Tryd.ntmps38
      go_wp2_with (first | ((with_reducible refine H1.out.mono ?_); rintro e w ⟨rfl, rfl⟩) | ((with_reducible refine H2.out.mono ?_); rintro e w ⟨rfl, rfl⟩))
      go_ret2
      exact ⟨ret_kn HM.out, rfl⟩
    · rw [if_pos (.inr h2)] at HM
      have hd2 : ((b : Int) != 3) = true := by simp; omega
      have h2' := Lib.hid (And.intro h h2)
      clear h h2
      go_enter Tryd.func38, Tryd.ntmps38
      go_wp2_with (first | ((with_reducible refine H1.out.mono ?_); rintro e w ⟨rfl, rfl⟩) | ((with_reducible refine H2.out.mono ?_); rintro e w ⟨rfl, rfl⟩))
      go_ret2
      exact ⟨ret_kn HM.out, rfl⟩
  · have hd : ((a : Int) != 3) = true := by simp; omega
    rw [if_pos (.inl h)] at HM
    clear h
    go_enter Tryd.func38, Tryd.ntmps38
    go_wp2_with (first | ((with_reducible refine H1.out.mono ?_); rintro e w ⟨rfl, rfl⟩) | ((with_reducible refine H2.out.mono ?_); rintro e w ⟨rfl, rfl⟩))
    go_ret2
    exact ⟨ret_kn HM.out, rfl⟩
theorem mForm_eq {l : List Int} {b1 b2 z : Bool} {N : Nat} (h1 : b1 = fit dateF l) (h2 : N = runL dg l) (h3 : 1 < N → z = (l.head? == some 48)) (h4 : b2 = fit centsF (l.drop N)) :
    mForm l = if b1 = true then (5, 10) else if 1 < N ∧ z = true then (0, 0) else if N ≤ 10 ∧ b2 = true then (4, N + 3) else if N ≤ 12 then (3, N) else (0, 0) := by
  subst h1 h2 h4
  unfold mForm
  by_cases h : 1 < runL dg l
  · rw [h3 h]; simp only [beq_iff_eq]
  · simp only [h, false_and, if_false]
set_option maxHeartbeats 2000000 in
theorem mform_any (s : ByteArray) (w : World) (hs : s.size ≤ 7000) (hT : HasCls w) :
    Calls Tryd.prog 48 #[.string s] w fun e w' => e = .returned (kn (mForm (bl s))) ∧ Drw w w' := by
  obtain ⟨b1, hb1⟩ : ∃ b, b = fit dateF (bl s) := ⟨_, rfl⟩
  obtain ⟨N, hN⟩ : ∃ N, N = runL dg (bl s) := ⟨_, rfl⟩
  obtain ⟨b2, hb2⟩ : ∃ b, b = fit centsF ((bl s).drop N) := ⟨_, rfl⟩
  obtain ⟨z, hz⟩ : ∃ z, z = (bt s 0 == 48) := ⟨_, rfl⟩
  have hle : N ≤ s.size := by rw [hN]; have := runL_le dg (bl s); rw [bl_len] at this; exact this
  have HM := Lib.hid (mForm_eq hb1 hN (z := z) (fun h => by
    obtain ⟨l, hl⟩ := bl_head s (by omega)
    rw [hz, hl]; rfl) hb2)
  have H1 := Lib.hid (form_at s ⟨#[100, 100, 100, 100, 45, 100, 100, 45, 100, 100]⟩ hs (by decide) b1 hb1 w hT)
  have H2 := Lib.hid (run_at s 2 dg hs (fun b h0 h1 => (blg_cls h0 h1).2.1) N hN)
  have H3 := Lib.hid (form_at (s.extract N s.size) ⟨#[46, 100, 100]⟩ (by rw [ByteArray.size_extract]; omega) (by decide) b2 (by rw [hb2, bl_extract, List.take_of_length_le (by rw [bl_len]; omega)]; rfl))
  have HT := Lib.hid hT
  have HB := Lib.hid (get_bt s)
  have hz' : (bt s 0 == 48) = z := hz.symm
  clear hb1 hN hb2 hT hz
  have hNl : N ≤ 7000 := by omega
  have w3 : IntKind.i64.wrap ((N : Int) + 3) = ((N + 3 : Nat) : Int) := by rw [IntWalk.i64_in _ (by omega)]; rfl
  cases b1
  · rw [if_neg (by simp)] at HM
    by_cases h : 1 < N
    · have hd : decide ((1 : Int) < (N : Int)) = true := decide_eq_true (by omega)
      have h0 : 0 < s.size := by omega
      cases z
      · rw [if_neg (by simp)] at HM
        by_cases h10 : N ≤ 10
        · have hd10 : decide ((N : Int) ≤ 10) = true := decide_eq_true (by omega)
          cases b2
          · rw [if_neg (by simp), if_pos (by omega)] at HM
            have hd12 : decide ((N : Int) ≤ 12) = true := decide_eq_true (by omega)
            have hgb := HB.out
            go_enter Tryd.func48, Tryd.ntmps48
            go_wp2_with (first | ((with_reducible refine H1.out.mono ?_); rintro e w1 ⟨rfl, hd1⟩; have HD := Lib.hid hd1; clear hd1) | ((with_reducible refine (H2.out _ (HD.out.cls HT.out)).mono ?_); rintro e w1 ⟨rfl, rfl⟩) | ((with_reducible refine (H3.out _ (HD.out.cls HT.out)).mono ?_); rintro e w2 ⟨rfl, hd1⟩; replace HD := Lib.hid (HD.out.trans hd1); clear hd1))
            go_ret2
            exact ⟨ret_kn HM.out, HD.out⟩
          · rw [if_pos ⟨h10, rfl⟩] at HM
            have hgb := HB.out
            go_enter Tryd.func48, Tryd.ntmps48
            go_wp2_with (first | ((with_reducible refine H1.out.mono ?_); rintro e w1 ⟨rfl, hd1⟩; have HD := Lib.hid hd1; clear hd1) | ((with_reducible refine (H2.out _ (HD.out.cls HT.out)).mono ?_); rintro e w1 ⟨rfl, rfl⟩) | ((with_reducible refine (H3.out _ (HD.out.cls HT.out)).mono ?_); rintro e w2 ⟨rfl, hd1⟩; replace HD := Lib.hid (HD.out.trans hd1); clear hd1))
            go_ret2
            exact ⟨ret_kn HM.out, HD.out⟩
        · have hd10 : decide ((N : Int) ≤ 10) = false := decide_eq_false (by omega)
          rw [if_neg (by omega)] at HM
          by_cases h12 : N ≤ 12
          · rw [if_pos h12] at HM
            have hd12 : decide ((N : Int) ≤ 12) = true := decide_eq_true (by omega)
            have hgb := HB.out
            go_enter Tryd.func48, Tryd.ntmps48
            go_wp2_with (first | ((with_reducible refine H1.out.mono ?_); rintro e w1 ⟨rfl, hd1⟩; have HD := Lib.hid hd1; clear hd1) | ((with_reducible refine (H2.out _ (HD.out.cls HT.out)).mono ?_); rintro e w1 ⟨rfl, rfl⟩) | ((with_reducible refine (H3.out _ (HD.out.cls HT.out)).mono ?_); rintro e w2 ⟨rfl, hd1⟩; replace HD := Lib.hid (HD.out.trans hd1); clear hd1))
            go_ret2
            exact ⟨ret_kn HM.out, HD.out⟩
          · rw [if_neg h12] at HM
            have hd12 : decide ((N : Int) ≤ 12) = false := decide_eq_false (by omega)
            have hgb := HB.out
            go_enter Tryd.func48, Tryd.ntmps48
            go_wp2_with (first | ((with_reducible refine H1.out.mono ?_); rintro e w1 ⟨rfl, hd1⟩; have HD := Lib.hid hd1; clear hd1) | ((with_reducible refine (H2.out _ (HD.out.cls HT.out)).mono ?_); rintro e w1 ⟨rfl, rfl⟩) | ((with_reducible refine (H3.out _ (HD.out.cls HT.out)).mono ?_); rintro e w2 ⟨rfl, hd1⟩; replace HD := Lib.hid (HD.out.trans hd1); clear hd1))
            go_ret2
            exact ⟨ret_kn HM.out, HD.out⟩
      · rw [if_pos ⟨h, rfl⟩] at HM
        have hgb := HB.out
        go_enter Tryd.func48, Tryd.ntmps48
        go_wp2_with (first | ((with_reducible refine H1.out.mono ?_); rintro e w1 ⟨rfl, hd1⟩; have HD := Lib.hid hd1; clear hd1) | ((with_reducible refine (H2.out _ (HD.out.cls HT.out)).mono ?_); rintro e w1 ⟨rfl, rfl⟩) | ((with_reducible refine (H3.out _ (HD.out.cls HT.out)).mono ?_); rintro e w2 ⟨rfl, hd1⟩; replace HD := Lib.hid (HD.out.trans hd1); clear hd1))
        go_ret2
        exact ⟨ret_kn HM.out, HD.out⟩
    · have hd : decide ((1 : Int) < (N : Int)) = false := decide_eq_false (by omega)
      have hd10 : decide ((N : Int) ≤ 10) = true := decide_eq_true (by omega)
      rw [if_neg (by omega)] at HM
      clear hz' z
      cases b2
      · rw [if_neg (by simp), if_pos (by omega)] at HM
        have hd12 : decide ((N : Int) ≤ 12) = true := decide_eq_true (by omega)
        go_enter Tryd.func48, Tryd.ntmps48
        go_wp2_with (first | ((with_reducible refine H1.out.mono ?_); rintro e w1 ⟨rfl, hd1⟩; have HD := Lib.hid hd1; clear hd1) | ((with_reducible refine (H2.out _ (HD.out.cls HT.out)).mono ?_); rintro e w1 ⟨rfl, rfl⟩) | ((with_reducible refine (H3.out _ (HD.out.cls HT.out)).mono ?_); rintro e w2 ⟨rfl, hd1⟩; replace HD := Lib.hid (HD.out.trans hd1); clear hd1))
        go_ret2
        exact ⟨ret_kn HM.out, HD.out⟩
      · rw [if_pos ⟨by omega, rfl⟩] at HM
        go_enter Tryd.func48, Tryd.ntmps48
        go_wp2_with (first | ((with_reducible refine H1.out.mono ?_); rintro e w1 ⟨rfl, hd1⟩; have HD := Lib.hid hd1; clear hd1) | ((with_reducible refine (H2.out _ (HD.out.cls HT.out)).mono ?_); rintro e w1 ⟨rfl, rfl⟩) | ((with_reducible refine (H3.out _ (HD.out.cls HT.out)).mono ?_); rintro e w2 ⟨rfl, hd1⟩; replace HD := Lib.hid (HD.out.trans hd1); clear hd1))
        go_ret2
        exact ⟨ret_kn HM.out, HD.out⟩
  · rw [if_pos rfl] at HM
    go_enter Tryd.func48, Tryd.ntmps48
    go_wp2_with (first | ((with_reducible refine H1.out.mono ?_); rintro e w1 ⟨rfl, hd1⟩; have HD := Lib.hid hd1; clear hd1) | ((with_reducible refine (H2.out _ (HD.out.cls HT.out)).mono ?_); rintro e w1 ⟨rfl, rfl⟩) | ((with_reducible refine (H3.out _ (HD.out.cls HT.out)).mono ?_); rintro e w2 ⟨rfl, hd1⟩; replace HD := Lib.hid (HD.out.trans hd1); clear hd1))
    go_ret2
    exact ⟨ret_kn HM.out, HD.out⟩
theorem stuck_at (s : ByteArray) (n : Nat) : stuck ((bl s).drop n) = (decide (n < s.size) && (bt s n == 46 || wd (bt s n))) := by
  by_cases h : n < s.size
  · rw [bl_cons s n h, decide_eq_true h, Bool.true_and]; rfl
  · rw [List.drop_of_length_le (by rw [bl_len]; omega), decide_eq_false h]; rfl
theorem bt_extract (s : ByteArray) (a k : Nat) (h : a + k < s.size) : bt (s.extract a s.size) k = bt s (a + k) := by
  have h1 := bl_get (s.extract a s.size) k (by rw [ByteArray.size_extract]; omega)
  rw [bl_extract, List.take_of_length_le (by rw [bl_len]; omega), List.getElem?_drop, bl_get s _ h] at h1
  exact (Option.some.inj h1).symm
set_option maxHeartbeats 2000000 in
theorem mdig_any (s : ByteArray) (w : World) (hs : s.size ≤ 7000) (hT : HasCls w) :
    Calls Tryd.prog 39 #[.string s] w fun e w' => e = .returned (kn (mDig (bl s))) ∧ Drw w w' := by
  have HC := Lib.hid (mform_any s w hs hT)
  have hle := mForm_le (bl s)
  rw [bl_len] at hle
  have HM : Hid (mDig (bl s) = if stuck ((bl s).drop (mForm (bl s)).2) = true then (0, 0) else mForm (bl s)) := Lib.hid rfl
  rw [stuck_at] at HM
  obtain ⟨k, hk⟩ : ∃ k, k = (mForm (bl s)).1 := ⟨_, rfl⟩
  obtain ⟨n, hn⟩ : ∃ n, n = (mForm (bl s)).2 := ⟨_, rfl⟩
  have HK := Lib.hid (show mForm (bl s) = (k, n) by rw [hk, hn])
  rw [HK.out] at HC HM hle
  clear hk hn
  simp only at HM hle HC
  have HT := Lib.hid hT
  clear hT
  by_cases h : n < s.size
  · have HB := Lib.hid (get_bt (s.extract n s.size))
    have hb := bt_extract s n 0 (by omega)
    rw [Nat.add_zero] at hb
    rw [← hb, decide_eq_true h, Bool.true_and] at HM
    clear hb
    have hsz : 0 < (s.extract n s.size).size := by rw [ByteArray.size_extract]; omega
    have he : ((s.extract n s.size).toList == []) = false := by
      rw [toList_data, beq_eq_false_iff_ne]
      intro h0
      have := congrArg List.length h0
      rw [Array.length_toList] at this
      exact absurd this (by simp; omega)
    have he2 : ((s.extract n s.size).toList != []) = true := by unfold bne; rw [he]; rfl
    obtain ⟨S, hS⟩ : ∃ S, S = s.extract n s.size := ⟨_, rfl⟩
    rw [← hS] at HM HB hsz he he2
    have hsl : s.extract n s.size = S := hS.symm
    clear hS
    have b0 := bt_nonneg S 0
    have b1 := bt_le S 0
    have H4 : Hid (∀ W, HasCls W → Calls Tryd.prog 34 #[.int .u8 (bt S 0), .int .u8 30] W fun e w' => e = .returned (.bool (wd (bt S 0))) ∧ W = w') := Lib.hid fun W hW => by
      have := belongs_any (bt S 0) 30 W b0 b1 hW
      rwa [(blg_cls b0 b1).2.2.2.2.2] at this
    obtain ⟨p, hp⟩ : ∃ p, p = (bt S 0 == 46) := ⟨_, rfl⟩
    obtain ⟨q, hq⟩ : ∃ q, q = wd (bt S 0) := ⟨_, rfl⟩
    rw [← hp, ← hq] at HM
    rw [← hq] at H4
    have hp' : (bt S 0 == 46) = p := hp.symm
    clear hp hq
    cases p
    · cases q
      · rw [if_neg (by simp)] at HM
        have hgb := HB.out
        go_enter Tryd.func39, Tryd.ntmps39
        go_wp2_with (first | ((with_reducible refine HC.out.mono ?_); rintro e w1 ⟨rfl, hd1⟩; have HD := Lib.hid hd1; clear hd1) | ((with_reducible refine (H4.out _ (HD.out.cls HT.out)).mono ?_); rintro e w1 ⟨rfl, rfl⟩))
        go_ret2
        exact ⟨ret_kn HM.out, HD.out⟩
      · rw [if_pos (by simp)] at HM
        have hgb := HB.out
        go_enter Tryd.func39, Tryd.ntmps39
        go_wp2_with (first | ((with_reducible refine HC.out.mono ?_); rintro e w1 ⟨rfl, hd1⟩; have HD := Lib.hid hd1; clear hd1) | ((with_reducible refine (H4.out _ (HD.out.cls HT.out)).mono ?_); rintro e w1 ⟨rfl, rfl⟩))
        go_ret2
        exact ⟨ret_kn HM.out, HD.out⟩
    · rw [if_pos (by simp)] at HM
      have hgb := HB.out
      go_enter Tryd.func39, Tryd.ntmps39
      go_wp2_with (first | ((with_reducible refine HC.out.mono ?_); rintro e w1 ⟨rfl, hd1⟩; have HD := Lib.hid hd1; clear hd1))
      go_ret2
      exact ⟨ret_kn HM.out, HD.out⟩
  · rw [decide_eq_false h, Bool.false_and, if_neg (by simp)] at HM
    have hse : s.extract n s.size = ByteArray.empty := by
      apply ByteArray.ext
      rw [ByteArray.data_extract]
      simp; omega
    have he : ((ByteArray.empty).toList == []) = true := by rw [toList_data]; rfl
    have he2 : ((ByteArray.empty).toList != []) = false := by rw [toList_data]; rfl
    go_enter Tryd.func39, Tryd.ntmps39
    go_wp2_with (first | ((with_reducible refine HC.out.mono ?_); rintro e w1 ⟨rfl, hd1⟩; have HD := Lib.hid hd1; clear hd1))
    go_ret2
    exact ⟨ret_kn HM.out, HD.out⟩
end Go.Proofs.YtlpombnmeioafaaDoor.Lx
