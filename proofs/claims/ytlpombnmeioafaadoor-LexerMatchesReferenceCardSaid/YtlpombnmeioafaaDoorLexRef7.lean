/- What the reference's Lex returns for every source. Condition: a source of at most 7000 bytes. -/
import Derived.Test.YtlpombnmeioafaaDoorLexRef6
import Derived.Test.YtlpombnmeioafaaDoorLexRef3
import Derived.Deep.LoopGhost
import Derived.OwnWalk
set_option linter.unusedVariables false
set_option linter.unusedSimpArgs false
namespace Go.Proofs.YtlpombnmeioafaaDoor.Lx
open Go Go.RowKit Go.PlainAid Go.Proofs.YtlpombnmeioafaaDoor.Zn
/-- What the reference's Lex returns. -/
def RPost (s : ByteArray) (T : List Tok × Nat × Nat) (w : World) (res : Ending) (w' : World) : Prop := ∃ a c, res = .returned (.tuple #[.slice a T.1.length c, .int .i64 T.2.1, .int .i64 T.2.2]) ∧ TokAt a (toks s T.1) w' ∧ Below w.heap.size w w'
theorem RPost.none {s : ByteArray} {T : List Tok × Nat × Nat} {w w' : World} {e a : Nat} {res : Ending} (h : T = ([], e, a)) (hr : res = .returned (.tuple #[.slice none 0 0, .int .i64 e, .int .i64 a])) (hb : Below w.heap.size w w') : RPost s T w res w' := by
  subst h
  exact ⟨Option.none, 0, hr, TokAt.nil _ _, hb⟩
theorem three_new (W : World) (a b c : Value) (t : TypeId) (bk : Nat) (hbk : W.heap.size = bk) : ∀ j u, [a, b, c][j]? = some u → (W.alloc (.cells #[a, b, c] t)).cell? ((⟨bk, 0, none⟩ : Addr).add j) = some u := by
  subst hbk
  intro j u hu
  have e : (⟨W.heap.size, 0, none⟩ : Addr).add j = ⟨W.heap.size, 0 + j, none⟩ := by unfold Addr.add; split <;> simp_all
  rw [e, World.cell?_alloc_new, Nat.zero_add, List.getElem?_toArray]
  exact hu
set_option maxHeartbeats 4000000 in
theorem rlex_long (s : ByteArray) (w : World) (h : 6000 < s.size) :
    Calls Tryd.prog 12 #[.string s] w (RPost s (lexL (bl s)) w) := by
  have HE := Lib.hid (show lexL (bl s) = ([], 2, 0) by unfold lexL; rw [bl_len, if_pos h])
  have hd : decide ((6000 : Int) < (s.size : Int)) = true := decide_eq_true (by omega)
  go_enter Tryd.func12, Tryd.ntmps12
  go_wp2
  refine bodyPost_ret (by rw [results_tmp3 rfl]; go_simp) rfl (RPost.none HE.out rfl (Below.refl _ _))
set_option maxHeartbeats 8000000 in
set_option maxRecDepth 100000 in
theorem rlex_short (s : ByteArray) (w : World) (h : s.size ≤ 6000) :
    Calls Tryd.prog 12 #[.string s] w (RPost s (lexL (bl s)) w) := by
  obtain ⟨T, hTT⟩ : ∃ T, T = lexL (bl s) := ⟨_, rfl⟩
  have HTT := Lib.hid (show T = cutA [] (all (bl s)) by rw [hTT]; unfold lexL; rw [bl_len, if_neg (by omega)])
  rw [← hTT]
  clear hTT
  have hd : decide ((6000 : Int) < (s.size : Int)) = false := decide_eq_false (by omega)
  obtain ⟨k0, hk0⟩ : ∃ k0, k0 = nx (bl s) 0 := ⟨_, rfl⟩
  have hk0s : k0 ≤ s.size := by rw [hk0, ← bl_len]; exact nx_len _ _ (Nat.zero_le _)
  have HSK : Hid (∀ W, Calls Tryd.prog 20 #[.string s, .int .i64 0] W fun e w' => e = .returned (.int .i64 k0) ∧ W = w') := Lib.hid fun W => by rw [hk0]; exact rskip_any s 0 W (by omega) (Nat.zero_le _)
  have HST := Lib.hid (show T = cutA [] (from_ (bl s) k0) by rw [hk0]; exact HTT.out)
  obtain ⟨i0, hi, hq0, hq1, hq2⟩ := info_parts Tryd.infoT
  have HI0 := Lib.hid (And.intro hi (And.intro hq0 (And.intro hq1 hq2)))
  clear hi hq0 hq1 hq2 hk0 HTT
  go_enter Tryd.func12, Tryd.ntmps12
  go_wp2_with ((with_reducible refine (HSK.out _).mono ?_); rintro e w' ⟨rfl, hw⟩; subst hw)
  go_loopg [5, 6] (s.size - k0) (fun g o n wx => ∃ (k m c : Nat) (a : Option Addr) (pre : List Tok), g = s.size - k ∧ k ≤ s.size ∧ m ≤ 2000 ∧ o = .slice a m c ∧ n = .int .i64 k ∧ Hid (m = pre.length ∧ RowT wx w.heap.size (.slice a m c) (toks s pre) ∧ T = cutA pre (from_ (bl s) k)) ∧ Below w.heap.size w wx)
  case atStart => exact ⟨k0, 0, 0, none, [], rfl, hk0s, Nat.zero_le _, rfl, rfl, Lib.hid ⟨rfl, RowT.nil _ _, HST.out⟩, Below.refl _ _⟩
  case round =>
    obtain ⟨k, m, c, a, pre, hg, hks, hm2, rfl, rfl, HR, hb⟩ := hrel
    have HG := Lib.hid hg
    have HBB := Lib.hid hb
    clear hg hb
    by_cases hlt : k < s.size
    · have HF := Lib.hid (from_cons (L := bl s) (a := k) (by rw [bl_len]; exact hlt))
      by_cases hm : m = 2000
      · have hq : ((m : Int) == 2000) = true := by rw [hm]; rfl
        have HT2 : Hid (T = ([], 2, k)) := Lib.hid (by
          rw [HR.out.2.2, HF.out]; unfold cutA; rw [if_pos (by rw [← HR.out.1, hm])])
        clear hm
        go_wp2
        refine bodyPost_ret (by rw [results_tmp3 rfl]; go_simp) rfl (RPost.none HT2.out rfl HBB.out)
      · have hq : ((m : Int) == 2000) = false := by simpa using fun h : (m : Int) = 2000 => hm (by omega)
        have hml : m < 2000 := by omega
        have HTK := Lib.hid (rtoken_any s k wr (by omega) hlt)
        obtain ⟨κ0, hκ⟩ : ∃ x, x = (meas ((bl s).drop k)).1 := ⟨_, rfl⟩
        obtain ⟨N, hN⟩ : ∃ x, x = (meas ((bl s).drop k)).2 := ⟨_, rfl⟩
        have hpos : κ0 ≠ 0 → 0 < N ∧ k + N ≤ s.size := fun hz => by
          have h := meas_n (l := (bl s).drop k) (by rw [← hκ]; exact hz)
          rw [List.length_drop, bl_len, ← hN] at h; omega
        have HTC : Hid (T = cutA pre ((κ0, k, N) :: (if κ0 = 0 then [] else from_ (bl s) (nx (bl s) (k + N))))) := Lib.hid (by rw [HR.out.2.2, HF.out, hκ, hN])
        have HTK2 : Hid (Calls Tryd.prog 21 #[.string s, .int .i64 k] wr (RTok s k (κ0, N) wr)) := Lib.hid (by rw [hκ, hN]; exact HTK.out)
        have HPOS := Lib.hid hpos
        have HM := Lib.hid hm
        clear hκ hN HTK HF hm hpos
        go_upto_region 9 with ((with_reducible refine HTK2.out.mono ?_); rintro e w2 ⟨κ, p, t, b, rfl, h2, h3, h4⟩; have H2 := Lib.hid h2; have H3 := Lib.hid h3; have H4 := Lib.hid h4; clear h2 h3 h4)
        cases b
        · have HT2 : Hid (T = ([], 61, k)) := Lib.hid (by
            have hz : κ0 = 0 := Classical.byContradiction fun q => by have := H2.out.2 q; cases this
            rw [HTC.out]; unfold cutA; rw [if_neg (by rw [← HR.out.1]; exact HM.out), if_pos hz])
          go_wp2
          refine bodyPost_ret (by rw [results_tmp3 rfl]; go_simp) rfl (RPost.none HT2.out rfl (HBB.out.trans ((H4.out.mono HBB.out.size).alloc (by have := H4.out.size; have := HBB.out.size; omega) _)))
        · have hz : κ0 ≠ 0 := H2.out.1 rfl
          obtain ⟨rfl, ht, rfl⟩ := H3.out hz
          obtain ⟨hN0, hNs⟩ := HPOS.out hz
          have hts : t.size = N := by rw [ht, extract_size']; omega
          have HTX := Lib.hid ht
          have HZ := Lib.hid hz
          have w1 : IntKind.i64.wrap ((k : Int) + (N : Int)) = (k : Int) + (N : Int) := IntWalk.i64_in _ (by omega)
          have hE1 := nx_le (bl s) (k + N)
          have hE2 := nx_len (bl s) (k + N) (by rw [bl_len]; exact hNs)
          rw [bl_len] at hE2
          obtain ⟨E, hE⟩ : ∃ E, E = nx (bl s) (k + N) := ⟨_, rfl⟩
          rw [← hE] at hE1 hE2
          have HSE : Hid (∀ W, Calls Tryd.prog 20 #[.string s, .int .i64 ((k : Int) + (N : Int))] W fun e w' => e = .returned (.int .i64 E) ∧ W = w') := Lib.hid fun W => by
            have h := rskip_any s (k + N) W (by omega) hNs
            rw [← hE] at h
            exact h
          have HT2 : Hid (T = cutA (pre ++ [(κ0, k, N)]) (from_ (bl s) E)) := Lib.hid (by
            rw [HTC.out]
            show (if pre.length = 2000 then _ else if κ0 = 0 then _ else _) = _
            rw [if_neg (by rw [← HR.out.1]; exact HM.out), if_neg HZ.out, if_neg HZ.out, hE])
          have kc : Below w2.heap.size w2 ((w2.alloc (.cells #[.int .i64 κ0, .string t, .int .i64 k] 30)).alloc (.cells #[.int .i64 κ0, .string t, .int .i64 k] 30)) := (alloc_below _ _).alloc (by simp) _
          have hml2 : (toks s pre).length = m := by rw [toks_len, HR.out.1]
          have hrow : World.ownsRow ((w2.alloc (.cells #[.int .i64 κ0, .string t, .int .i64 k] 30)).alloc (.cells #[.int .i64 κ0, .string t, .int .i64 k] 30)) w.heap.size 30 3 (.slice a m c) m (flatT (toks s pre)) := by
            have h := (HR.out.2.1.below H4.out).below kc
            unfold RowT at h
            rw [hml2] at h
            exact h
          have HRW := Lib.hid hrow
          have hcx : ((w2.alloc (.cells #[.int .i64 κ0, .string t, .int .i64 k] 30)).alloc (.cells #[.int .i64 κ0, .string t, .int .i64 k] 30)).cell? ⟨w2.heap.size, 1, none⟩ = some (.string t) := by
            rw [World.cell?_alloc_lt _ _ _ (by simp), World.cell?_alloc_new]; rfl
          have HCX := Lib.hid hcx
          clear hcx
          have hlt9 : ∀ i, (Value.slice a m c).ownBlock = some i → w.heap.size ≤ i ∧ i < w2.heap.size := fun i hi => by
            have h := (HR.out.2.1.below H4.out)
            exact World.ownsRow.lt h i hi
          have HLT := Lib.hid hlt9
          have HBX := Lib.hid (HBB.out.trans ((H4.out.trans (kc.mono H4.out.size)).mono HBB.out.size))
          have HML := Lib.hid hml2
          have HSZ := Lib.hid (And.intro HBB.out.size H4.out.size)
          clear hz ht hE kc hml2 hrow hlt9 HTC HTK2 HPOS
          go_upto_region 11 with (fail)
          go_wp2_with (first
            | (at_builtin; go_loud (refine wpList_append_own_at _ rfl _ _ 23 rfl w.heap.size 30 i0 (.agg #[.int .i64 0, .string ⟨#[]⟩, .int .i64 0]) 3 32 Tryd.underT HI0.out.1 HI0.out.2.1 HI0.out.2.2.1 HI0.out.2.2.2 rfl (by decide) _ m (flatT (toks s pre)) rfl HRW.out _ 1 1 [.int .i64 κ0, .string t, .int .i64 k] rfl rfl (three_new _ _ _ _ _ _ (by simp)) (fun u hu => by simp only [List.mem_cons, List.not_mem_nil, or_false] at hu; rcases hu with rfl | rfl | rfl <;> rfl) (by unfold maxLen; omega) (by omega) (HBX.out.size) ?_; intro v9 w9 hown hg hnil hat; have HO9 := Lib.hid hown; have HG9 := Lib.hid (HBX.out.grown hg HBX.out.size (fun i hi => (HLT.out i hi).1)); have c1 := (World.cell?_of_block (hg.block w2.heap.size (by simp; omega) (fun e => absurd (HLT.out _ e.symm).2 (Nat.lt_irrefl _)))).trans HCX.out; clear hown hg hnil hat))
            | ((with_reducible refine (HSE.out _).mono ?_); rintro e w' ⟨rfl, hw⟩; subst hw))
          have hRT : RowT w9 w.heap.size v9 (toks s pre ++ toks s [(κ0, k, N)]) := RowT.app HML.out.symm rfl (by rw [HTX.out] at HO9; exact HO9.out)
          rw [← toks_app] at hRT
          obtain ⟨a9, c9, e9, -, -, -, -⟩ := hRT.toks
          have hln : (toks s (pre ++ [(κ0, k, N)])).length = m + 1 := by rw [toks_len, List.length_append, ← HR.out.1]; rfl
          rw [hln] at e9
          subst e9
          have HRT := Lib.hid hRT
          have hg2 := HG.out
          clear hRT
          go_roundg (s.size - E)
          case measure => omega
          case rel => exact ⟨E, m + 1, c9, a9, pre ++ [(κ0, k, N)], rfl, hE2, by omega, rfl, rfl, Lib.hid ⟨by rw [List.length_append, ← HR.out.1]; rfl, HRT.out, HT2.out⟩, HG9.out⟩
    · have HT2 : Hid (T = (pre, 0, 0)) := Lib.hid (by
        rw [HR.out.2.2, from_nil (by rw [bl_len]; omega)]; simp [cutA])
      have HML := HR.out.1
      go_wp2
      obtain ⟨a', c', e, hta, -, -, -⟩ := HR.out.2.1.toks
      rw [toks_len, ← HML] at e
      cases e
      refine bodyPost_ret (results_tmp3 rfl _ _ _) rfl ⟨a, c, by rw [HT2.out, ← HML]; rfl, by rw [HT2.out]; exact hta, HBB.out⟩
theorem rlex_any (s : ByteArray) (w : World) : Calls Tryd.prog 12 #[.string s] w (RPost s (lexL (bl s)) w) := by
  by_cases h : 6000 < s.size
  · exact rlex_long s w h
  · exact rlex_short s w (by omega)
end Go.Proofs.YtlpombnmeioafaaDoor.Lx
