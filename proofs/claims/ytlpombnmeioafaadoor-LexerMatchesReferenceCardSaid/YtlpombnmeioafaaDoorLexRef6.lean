/- What the reference's Symbols and token return for every text. Conditions: texts of at most 7000 bytes, offsets within them. -/
import Derived.Test.YtlpombnmeioafaaDoorLexRef5
import Derived.Test.YtlpombnmeioafaaDoorLexRow
set_option linter.unusedVariables false
set_option linter.unusedSimpArgs false
namespace Go.Proofs.YtlpombnmeioafaaDoor.Lx
open Go.RowKit Go.PlainAid
theorem rnumeric_any (s : ByteArray) (k : Nat) (w : World) (hs : s.size ≤ 7000) (hk : k < s.size) (hd : dg (bt s k) = true) :
    Calls Tryd.prog 28 #[.string s, .int .i64 k] w (RTok s k (mDig ((bl s).drop k)) w) := by
  rcases Bool.eq_false_or_eq_true (fit dateF ((bl s).drop k)) with h | h
  · exact rnum_date s k w hs hk h
  · exact rnum_rest s k w hs hk h hd
theorem meas_cons (c : Int) (l : List Int) : meas (c :: l) = if lo c = true then mName (c :: l) else if up c = true then mCur (c :: l) else if dg c = true then mDig (c :: l) else mSym (c :: l) := rfl
theorem meas_dg {s : ByteArray} {k : Nat} (hk : k < s.size) (h : dg (bt s k) = true) : meas ((bl s).drop k) = mDig ((bl s).drop k) := by
  rw [bl_cons s k hk, meas_cons]
  have h1 : lo (bt s k) = false := by unfold dg at h; unfold lo; simp at h ⊢; omega
  have h2 : up (bt s k) = false := by unfold dg at h; unfold up; simp at h ⊢; omega
  rw [h1, h2, h, if_neg (by decide), if_neg (by decide), if_pos rfl]
theorem meas_lo {s : ByteArray} {k : Nat} (hk : k < s.size) (h : lo (bt s k) = true) : meas ((bl s).drop k) = mName ((bl s).drop k) := by
  rw [bl_cons s k hk, meas_cons]
  rw [h, if_pos rfl]
theorem meas_up {s : ByteArray} {k : Nat} (hk : k < s.size) (h1 : lo (bt s k) = false) (h : up (bt s k) = true) : meas ((bl s).drop k) = mCur ((bl s).drop k) := by
  rw [bl_cons s k hk, meas_cons]
  rw [h1, h, if_neg (by decide), if_pos rfl]
theorem meas_sym {s : ByteArray} {k : Nat} (hk : k < s.size) (h0 : dg (bt s k) = false) (h1 : lo (bt s k) = false) (h : up (bt s k) = false) : meas ((bl s).drop k) = mSym ((bl s).drop k) := by
  rw [bl_cons s k hk, meas_cons]
  rw [h0, h1, h, if_neg (by decide), if_neg (by decide), if_neg (by decide)]
theorem rsymbols_any (w : World) : Calls Tryd.prog 33 #[] w fun e w' => e = .returned (.slice (some ⟨w.heap.size, 0, none⟩) 17 17) ∧ w' = w.alloc (.cells symV.toArray 9) := by
  go_enter Tryd.func33, Tryd.ntmps33
  go_wp2
  go_ret
  exact ⟨rfl, rfl⟩
theorem pre_extract (s B : ByteArray) (k : Nat) (h : pre (bl B) ((bl s).drop k) = true) : B = s.extract k (k + B.size) := by
  have h2 := (pre_iff _ _).1 h
  apply bytes_eq
  rw [bl_extract]
  rw [bl_len] at h2
  rw [← h2]
  rw [List.take_drop]
theorem RTok.down {s : ByteArray} {k : Nat} {r : Nat × Nat} {w w' w0 : World} {e : Ending} (h : RTok s k r w' e w0) (hb : Below w.heap.size w w') : RTok s k r w e w0 := by
  obtain ⟨κ, a, t, b, h1, h2, h3, h4⟩ := h
  exact ⟨κ, a, t, b, h1, h2, h3, hb.trans (h4.mono hb.size)⟩
theorem frozen_kept {w w' : World} (hb : Below w.heap.size w w') {a : Addr} {v : Value} (hc : w.cell? a = some v) (hf : w.frozen? a = false) : w'.frozen? a = false := (frozen_block (hb.block a.block (World.block_lt_of_cell? w a hc))).trans hf
abbrev tokW (w : World) : World := w.alloc (.cells #[.int .i64 0, .string ⟨#[]⟩, .int .i64 0] 30)
/-- The result's cells. -/
structure Cell3 (B : Nat) (W : World) : Prop where
  c0 : W.cell? ⟨B, 0, none⟩ = some (.int .i64 0)
  c1 : W.cell? ⟨B, 1, none⟩ = some (.string ⟨#[]⟩)
  c2 : W.cell? ⟨B, 2, none⟩ = some (.int .i64 0)
  z0 : W.frozen? ⟨B, 0, none⟩ = false
  z1 : W.frozen? ⟨B, 1, none⟩ = false
  z2 : W.frozen? ⟨B, 2, none⟩ = false
theorem Cell3.new (w : World) : Cell3 w.heap.size (tokW w) := by
  refine ⟨?_, ?_, ?_, ?_, ?_, ?_⟩ <;> simp [tokW, World.cell?_alloc_new, World.frozen?_alloc_new]
theorem Cell3.below {B : Nat} {w w' : World} (h : Cell3 B w) (hb : Below w.heap.size w w') : Cell3 B w' :=
  ⟨cell_kept hb h.c0, cell_kept hb h.c1, cell_kept hb h.c2, frozen_kept hb h.c0 h.z0, frozen_kept hb h.c1 h.z1, frozen_kept hb h.c2 h.z2⟩
theorem RTok.of {s : ByteArray} {k : Nat} {R : Nat × Nat} {w w2 : World} {B : Nat} {κ a : Int} {t : ByteArray} {b : Bool} {e : Ending} (hB : B = w.heap.size) (h : (b = true ↔ R.1 ≠ 0) ∧ (R.1 ≠ 0 → κ = R.1 ∧ t = s.extract k (k + R.2) ∧ a = k) ∧ Below w.heap.size w w2)
    (he : e = .returned (.tuple #[.agg #[.int .i64 κ, .string t, .int .i64 a], .bool b])) : RTok s k R w e (((w2.setCell ⟨B, 0, none⟩ (.int .i64 κ)).setCell ⟨B, 1, none⟩ (.string t)).setCell ⟨B, 2, none⟩ (.int .i64 a)) := by
  subst hB
  exact ⟨κ, a, t, b, he, h.1, h.2.1, ((h.2.2.setCell (Nat.le_refl _) _).setCell (Nat.le_refl _) _).setCell (Nat.le_refl _) _⟩
theorem no_upper_of_lower {c : Int} (h : lo c = true) : dg c = false := by unfold lo at h; unfold dg; simp at h ⊢; omega
theorem no_digit_of_upper {c : Int} (h : up c = true) : dg c = false ∧ lo c = false := by unfold up at h; unfold dg lo; simp at h ⊢; omega
set_option maxHeartbeats 8000000 in
set_option maxRecDepth 100000 in
theorem rtoken_any (s : ByteArray) (k : Nat) (w : World) (hs : s.size ≤ 7000) (hk : k < s.size) :
    Calls Tryd.prog 21 #[.string s, .int .i64 k] w (RTok s k (meas ((bl s).drop k)) w) := by
  have b0 := bt_nonneg s k
  have b1 := bt_le s k
  have HD := fun W => rdigit_any (bt s k) W b0 b1
  have HL := fun W => rlower_any (bt s k) W b0 b1
  have HU := fun W => rupper_any (bt s k) W b0 b1
  have HB := Lib.hid (get_bt s)
  have hgb := HB.out
  have HC3 := Lib.hid (Cell3.new w)
  have HBL := Lib.hid (show Below w.heap.size w (tokW w) from (Below.refl _ _).alloc (Nat.le_refl _) _)
  rcases Bool.eq_false_or_eq_true (dg (bt s k)) with hv | hv
  · rw [meas_dg hk hv]
    rw [hv] at HD
    have HDD := Lib.hid HD
    have hv' := hv
    clear HD HL HU hv
    have HN := Lib.hid (fun W => rnumeric_any s k W hs hk hv')
    generalize mDig ((bl s).drop k) = R at *
    go_enter Tryd.func21, Tryd.ntmps21
    go_upto_region 2 with (first | (go_at_call 27; (with_reducible refine (HDD.out _).mono ?_); rintro e w' ⟨rfl, hw⟩; subst hw))
    change Code.wp _ _ _ _ (tokW w)
    obtain ⟨B, hB⟩ : ∃ B, B = w.heap.size := ⟨_, rfl⟩
    rw [← hB] at HC3 ⊢
    have HB0 := Lib.hid hB
    clear hB
    generalize tokW w = W0 at *
    go_wp2_with ((with_reducible refine (HN.out _).mono ?_); rintro e w2 ⟨κ, a, t, b, rfl, h2, h3, h4⟩; have HP := Lib.hid (And.intro h2 (And.intro h3 (HBL.out.trans (h4.mono HBL.out.size)))); have HC4 := Lib.hid (HC3.out.below h4); have c0 := HC4.out.c0; have c1 := HC4.out.c1; have c2 := HC4.out.c2; have z0 := HC4.out.z0; have z1 := HC4.out.z1; have z2 := HC4.out.z2; clear h2 h3 h4)
    refine bodyPost_ret (v := .tuple #[.agg #[.int .i64 κ, .string t, .int .i64 a], .bool b]) (by rw [results_cell_tmp rfl]; go_simp) rfl (RTok.of HB0.out HP.out rfl)
  rw [hv] at HD
  have HDD := Lib.hid HD
  clear HD
  rcases Bool.eq_false_or_eq_true (lo (bt s k)) with hv2 | hv2
  · rw [meas_lo hk hv2]
    rw [hv2] at HL
    have HLL := Lib.hid HL
    clear HL HU hv2 hv
    have HN := Lib.hid (fun W => rname_any s k W hs (Nat.le_of_lt hk))
    generalize mName ((bl s).drop k) = R at *
    go_enter Tryd.func21, Tryd.ntmps21
    go_upto_region 4 with (first | (go_at_call 27; (with_reducible refine (HDD.out _).mono ?_); rintro e w' ⟨rfl, hw⟩; subst hw) | (go_at_call 29; (with_reducible refine (HLL.out _).mono ?_); rintro e w' ⟨rfl, hw⟩; subst hw))
    change Code.wp _ _ _ _ (tokW w)
    obtain ⟨B, hB⟩ : ∃ B, B = w.heap.size := ⟨_, rfl⟩
    rw [← hB] at HC3 ⊢
    have HB0 := Lib.hid hB
    clear hB
    generalize tokW w = W0 at *
    go_wp2_with ((with_reducible refine (HN.out _).mono ?_); rintro e w2 ⟨κ, a, t, b, rfl, h2, h3, h4⟩; have HP := Lib.hid (And.intro h2 (And.intro h3 (HBL.out.trans (h4.mono HBL.out.size)))); have HC4 := Lib.hid (HC3.out.below h4); have c0 := HC4.out.c0; have c1 := HC4.out.c1; have c2 := HC4.out.c2; have z0 := HC4.out.z0; have z1 := HC4.out.z1; have z2 := HC4.out.z2; clear h2 h3 h4)
    refine bodyPost_ret (v := .tuple #[.agg #[.int .i64 κ, .string t, .int .i64 a], .bool b]) (by rw [results_cell_tmp rfl]; go_simp) rfl (RTok.of HB0.out HP.out rfl)
  rw [hv2] at HL
  have HLL := Lib.hid HL
  clear HL
  rcases Bool.eq_false_or_eq_true (up (bt s k)) with hv3 | hv3
  · rw [meas_up hk hv2 hv3]
    rw [hv3] at HU
    have HUU := Lib.hid HU
    clear HU hv3 hv2 hv
    have HN := Lib.hid (fun W => rcur_any s k W hs (Nat.le_of_lt hk))
    generalize mCur ((bl s).drop k) = R at *
    go_enter Tryd.func21, Tryd.ntmps21
    go_upto_region 6 with (first | (go_at_call 27; (with_reducible refine (HDD.out _).mono ?_); rintro e w' ⟨rfl, hw⟩; subst hw) | (go_at_call 29; (with_reducible refine (HLL.out _).mono ?_); rintro e w' ⟨rfl, hw⟩; subst hw) | (go_at_call 31; (with_reducible refine (HUU.out _).mono ?_); rintro e w' ⟨rfl, hw⟩; subst hw))
    change Code.wp _ _ _ _ (tokW w)
    obtain ⟨B, hB⟩ : ∃ B, B = w.heap.size := ⟨_, rfl⟩
    rw [← hB] at HC3 ⊢
    have HB0 := Lib.hid hB
    clear hB
    generalize tokW w = W0 at *
    go_wp2_with ((with_reducible refine (HN.out _).mono ?_); rintro e w2 ⟨κ, a, t, b, rfl, h2, h3, h4⟩; have HP := Lib.hid (And.intro h2 (And.intro h3 (HBL.out.trans (h4.mono HBL.out.size)))); have HC4 := Lib.hid (HC3.out.below h4); have c0 := HC4.out.c0; have c1 := HC4.out.c1; have c2 := HC4.out.c2; have z0 := HC4.out.z0; have z1 := HC4.out.z1; have z2 := HC4.out.z2; clear h2 h3 h4)
    refine bodyPost_ret (v := .tuple #[.agg #[.int .i64 κ, .string t, .int .i64 a], .bool b]) (by rw [results_cell_tmp rfl]; go_simp) rfl (RTok.of HB0.out HP.out rfl)
  rw [hv3] at HU
  have HUU := Lib.hid HU
  clear HU
  rw [meas_sym hk hv hv2 hv3]
  clear hv hv2 hv3
  have HP17 := Lib.hid (fun (i : Nat) (hi : i < 17) => (symB_get i hi))
  have HSY := Lib.hid rsymbols_any
  go_enter Tryd.func21, Tryd.ntmps21
  go_upto_region 7 with (first | (go_at_call 27; (with_reducible refine (HDD.out _).mono ?_); rintro e w' ⟨rfl, hw⟩; subst hw) | (go_at_call 29; (with_reducible refine (HLL.out _).mono ?_); rintro e w' ⟨rfl, hw⟩; subst hw) | (go_at_call 31; (with_reducible refine (HUU.out _).mono ?_); rintro e w' ⟨rfl, hw⟩; subst hw))
  change Code.wp _ _ _ _ (tokW w)
  obtain ⟨B, hB⟩ : ∃ B, B = w.heap.size := ⟨_, rfl⟩
  rw [← hB] at HC3 ⊢
  have HB0 := Lib.hid hB
  clear hB
  generalize tokW w = W0 at *
  obtain ⟨S0, hS0⟩ : ∃ S, S = W0.heap.size := ⟨_, rfl⟩
  obtain ⟨W1, hW1⟩ : ∃ W, W = W0.alloc (.cells symV.toArray 9) := ⟨_, rfl⟩
  have h4 : Below W0.heap.size W0 W1 := by rw [hW1]; exact alloc_below _ _
  have HBW := Lib.hid (HBL.out.trans (h4.mono HBL.out.size))
  have HC4 := Lib.hid (HC3.out.below h4)
  have c0 := HC4.out.c0
  have c1 := HC4.out.c1
  have c2 := HC4.out.c2
  have z0 := HC4.out.z0
  have z1 := HC4.out.z1
  have z2 := HC4.out.z2
  have HS : Hid (∀ (i : Nat) (C : ByteArray), symB[i]? = some C → W1.cell? ⟨S0, i, none⟩ = some (.string C)) := Lib.hid fun i C h => by
    rw [hW1, hS0, World.cell?_alloc_new, List.getElem?_toArray]; unfold symV; rw [List.getElem?_map, h]; rfl
  have HSY2 : Hid (Calls Tryd.prog 33 #[] W0 fun e w' => e = .returned (.slice (some ⟨S0, 0, none⟩) 17 17) ∧ w' = W1) := Lib.hid (by rw [hS0, hW1]; exact HSY.out W0)
  clear hS0 hW1 h4 HSY HC3 HBL
  go_wp2_with ((with_reducible refine HSY2.out.mono ?_); rintro e w1 ⟨rfl, hw⟩; subst hw)
  go_loop [7] (fun n => ∃ i : Nat, i ≤ 17 ∧ Hid (mSymIn (symbols.drop i) ((bl s).drop k) = mSym ((bl s).drop k)) ∧ n = .int .i64 i) (fun n => 17 - (intOf n).toNat)
  case atStart => exact ⟨0, by omega, Lib.hid rfl, rfl⟩
  case round =>
    obtain ⟨i, hi, hu, rfl⟩ := hrel
    by_cases hlt : i < 17
    · obtain ⟨C, h1, h2, h3⟩ := HP17.out i hlt
      have t0 := HS.out i C h1
      have HS2 := Lib.hid (mSymIn_drop symbols ((bl s).drop k) i (bl C) h2)
      have HC := Lib.hid (fun W => rbegins_any s C k W hs (Nat.le_of_lt hk) h3)
      clear h1 h2
      rcases Bool.eq_false_or_eq_true (pre (bl C) ((bl s).drop k)) with hv | hv
      · have HX := Lib.hid (pre_extract s C k hv)
        rw [hv] at HC HS2
        rw [if_pos rfl] at HS2
        clear hv
        go_wp2_with ((with_reducible refine (HC.out _).mono ?_); rintro e w ⟨rfl, hw⟩; subst hw)
        refine bodyPost_ret (v := .tuple #[.agg #[.int .i64 6, .string C, .int .i64 k], .bool true]) (by rw [results_cell_tmp rfl]; go_simp) rfl (RTok.of HB0.out ⟨by rw [← hu.out, HS2.out]; simp, fun _ => ⟨by rw [← hu.out, HS2.out]; rfl, by rw [← hu.out, HS2.out, bl_len]; exact HX.out, rfl⟩, HBW.out⟩ rfl)
      · rw [hv] at HC HS2
        rw [if_neg (by simp)] at HS2
        clear hv
        go_wp2_with ((with_reducible refine (HC.out _).mono ?_); rintro e w ⟨rfl, hw⟩; subst hw)
        go_round
        case rel => exact ⟨i + 1, by omega, Lib.hid (by rw [← HS2.out, hu.out]), by go_num⟩
        case measure => simp [intOf]; omega
    · obtain rfl : i = 17 := by omega
      have HE := Lib.hid (show mSym ((bl s).drop k) = (0, 0) by rw [← hu.out]; rfl)
      go_wp2
      refine bodyPost_ret (v := .tuple #[.agg #[.int .i64 0, .string ⟨#[]⟩, .int .i64 0], .bool false]) (by rw [results_cell_tmp rfl]; go_simp) rfl (RTok.of HB0.out ⟨by rw [HE.out]; simp, fun h => absurd (by rw [HE.out]) h, HBW.out⟩ rfl)
end Go.Proofs.YtlpombnmeioafaaDoor.Lx
