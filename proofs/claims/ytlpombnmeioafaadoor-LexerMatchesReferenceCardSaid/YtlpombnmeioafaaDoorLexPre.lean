/- What strings.HasPrefix and strings.Cut (at a line feed) return for every text. Conditions: texts of at most 7000 bytes; HasPrefix's second text at most as long. -/
import Derived.Test.YtlpombnmeioafaaDoorLexBase
import Derived.Lib.Bytealg
set_option linter.unusedVariables false
set_option linter.unusedSimpArgs false
namespace Go.Proofs.YtlpombnmeioafaaDoor.Lx
open Go.RowKit Go.PlainAid
theorem toList_data (s : ByteArray) : s.toList = s.data.toList := Lib.toList_data s
theorem bytes_eq {a b : ByteArray} (h : bl a = bl b) : a = b := by
  apply ByteArray.ext
  apply Array.ext'
  unfold bl at h
  refine List.map_inj_right (f := fun b : UInt8 => (b.toNat : Int)) (fun x y hxy => ?_) |>.1 h
  exact UInt8.toNat_inj.1 (Int.ofNat.inj hxy)
theorem pre_iff (p l : List Int) : pre p l = true ↔ l.take p.length = p := by
  induction p generalizing l with
  | nil => simp [pre]
  | cons a p ih =>
    cases l with
    | nil => simp [pre]
    | cons c l => simp only [pre, Bool.and_eq_true, beq_iff_eq, ih, List.length_cons, List.take_succ_cons, List.cons.injEq]
set_option maxHeartbeats 1000000 in
theorem liteHasPrefix_any (s p : ByteArray) (w : World) (hs : s.size ≤ 7000) (hp : p.size ≤ 7000) :
    Calls Tryd.prog 45 #[.string s, .string p] w fun e w' => e = .returned (.bool (pre (bl p) (bl s))) ∧ w = w' := by
  by_cases h : p.size ≤ s.size
  · have hd : decide (p.size ≤ s.size) = true := decide_eq_true h
    have HE := Lib.hid (show ((s.extract 0 p.size).toList == p.toList) = pre (bl p) (bl s) by
      rw [Bool.eq_iff_iff, beq_iff_eq, pre_iff, bl_len, toList_data, toList_data]
      constructor
      · intro h1
        have h2 : s.extract 0 p.size = p := by apply ByteArray.ext; exact Array.ext' h1
        have h3 := bl_extract s 0 p.size
        rw [h2, List.drop_zero] at h3
        exact h3.symm
      · intro h1
        have h3 := bl_extract s 0 p.size
        rw [List.drop_zero, h1] at h3
        rw [bytes_eq h3])
    go_enter Tryd.func45, Tryd.ntmps45
    go_wp2
    go_ret
    exact ⟨ret_bool HE.out, rfl⟩
  · have hd : decide (p.size ≤ s.size) = false := decide_eq_false h
    have HE := Lib.hid (show pre (bl p) (bl s) = false by
      rcases Bool.eq_false_or_eq_true (pre (bl p) (bl s)) with e | e
      · have := pre_len _ _ e; rw [bl_len, bl_len] at this; omega
      · exact e)
    go_enter Tryd.func45, Tryd.ntmps45
    go_wp2
    go_ret
    exact ⟨ret_bool HE.out.symm, rfl⟩
theorem hasPrefix_any (s p : ByteArray) (w : World) (hs : s.size ≤ 7000) (hp : p.size ≤ 7000) :
    Calls Tryd.prog 35 #[.string s, .string p] w fun e w' => e = .returned (.bool (pre (bl p) (bl s))) ∧ w = w' := by
  have H := Lib.hid (liteHasPrefix_any s p w hs hp)
  go_enter Tryd.func35, Tryd.ntmps35
  go_wp2_with ((with_reducible refine H.out.mono ?_); rintro e w ⟨rfl, rfl⟩)
  go_ret
  exact ⟨rfl, rfl⟩
theorem index_lf (l : List UInt8) : Lib.indexByte l 10 = (if runL (fun c => c != 10) (l.map fun b => (b.toNat : Int)) = l.length then -1 else (runL (fun c => c != 10) (l.map fun b => (b.toNat : Int)) : Int)) := by
  induction l with
  | nil => rfl
  | cons b l ih =>
    rw [List.map_cons]
    unfold Lib.indexByte
    have hle := runL_le (fun c => c != 10) (l.map fun b => (b.toNat : Int))
    rw [List.length_map] at hle
    by_cases hb : b = 10
    · subst hb; simp [runL]
    · have h1 : ((b.toNat : Int) != 10) = true := by
        simp only [bne_iff_ne, ne_eq]
        intro h; apply hb
        exact UInt8.toNat_inj.1 (by simpa using (by omega : b.toNat = 10))
      have h2 : (b == 10) = false := by simpa using hb
      rw [h2, ih]
      simp only [runL, h1, if_true, List.length_cons, Bool.false_eq_true, if_false]
      by_cases he : runL (fun c => c != 10) (l.map fun b => (b.toNat : Int)) = l.length
      · rw [he]; simp
      · generalize runL (fun c => c != 10) (l.map fun b => (b.toNat : Int)) = q at *
        simp only [if_neg he, if_neg (show ¬ q + 1 = l.length + 1 by omega)]
        rw [if_neg (by simp)]; omega
/-- The size of the part of a text ahead of the first line feed. -/
def lineN (s : ByteArray) : Nat := runL (fun c => c != 10) (bl s)
theorem lineN_le (s : ByteArray) : lineN s ≤ s.size := by have := runL_le (fun c => c != 10) (bl s); rw [bl_len] at this; exact this
def lineIx (s : ByteArray) : Int := if lineN s = s.size then -1 else (lineN s : Int)
theorem lineIx_eq (s : ByteArray) : Lib.indexByte s.data.toList 10 = lineIx s := by
  rw [index_lf]; unfold lineIx lineN bl; rw [Array.length_toList]; rfl
theorem to8 : (10 : Int).toNat.toUInt8 = 10 := rfl
set_option maxHeartbeats 1000000 in
theorem liteIndexByte_any (s : ByteArray) (w : World) :
    Calls Tryd.prog 52 #[.string s, .int .u8 10] w fun e w' => e = .returned (.int .i64 (lineIx s)) ∧ w = w' := by
  have HL := Lib.hid (lineIx_eq s)
  go_enter Tryd.func52, Tryd.ntmps52
  go_wp2
  rw [run_callFunc_extern Tryd.func56 (by kernel_rfl) (by kernel_rfl) (by kernel_rfl) (e := Extern.BytealgIndexByte.indexByte) (by kernel_rfl), Lib.run_indexByteString, to8, HL.out]
  simp only [Result.andThen]
  rw [Oper.upon_value]
  go_wp2
  go_ret
  exact ⟨rfl, rfl⟩
set_option maxHeartbeats 1000000 in
theorem liteIndex_any (s : ByteArray) (w : World) :
    Calls Tryd.prog 50 #[.string s, .string ⟨#[10]⟩] w fun e w' => e = .returned (.int .i64 (lineIx s)) ∧ w = w' := by
  have H := Lib.hid (fun (c : Int) (hc : c = 10) => (show Calls Tryd.prog 52 #[.string s, .int .u8 c] w fun e w' => e = .returned (.int .i64 (lineIx s)) ∧ w = w' from hc ▸ liteIndexByte_any s w))
  go_enter Tryd.func50, Tryd.ntmps50
  go_wp2_with (go_at_call 52; refine (H.out _ (by rfl)).mono ?_; rintro e w ⟨rfl, rfl⟩)
  · have h : ([10] == s.toList) = true := by assumption
    have h0 : lineIx s = 0 := by
      rw [← lineIx_eq, ← toList_data, ← (beq_iff_eq.1 h)]; rfl
    go_ret
    exact ⟨ret_int h0.symm, rfl⟩
  · go_ret
    exact ⟨rfl, rfl⟩
theorem ret_cut {a b : ByteArray} {t u : Value} (h : a = b) : Ending.returned (.tuple #[.string a, t, u]) = .returned (.tuple #[.string b, t, u]) := by rw [h]
def CutPost (s : ByteArray) (w : World) (e : Ending) (w' : World) : Prop := (∃ t b, e = .returned (.tuple #[.string (s.extract 0 (lineN s)), .string t, .bool b])) ∧ ∃ n, w' = w.drewN n
set_option maxHeartbeats 1000000 in
theorem liteCut_any (s : ByteArray) (w : World) (hs : s.size ≤ 7000) :
    Calls Tryd.prog 46 #[.string s, .string ⟨#[10]⟩] w (CutPost s w) := by
  have H := Lib.hid (liteIndex_any s w)
  have hle := lineN_le s
  by_cases h : lineN s = s.size
  · have e : lineIx s = -1 := by unfold lineIx; rw [if_pos h]
    rw [e] at H
    have HE := Lib.hid (show s.extract 0 (lineN s) = s by rw [h]; exact ByteArray.extract_zero_size)
    clear e h hle
    go_enter Tryd.func46, Tryd.ntmps46
    go_wp2_with ((with_reducible refine H.out.mono ?_); rintro e w ⟨rfl, rfl⟩)
    go_ret3
    exact ⟨⟨_, _, ret_cut HE.out.symm⟩, 0, rfl⟩
  · have e : lineIx s = lineN s := by unfold lineIx; rw [if_neg h]
    rw [e] at H
    unfold CutPost
    generalize lineN s = m at *
    have hm : m < s.size := by omega
    have hd : decide ((0 : Int) ≤ (m : Int)) = true := by simp
    have h1 : IntKind.i64.wrap ((m : Int) + 1) = (m : Int) + 1 := IntWalk.i64_in _ (by omega)
    have h2 : (0 : Int) ≤ (m : Int) + 1 := by omega
    have h3 : ((m : Int) + 1).toNat = m + 1 := by omega
    clear e h hle
    go_enter Tryd.func46, Tryd.ntmps46
    go_wp2_with ((with_reducible refine H.out.mono ?_); rintro e w ⟨rfl, rfl⟩)
    go_quiet (fail)
    go_wp2
    go_ret3
    exact ⟨⟨_, _, rfl⟩, _, rfl⟩
theorem gcut_any (s : ByteArray) (w : World) (hs : s.size ≤ 7000) :
    Calls Tryd.prog 36 #[.string s, .string ⟨#[10]⟩] w (CutPost s w) := by
  have H := Lib.hid (liteCut_any s w hs)
  go_enter Tryd.func36, Tryd.ntmps36
  go_wp2_with ((with_reducible refine H.out.mono ?_); rintro e w' ⟨⟨t, b, rfl⟩, hw⟩; have HW := Lib.hid hw; clear hw)
  go_ret3
  exact ⟨⟨_, _, rfl⟩, HW.out⟩
end Go.Proofs.YtlpombnmeioafaaDoor.Lx
