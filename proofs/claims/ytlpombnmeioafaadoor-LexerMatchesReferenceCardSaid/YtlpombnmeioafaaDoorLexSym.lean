/- What package lexer's measureSymbol, measure and afterGap return for every text. Conditions: the tables of classes and symbols hold what their initialisers lay; texts of at most 7000 bytes; measure is asked at a text that is not empty. -/
import Derived.Test.YtlpombnmeioafaaDoorLexOwn3
import Derived.Deep.MidRow
import Derived.Deep.Cut
set_option linter.unusedVariables false
set_option linter.unusedSimpArgs false
namespace Go.Proofs.YtlpombnmeioafaaDoor.Lx
open Go.RowKit Go.PlainAid
def symB : List ByteArray := [⟨#[61, 61]⟩, ⟨#[33, 61]⟩, ⟨#[60, 61]⟩, ⟨#[62, 61]⟩, ⟨#[60]⟩, ⟨#[62]⟩, ⟨#[43]⟩, ⟨#[45]⟩, ⟨#[42]⟩, ⟨#[47]⟩, ⟨#[40]⟩, ⟨#[41]⟩, ⟨#[123]⟩, ⟨#[125]⟩, ⟨#[58]⟩, ⟨#[59]⟩, ⟨#[44]⟩]
theorem symB_len : symB.length = 17 := rfl
theorem symB_bl : symB.map bl = symbols := by decide
def symV : List Value := symB.map .string
/-- The table of symbols lies there. -/
def HasSym (w : World) : Prop := w.rangeAt 1 0 symV
/-- The tables that the lexer reads. -/
structure Tabs (w : World) : Prop where
  c : HasCls w
  s : HasSym w
theorem cell_kept {w w' : World} (hb : Below w.heap.size w w') {a : Addr} {v : Value} (hc : w.cell? a = some v) : w'.cell? a = some v := (hb.cell (World.block_lt_of_cell? w a hc)).trans hc
theorem Tabs.below {w w' : World} (h : Tabs w) (hb : Below w.heap.size w w') : Tabs w' := ⟨fun k hk => cell_kept hb (h.c k hk), fun j v hv => cell_kept hb (h.s j v hv)⟩
theorem mSymIn_drop (S : List (List Int)) (l : List Int) (k : Nat) (p : List Int) (h : S[k]? = some p) : mSymIn (S.drop k) l = if pre p l = true then (6, p.length) else mSymIn (S.drop (k + 1)) l := by
  have hk : k < S.length := by
    rcases Nat.lt_or_ge k S.length with h' | h'
    · exact h'
    · rw [List.getElem?_eq_none h'] at h; cases h
  rw [List.drop_eq_getElem_cons hk]
  rw [List.getElem?_eq_getElem hk] at h
  rw [Option.some.inj h]; rfl
theorem symB_get (k : Nat) (hk : k < 17) : ∃ B, symB[k]? = some B ∧ symbols[k]? = some (bl B) ∧ B.size ≤ 7000 := by
  have h : k < symB.length := hk
  refine ⟨symB[k], List.getElem?_eq_getElem h, ?_, ?_⟩
  · rw [← symB_bl, List.getElem?_map, List.getElem?_eq_getElem h]; rfl
  · have : ∀ B ∈ symB, B.size ≤ 7000 := by decide
    exact this _ (List.getElem_mem h)
theorem index_sym (A : Array Value) (k : Nat) (B : ByteArray) (hk : k < 17) (hA : A[k]? = some (.string B)) (w : World) :
    (Instr.index 62 (.agg A) (.int .i64 k)).run Tryd.prog w = .ok (.string B) w := by
  have hn : (0 : Int) ≤ (k : Int) ∧ (k : Int) < ((17 : Nat) : Int) := by omega
  have h := Tryd.underlying62
  simp [Instr.index, run_underlying h, asIntOf, hn, go_sem, hA, hk]
set_option maxHeartbeats 2000000 in
theorem sym_any (s : ByteArray) (w : World) (hs : s.size ≤ 7000) (hT : Tabs w) :
    Calls Tryd.prog 40 #[.string s] w fun e w' => e = .returned (kn (mSym (bl s))) ∧ w = w' := by
  have HT := Lib.hid hT
  have HS := Lib.hid hT.s
  have hu := Tryd.underlying62
  have hi : (Tryd.prog.info? 62).map (·.size) = some symV.length := by kernel_rfl
  have HI := Lib.hid (And.intro hu hi)
  clear hT hu hi
  have HP := Lib.hid (fun (k : Nat) (hk : k < 17) => (symB_get k hk))
  go_enter Tryd.func40, Tryd.ntmps40
  go_upto_region 1 with (fail)
  refine wp_region_lit ?_
  refine wpList_load_mid rfl _ _ rfl 1 0 rfl symV _ HS.out HI.out.1 rfl HI.out.2 ?_
  have hsz : symV.toArray.size = 17 := rfl
  obtain ⟨A, hA⟩ : ∃ A, A = symV.toArray := ⟨_, rfl⟩
  rw [← hA] at hsz ⊢
  have HA := Lib.hid hA
  clear hA
  go_wp2
  go_loop [7] (fun n => ∃ k : Nat, k ≤ 17 ∧ Hid (mSymIn (symbols.drop k) (bl s) = mSym (bl s)) ∧ n = .int .i64 k) (fun n => 17 - (intOf n).toNat)
  case atStart => exact ⟨0, by omega, Lib.hid rfl, rfl⟩
  case round =>
    obtain ⟨k, hk, hu, rfl⟩ := hrel
    by_cases hlt : k < 17
    · obtain ⟨B, h1, h2, h3⟩ := HP.out k hlt
      have hAk : A[k]? = some (.string B) := by
        rw [HA.out, List.getElem?_toArray]; unfold symV; rw [List.getElem?_map, h1]; rfl
      have hix := index_sym A k B hlt hAk
      clear hAk
      have HS2 := Lib.hid (mSymIn_drop symbols (bl s) k (bl B) h2)
      have HC := Lib.hid (hasPrefix_any s B w hs h3)
      clear h1 h2
      rcases Bool.eq_false_or_eq_true (pre (bl B) (bl s)) with hv | hv
      · rw [hv] at HC HS2
        rw [if_pos rfl] at HS2
        clear hv
        go_wp2_with ((with_reducible refine HC.out.mono ?_); rintro e w ⟨rfl, rfl⟩)
        go_ret2
        exact ⟨ret_kn (by rw [← hu.out, HS2.out, bl_len]), rfl⟩
      · rw [hv] at HC HS2
        rw [if_neg (by simp)] at HS2
        clear hv
        go_wp2_with ((with_reducible refine HC.out.mono ?_); rintro e w ⟨rfl, rfl⟩)
        go_round
        case rel => exact ⟨k + 1, by omega, Lib.hid (by rw [← HS2.out, hu.out]), by go_num⟩
        case measure => simp [intOf]; omega
    · obtain rfl : k = 17 := by omega
      have HE := Lib.hid (show mSym (bl s) = (0, 0) by rw [← hu.out]; rfl)
      go_wp2
      go_ret2
      exact ⟨ret_kn HE.out, rfl⟩
end Go.Proofs.YtlpombnmeioafaaDoor.Lx
