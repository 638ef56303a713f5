/- The classes of bytes: what the table says of each byte, and what belongs returns for every byte and class. Condition: the table of classes holds what its initialiser lays. -/
import Derived.Test.YtlpombnmeioafaaDoorProg
import Derived.Test.YtlpombnmeioafaaDoorLexMath2
import Derived.PlainAid
import Derived.WalkKit
import Derived.LoopTactic
import Derived.Deep.LoopGhost
import Derived.Handy
import Derived.Lib.Hide
import Derived.Below
import Derived.Deep.QuietTactic
import Derived.BigQuiet
set_option linter.unusedVariables false
set_option linter.unusedSimpArgs false
namespace Go.Proofs.YtlpombnmeioafaaDoor.Lx
open Go.RowKit Go.PlainAid
/-- A text's bytes as numbers. -/
def bl (s : ByteArray) : List Int := s.data.toList.map fun b => (b.toNat : Int)
theorem bl_len (s : ByteArray) : (bl s).length = s.size := by unfold bl; rw [List.length_map, Array.length_toList]; rfl
theorem bl_get (s : ByteArray) (i : Nat) (h : i < s.size) : (bl s)[i]? = some (bt s i) := by
  have h' : i < s.data.toList.length := by simpa using h
  unfold bl bt
  rw [List.getElem?_map, List.getElem?_eq_getElem h', dif_pos h]; rfl
theorem bl_extract (s : ByteArray) (a b : Nat) : bl (s.extract a b) = ((bl s).take b).drop a := by
  unfold bl
  rw [ByteArray.data_extract, Array.toList_extract, List.extract_eq_drop_take', ← List.map_take, ← List.map_drop]
theorem bl_head (s : ByteArray) (h : 0 < s.size) : ∃ l, bl s = bt s 0 :: l := by
  have h0 := bl_get s 0 h
  rcases e : bl s with _ | ⟨c, l⟩
  · rw [e] at h0; simp at h0
  · rw [e] at h0
    obtain rfl : c = bt s 0 := by simpa using h0
    exact ⟨l, rfl⟩
def clsL : List Int := [0, 0, 0, 0, 0, 0, 0, 0, 0, 1, 1, 0, 0, 1, 0, 0, 0, 0, 0, 0, 0, 0, 0, 0, 0, 0, 0, 0, 0, 0, 0, 0, 1, 0, 0, 0, 0, 0, 0, 0, 0, 0, 0, 0, 0, 0, 0, 0, 2, 2, 2, 2, 2, 2, 2, 2, 2, 2, 0, 0, 0, 0, 0, 0, 0, 4, 4, 4, 4, 4, 4, 4, 4, 4, 4, 4, 4, 4, 4, 4, 4, 4, 4, 4, 4, 4, 4, 4, 4, 4, 4, 0, 0, 0, 0, 8, 0, 16, 16, 16, 16, 16, 16, 16, 16, 16, 16, 16, 16, 16, 16, 16, 16, 16, 16, 16, 16, 16, 16, 16, 16, 16, 16]
def cls (k : Nat) : Int := clsL.getD k 0
/-- The table of classes lies there. -/
def HasCls (w : World) : Prop := ∀ k : Nat, k < 123 → w.cell? ⟨0, k, none⟩ = some (.int .u8 (cls k))
/-- What belongs returns. -/
def blg (b to_ : Int) : Bool := decide (b < 123) && (bits .and .u8 (cls b.toNat) to_ != 0)
theorem blg_no {b to_ : Int} (h : ¬ b < 123) : blg b to_ = false := by unfold blg; rw [decide_eq_false h]; rfl
theorem blg_yes {b to_ : Int} (h : b < 123) : blg b to_ = (bits .and .u8 (cls b.toNat) to_ != 0) := by unfold blg; rw [decide_eq_true h]; rfl
set_option maxRecDepth 100000 in
theorem cls_all : ∀ k : Fin 256, blg (k.val : Int) 1 = white k.val ∧ blg (k.val : Int) 2 = dg k.val ∧ blg (k.val : Int) 4 = up k.val ∧ blg (k.val : Int) 16 = lo k.val ∧ blg (k.val : Int) 26 = nm k.val ∧ blg (k.val : Int) 30 = wd k.val := by decide +kernel
theorem blg_cls {b : Int} (h0 : 0 ≤ b) (h1 : b ≤ 255) : blg b 1 = white b ∧ blg b 2 = dg b ∧ blg b 4 = up b ∧ blg b 16 = lo b ∧ blg b 26 = nm b ∧ blg b 30 = wd b := by
  have h := cls_all ⟨b.toNat, by omega⟩
  simp only [show ((b.toNat : Nat) : Int) = b by omega] at h
  exact h
theorem ret_bool {a b : Bool} (h : a = b) : Ending.returned (.bool a) = .returned (.bool b) := by rw [h]
theorem ret_int {k : IntKind} {a b : Int} (h : a = b) : Ending.returned (.int k a) = .returned (.int k b) := by rw [h]
set_option maxHeartbeats 400000 in
theorem belongs_any (b to_ : Int) (w : World) (h0 : 0 ≤ b) (h1 : b ≤ 255) (hT : HasCls w) :
    Calls Tryd.prog 34 #[.int .u8 b, .int .u8 to_] w fun e w' => e = .returned (.bool (blg b to_)) ∧ w = w' := by
  by_cases h : b < 123
  · have hb := Lib.hid (blg_yes (to_ := to_) h)
    have hd : decide (b < 123) = true := decide_eq_true h
    have hc := hT b.toNat (by omega)
    clear hT
    go_enter Tryd.func34, Tryd.ntmps34
    go_wp2
    go_ret
    exact ⟨ret_bool hb.out.symm, rfl⟩
  · have hb := Lib.hid (blg_no (to_ := to_) h)
    have hd : decide (b < 123) = false := decide_eq_false h
    clear hT
    go_enter Tryd.func34, Tryd.ntmps34
    go_wp2
    go_ret
    exact ⟨ret_bool hb.out.symm, rfl⟩
end Go.Proofs.YtlpombnmeioafaaDoor.Lx
