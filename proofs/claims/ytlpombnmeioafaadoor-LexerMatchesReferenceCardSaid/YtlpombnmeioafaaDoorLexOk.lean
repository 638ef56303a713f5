/- What the rows' listed tables give the lexer's contracts: the classes of bytes and the symbols. Condition: the listed variables read as the row lists them. -/
import Derived.Test.YtlpombnmeioafaaDoorLexHead
import Derived.Test.YtlpombnmeioafaaDoorCards
import Derived.Test.YtlpombnmeioafaaDoorTie
import Derived.ProofKit
import Derived.OpenShut
import Derived.LaidMore
import Derived.Lay
import Derived.SevenTiedAt
import Derived.Stop.Joined
import Derived.Stop.LaidErr
import Derived.Lib.LaidTab
import Derived.ChangeMaps5
set_option linter.unusedVariables false
set_option linter.unusedSimpArgs false
namespace Go.Proofs.YtlpombnmeioafaaDoor.Lx
open Go Go.ChangeShapes Go.WideShapes Go.ChangeAt Go.RowKit
theorem own : ownKnob Tryd.prog.godebug = none := by kernel_rfl
theorem gCls : Tryd.prog.globalNamed "wageoffice/lexer.classes" = some 0 := by kernel_rfl
theorem gClsT : (Tryd.prog.globals[0]?).map (·.type) = some 60 := by kernel_rfl
theorem gSym : Tryd.prog.globalNamed "wageoffice/lexer.symbols" = some 1 := by kernel_rfl
theorem gSymT : (Tryd.prog.globals[1]?).map (·.type) = some 62 := by kernel_rfl
theorem cellsCls : Tryd.prog.cellsOf 56 = 1 := by kernel_rfl
theorem cellsStr : Tryd.prog.cellsOf 9 = 1 := by kernel_rfl
theorem cellsTab : Tryd.prog.cellsOf 60 = 123 := by kernel_rfl
theorem cellsSym : Tryd.prog.cellsOf 62 = 17 := by kernel_rfl
/-- What the rows list. -/
def laid {H : Type} : List (String × DataW H) := [("wageoffice/lexer.classes", Rows.laid_wageoffice_lexer_classes), ("wageoffice/lexer.symbols", Rows.laid_wageoffice_lexer_symbols)]
def strData {H : Type} (zs : List ByteArray) : DataW H := .agg (zs.map fun z => .lit (.string z.data.toList))
theorem cls_tab : (Rows.laid_wageoffice_lexer_classes : DataW Unit) = Lib.tabData .u8 clsL := rfl
theorem sym_tab : (Rows.laid_wageoffice_lexer_symbols : DataW Unit) = strData symB := rfl
theorem cells_of_strs {H : Type} {enc : TypeId × Value → H} {P : Program} {w : World} {base : Nat} {sp : Nat → Bool} {held : Bool} {fuel : Nat} {t e : TypeId} {n : Nat} {cs : List Value} {zs : List ByteArray} {p : List MemPlace}
    (ht : P.underlying t = some (.array n e)) (he : P.underlying e = some .string) (hce : P.cellsOf e = 1) (hct : P.cellsOf t = n)
    (h : DataW.trod enc P w base sp held fuel t cs = some (strData zs, p)) : cs = zs.map .string := by
  cases fuel with
  | zero => simp [DataW.trod] at h
  | succ fuel =>
    simp only [DataW.trod, ht, hce, hct, Nat.mul_one] at h
    split at h
    · rename_i hl
      obtain ⟨xs, hm, hx⟩ := Option.map_eq_some_iff.1 h
      have hxs : xs.map (·.1) = zs.map fun z => (DataW.lit (.string z.data.toList) : DataW H) := by
        have := congrArg Prod.fst hx
        simpa [strData] using this
      have hxl : xs.length = n := by simpa using Lib.mapM_length hm
      have hzl : zs.length = n := by
        have := congrArg List.length hxs
        simp at this
        omega
      apply List.ext_getElem?
      intro i
      by_cases hi : i < n
      · obtain ⟨b, hb, hf⟩ := Lib.mapM_at hm i i (by simp [hi])
        obtain ⟨z, hc, rfl, _⟩ := DataW.trod_string he hf
        have h1 : cs[i]? = some (.string z) := by
          have := congrArg (·[0]?) hc
          simpa [List.getElem?_take, List.getElem?_drop] using this
        have h2 : (xs.map (·.1))[i]? = some (DataW.lit (.string z.data.toList) : DataW H) := by simp [hb]
        rw [hxs] at h2
        simp only [List.getElem?_map, Option.map_eq_some_iff, DataW.lit.injEq, Lit.string.injEq] at h2
        obtain ⟨z', hz', e⟩ := h2
        have : z' = z := by apply ByteArray.ext; exact Array.ext' e
        subst this
        simp [h1, hz']
      · rw [List.getElem?_eq_none (by omega), List.getElem?_eq_none (by simp; omega)]
    · cases h
theorem strs_of_head {P : Program} {W : World} {name : String} {zs : List ByteArray} {rest : List (String × DataW Unit)} {g : Nat} {t e : TypeId} {n : Nat}
    (hg : P.globalNamed name = some g) (hty : (P.globals[g]?).map (·.type) = some t) (ht : P.underlying t = some (.array n e)) (he : P.underlying e = some .string) (hce : P.cellsOf e = 1) (hct : P.cellsOf t = n)
    (h : laidMet P ((name, strData zs) :: rest) W) : W.var? P name = some (zs.map Value.string).toArray := by
  obtain ⟨ps, ⟨g', t', cs, fuel, p, q, hg', ht', hvar, hd, _, _⟩, _⟩ := h
  obtain rfl := Option.some.inj (hg.symm.trans hg')
  obtain rfl := Option.some.inj (hty.symm.trans ht')
  rw [hvar, ← cells_of_strs ht he hce hct hd]
theorem cls_at : ∀ k : Nat, k < 123 → clsL.getD k 0 = cls k := fun _ _ => rfl
theorem tabs_of {W : World} (h : laidMetH Tryd.prog laid W) : Tabs W := by
  rw [MakeChecks.laidMetH_plain _ _ _ (by kernel_rfl)] at h
  have h1 := h
  have h2 := h.tail
  unfold laid at h1 h2
  rw [cls_tab] at h1
  rw [sym_tab] at h2
  have hc := Lib.tabIs_of_head gCls gClsT Tryd.underlying60 Tryd.underlying56 cellsCls cellsTab h1
  have hs := strs_of_head gSym gSymT Tryd.underlying62 Tryd.underlying9 cellsStr cellsSym h2
  refine ⟨fun k hk => ?_, fun j v hv => ?_⟩
  · exact hc.cell gCls k (by show k < 123; exact hk)
  · have := World.var?_cell gSym hs j
    rw [Nat.zero_add, this, List.getElem?_toArray]
    exact hv
/-- The start that the witnesses take. -/
theorem met (os : Os) (args : Array Value) : laidMetH Tryd.prog laid (((World.laidAll Tryd.prog os laid).forCall (fun _ _ => 0) ⟨#[], args, []⟩).memory) := by
  rw [MakeChecks.laidMetH_plain _ _ _ (by kernel_rfl)]; exact laidMet_laidAll _ (by kernel_rfl) (by kernel_rfl)
end Go.Proofs.YtlpombnmeioafaaDoor.Lx
