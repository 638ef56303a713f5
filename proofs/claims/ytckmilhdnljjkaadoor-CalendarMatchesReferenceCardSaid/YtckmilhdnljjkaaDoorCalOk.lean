/- What the rows' listed tables give the calendar's contracts: the days before each month and the library's powers of ten. Condition: the listed variables read as the row lists them. -/
import Derived.Test.YtckmilhdnljjkaaDoorCalHead
import Derived.Test.YtckmilhdnljjkaaDoorCards
import Derived.Test.YtckmilhdnljjkaaDoorTie
import Derived.ProofKit
import Derived.OpenShut
import Derived.LaidMore
import Derived.Lay
import Derived.SevenTiedAt
import Derived.Stop.Joined
import Derived.Stop.LaidErr
namespace Go.Proofs.YtckmilhdnljjkaaDoor.Cal
open Go.ChangeShapes Go.WideShapes Go.ChangeAt Go.RowKit
theorem own : ownKnob Tryd.prog.godebug = none := by kernel_rfl
theorem gTab : Tryd.prog.globalNamed "wageoffice/calendar.daysBefore" = some 0 := by kernel_rfl
theorem gTabT : (Tryd.prog.globals[0]?).map (·.type) = some 49 := by kernel_rfl
theorem gPowT : (Tryd.prog.globals[1]?).map (·.type) = some 58 := by kernel_rfl
theorem cellsInt : Tryd.prog.cellsOf 3 = 1 := by kernel_rfl
theorem cellsU64 : Tryd.prog.cellsOf 52 = 1 := by kernel_rfl
theorem cellsTab : Tryd.prog.cellsOf 49 = 12 := by kernel_rfl
theorem cellsPow : Tryd.prog.cellsOf 58 = 20 := by kernel_rfl
/-- What the rows list. -/
def laid {H : Type} : List (String × DataW H) := [("math/bits.deBruijn32tab", Rows.laid_math_bits_deBruijn32tab), ("math/bits.deBruijn64tab", Rows.laid_math_bits_deBruijn64tab), ("internal/strconv.uint64pow10", Rows.laid_internal_strconv_uint64pow10), ("wageoffice/calendar.daysBefore", Rows.laid_wageoffice_calendar_daysBefore)]
theorem days_tab : (Rows.laid_wageoffice_calendar_daysBefore : DataW Unit) = Lib.tabData .i64 [0, 31, 59, 90, 120, 151, 181, 212, 243, 273, 304, 334] := rfl
theorem pow_tab : (Rows.laid_internal_strconv_uint64pow10 : DataW Unit) = Lib.tabData .u64 Lib.pow10Tab := rfl
theorem days_at : ∀ k : Nat, k < 12 → [0, 31, 59, 90, 120, 151, 181, 212, 243, 273, 304, 334].getD k 0 = tab k := by decide
theorem ok_of {W : World} (h : laidMetH Tryd.prog laid W) : Ok W := by
  rw [MakeChecks.laidMetH_plain _ _ _ (by kernel_rfl)] at h
  have h1 := h.tail.tail
  have h2 := h1.tail
  rw [pow_tab] at h1
  rw [days_tab] at h2
  have hp := Lib.tabIs_of_head gPow gPowT Tryd.underlying58 Tryd.underlying52 cellsU64 cellsPow h1
  have hd := Lib.tabIs_of_head gTab gTabT Tryd.underlying49 Tryd.underlying3 cellsInt cellsTab h2
  refine ⟨fun k hk => ?_, hp⟩
  have := hd.cell gTab k (by simpa using hk)
  rwa [days_at k hk] at this
/-- The start that the witnesses take. -/
theorem met (os : Os) (args : Array Value) : laidMetH Tryd.prog laid (((World.laidAll Tryd.prog os laid).forCall (fun _ _ => 0) ⟨#[], args, []⟩).memory) := by
  rw [MakeChecks.laidMetH_plain _ _ _ (by kernel_rfl)]; exact laidMet_laidAll _ (by kernel_rfl) (by kernel_rfl)
end Go.Proofs.YtckmilhdnljjkaaDoor.Cal
