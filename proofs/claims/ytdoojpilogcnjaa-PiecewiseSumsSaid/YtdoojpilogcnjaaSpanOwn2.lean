/- What slices.Equal at spans and the developers' Has return. Conditions: the lists lie in memory as the arguments say; they are short. -/
import Derived.Test.YtdoojpilogcnjaaSpanOwn
set_option linter.unusedVariables false
set_option linter.unusedSimpArgs false
namespace Go.Proofs.Ytdoojpilogcnjaa.Sp
open Go.RowKit
theorem hasc_cons (x : Sn) (l : List Sn) (n : Int) : has (x :: l) n = ((decide (Proper x) && decide (x.1 ≤ n ∧ n < x.2)) || has l n) := rfl
end Go.Proofs.Ytdoojpilogcnjaa.Sp
