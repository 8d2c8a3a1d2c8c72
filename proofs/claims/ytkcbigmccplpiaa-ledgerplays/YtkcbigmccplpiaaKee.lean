/- What Take and Free keep. -/
import Derived.Test.YtkcbigmccplpiaaSho
import Derived.Test.YtkcbigmccplpiaaArg
import Derived.Deep.RegionHeld3
import Derived.Deep.CutRange
import Derived.Deep.CutBlock
import Derived.BigQuiet
namespace Go.Proofs.Ytkcbigmccplpiaa
open Go.RowKit
open M
set_option linter.unusedVariables false
set_option linter.unusedSimpArgs false
theorem fx_keeps {x : Lg} {id BU : Int} {n0 : Nat} (h : x.bu = BU ∧ x.n = n0) : (fx x id).bu = BU ∧ (fx x id).n = n0 := by unfold fx; split <;> exact h
theorem tx_keeps {x : Lg} {id mem BU : Int} {n0 : Nat} (h : x.bu = BU ∧ x.n = n0) : (tx x id mem).bu = BU ∧ (tx x id mem).n = n0 := by unfold tx; split <;> exact h
end Go.Proofs.Ytkcbigmccplpiaa
