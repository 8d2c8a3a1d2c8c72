/- What Name of the document's own answer answers. -/
import Derived.Test.YtgjfhfjmdkhllaaDoorTab
namespace Go.Proofs.YtgjfhfjmdkhllaaDoor
open Go.RowKit
open M
set_option linter.unusedVariables false
set_option linter.unusedSimpArgs false

def names : List (List UInt8) := [[98, 117, 100, 103, 101, 116], [115, 108, 111, 116, 115], [97, 99, 116, 105, 118, 101], [113, 117, 101, 117, 101], [116, 114, 105, 101, 115], [112, 114, 101, 101, 109, 112, 116, 115], [116, 105, 109, 101, 111, 117, 116], [98, 97, 99, 107, 111, 102, 102], [109, 111, 115, 116], [113, 117, 97, 110, 116, 117, 109]]

set_option maxRecDepth 1000000 in
set_option maxHeartbeats 2000000 in
theorem name_any (i : Nat) (hi : i < 10) (w : World) : Calls Tryd.prog 24 #[.int .i64 (i : Int)] w fun e w' => e = .returned (strV (names[i]'(by exact hi))) ∧ Below w.heap.size w w' := by
  have : i = 0 ∨ i = 1 ∨ i = 2 ∨ i = 3 ∨ i = 4 ∨ i = 5 ∨ i = 6 ∨ i = 7 ∨ i = 8 ∨ i = 9 := by omega
  rcases this with rfl | rfl | rfl | rfl | rfl | rfl | rfl | rfl | rfl | rfl
  all_goals (
    go_enter Tryd.func24, Tryd.ntmps24
    go_wp2
    go_ret
    exact ⟨rfl, (Below.refl _ _).alloc (Nat.le_refl _) _⟩)

end Go.Proofs.YtgjfhfjmdkhllaaDoor
