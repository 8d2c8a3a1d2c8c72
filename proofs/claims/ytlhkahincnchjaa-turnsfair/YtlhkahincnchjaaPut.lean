/- A block beside, written. -/
import Derived.Test.YtlhkahincnchjaaMul
namespace Go.Proofs.Ytlhkahincnchjaa
open Go.RowKit
open M
set_option linter.unusedVariables false
set_option linter.unusedSimpArgs false
theorem MX.putR {B : Nat} {w0 w : World} {os : List Ob} {R : List (Nat × Obj)} {b : Nat} {cur : Array Value} {ty : TypeId} (h : MX B w0 w os ((b, .cells cur ty) :: R)) (hR : ∀ p ∈ R, p.1 ≠ b) (o : Nat) (u : Value) : MX B w0 (w.setCell ⟨b, o, none⟩ u) os ((b, .cells (cur.setIfInBounds o u) ty) :: R) := by
  refine h.turnR ((Turn.refl _ w).setCell (p := ⟨b, o, none⟩) (.inl ⟨_, List.mem_cons_self ..⟩) u) (fun p hp => ?_)
  rcases List.mem_cons.1 hp with rfl | hp
  · exact ⟨heap_setCell_at (o := o) (h.row (List.mem_cons_self ..)) u, .inl ⟨_, List.mem_cons_self ..⟩⟩
  · exact ⟨by rw [Below.heap_setCell _ _ _ _ (hR p hp)]; exact h.row (List.mem_cons_of_mem _ hp), .inl ⟨_, List.mem_cons_of_mem _ hp⟩⟩
end Go.Proofs.Ytlhkahincnchjaa
