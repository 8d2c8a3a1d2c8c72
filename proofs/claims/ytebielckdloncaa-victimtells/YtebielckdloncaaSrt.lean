/- A sort's world; what is asked of the comparison. -/
import Derived.Test.YtebielckdloncaaMem
import Derived.Shelf.SlSortCmp.Kit1
namespace Go.Proofs.Ytebielckdloncaa
open Go.Shelf Go.RowKit Go.Lib Go.Sort
set_option linter.unusedVariables false
set_option linter.unusedSimpArgs false
section
variable {α : Type} [Inhabited α] {enc : α → Value} {cf : α → α → Int} {C : Value} {w0 W : World} {blk off cap : Nat} {dk d0 : Array α}

/-- The comparison, bound to C, in every world of the sort. -/
def CmpM (C : Value) (enc : α → Value) (cf : α → α → Int) (blk off size : Nat) (w0 : World) : Prop :=
  ∀ (W : World) (dk : Array α), dk.size = size → SW enc w0 blk off dk W → ∀ x y : α, Calls Try.prog 21 #[C, enc x, enc y] W fun e w' => e = .returned (.int .i64 (cf x y)) ∧ ∃ q os, w' = grow (W.drewN q) os
theorem CmpM.at {size : Nat} (h : CmpM C enc cf blk off size w0) (S : SW enc w0 blk off dk W) (hs : dk.size = size) (x y : α) (n : Nat) (os : Array Obj) :
    Calls Try.prog 21 #[C, enc x, enc y] (grow (W.drewN n) os) fun e w'' => e = .returned (.int .i64 (cf x y)) ∧ ∃ p : GrownBy, w'' = grow (W.drewN p.n) p.os :=
  Calls.grown_of (h _ dk hs (S.grown n os) x y)
theorem mixedT : Try.prog.follows .mixedOrders = true := by kernel_rfl
theorem below_sw {d : Array α} (h : SW enc w0 blk off d W) : Turn (fun k => k = blk) w0 W := by
  obtain ⟨n, os, rfl⟩ := h
  unfold sortWorld
  refine ⟨rfl, rfl, rfl, by rw [size_grow, size_putRow]; show w0.heap.size ≤ w0.heap.size + _; omega, fun k hk hn => ?_⟩
  rw [heap_grow_old _ os (by rw [size_putRow]; exact hk)]
  unfold putRow mapBlock
  simp only [Array.getElem?_modify]
  rw [if_neg (fun e => hn e.symm)]
  rfl
end
end Go.Proofs.Ytebielckdloncaa
