/- An array of sixty bools of the call's own. -/
import Derived.Test.YtipkgoghodkbfaaDoorSho
import Derived.Test.YtipkgoghodkbfaaDoorMth
namespace Go.Proofs.YtipkgoghodkbfaaDoor
open Go.RowKit
open M
set_option linter.unusedVariables false
set_option linter.unusedSimpArgs false

def bRow (p : Nat → Bool) : Array Value := ((List.range 60).map fun i => Value.bool (p i)).toArray
theorem bRow_at (p : Nat → Bool) (i : Nat) (h : i < 60) : (bRow p)[i]? = some (.bool (p i)) := by simp [bRow, h]
theorem bRow_set (p : Nat → Bool) (j : Nat) : (bRow p).setIfInBounds j (.bool true) = bRow (fun i => p i || decide (i = j)) := by
  apply Array.ext_getElem?
  intro i
  rw [Array.getElem?_setIfInBounds]
  have hs : ∀ q, (bRow q).size = 60 := fun q => by simp [bRow]
  by_cases hi : i < 60
  · rw [bRow_at _ i hi, bRow_at _ i hi]
    by_cases hij : j = i
    · subst hij
      simp [hs, hi]
    · have : ¬ i = j := fun e => hij e.symm
      simp [hij, this]
  · have h1 : ∀ q, (bRow q)[i]? = none := fun q => Array.getElem?_eq_none (by rw [hs]; omega)
    rw [h1]
    by_cases hij : j = i
    · subst hij
      simp [hs, hi]
    · simp [hij, h1]
def falses60 : Array Value := bRow (fun _ => false)
theorem run_build49 (W : World) : (Instr.build 49 #[]).run Tryd.prog W = .ok (.agg falses60) W := by kernel_rfl
theorem run_alloc49 (W : World) : (Instr.alloc 49 true (.tuple #[])).run Tryd.prog W = .ok (.pointer (some ⟨W.heap.size, 0, none⟩)) (W.alloc (.cells falses60 49)) := by kernel_rfl
theorem falses60_size : falses60.size = 60 := by simp [falses60, bRow]
theorem size49 (W : World) : (Go.sizeOf 49).run Tryd.prog W = .ok 60 W := by kernel_rfl
theorem falses60_one : ∀ v ∈ falses60.toList, v.oneCell' = true := by
  intro v hv
  simp [falses60, bRow] at hv
  obtain ⟨_, rfl⟩ := hv
  rfl
theorem run_store49 (W : World) : (Instr.storeAt 49 (.pointer (some ⟨W.heap.size, 0, none⟩)) (.agg falses60)).run Tryd.prog (W.alloc (.cells falses60 49)) = .ok () (W.alloc (.cells falses60 49)) := by
  have h1 := run_storeCells_at Tryd.prog W.heap.size 0 49 falses60.toList 0 falses60 (W.alloc (.cells falses60 49)) (heap_alloc_new _ _) (by simp) falses60_one
  have h2 : (falses60.toList.take (0 + 0) ++ falses60.toList ++ falses60.toList.drop (0 + 0 + falses60.toList.length)).toArray = falses60 := by
    rw [List.drop_of_length_le (by simp)]
    simp
  rw [h2, setRow_self _ _ falses60 49 (0, 0) (heap_alloc_new _ _)] at h1
  have h3 : (Value.agg falses60).cells = falses60 := rfl
  have hs := falses60_size
  have h4 := size49 (W.alloc (.cells falses60 49))
  generalize falses60 = Z at *
  simp [Instr.storeAt, storeVar, Instr.sureAddr, go_sem, h3, hs, h4, h1]

section
variable {W : World} {ops : Array Oper} {rest : List Oper} {o : Oper} {a : Act} {Q : Exit → Act → World → Prop}
theorem wpList_build49 (hgd : o.guard = none) (ho : o.op = .build 49 #[]) (h : wpList Tryd.prog ops Q rest (a.put o.dst (.agg falses60)) W) : wpList Tryd.prog ops Q (o :: rest) a W := by
  refine wpList_plain hgd fun K hK => ?_
  have hr := run_build49 W
  unfold Oper.wp execOp
  simp only [ho, List.map_toArray, List.map_nil, Sem.run_bind, hr, Result.andThen_ok, Sem.run_pure]
  exact hK _ _ h
theorem wpList_alloc49 (hgd : o.guard = none) (ho : o.op = .alloc 49) (h : wpList Tryd.prog ops Q rest (a.put o.dst (.pointer (some ⟨W.heap.size, 0, none⟩))) (W.alloc (.cells falses60 49))) : wpList Tryd.prog ops Q (o :: rest) a W := by
  refine wpList_plain hgd fun K hK => ?_
  have hr := run_alloc49 W
  unfold Oper.wp execOp
  simp only [ho, List.map_toArray, List.map_nil, Sem.run_bind, hr, Result.andThen_ok, Sem.run_pure]
  exact hK _ _ h
theorem wpList_store49 (hgd : o.guard = none) (x y : Operand) (ho : o.op = .store 49 x y) (hd : o.dst = none) (hx : a.eval x = .pointer (some ⟨W.heap.size, 0, none⟩)) (hy : a.eval y = .agg falses60) (h : wpList Tryd.prog ops Q rest a (W.alloc (.cells falses60 49))) : wpList Tryd.prog ops Q (o :: rest) a (W.alloc (.cells falses60 49)) := by
  refine wpList_plain hgd fun K hK => ?_
  have hr := run_store49 W
  unfold Oper.wp execOp
  simp only [ho, hx, hy, Sem.run_bind, hr, Result.andThen_ok, Sem.run_pure]
  refine hK _ _ ?_
  rw [hd]
  exact h
end

/-- The array, and the world that it was made in. -/
structure AB (Wa W : World) (sb : Nat) (p : Nat → Bool) : Prop where
  bel : Below Wa.heap.size Wa W
  blk : W.heap[sb]? = some (.cells (bRow p) 49)
  ge : Wa.heap.size ≤ sb
section
variable {Wa W : World} {sb : Nat} {p : Nat → Bool}
theorem AB.start (Wa : World) : AB Wa (Wa.alloc (.cells falses60 49)) Wa.heap.size (fun _ => false) :=
  ⟨(Below.refl _ _).alloc (Nat.le_refl _) _, heap_alloc_new _ _, Nat.le_refl _⟩
theorem AB.drewN (h : AB Wa W sb p) (j : Nat) : AB Wa (W.drewN j) sb p := ⟨below_drewN h.bel j, h.blk, h.ge⟩
theorem AB.congr (h : AB Wa W sb p) (q : Nat → Bool) (hq : ∀ i, p i = q i) : AB Wa W sb q := by
  have e : p = q := funext hq
  rw [← e]; exact h
theorem AB.set (h : AB Wa W sb p) (j : Nat) (q : Nat → Bool) (hq : ∀ i, (p i || decide (i = j)) = q i) : AB Wa (W.setCell ⟨sb, j, none⟩ (.bool true)) sb q := by
  have e : (fun i => p i || decide (i = j)) = q := funext hq
  subst e
  refine ⟨h.bel.setCell (p := ⟨sb, j, none⟩) h.ge _, ?_, h.ge⟩
  have := heap_setCell_at (o := j) h.blk (.bool true)
  rw [this, bRow_set]
theorem AB.cell (h : AB Wa W sb p) (i : Nat) (hi : i < 60) : W.cell? ⟨sb, i, none⟩ = some (.bool (p i)) := by
  rw [cell_of_row W sb i _ _ _ h.blk]
  exact bRow_at p i hi
theorem AB.fro (h : AB Wa W sb p) (i : Nat) : W.frozen? ⟨sb, i, none⟩ = false := by
  simp [World.frozen?, h.blk]
end
end Go.Proofs.YtipkgoghodkbfaaDoor
