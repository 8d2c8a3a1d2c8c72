/- An array of sixty-four bools, made: one step each. -/
import Derived.Test.YtcbgjdlkihepcaaDoorRcM
namespace Go.Proofs.YtcbgjdlkihepcaaDoor
open Go.RowKit
open M
set_option linter.unusedVariables false
set_option linter.unusedSimpArgs false

def noneSeen : Array Value := seenRow (fun _ => false)
theorem run_build43 (W : World) : (Instr.build 43 #[]).run Tryd.prog W = .ok (.agg noneSeen) W := by kernel_rfl
theorem run_alloc43 (W : World) : (Instr.alloc 43 true (.tuple #[])).run Tryd.prog W = .ok (.pointer (some ⟨W.heap.size, 0, none⟩)) (W.alloc (.cells noneSeen 43)) := by kernel_rfl
theorem noneSeen_size : noneSeen.size = 64 := by simp [noneSeen, seenRow]
theorem size43 (W : World) : (Go.sizeOf 43).run Tryd.prog W = .ok 64 W := by kernel_rfl
theorem noneSeen_one : ∀ v ∈ noneSeen.toList, v.oneCell' = true := by
  intro v hv
  simp [noneSeen, seenRow] at hv
  obtain ⟨_, rfl⟩ := hv
  rfl
theorem run_store43 (W : World) : (Instr.storeAt 43 (.pointer (some ⟨W.heap.size, 0, none⟩)) (.agg noneSeen)).run Tryd.prog (W.alloc (.cells noneSeen 43)) = .ok () (W.alloc (.cells noneSeen 43)) := by
  have h1 := run_storeCells_at Tryd.prog W.heap.size 0 43 noneSeen.toList 0 noneSeen (W.alloc (.cells noneSeen 43)) (heap_alloc_new _ _) (by simp) noneSeen_one
  have h2 : (noneSeen.toList.take (0 + 0) ++ noneSeen.toList ++ noneSeen.toList.drop (0 + 0 + noneSeen.toList.length)).toArray = noneSeen := by
    rw [List.drop_of_length_le (by simp)]
    simp
  rw [h2, setRow_self _ _ noneSeen 43 (0, 0) (heap_alloc_new _ _)] at h1
  have h3 : (Value.agg noneSeen).cells = noneSeen := rfl
  have hs := noneSeen_size
  have h4 := size43 (W.alloc (.cells noneSeen 43))
  generalize noneSeen = Z at *
  simp [Instr.storeAt, storeVar, Instr.sureAddr, go_sem, h3, hs, h4, h1]

section
variable {W : World} {ops : Array Oper} {rest : List Oper} {o : Oper} {a : Act} {Q : Exit → Act → World → Prop}
theorem wpList_build43 (hgd : o.guard = none) (ho : o.op = .build 43 #[]) (h : wpList Tryd.prog ops Q rest (a.put o.dst (.agg noneSeen)) W) : wpList Tryd.prog ops Q (o :: rest) a W := by
  refine wpList_plain hgd fun K hK => ?_
  have hr := run_build43 W
  unfold Oper.wp execOp
  simp only [ho, List.map_toArray, List.map_nil, Sem.run_bind, hr, Result.andThen_ok, Sem.run_pure]
  exact hK _ _ h
theorem wpList_alloc43 (hgd : o.guard = none) (ho : o.op = .alloc 43) (h : wpList Tryd.prog ops Q rest (a.put o.dst (.pointer (some ⟨W.heap.size, 0, none⟩))) (W.alloc (.cells noneSeen 43))) : wpList Tryd.prog ops Q (o :: rest) a W := by
  refine wpList_plain hgd fun K hK => ?_
  have hr := run_alloc43 W
  unfold Oper.wp execOp
  simp only [ho, List.map_toArray, List.map_nil, Sem.run_bind, hr, Result.andThen_ok, Sem.run_pure]
  exact hK _ _ h
theorem wpList_store43 (hgd : o.guard = none) (x y : Operand) (ho : o.op = .store 43 x y) (hd : o.dst = none) (hx : a.eval x = .pointer (some ⟨W.heap.size, 0, none⟩)) (hy : a.eval y = .agg noneSeen) (h : wpList Tryd.prog ops Q rest a (W.alloc (.cells noneSeen 43))) : wpList Tryd.prog ops Q (o :: rest) a (W.alloc (.cells noneSeen 43)) := by
  refine wpList_plain hgd fun K hK => ?_
  have hr := run_store43 W
  unfold Oper.wp execOp
  simp only [ho, hx, hy, Sem.run_bind, hr, Result.andThen_ok, Sem.run_pure]
  refine hK _ _ ?_
  rw [hd]
  exact h
end
end Go.Proofs.YtcbgjdlkihepcaaDoor
