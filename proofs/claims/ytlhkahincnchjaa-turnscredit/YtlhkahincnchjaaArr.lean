/- An array of twenty numbers, made and laid down. -/
import Derived.Test.YtlhkahincnchjaaMul
namespace Go.Proofs.Ytlhkahincnchjaa
open Go.RowKit
open M
set_option linter.unusedVariables false
set_option linter.unusedSimpArgs false
def zeros20 : Array Value := iRow (fun _ => 0) 20
theorem run_build55 (W : World) : (Instr.build 55 #[]).run Try.prog W = .ok (.agg zeros20) W := by kernel_rfl
theorem run_alloc55 (W : World) : (Instr.alloc 55 true (.tuple #[])).run Try.prog W = .ok (.pointer (some ⟨W.heap.size, 0, none⟩)) (W.alloc (.cells zeros20 55)) := by kernel_rfl
theorem zeros20_size : zeros20.size = 20 := by simp [zeros20, iRow]
theorem size55 (W : World) : (Go.sizeOf 55).run Try.prog W = .ok 20 W := by kernel_rfl
theorem zeros20_one : ∀ v ∈ zeros20.toList, v.oneCell' = true := by
  intro v hv
  simp [zeros20, iRow] at hv
  obtain ⟨_, rfl⟩ := hv
  rfl
theorem run_store55 (W : World) : (Instr.storeAt 55 (.pointer (some ⟨W.heap.size, 0, none⟩)) (.agg zeros20)).run Try.prog (W.alloc (.cells zeros20 55)) = .ok () (W.alloc (.cells zeros20 55)) := by
  have h1 := run_storeCells_at Try.prog W.heap.size 0 55 zeros20.toList 0 zeros20 (W.alloc (.cells zeros20 55)) (heap_alloc_new _ _) (by simp) zeros20_one
  have h2 : (zeros20.toList.take (0 + 0) ++ zeros20.toList ++ zeros20.toList.drop (0 + 0 + zeros20.toList.length)).toArray = zeros20 := by
    rw [List.drop_of_length_le (by simp)]
    simp
  rw [h2, setRow_self _ _ zeros20 55 (0, 0) (heap_alloc_new _ _)] at h1
  have h3 : (Value.agg zeros20).cells = zeros20 := rfl
  have hs := zeros20_size
  have h4 := size55 (W.alloc (.cells zeros20 55))
  generalize zeros20 = Z at *
  simp [Instr.storeAt, storeVar, Instr.sureAddr, go_sem, h3, hs, h4, h1]
section
variable {W : World} {ops : Array Oper} {rest : List Oper} {o : Oper} {a : Act} {Q : Exit → Act → World → Prop}
theorem wpList_build55 (hgd : o.guard = none) (ho : o.op = .build 55 #[]) (h : wpList Try.prog ops Q rest (a.put o.dst (.agg zeros20)) W) : wpList Try.prog ops Q (o :: rest) a W := by
  refine wpList_plain hgd fun K hK => ?_
  have hr := run_build55 W
  unfold Oper.wp execOp
  simp only [ho, List.map_toArray, List.map_nil, Sem.run_bind, hr, Result.andThen_ok, Sem.run_pure]
  exact hK _ _ h
theorem wpList_alloc55 (hgd : o.guard = none) (ho : o.op = .alloc 55) (h : wpList Try.prog ops Q rest (a.put o.dst (.pointer (some ⟨W.heap.size, 0, none⟩))) (W.alloc (.cells zeros20 55))) : wpList Try.prog ops Q (o :: rest) a W := by
  refine wpList_plain hgd fun K hK => ?_
  have hr := run_alloc55 W
  unfold Oper.wp execOp
  simp only [ho, List.map_toArray, List.map_nil, Sem.run_bind, hr, Result.andThen_ok, Sem.run_pure]
  exact hK _ _ h
theorem wpList_store55 (hgd : o.guard = none) (x y : Operand) (ho : o.op = .store 55 x y) (hd : o.dst = none) (hx : a.eval x = .pointer (some ⟨W.heap.size, 0, none⟩)) (hy : a.eval y = .agg zeros20) (h : wpList Try.prog ops Q rest a (W.alloc (.cells zeros20 55))) : wpList Try.prog ops Q (o :: rest) a (W.alloc (.cells zeros20 55)) := by
  refine wpList_plain hgd fun K hK => ?_
  have hr := run_store55 W
  unfold Oper.wp execOp
  simp only [ho, hx, hy, Sem.run_bind, hr, Result.andThen_ok, Sem.run_pure]
  refine hK _ _ ?_
  rw [hd]
  exact h
end
end Go.Proofs.Ytlhkahincnchjaa
