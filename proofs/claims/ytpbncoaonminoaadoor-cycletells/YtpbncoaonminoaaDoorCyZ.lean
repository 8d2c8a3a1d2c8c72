/- Arrays of sixty-four numbers, and bools, made: one step each. -/
import Derived.Test.YtpbncoaonminoaaDoorCyT
namespace Go.Proofs.YtpbncoaonminoaaDoor
open Go.RowKit
open M
set_option linter.unusedVariables false
set_option linter.unusedSimpArgs false

def bRow (p : Nat → Bool) : Array Value := ((List.range 64).map fun i => Value.bool (p i)).toArray
theorem bRow_at (p : Nat → Bool) (i : Nat) (h : i < 64) : (bRow p)[i]? = some (.bool (p i)) := by simp [bRow, h]
theorem bRow_set (p : Nat → Bool) (j : Nat) : (bRow p).setIfInBounds j (.bool true) = bRow (fun i => p i || decide (i = j)) := by
  apply Array.ext_getElem?
  intro i
  rw [Array.getElem?_setIfInBounds]
  have hs : ∀ q, (bRow q).size = 64 := fun q => by simp [bRow]
  by_cases hi : i < 64
  · rw [bRow_at _ i hi, bRow_at _ i hi]
    by_cases hij : j = i
    · subst hij
      simp [hs, hi]
    · have : ¬ i = j := fun e => hij e.symm
      simp [hij, this]
  · have h1 : ∀ q, (bRow q)[i]? = none := fun q => Array.getElem?_eq_none (by rw [hs]; omega)
    rw [h1]
    by_cases hij : j = i
    · subst hij
      simp [hs, hi]
    · simp [hij, h1]
def zeros64 : Array Value := iRow (fun _ => 0) 64
theorem run_build45 (W : World) : (Instr.build 45 #[]).run Tryd.prog W = .ok (.agg zeros64) W := by kernel_rfl
theorem run_alloc45 (W : World) : (Instr.alloc 45 true (.tuple #[])).run Tryd.prog W = .ok (.pointer (some ⟨W.heap.size, 0, none⟩)) (W.alloc (.cells zeros64 45)) := by kernel_rfl
theorem zeros64_size : zeros64.size = 64 := by simp [zeros64, iRow]
theorem size45 (W : World) : (Go.sizeOf 45).run Tryd.prog W = .ok 64 W := by kernel_rfl
theorem zeros64_one : ∀ v ∈ zeros64.toList, v.oneCell' = true := by
  intro v hv
  simp [zeros64, iRow] at hv
  obtain ⟨_, rfl⟩ := hv
  rfl
theorem run_store45 (W : World) : (Instr.storeAt 45 (.pointer (some ⟨W.heap.size, 0, none⟩)) (.agg zeros64)).run Tryd.prog (W.alloc (.cells zeros64 45)) = .ok () (W.alloc (.cells zeros64 45)) := by
  have h1 := run_storeCells_at Tryd.prog W.heap.size 0 45 zeros64.toList 0 zeros64 (W.alloc (.cells zeros64 45)) (heap_alloc_new _ _) (by simp) zeros64_one
  have h2 : (zeros64.toList.take (0 + 0) ++ zeros64.toList ++ zeros64.toList.drop (0 + 0 + zeros64.toList.length)).toArray = zeros64 := by
    rw [List.drop_of_length_le (by simp)]
    simp
  rw [h2, setRow_self _ _ zeros64 45 (0, 0) (heap_alloc_new _ _)] at h1
  have h3 : (Value.agg zeros64).cells = zeros64 := rfl
  have hs := zeros64_size
  have h4 := size45 (W.alloc (.cells zeros64 45))
  generalize zeros64 = Z at *
  simp [Instr.storeAt, storeVar, Instr.sureAddr, go_sem, h3, hs, h4, h1]

section
variable {W : World} {ops : Array Oper} {rest : List Oper} {o : Oper} {a : Act} {Q : Exit → Act → World → Prop}
theorem wpList_build45 (hgd : o.guard = none) (ho : o.op = .build 45 #[]) (h : wpList Tryd.prog ops Q rest (a.put o.dst (.agg zeros64)) W) : wpList Tryd.prog ops Q (o :: rest) a W := by
  refine wpList_plain hgd fun K hK => ?_
  have hr := run_build45 W
  unfold Oper.wp execOp
  simp only [ho, List.map_toArray, List.map_nil, Sem.run_bind, hr, Result.andThen_ok, Sem.run_pure]
  exact hK _ _ h
theorem wpList_alloc45 (hgd : o.guard = none) (ho : o.op = .alloc 45) (h : wpList Tryd.prog ops Q rest (a.put o.dst (.pointer (some ⟨W.heap.size, 0, none⟩))) (W.alloc (.cells zeros64 45))) : wpList Tryd.prog ops Q (o :: rest) a W := by
  refine wpList_plain hgd fun K hK => ?_
  have hr := run_alloc45 W
  unfold Oper.wp execOp
  simp only [ho, List.map_toArray, List.map_nil, Sem.run_bind, hr, Result.andThen_ok, Sem.run_pure]
  exact hK _ _ h
theorem wpList_store45 (hgd : o.guard = none) (x y : Operand) (ho : o.op = .store 45 x y) (hd : o.dst = none) (hx : a.eval x = .pointer (some ⟨W.heap.size, 0, none⟩)) (hy : a.eval y = .agg zeros64) (h : wpList Tryd.prog ops Q rest a (W.alloc (.cells zeros64 45))) : wpList Tryd.prog ops Q (o :: rest) a (W.alloc (.cells zeros64 45)) := by
  refine wpList_plain hgd fun K hK => ?_
  have hr := run_store45 W
  unfold Oper.wp execOp
  simp only [ho, hx, hy, Sem.run_bind, hr, Result.andThen_ok, Sem.run_pure]
  refine hK _ _ ?_
  rw [hd]
  exact h
end
def falses64 : Array Value := bRow (fun _ => false)
theorem run_build48 (W : World) : (Instr.build 48 #[]).run Tryd.prog W = .ok (.agg falses64) W := by kernel_rfl
theorem run_alloc48 (W : World) : (Instr.alloc 48 true (.tuple #[])).run Tryd.prog W = .ok (.pointer (some ⟨W.heap.size, 0, none⟩)) (W.alloc (.cells falses64 48)) := by kernel_rfl
theorem falses64_size : falses64.size = 64 := by simp [falses64, bRow]
theorem size48 (W : World) : (Go.sizeOf 48).run Tryd.prog W = .ok 64 W := by kernel_rfl
theorem falses64_one : ∀ v ∈ falses64.toList, v.oneCell' = true := by
  intro v hv
  simp [falses64, bRow] at hv
  obtain ⟨_, rfl⟩ := hv
  rfl
theorem run_store48 (W : World) : (Instr.storeAt 48 (.pointer (some ⟨W.heap.size, 0, none⟩)) (.agg falses64)).run Tryd.prog (W.alloc (.cells falses64 48)) = .ok () (W.alloc (.cells falses64 48)) := by
  have h1 := run_storeCells_at Tryd.prog W.heap.size 0 48 falses64.toList 0 falses64 (W.alloc (.cells falses64 48)) (heap_alloc_new _ _) (by simp) falses64_one
  have h2 : (falses64.toList.take (0 + 0) ++ falses64.toList ++ falses64.toList.drop (0 + 0 + falses64.toList.length)).toArray = falses64 := by
    rw [List.drop_of_length_le (by simp)]
    simp
  rw [h2, setRow_self _ _ falses64 48 (0, 0) (heap_alloc_new _ _)] at h1
  have h3 : (Value.agg falses64).cells = falses64 := rfl
  have hs := falses64_size
  have h4 := size48 (W.alloc (.cells falses64 48))
  generalize falses64 = Z at *
  simp [Instr.storeAt, storeVar, Instr.sureAddr, go_sem, h3, hs, h4, h1]

section
variable {W : World} {ops : Array Oper} {rest : List Oper} {o : Oper} {a : Act} {Q : Exit → Act → World → Prop}
theorem wpList_build48 (hgd : o.guard = none) (ho : o.op = .build 48 #[]) (h : wpList Tryd.prog ops Q rest (a.put o.dst (.agg falses64)) W) : wpList Tryd.prog ops Q (o :: rest) a W := by
  refine wpList_plain hgd fun K hK => ?_
  have hr := run_build48 W
  unfold Oper.wp execOp
  simp only [ho, List.map_toArray, List.map_nil, Sem.run_bind, hr, Result.andThen_ok, Sem.run_pure]
  exact hK _ _ h
theorem wpList_alloc48 (hgd : o.guard = none) (ho : o.op = .alloc 48) (h : wpList Tryd.prog ops Q rest (a.put o.dst (.pointer (some ⟨W.heap.size, 0, none⟩))) (W.alloc (.cells falses64 48))) : wpList Tryd.prog ops Q (o :: rest) a W := by
  refine wpList_plain hgd fun K hK => ?_
  have hr := run_alloc48 W
  unfold Oper.wp execOp
  simp only [ho, List.map_toArray, List.map_nil, Sem.run_bind, hr, Result.andThen_ok, Sem.run_pure]
  exact hK _ _ h
theorem wpList_store48 (hgd : o.guard = none) (x y : Operand) (ho : o.op = .store 48 x y) (hd : o.dst = none) (hx : a.eval x = .pointer (some ⟨W.heap.size, 0, none⟩)) (hy : a.eval y = .agg falses64) (h : wpList Tryd.prog ops Q rest a (W.alloc (.cells falses64 48))) : wpList Tryd.prog ops Q (o :: rest) a (W.alloc (.cells falses64 48)) := by
  refine wpList_plain hgd fun K hK => ?_
  have hr := run_store48 W
  unfold Oper.wp execOp
  simp only [ho, hx, hy, Sem.run_bind, hr, Result.andThen_ok, Sem.run_pure]
  refine hK _ _ ?_
  rw [hd]
  exact h
end

/-- A graph, rows, and an array of the call's own. -/
structure A1 (B : Nat) (w0 W : World) (g eb n : Nat) (v : Value) (es : List E) (X : List (Value × List Nat)) (sb : Nat) (cur : Array Value) (ty : TypeId) : Prop where
  r : R1 B w0 W g eb n v es X
  blk : W.heap[sb]? = some (.cells cur ty)
  ge : B ≤ sb
  nf : ¬ Foot g eb v sb
  nx : ∀ p ∈ X, p.1.ownBlock ≠ some sb
def AX (B : Nat) (w0 W : World) (g eb n : Nat) (es : List E) (X : List (Value × List Nat)) (sb : Nat) (cur : Array Value) (ty : TypeId) : Prop := ∃ v, A1 B w0 W g eb n v es X sb cur ty
section
variable {B : Nat} {w0 W W' : World} {g eb n : Nat} {es : List E} {X : List (Value × List Nat)} {sb : Nat} {cur : Array Value} {ty : TypeId}
theorem AX.rx (h : AX B w0 W g eb n es X sb cur ty) : RX B w0 W g eb n es X := by obtain ⟨v, h⟩ := h; exact ⟨v, h.r⟩
theorem AX.lt (h : AX B w0 W g eb n es X sb cur ty) : sb < W.heap.size := by obtain ⟨v, h⟩ := h; exact block_lt h.blk
theorem R1.step {v : Value} (h : R1 B w0 W g eb n v es X) (hb : Below W.heap.size W W') : R1 B w0 W' g eb n v es X :=
  ⟨h.bel.trans (hb.mono h.le), h.gm.below hb, h.gB, tab_below h.tab (Nat.lt_of_lt_of_le h.pos h.le) hb, h.pos, Nat.le_trans h.le hb.size, fun p hp => ⟨owns_below (h.ext p hp).1 hb, (h.ext p hp).2⟩⟩
theorem AX.step (h : AX B w0 W g eb n es X sb cur ty) (hb : Below W.heap.size W W') : AX B w0 W' g eb n es X sb cur ty := by
  have hl := h.lt
  obtain ⟨v, h⟩ := h
  exact ⟨v, h.r.step hb, by rw [hb.block sb hl]; exact h.blk, h.ge, h.nf, h.nx⟩
theorem AX.start (h : RX B w0 W g eb n es X) (cur : Array Value) (ty : TypeId) : AX B w0 (W.alloc (.cells cur ty)) g eb n es X W.heap.size cur ty := by
  obtain ⟨v, h⟩ := h
  have hb : Below W.heap.size W (W.alloc (.cells cur ty)) := (Below.refl _ _).alloc (Nat.le_refl _) _
  refine ⟨v, h.step hb, heap_alloc_new _ _, h.le, fun hf => ?_, fun p hp e => ?_⟩
  · have := h.gm.lt _ hf; omega
  · have := ((h.ext p hp).1.lt _ e).2; omega
theorem AX.cons (h : AX B w0 W g eb n es X sb cur ty) (hb : Below W.heap.size W W') {u : Value} {L : List Nat} (hu : OwnI W' W.heap.size u L) : AX B w0 W' g eb n es ((u, L) :: X) sb cur ty := by
  have hl := h.lt
  have h2 := h.step hb
  obtain ⟨v, h⟩ := h
  refine ⟨v, ⟨(h.r.step hb).bel, (h.r.step hb).gm, h.r.gB, (h.r.step hb).tab, h.r.pos, (h.r.step hb).le, fun p hp => ?_⟩, by rw [hb.block sb hl]; exact h.blk, h.ge, h.nf, fun p hp => ?_⟩
  · rcases List.mem_cons.1 hp with rfl | hp
    · refine ⟨owns_base hu (fun k hk => by have := (hu.lt k hk).1; have := h.r.le; omega), fun k hk hf => ?_⟩
      have := (hu.lt k hk).1
      have := h.r.gm.lt k hf
      omega
    · exact (h.r.step hb).ext p hp
  · rcases List.mem_cons.1 hp with rfl | hp
    · intro e
      have := (hu.lt _ e).1
      omega
    · exact h.nx p hp
theorem AX.fewer (h : AX B w0 W g eb n es X sb cur ty) {Y : List (Value × List Nat)} (hY : ∀ p ∈ Y, p ∈ X) : AX B w0 W g eb n es Y sb cur ty := by
  obtain ⟨v, h⟩ := h
  exact ⟨v, ⟨h.r.bel, h.r.gm, h.r.gB, h.r.tab, h.r.pos, h.r.le, fun p hp => h.r.ext p (hY p hp)⟩, h.blk, h.ge, h.nf, fun p hp => h.nx p (hY p hp)⟩
theorem AX.set (h : AX B w0 W g eb n es X sb cur ty) (j : Nat) (x : Value) (cur2 : Array Value) (hc : cur.setIfInBounds j x = cur2) : AX B w0 (W.setCell ⟨sb, j, none⟩ x) g eb n es X sb cur2 ty := by
  subst hc
  obtain ⟨v, h⟩ := h
  have hk : ∀ k, k ≠ sb → (W.setCell ⟨sb, j, none⟩ x).heap[k]? = W.heap[k]? := fun k hk => Below.heap_setCell _ _ _ _ hk
  have hpos := h.r.pos
  have hge := h.ge
  refine ⟨v, ⟨h.r.bel.setCell (p := ⟨sb, j, none⟩) h.ge _, h.r.gm.keep (fun k hf => hk k (fun e => h.nf (by rw [← e]; exact hf))), h.r.gB, fun i hi => ?_, h.r.pos, by simpa [World.setCell] using h.r.le, fun p hp => ⟨owns_keep (h.r.ext p hp).1 (fun k hk' => hk k (fun e => h.nx p hp (by rw [hk', e]))), (h.r.ext p hp).2⟩⟩, heap_setCell_at h.blk _, h.ge, h.nf, h.nx⟩
  rw [World.cell?_of_block (w := W) (hk 0 (by omega))]
  exact h.r.tab i hi
theorem AX.cell (h : AX B w0 W g eb n es X sb cur ty) (i : Nat) (x : Value) (hx : cur[i]? = some x) : W.cell? ⟨sb, i, none⟩ = some x := by
  obtain ⟨v, h⟩ := h
  rw [cell_of_row W sb i _ _ _ h.blk]
  exact hx
theorem AX.fro (h : AX B w0 W g eb n es X sb cur ty) (i : Nat) : W.frozen? ⟨sb, i, none⟩ = false := by
  obtain ⟨v, h⟩ := h
  simp [World.frozen?, h.blk]
theorem AX.out (h : AX B w0 W g eb n es X sb cur ty) (hle : es.length ≤ 1000000) (a : Int) (L : List Nat) (hL : outs es a = L) :
    Calls Tryd.prog 24 #[ptr g, .int .i64 a] W fun e w' => ∃ u, e = .returned u ∧ Hid (AX B w0 w' g eb n es ((u, L) :: X) sb cur ty) := by
  have h' := h
  obtain ⟨v, hm⟩ := h
  refine (out_any hm.r.gm a hle).mono ?_
  rintro e w' ⟨u, rfl, ho, hb⟩
  subst hL
  exact ⟨u, rfl, h'.cons hb ho⟩
theorem AX.num (h : AX B w0 W g eb n es X sb cur ty) : Calls Tryd.prog 23 #[ptr g] W fun e w' => e = .returned (.int .i64 n) ∧ w' = W := h.rx.num
theorem AX.has (h : AX B w0 W g eb n es X sb cur ty) (a b : Int) (R : Bool) (hR : hasB n es a b = R) :
    Calls Tryd.prog 22 #[ptr g, .int .i64 a, .int .i64 b] W fun e w' => e = .returned (.bool R) ∧ Hid (AX B w0 w' g eb n es X sb cur ty) := by
  have h' := h
  obtain ⟨v, hm⟩ := h
  refine (has_edge hm.r.gm a b).mono ?_
  rintro e w' ⟨rfl, hb⟩
  exact ⟨by rw [hR], h'.step hb⟩
theorem AX.eqs (h : AX B w0 W g eb n es X sb cur ty) {va vb : Value} {xs ys : List Nat} (ha : IAt W va xs) (hb : IAt W vb ys) (hl : xs.length ≤ 1000000) (R : Bool) (hR : decide (xs = ys) = R) :
    Calls Tryd.prog 15 #[va, vb] W fun e w' => e = .returned (.bool R) ∧ Hid (AX B w0 w' g eb n es X sb cur ty) := by
  refine (ints_any ha hb hl).mono ?_
  rintro e w' ⟨rfl, hb⟩
  exact ⟨by rw [hR], h.step hb⟩
theorem AX.drewN (h : AX B w0 W g eb n es X sb cur ty) (j : Nat) : AX B w0 (W.drewN j) g eb n es X sb cur ty := h.step (below_drewN (Below.refl _ _) j)
theorem AX.at (h : AX B w0 W g eb n es X sb cur ty) {ao : Option Addr} {m cap : Nat} {L : List Nat} (hu : (Value.slice ao m cap, L) ∈ X) : RAt W ao L := h.rx.at hu
end
end Go.Proofs.YtpbncoaonminoaaDoor
