/- An array of sixty-four bools of the call's own, beside a graph and rows. -/
import Derived.Test.YtmeeimfjibcncaaDoorLNo
namespace Go.Proofs.YtmeeimfjibcncaaDoor
open Go.RowKit
open M
set_option linter.unusedVariables false
set_option linter.unusedSimpArgs false

def bRow (p : Nat → Bool) : Array Value := ((List.range 64).map fun i => Value.bool (p i)).toArray
theorem bRow_at (p : Nat → Bool) (i : Nat) (h : i < 64) : (bRow p)[i]? = some (.bool (p i)) := by simp [bRow, h]
theorem bRow_set (p : Nat → Bool) (j : Nat) : (bRow p).setIfInBounds j (.bool true) = bRow (fun i => p i || decide (i = j)) := by
  apply Array.ext_getElem?
  intro i
  rw [Array.getElem?_setIfInBounds]
  have hs : ∀ q, (bRow q).size = 64 := fun q => by simp [bRow]
  by_cases hi : i < 64
  · rw [bRow_at _ i hi, bRow_at _ i hi]
    by_cases hij : j = i
    · subst hij
      simp [hs, hi]
    · have : ¬ i = j := fun e => hij e.symm
      simp [hij, this]
  · have h1 : ∀ q, (bRow q)[i]? = none := fun q => Array.getElem?_eq_none (by rw [hs]; omega)
    rw [h1]
    by_cases hij : j = i
    · subst hij
      simp [hs, hi]
    · simp [hij, h1]
def falses64 : Array Value := bRow (fun _ => false)
theorem run_build52 (W : World) : (Instr.build 52 #[]).run Tryd.prog W = .ok (.agg falses64) W := by kernel_rfl
theorem run_alloc52 (W : World) : (Instr.alloc 52 true (.tuple #[])).run Tryd.prog W = .ok (.pointer (some ⟨W.heap.size, 0, none⟩)) (W.alloc (.cells falses64 52)) := by kernel_rfl
theorem falses64_size : falses64.size = 64 := by simp [falses64, bRow]
theorem size52 (W : World) : (Go.sizeOf 52).run Tryd.prog W = .ok 64 W := by kernel_rfl
theorem falses64_one : ∀ v ∈ falses64.toList, v.oneCell' = true := by
  intro v hv
  simp [falses64, bRow] at hv
  obtain ⟨_, rfl⟩ := hv
  rfl
theorem run_store52 (W : World) : (Instr.storeAt 52 (.pointer (some ⟨W.heap.size, 0, none⟩)) (.agg falses64)).run Tryd.prog (W.alloc (.cells falses64 52)) = .ok () (W.alloc (.cells falses64 52)) := by
  have h1 := run_storeCells_at Tryd.prog W.heap.size 0 52 falses64.toList 0 falses64 (W.alloc (.cells falses64 52)) (heap_alloc_new _ _) (by simp) falses64_one
  have h2 : (falses64.toList.take (0 + 0) ++ falses64.toList ++ falses64.toList.drop (0 + 0 + falses64.toList.length)).toArray = falses64 := by
    rw [List.drop_of_length_le (by simp)]
    simp
  rw [h2, setRow_self _ _ falses64 52 (0, 0) (heap_alloc_new _ _)] at h1
  have h3 : (Value.agg falses64).cells = falses64 := rfl
  have hs := falses64_size
  have h4 := size52 (W.alloc (.cells falses64 52))
  generalize falses64 = Z at *
  simp [Instr.storeAt, storeVar, Instr.sureAddr, go_sem, h3, hs, h4, h1]

section
variable {W : World} {ops : Array Oper} {rest : List Oper} {o : Oper} {a : Act} {Q : Exit → Act → World → Prop}
theorem wpList_build52 (hgd : o.guard = none) (ho : o.op = .build 52 #[]) (h : wpList Tryd.prog ops Q rest (a.put o.dst (.agg falses64)) W) : wpList Tryd.prog ops Q (o :: rest) a W := by
  refine wpList_plain hgd fun K hK => ?_
  have hr := run_build52 W
  unfold Oper.wp execOp
  simp only [ho, List.map_toArray, List.map_nil, Sem.run_bind, hr, Result.andThen_ok, Sem.run_pure]
  exact hK _ _ h
theorem wpList_alloc52 (hgd : o.guard = none) (ho : o.op = .alloc 52) (h : wpList Tryd.prog ops Q rest (a.put o.dst (.pointer (some ⟨W.heap.size, 0, none⟩))) (W.alloc (.cells falses64 52))) : wpList Tryd.prog ops Q (o :: rest) a W := by
  refine wpList_plain hgd fun K hK => ?_
  have hr := run_alloc52 W
  unfold Oper.wp execOp
  simp only [ho, List.map_toArray, List.map_nil, Sem.run_bind, hr, Result.andThen_ok, Sem.run_pure]
  exact hK _ _ h
theorem wpList_store52 (hgd : o.guard = none) (x y : Operand) (ho : o.op = .store 52 x y) (hd : o.dst = none) (hx : a.eval x = .pointer (some ⟨W.heap.size, 0, none⟩)) (hy : a.eval y = .agg falses64) (h : wpList Tryd.prog ops Q rest a (W.alloc (.cells falses64 52))) : wpList Tryd.prog ops Q (o :: rest) a (W.alloc (.cells falses64 52)) := by
  refine wpList_plain hgd fun K hK => ?_
  have hr := run_store52 W
  unfold Oper.wp execOp
  simp only [ho, hx, hy, Sem.run_bind, hr, Result.andThen_ok, Sem.run_pure]
  refine hK _ _ ?_
  rw [hd]
  exact h
end

theorem PX.noQ {B : Nat} {w0 w : World} {g eb n : Nat} {es : List E} {X : List (Value × List Int)} {Y : List (Option Addr × List Rq)} (h : PX B w0 w g eb n es X Y) : PX B w0 w g eb n es X [] := by
  obtain ⟨v, h⟩ := h
  exact ⟨v, h.bel, h.gm, h.gB, h.tab, h.pos, h.le, h.ext, fun p hp => by simp at hp⟩
/-- A graph, rows, and an array of the call's own. -/
structure A1 (B : Nat) (w0 W : World) (g eb n : Nat) (v : Value) (es : List E) (X : List (Value × List Int)) (sb : Nat) (cur : Array Value) : Prop where
  r : P1 B w0 W g eb n v es X []
  blk : W.heap[sb]? = some (.cells cur 52)
  ge : B ≤ sb
  nf : ¬ Foot g eb v sb
  nx : ∀ p ∈ X, p.1.ownBlock ≠ some sb
def AX (B : Nat) (w0 W : World) (g eb n : Nat) (es : List E) (X : List (Value × List Int)) (sb : Nat) (cur : Array Value) : Prop := ∃ v, A1 B w0 W g eb n v es X sb cur
section
variable {B : Nat} {w0 W W' : World} {g eb n : Nat} {es : List E} {X : List (Value × List Int)} {sb : Nat} {cur : Array Value} {p : Nat → Bool}
theorem AX.px (h : AX B w0 W g eb n es X sb cur) : PX B w0 W g eb n es X [] := by obtain ⟨v, h⟩ := h; exact ⟨v, h.r⟩
theorem AX.lt (h : AX B w0 W g eb n es X sb cur) : sb < W.heap.size := by obtain ⟨v, h⟩ := h; exact block_lt h.blk
theorem AX.step (h : AX B w0 W g eb n es X sb cur) (hb : Below W.heap.size W W') : AX B w0 W' g eb n es X sb cur := by
  have hl := h.lt
  obtain ⟨v, h⟩ := h
  exact ⟨v, h.r.step hb, by rw [hb.block sb hl]; exact h.blk, h.ge, h.nf, h.nx⟩
theorem AX.drewN (h : AX B w0 W g eb n es X sb cur) (j : Nat) : AX B w0 (W.drewN j) g eb n es X sb cur := h.step (below_drewN (Below.refl _ _) j)
theorem AX.start (h : PX B w0 W g eb n es X []) (cur : Array Value) : AX B w0 (W.alloc (.cells cur 52)) g eb n es X W.heap.size cur := by
  obtain ⟨v, h⟩ := h
  have hb : Below W.heap.size W (W.alloc (.cells cur 52)) := (Below.refl _ _).alloc (Nat.le_refl _) _
  refine ⟨v, h.step hb, heap_alloc_new _ _, h.le, fun hf => ?_, fun p hp e => ?_⟩
  · have := h.gm.lt _ hf; omega
  · have := ((h.ext p hp).2 _ e).1; omega
theorem AX.set (h : AX B w0 W g eb n es X sb (bRow p)) (j : Nat) (q : Nat → Bool) (hq : (fun i => p i || decide (i = j)) = q) : AX B w0 (W.setCell ⟨sb, j, none⟩ (.bool true)) g eb n es X sb (bRow q) := by
  subst hq
  obtain ⟨v, h⟩ := h
  have hk : ∀ k, k ≠ sb → (W.setCell ⟨sb, j, none⟩ (.bool true)).heap[k]? = W.heap[k]? := fun k hk => Below.heap_setCell _ _ _ _ hk
  have hpos := h.r.pos
  have hge := h.ge
  have hsz : W.heap.size ≤ (W.setCell ⟨sb, j, none⟩ (.bool true)).heap.size := by simp [World.setCell]
  refine ⟨v, ⟨h.r.bel.setCell (p := ⟨sb, j, none⟩) h.ge _, h.r.gm.keep (fun k hf => hk k (fun e => h.nf (by rw [← e]; exact hf))), h.r.gB, fun i hi => ?_, h.r.pos, by simpa [World.setCell] using h.r.le, fun p hp => ⟨(h.r.ext p hp).1.keep hsz (fun k hk' _ => hk k (fun e => h.nx p hp (by rw [hk', e]))), fun k hk' => ⟨Nat.lt_of_lt_of_le ((h.r.ext p hp).2 k hk').1 hsz, ((h.r.ext p hp).2 k hk').2⟩⟩, fun p hp => by simp at hp⟩, ?_, h.ge, h.nf, h.nx⟩
  · rw [World.cell?_of_block (w := W) (hk 0 (by omega))]
    exact h.r.tab i hi
  · have := heap_setCell_at (o := j) h.blk (.bool true)
    rw [this, bRow_set]
theorem AX.cell (h : AX B w0 W g eb n es X sb (bRow p)) (i : Nat) (hi : i < 64) : W.cell? ⟨sb, i, none⟩ = some (.bool (p i)) := by
  obtain ⟨v, h⟩ := h
  rw [cell_of_row W sb i _ _ _ h.blk]
  exact bRow_at p i hi
theorem AX.fro (h : AX B w0 W g eb n es X sb cur) (i : Nat) : W.frozen? ⟨sb, i, none⟩ = false := by
  obtain ⟨v, h⟩ := h
  simp [World.frozen?, h.blk]
theorem AX.row (h : AX B w0 W g eb n es X sb cur) {u : Value} {L : List Int} (hu : (u, L) ∈ X) : ZAt W u L := h.px.row hu
theorem AX.reaches (h : AX B w0 W g eb n es X sb cur) (a b : Int) (R : Bool) (hR : reachB n es a b = R) :
    Calls Tryd.prog 22 #[ptr g, .int .i64 a, .int .i64 b] W fun e w' => e = .returned (.bool R) ∧ Hid (AX B w0 w' g eb n es X sb cur) := by
  have h' := h
  obtain ⟨v, hm⟩ := h
  refine (reaches_any hm.r.gm hm.r.tab (Nat.lt_of_lt_of_le hm.r.pos hm.r.le) a b).mono ?_
  rintro e w' ⟨rfl, hb⟩
  exact ⟨by rw [hR], h'.step hb⟩
end
end Go.Proofs.YtmeeimfjibcncaaDoor
