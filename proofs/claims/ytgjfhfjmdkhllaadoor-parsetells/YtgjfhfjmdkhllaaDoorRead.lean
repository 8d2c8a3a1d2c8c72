/- What readFile of package parse does: its deferred closure, and the file of tokens or the line that is wrong. -/
import Derived.Test.YtgjfhfjmdkhllaaDoorLinQ
import Derived.Defers
import Derived.Recover
namespace Go.Proofs.YtgjfhfjmdkhllaaDoor
open Go.RowKit
open M
set_option linter.unusedVariables false
set_option linter.unusedSimpArgs false

set_option maxRecDepth 1000000 in
set_option maxHeartbeats 4000000 in
theorem caught_none (p q r : Value) (w : World) :
    CallsD Tryd.prog 27 #[p, q, r] .returning w fun e u' w' => e = .returned (.tuple #[]) ∧ u' = .returning ∧ w' = w := by
  refine callsD_of_wpS Tryd.func27 rfl fun c₀ cs hu => ?_
  apply wpS_seq
  apply wpS_region
  simp [wpOpsS, go_sem, recoverD, hu, Tryd.ntmps27, Exit.thenS]
  refine wpS_of_wp ?_
  go_wp2
  cases c₀
  simp_all [bodyPostS, results, Tryd.results27]

/-- Twelve cells of a block written. -/
def wipe (w : World) (g1 : Nat) : World := ((((((((((((w.setCell ⟨g1, 0, none⟩ (.int .i64 0)).setCell ⟨g1, 1, none⟩ (.int .i64 0)).setCell ⟨g1, 2, none⟩ (.int .i64 0)).setCell ⟨g1, 3, none⟩ (.int .i64 0)).setCell ⟨g1, 4, none⟩ (.int .i64 0)).setCell ⟨g1, 5, none⟩ (.int .i64 0)).setCell ⟨g1, 6, none⟩ (.int .i64 0)).setCell ⟨g1, 7, none⟩ (.int .i64 0)).setCell ⟨g1, 8, none⟩ (.int .i64 0)).setCell ⟨g1, 9, none⟩ (.int .i64 0)).setCell ⟨g1, 10, none⟩ (.slice none 0 0)).setCell ⟨g1, 11, none⟩ (.slice none 0 0))
theorem wipe_block {w : World} {g1 : Nat} {c0 c1 c2 c3 c4 c5 c6 c7 c8 c9 c10 c11 : Value} (h1 : w.heap[g1]? = some (.cells #[c0, c1, c2, c3, c4, c5, c6, c7, c8, c9, c10, c11] 29 (0, 0))) : (wipe w g1).heap[g1]? = some (.cells (fileA noFile (.slice none 0 0) (.slice none 0 0)) 29 (0, 0)) := by
  have b0 : (w.setCell ⟨g1, 0, none⟩ (.int .i64 0)).heap[g1]? = some (.cells #[.int .i64 0, c1, c2, c3, c4, c5, c6, c7, c8, c9, c10, c11] 29 (0, 0)) := Joins.block_setCell (i := 0) h1 (.int .i64 0)
  have b1 : ((w.setCell ⟨g1, 0, none⟩ (.int .i64 0)).setCell ⟨g1, 1, none⟩ (.int .i64 0)).heap[g1]? = some (.cells #[.int .i64 0, .int .i64 0, c2, c3, c4, c5, c6, c7, c8, c9, c10, c11] 29 (0, 0)) := Joins.block_setCell (i := 1) b0 (.int .i64 0)
  have b2 : (((w.setCell ⟨g1, 0, none⟩ (.int .i64 0)).setCell ⟨g1, 1, none⟩ (.int .i64 0)).setCell ⟨g1, 2, none⟩ (.int .i64 0)).heap[g1]? = some (.cells #[.int .i64 0, .int .i64 0, .int .i64 0, c3, c4, c5, c6, c7, c8, c9, c10, c11] 29 (0, 0)) := Joins.block_setCell (i := 2) b1 (.int .i64 0)
  have b3 : ((((w.setCell ⟨g1, 0, none⟩ (.int .i64 0)).setCell ⟨g1, 1, none⟩ (.int .i64 0)).setCell ⟨g1, 2, none⟩ (.int .i64 0)).setCell ⟨g1, 3, none⟩ (.int .i64 0)).heap[g1]? = some (.cells #[.int .i64 0, .int .i64 0, .int .i64 0, .int .i64 0, c4, c5, c6, c7, c8, c9, c10, c11] 29 (0, 0)) := Joins.block_setCell (i := 3) b2 (.int .i64 0)
  have b4 : (((((w.setCell ⟨g1, 0, none⟩ (.int .i64 0)).setCell ⟨g1, 1, none⟩ (.int .i64 0)).setCell ⟨g1, 2, none⟩ (.int .i64 0)).setCell ⟨g1, 3, none⟩ (.int .i64 0)).setCell ⟨g1, 4, none⟩ (.int .i64 0)).heap[g1]? = some (.cells #[.int .i64 0, .int .i64 0, .int .i64 0, .int .i64 0, .int .i64 0, c5, c6, c7, c8, c9, c10, c11] 29 (0, 0)) := Joins.block_setCell (i := 4) b3 (.int .i64 0)
  have b5 : ((((((w.setCell ⟨g1, 0, none⟩ (.int .i64 0)).setCell ⟨g1, 1, none⟩ (.int .i64 0)).setCell ⟨g1, 2, none⟩ (.int .i64 0)).setCell ⟨g1, 3, none⟩ (.int .i64 0)).setCell ⟨g1, 4, none⟩ (.int .i64 0)).setCell ⟨g1, 5, none⟩ (.int .i64 0)).heap[g1]? = some (.cells #[.int .i64 0, .int .i64 0, .int .i64 0, .int .i64 0, .int .i64 0, .int .i64 0, c6, c7, c8, c9, c10, c11] 29 (0, 0)) := Joins.block_setCell (i := 5) b4 (.int .i64 0)
  have b6 : (((((((w.setCell ⟨g1, 0, none⟩ (.int .i64 0)).setCell ⟨g1, 1, none⟩ (.int .i64 0)).setCell ⟨g1, 2, none⟩ (.int .i64 0)).setCell ⟨g1, 3, none⟩ (.int .i64 0)).setCell ⟨g1, 4, none⟩ (.int .i64 0)).setCell ⟨g1, 5, none⟩ (.int .i64 0)).setCell ⟨g1, 6, none⟩ (.int .i64 0)).heap[g1]? = some (.cells #[.int .i64 0, .int .i64 0, .int .i64 0, .int .i64 0, .int .i64 0, .int .i64 0, .int .i64 0, c7, c8, c9, c10, c11] 29 (0, 0)) := Joins.block_setCell (i := 6) b5 (.int .i64 0)
  have b7 : ((((((((w.setCell ⟨g1, 0, none⟩ (.int .i64 0)).setCell ⟨g1, 1, none⟩ (.int .i64 0)).setCell ⟨g1, 2, none⟩ (.int .i64 0)).setCell ⟨g1, 3, none⟩ (.int .i64 0)).setCell ⟨g1, 4, none⟩ (.int .i64 0)).setCell ⟨g1, 5, none⟩ (.int .i64 0)).setCell ⟨g1, 6, none⟩ (.int .i64 0)).setCell ⟨g1, 7, none⟩ (.int .i64 0)).heap[g1]? = some (.cells #[.int .i64 0, .int .i64 0, .int .i64 0, .int .i64 0, .int .i64 0, .int .i64 0, .int .i64 0, .int .i64 0, c8, c9, c10, c11] 29 (0, 0)) := Joins.block_setCell (i := 7) b6 (.int .i64 0)
  have b8 : (((((((((w.setCell ⟨g1, 0, none⟩ (.int .i64 0)).setCell ⟨g1, 1, none⟩ (.int .i64 0)).setCell ⟨g1, 2, none⟩ (.int .i64 0)).setCell ⟨g1, 3, none⟩ (.int .i64 0)).setCell ⟨g1, 4, none⟩ (.int .i64 0)).setCell ⟨g1, 5, none⟩ (.int .i64 0)).setCell ⟨g1, 6, none⟩ (.int .i64 0)).setCell ⟨g1, 7, none⟩ (.int .i64 0)).setCell ⟨g1, 8, none⟩ (.int .i64 0)).heap[g1]? = some (.cells #[.int .i64 0, .int .i64 0, .int .i64 0, .int .i64 0, .int .i64 0, .int .i64 0, .int .i64 0, .int .i64 0, .int .i64 0, c9, c10, c11] 29 (0, 0)) := Joins.block_setCell (i := 8) b7 (.int .i64 0)
  have b9 : ((((((((((w.setCell ⟨g1, 0, none⟩ (.int .i64 0)).setCell ⟨g1, 1, none⟩ (.int .i64 0)).setCell ⟨g1, 2, none⟩ (.int .i64 0)).setCell ⟨g1, 3, none⟩ (.int .i64 0)).setCell ⟨g1, 4, none⟩ (.int .i64 0)).setCell ⟨g1, 5, none⟩ (.int .i64 0)).setCell ⟨g1, 6, none⟩ (.int .i64 0)).setCell ⟨g1, 7, none⟩ (.int .i64 0)).setCell ⟨g1, 8, none⟩ (.int .i64 0)).setCell ⟨g1, 9, none⟩ (.int .i64 0)).heap[g1]? = some (.cells #[.int .i64 0, .int .i64 0, .int .i64 0, .int .i64 0, .int .i64 0, .int .i64 0, .int .i64 0, .int .i64 0, .int .i64 0, .int .i64 0, c10, c11] 29 (0, 0)) := Joins.block_setCell (i := 9) b8 (.int .i64 0)
  have b10 : (((((((((((w.setCell ⟨g1, 0, none⟩ (.int .i64 0)).setCell ⟨g1, 1, none⟩ (.int .i64 0)).setCell ⟨g1, 2, none⟩ (.int .i64 0)).setCell ⟨g1, 3, none⟩ (.int .i64 0)).setCell ⟨g1, 4, none⟩ (.int .i64 0)).setCell ⟨g1, 5, none⟩ (.int .i64 0)).setCell ⟨g1, 6, none⟩ (.int .i64 0)).setCell ⟨g1, 7, none⟩ (.int .i64 0)).setCell ⟨g1, 8, none⟩ (.int .i64 0)).setCell ⟨g1, 9, none⟩ (.int .i64 0)).setCell ⟨g1, 10, none⟩ (.slice none 0 0)).heap[g1]? = some (.cells #[.int .i64 0, .int .i64 0, .int .i64 0, .int .i64 0, .int .i64 0, .int .i64 0, .int .i64 0, .int .i64 0, .int .i64 0, .int .i64 0, .slice none 0 0, c11] 29 (0, 0)) := Joins.block_setCell (i := 10) b9 (.slice none 0 0)
  have b11 : ((((((((((((w.setCell ⟨g1, 0, none⟩ (.int .i64 0)).setCell ⟨g1, 1, none⟩ (.int .i64 0)).setCell ⟨g1, 2, none⟩ (.int .i64 0)).setCell ⟨g1, 3, none⟩ (.int .i64 0)).setCell ⟨g1, 4, none⟩ (.int .i64 0)).setCell ⟨g1, 5, none⟩ (.int .i64 0)).setCell ⟨g1, 6, none⟩ (.int .i64 0)).setCell ⟨g1, 7, none⟩ (.int .i64 0)).setCell ⟨g1, 8, none⟩ (.int .i64 0)).setCell ⟨g1, 9, none⟩ (.int .i64 0)).setCell ⟨g1, 10, none⟩ (.slice none 0 0)).setCell ⟨g1, 11, none⟩ (.slice none 0 0)).heap[g1]? = some (.cells #[.int .i64 0, .int .i64 0, .int .i64 0, .int .i64 0, .int .i64 0, .int .i64 0, .int .i64 0, .int .i64 0, .int .i64 0, .int .i64 0, .slice none 0 0, .slice none 0 0] 29 (0, 0)) := Joins.block_setCell (i := 11) b10 (.slice none 0 0)
  exact b11
theorem wipe_only (w : World) (g1 : Nat) : Only g1 w (wipe w g1) := ((((((((((((Only.refl g1 w).setCell _ _).setCell _ _).setCell _ _).setCell _ _).setCell _ _).setCell _ _).setCell _ _).setCell _ _).setCell _ _).setCell _ _).setCell _ _).setCell _ _
/-- And two more, and a block. -/
def wiped (w : World) (g1 g2 g3 : Nat) (l e : Int) : World := ((((wipe w g1).setCell ⟨g2, 0, none⟩ (.int .i64 l)).setCell ⟨g3, 0, none⟩ (.int .i64 e)).alloc (.cells #[.int .i64 l, .int .i64 e] 69)).drew
theorem wiped_is {w : World} {g1 g2 g3 : Nat} (l e : Int) {x y c0 c1 c2 c3 c4 c5 c6 c7 c8 c9 c10 c11 : Value} (h1 : w.heap[g1]? = some (.cells #[c0, c1, c2, c3, c4, c5, c6, c7, c8, c9, c10, c11] 29 (0, 0))) (h2 : w.heap[g2]? = some (.cells #[x] 3 (0, 0))) (h3 : w.heap[g3]? = some (.cells #[y] 30 (0, 0))) (h12 : g1 ≠ g2) (h13 : g1 ≠ g3) (h23 : g2 ≠ g3) :
    (wiped w g1 g2 g3 l e).heap[g1]? = some (.cells (fileA noFile (.slice none 0 0) (.slice none 0 0)) 29 (0, 0)) ∧ (wiped w g1 g2 g3 l e).heap[g2]? = some (.cells #[.int .i64 l] 3 (0, 0)) ∧ (wiped w g1 g2 g3 l e).heap[g3]? = some (.cells #[.int .i64 e] 30 (0, 0)) ∧ (∀ B, B ≤ g1 → B ≤ g2 → B ≤ g3 → B ≤ w.heap.size → Below B w (wiped w g1 g2 g3 l e)) := by
  have l1 := block_lt h1
  have l2 := block_lt h2
  have l3 := block_lt h3
  have hblk := wipe_block h1
  have ho := wipe_only w g1
  unfold wiped
  generalize wipe w g1 = W at *
  have s0 : W.heap.size = w.heap.size := ho.size
  have t2 : W.heap[g2]? = some (.cells #[x] 3 (0, 0)) := by rw [ho.block g2 (by omega)]; exact h2
  have t3 : W.heap[g3]? = some (.cells #[y] 30 (0, 0)) := by rw [ho.block g3 (by omega)]; exact h3
  have u2 := Joins.block_setCell (i := 0) t2 (.int .i64 l)
  have u3 : (W.setCell ⟨g2, 0, none⟩ (.int .i64 l)).heap[g3]? = some (.cells #[y] 30 (0, 0)) := by rw [Below.heap_setCell _ _ _ _ (by show g3 ≠ g2; omega)]; exact t3
  have v3 := Joins.block_setCell (i := 0) u3 (.int .i64 e)
  have sz : ((W.setCell ⟨g2, 0, none⟩ (.int .i64 l)).setCell ⟨g3, 0, none⟩ (.int .i64 e)).heap.size = w.heap.size := by simp [World.setCell]; exact s0
  refine ⟨?_, ?_, ?_, fun B h1 h2 h3 h4 => ?_⟩
  · show (World.alloc _ _).heap[g1]? = _
    rw [Below.heap_alloc _ _ _ (by omega), Below.heap_setCell _ _ _ _ (by show g1 ≠ g3; omega), Below.heap_setCell _ _ _ _ (by show g1 ≠ g2; omega)]; exact hblk
  · show (World.alloc _ _).heap[g2]? = _
    rw [Below.heap_alloc _ _ _ (by omega), Below.heap_setCell _ _ _ _ (by show g2 ≠ g3; omega)]; exact u2
  · show (World.alloc _ _).heap[g3]? = _
    rw [Below.heap_alloc _ _ _ (by omega)]; exact v3
  · exact ((((ho.below (Below.refl B w) h1).setCell (p := ⟨g2, 0, none⟩) h2 _).setCell (p := ⟨g3, 0, none⟩) h3 _).alloc (by rw [sz]; exact h4) _).drew

theorem assert_fault (v : Value) (w : World) : (Instr.typeAssert (.iface 69 v) 20 69 false).run Tryd.prog w = .ok v w := by kernel_rfl

set_option maxRecDepth 1000000 in
set_option maxHeartbeats 8000000 in
theorem caught_some (g1 g2 g3 : Nat) (l e : Int) (older : List PanicEntry) (w : World) (x y : Value) (c0 c1 c2 c3 c4 c5 c6 c7 c8 c9 c10 c11 : Value) (h1 : w.heap[g1]? = some (.cells #[c0, c1, c2, c3, c4, c5, c6, c7, c8, c9, c10, c11] 29 (0, 0))) (h2 : w.heap[g2]? = some (.cells #[x] 3 (0, 0))) (h3 : w.heap[g3]? = some (.cells #[y] 30 (0, 0))) (h12 : g1 ≠ g2) (h13 : g1 ≠ g3) (h23 : g2 ≠ g3) :
    CallsD Tryd.prog 27 #[ptr g1 0, ptr g2 0, ptr g3 0] (.panicking ({ v := .iface 69 (.agg #[.int .i64 l, .int .i64 e]), recovered := false } :: older)) w fun e' u' w' =>
      e' = .returned (.tuple #[]) ∧ u' = .panicking ({ v := .iface 69 (.agg #[.int .i64 l, .int .i64 e]), recovered := true } :: older) ∧ w'.heap[g1]? = some (.cells (fileA noFile (.slice none 0 0) (.slice none 0 0)) 29 (0, 0)) ∧ w'.heap[g2]? = some (.cells #[.int .i64 l] 3 (0, 0)) ∧ w'.heap[g3]? = some (.cells #[.int .i64 e] 30 (0, 0)) ∧ (∀ B, B ≤ g1 → B ≤ g2 → B ≤ g3 → B ≤ w.heap.size → Below B w w') := by
  have l1 := block_lt h1
  have l2 := block_lt h2
  have l3 := block_lt h3
  have k1 : ∀ ob : Obj, (w.alloc ob).heap[g1]? = some (.cells #[c0, c1, c2, c3, c4, c5, c6, c7, c8, c9, c10, c11] 29 (0, 0)) := fun ob => by rw [Below.heap_alloc _ _ _ l1]; exact h1
  have k2 : ∀ ob : Obj, (w.alloc ob).heap[g2]? = some (.cells #[x] 3 (0, 0)) := fun ob => by rw [Below.heap_alloc _ _ _ l2]; exact h2
  have k3 : ∀ ob : Obj, (w.alloc ob).heap[g3]? = some (.cells #[y] 30 (0, 0)) := fun ob => by rw [Below.heap_alloc _ _ _ l3]; exact h3
  have a10 : w.cell? ⟨g1, 0, none⟩ = some c0 := by rw [Lib.cell_of_heap h1]; rfl
  have a11 : w.cell? ⟨g1, 1, none⟩ = some c1 := by rw [Lib.cell_of_heap h1]; rfl
  have a12 : w.cell? ⟨g1, 2, none⟩ = some c2 := by rw [Lib.cell_of_heap h1]; rfl
  have a13 : w.cell? ⟨g1, 3, none⟩ = some c3 := by rw [Lib.cell_of_heap h1]; rfl
  have a14 : w.cell? ⟨g1, 4, none⟩ = some c4 := by rw [Lib.cell_of_heap h1]; rfl
  have a15 : w.cell? ⟨g1, 5, none⟩ = some c5 := by rw [Lib.cell_of_heap h1]; rfl
  have a16 : w.cell? ⟨g1, 6, none⟩ = some c6 := by rw [Lib.cell_of_heap h1]; rfl
  have a17 : w.cell? ⟨g1, 7, none⟩ = some c7 := by rw [Lib.cell_of_heap h1]; rfl
  have a18 : w.cell? ⟨g1, 8, none⟩ = some c8 := by rw [Lib.cell_of_heap h1]; rfl
  have a19 : w.cell? ⟨g1, 9, none⟩ = some c9 := by rw [Lib.cell_of_heap h1]; rfl
  have a110 : w.cell? ⟨g1, 10, none⟩ = some c10 := by rw [Lib.cell_of_heap h1]; rfl
  have a111 : w.cell? ⟨g1, 11, none⟩ = some c11 := by rw [Lib.cell_of_heap h1]; rfl
  have a2 : w.cell? ⟨g2, 0, none⟩ = some x := by rw [Lib.cell_of_heap h2]; rfl
  have a3 : w.cell? ⟨g3, 0, none⟩ = some y := by rw [Lib.cell_of_heap h3]; rfl
  have fw1 : ∀ j : Nat, w.frozen? ⟨g1, j, none⟩ = false := fun j => Lib.frozen_of_heap h1 j
  have fw2 : ∀ j : Nat, w.frozen? ⟨g2, j, none⟩ = false := fun j => Lib.frozen_of_heap h2 j
  have fw3 : ∀ j : Nat, w.frozen? ⟨g3, j, none⟩ = false := fun j => Lib.frozen_of_heap h3 j
  have fz1 : ∀ (j : Nat) (ob : Obj), (w.alloc ob).frozen? ⟨g1, j, none⟩ = false := fun j ob => Lib.frozen_of_heap (k1 ob) j
  have fz2 : ∀ (j : Nat) (ob : Obj), (w.alloc ob).frozen? ⟨g2, j, none⟩ = false := fun j ob => Lib.frozen_of_heap (k2 ob) j
  have fz3 : ∀ (j : Nat) (ob : Obj), (w.alloc ob).frozen? ⟨g3, j, none⟩ = false := fun j ob => Lib.frozen_of_heap (k3 ob) j
  have hta := assert_fault
  have K1 : Hid (∀ ob : Obj, (w.alloc ob).heap[g1]? = some (.cells #[c0, c1, c2, c3, c4, c5, c6, c7, c8, c9, c10, c11] 29 (0, 0))) := k1
  have K2 : Hid (∀ ob : Obj, (w.alloc ob).heap[g2]? = some (.cells #[x] 3 (0, 0))) := k2
  have K3 : Hid (∀ ob : Obj, (w.alloc ob).heap[g3]? = some (.cells #[y] 30 (0, 0))) := k3
  have H1 : Hid (w.heap[g1]? = some (.cells #[c0, c1, c2, c3, c4, c5, c6, c7, c8, c9, c10, c11] 29 (0, 0))) := h1
  have H2 : Hid (w.heap[g2]? = some (.cells #[x] 3 (0, 0))) := h2
  have H3 : Hid (w.heap[g3]? = some (.cells #[y] 30 (0, 0))) := h3
  clear k1 k2 k3 h1 h2 h3
  refine callsD_of_wpS Tryd.func27 rfl fun c₀ cs hu => ?_
  apply wpS_seq
  apply wpS_region
  simp [wpOpsS, go_sem, recoverD, hu, Tryd.ntmps27, Exit.thenS]
  rw [show (#[ptr g1 0, ptr g2 0, ptr g3 0] ++ ((Array.replicate 12 undef).setIfInBounds 2 (Value.iface 69 (.agg #[.int .i64 l, .int .i64 e]))).setIfInBounds 0 (Value.iface 69 (.agg #[.int .i64 l, .int .i64 e])) : Array Value) = #[ptr g1 0, ptr g2 0, ptr g3 0, Value.iface 69 (.agg #[.int .i64 l, .int .i64 e]), undef, Value.iface 69 (.agg #[.int .i64 l, .int .i64 e]), undef, undef, undef, undef, undef, undef, undef, undef, undef] from rfl]
  refine wpS_of_wp ?_
  go_wp2
  go_region
  have hw := wiped_is l e H1.out H2.out H3.out h12 h13 h23
  clear K1 K2 K3 H1 H2 H3 fz1 fz2 fz3 fw1 fw2 fw3
  exact ⟨rfl, _, rfl, _, results_none rfl _ _ _, rfl, rfl, hw.1, hw.2.1, hw.2.2.1, hw.2.2.2⟩

end Go.Proofs.YtgjfhfjmdkhllaaDoor
