/- The document's own heap: Pop. -/
import Derived.Test.YtpcjaleogeoabaaRfD
namespace Go.Proofs.Ytpcjaleogeoabaa
open Go.RowKit
open M
set_option linter.unusedVariables false
set_option linter.unusedSimpArgs false

set_option maxRecDepth 1000000 in
set_option maxHeartbeats 4000000 in
theorem rpop_none {w : World} {rb : Nat} {n : Int} {v : Value} (h : RM w rb n v []) :
    Calls Try.prog 20 #[ptr rb] w fun e w' => e = .returned (.tuple #[.agg #[.int .i64 0, .int .i64 0], .bool false]) ∧ Below w.heap.size w w' := by
  have hA : Below w.heap.size w (w.alloc (.cells #[.int .i64 0, .int .i64 0] 39)) := (Below.refl _ _).alloc (Nat.le_refl _) _
  have k : Calls Try.prog 22 #[ptr rb] (w.alloc (.cells #[.int .i64 0, .int .i64 0] 39)) fun e w' => e = .returned (.tuple #[.agg #[.int .i64 0, .int .i64 0], .bool false]) ∧ Hid (Below (w.alloc (.cells #[.int .i64 0, .int .i64 0] 39)).heap.size (w.alloc (.cells #[.int .i64 0, .int .i64 0] 39)) w') := rfirst_none (h.below hA)
  have HA := hide_it hA
  have hsz : (w.alloc (.cells #[.int .i64 0, .int .i64 0] 39)).heap.size = w.heap.size + 1 := by simp
  have HS := hide_it hsz
  have hA2 := hide_it (heap_alloc_new w (.cells #[.int .i64 0, .int .i64 0] 39))
  have HR : Hid (∀ W2, Below (w.alloc (.cells #[.int .i64 0, .int .i64 0] 39)).heap.size (w.alloc (.cells #[.int .i64 0, .int .i64 0] 39)) W2 → (W2.alloc (.cells #[.int .i64 0, .int .i64 0] 39)).heap[w.heap.size]? = some (.cells #[.int .i64 0, .int .i64 0] 39) ∧ Below w.heap.size w (W2.alloc (.cells #[.int .i64 0, .int .i64 0] 39)) ∧ w.heap.size < W2.heap.size ∧ W2.heap[w.heap.size]? = some (.cells #[.int .i64 0, .int .i64 0] 39) ∧ Below w.heap.size w W2) := fun W2 h2 => by
    have hs2 := h2.size
    rw [HS.out] at hs2 h2
    have hw : W2.heap[w.heap.size]? = some (.cells #[.int .i64 0, .int .i64 0] 39) := by
      rw [h2.block w.heap.size (by omega)]; exact hA2.out
    refine ⟨?_, (HA.out.trans (h2.mono (by omega))).alloc (by omega) _, by omega, hw, HA.out.trans (h2.mono (by omega))⟩
    rw [Below.heap_alloc _ _ _ (by omega)]
    exact hw
  clear h hA hsz hA2 HS
  go_enter Try.func20, Try.ntmps20
  go_wp2_with (go_at_call 22; refine k.mono ?_; rintro e w2 ⟨rfl, h2⟩; obtain ⟨z1, z2, z3, z4, z5⟩ := HR.out w2 h2.out; have ne1 : ¬ w.heap.size = w2.heap.size := (by omega); have ne2 : ¬ w2.heap.size = w.heap.size := (by omega); have c0 : w2.cell? ⟨w.heap.size, 0, none⟩ = some (.int .i64 0) := (by rw [cell_of_row _ _ 0 _ _ _ z4]; rfl); have c1 : w2.cell? ⟨w.heap.size, 1, none⟩ = some (.int .i64 0) := (by rw [cell_of_row _ _ 1 _ _ _ z4]; rfl); have f0 : w2.frozen? ⟨w.heap.size, 0, none⟩ = false := (by simp [World.frozen?, z4]); have f1 : w2.frozen? ⟨w.heap.size, 1, none⟩ = false := (by simp [World.frozen?, z4]); have Z4 := hide_it z4; have Z5 := hide_it z5; clear z1 z2 z4 z5)
  have g1 := heap_setCell_at (o := 0) Z4.out (.int .i64 0)
  have g2 := heap_setCell_at (o := 1) g1 (.int .i64 0)
  have g3 : (((w2.setCell ⟨w.heap.size, 0, none⟩ (.int .i64 0)).setCell ⟨w.heap.size, 1, none⟩ (.int .i64 0)).alloc (.cells #[.int .i64 0, .int .i64 0] 39)).heap[w.heap.size]? = some (.cells #[.int .i64 0, .int .i64 0] 39) := by
    rw [Below.heap_alloc _ _ _ (block_lt g2)]; simpa using g2
  have k0 : (((w2.setCell ⟨w.heap.size, 0, none⟩ (.int .i64 0)).setCell ⟨w.heap.size, 1, none⟩ (.int .i64 0)).alloc (.cells #[.int .i64 0, .int .i64 0] 39)).cell? ⟨w.heap.size, 0, none⟩ = some (.int .i64 0) := by rw [cell_of_row _ _ 0 _ _ _ g3]; rfl
  have k1 : (((w2.setCell ⟨w.heap.size, 0, none⟩ (.int .i64 0)).setCell ⟨w.heap.size, 1, none⟩ (.int .i64 0)).alloc (.cells #[.int .i64 0, .int .i64 0] 39)).cell? ⟨w.heap.size, 1, none⟩ = some (.int .i64 0) := by rw [cell_of_row _ _ 1 _ _ _ g3]; rfl
  have B1 := (Z5.out.setCell (p := ⟨w.heap.size, 0, none⟩) (Nat.le_refl _) (.int .i64 0)).setCell (p := ⟨w.heap.size, 1, none⟩) (Nat.le_refl _) (.int .i64 0)
  refine bodyPost_ret (v := .tuple #[.agg #[.int .i64 0, .int .i64 0], .bool false]) (by generalize (((w2.setCell ⟨w.heap.size, 0, none⟩ (.int .i64 0)).setCell ⟨w.heap.size, 1, none⟩ (.int .i64 0)).alloc (.cells #[.int .i64 0, .int .i64 0] 39)) = WW at *; simp [results, Try.results20, go_sem, k0, k1]) rfl ⟨rfl, B1.alloc B1.size _⟩

set_option maxRecDepth 1000000 in
set_option maxHeartbeats 4000000 in
theorem rpop_some {w : World} {rb : Nat} {n : Int} {v : Value} {L : List It} (h : RM w rb n v L) (hlen : L.length ≤ 1000000) (ho : Once L) {i : Nat} (hi : i < L.length) {x y : Int} (e : L[i] = (x, y)) (hb : Bst L (x, y)) :
    Calls Try.prog 20 #[ptr rb] w fun e w' => e = .returned (.tuple #[.agg #[.int .i64 x, .int .i64 y], .bool true]) ∧ ∃ v', RM w' rb n v' (L.eraseIdx i) ∧ Turn (RFoot rb v) w w' ∧ ∀ k, RFoot rb v' k → k = rb ∨ w.heap.size ≤ k := by
  have hA : Below w.heap.size w (w.alloc (.cells #[.int .i64 0, .int .i64 0] 39)) := (Below.refl _ _).alloc (Nat.le_refl _) _
  have k : Calls Try.prog 22 #[ptr rb] (w.alloc (.cells #[.int .i64 0, .int .i64 0] 39)) fun e w' => e = .returned (.tuple #[.agg #[.int .i64 x, .int .i64 y], .bool true]) ∧ Hid (Below (w.alloc (.cells #[.int .i64 0, .int .i64 0] 39)).heap.size (w.alloc (.cells #[.int .i64 0, .int .i64 0] 39)) w') := rfirst_some (h.below hA) hlen hb
  have HA := hide_it hA
  have hrl := h.lt
  have HS := hide_it (show (w.alloc (.cells #[.int .i64 0, .int .i64 0] 39)).heap.size = w.heap.size + 1 by simp)
  have hA2 := hide_it (heap_alloc_new w (.cells #[.int .i64 0, .int .i64 0] 39))
  have HR : Hid (∀ W2, Below (w.alloc (.cells #[.int .i64 0, .int .i64 0] 39)).heap.size (w.alloc (.cells #[.int .i64 0, .int .i64 0] 39)) W2 → (W2.alloc (.cells #[.int .i64 x, .int .i64 y] 39)).heap[w.heap.size]? = some (.cells #[.int .i64 0, .int .i64 0] 39) ∧ Below w.heap.size w (W2.alloc (.cells #[.int .i64 x, .int .i64 y] 39)) ∧ w.heap.size < W2.heap.size) := fun W2 h2 => by
    have hs2 := h2.size
    rw [HS.out] at hs2 h2
    refine ⟨?_, (HA.out.trans (h2.mono (by omega))).alloc (by omega) _, by omega⟩
    rw [Below.heap_alloc _ _ _ (by omega), h2.block w.heap.size (by omega)]
    exact hA2.out
  have k3 : ∀ W, Below w.heap.size w W → Calls Try.prog 30 #[ptr rb, .int .i64 x] W fun e w' => e = .returned (.int .i64 i) ∧ w' = W := fun W hW => find_some (h.below hW) hlen ho hi x (by rw [e])
  have k4 : ∀ W, Below w.heap.size w W → Calls Try.prog 35 #[ptr rb, .int .i64 i] W fun e w' => e = .returned (.tuple #[]) ∧ ∃ v', Hid (RM w' rb n v' (L.eraseIdx i)) ∧ Hid (Turn (RFoot rb v) W w') ∧ Hid (∀ k, RFoot rb v' k → k = rb ∨ W.heap.size ≤ k) := fun W hW => cut_any (h.below hW) hlen hi
  generalize L.eraseIdx i = L2 at *
  have HL := hide_it hrl
  have HB4 : Hid (∀ (W2 W4 : World), w.heap.size < W2.heap.size → (W2.alloc (.cells #[.int .i64 x, .int .i64 y] 39)).heap[w.heap.size]? = some (.cells #[.int .i64 0, .int .i64 0] 39) → Turn (RFoot rb v) (W2.alloc (.cells #[.int .i64 x, .int .i64 y] 39)) W4 → W4.heap[w.heap.size]? = some (.cells #[.int .i64 0, .int .i64 0] 39) ∧ W4.heap[W2.heap.size]? = some (.cells #[.int .i64 x, .int .i64 y] 39)) := fun W2 W4 hs hr ht => by
    refine ⟨?_, ?_⟩
    · rw [ht.block w.heap.size (by simp; omega) (fun q => by have := HL.out _ q; omega)]; exact hr
    · rw [ht.block W2.heap.size (by simp) (fun q => by have := HL.out _ q; omega)]; exact heap_alloc_new _ _
  clear h hA hA2 HS ho hb e hrl
  go_enter Try.func20, Try.ntmps20
  go_wp2_with (first | (go_at_call 22; refine k.mono ?_; rintro e w2 ⟨rfl, h2⟩; obtain ⟨z1, z2, z3⟩ := HR.out w2 h2.out; have Z1 := hide_it z1; have Z2 := hide_it z2; clear z1 z2) | (go_at_call 30; refine (k3 _ Z2.out).mono ?_; rintro e w3 ⟨rfl, rfl⟩) | (go_at_call 35; refine (k4 _ Z2.out).mono ?_; rintro e w4 ⟨rfl, v', m4, t4, r4⟩; obtain ⟨y1, y2⟩ := HB4.out _ _ z3 Z1.out t4.out; have c0 : w4.cell? ⟨w.heap.size, 0, none⟩ = some (.int .i64 0) := (by rw [cell_of_row _ _ 0 _ _ _ y1]; rfl); have c1 : w4.cell? ⟨w.heap.size, 1, none⟩ = some (.int .i64 0) := (by rw [cell_of_row _ _ 1 _ _ _ y1]; rfl); have f0 : w4.frozen? ⟨w.heap.size, 0, none⟩ = false := (by simp [World.frozen?, y1]); have g1 := heap_setCell_at (o := 0) y1 (.int .i64 x); have c2 : (w4.setCell ⟨w.heap.size, 0, none⟩ (.int .i64 x)).cell? ⟨w.heap.size, 1, none⟩ = some (.int .i64 0) := (by rw [cell_of_row _ _ 1 _ _ _ g1]; rfl); have f2 : (w4.setCell ⟨w.heap.size, 0, none⟩ (.int .i64 x)).frozen? ⟨w.heap.size, 1, none⟩ = false := (by simp [World.frozen?, g1]); have d0 : w4.cell? ⟨w2.heap.size, 0, none⟩ = some (.int .i64 x) := (by rw [cell_of_row _ _ 0 _ _ _ y2]; rfl); have d1 : w4.cell? ⟨w2.heap.size, 1, none⟩ = some (.int .i64 y) := (by rw [cell_of_row _ _ 1 _ _ _ y2]; rfl); have Y1 := hide_it y1; clear y1 y2 g1))
  have g1 := heap_setCell_at (o := 0) Y1.out (.int .i64 x)
  have g2 := heap_setCell_at (o := 1) g1 (.int .i64 y)
  have k0 : ((w4.setCell ⟨w.heap.size, 0, none⟩ (.int .i64 x)).setCell ⟨w.heap.size, 1, none⟩ (.int .i64 y)).cell? ⟨w.heap.size, 0, none⟩ = some (.int .i64 x) := by rw [cell_of_row _ _ 0 _ _ _ g2]; rfl
  have k1 : ((w4.setCell ⟨w.heap.size, 0, none⟩ (.int .i64 x)).setCell ⟨w.heap.size, 1, none⟩ (.int .i64 y)).cell? ⟨w.heap.size, 1, none⟩ = some (.int .i64 y) := by rw [cell_of_row _ _ 1 _ _ _ g2]; rfl
  refine bodyPost_ret (v := .tuple #[.agg #[.int .i64 x, .int .i64 y], .bool true]) (by simp [results, Try.results20, go_sem, k0, k1]) rfl ⟨rfl, v', ?_, ?_, ?_⟩
  · refine m4.out.keep (fun q hq => ?_)
    have hne : q ≠ w.heap.size := by
      rcases r4.out q hq with rfl | hge
      · have := HL.out q (.inl rfl); omega
      · simp at hge; omega
    rw [Below.heap_setCell _ _ _ _ hne, Below.heap_setCell _ _ _ _ hne]
  · have T := (Turn.of_below (F := RFoot rb v) Z2.out).trans t4.out
    exact (T.setCell (p := ⟨w.heap.size, 0, none⟩) (.inr (Nat.le_refl _)) _).setCell (p := ⟨w.heap.size, 1, none⟩) (.inr (Nat.le_refl _)) _
  · intro q hq
    rcases r4.out q hq with hq2 | hge
    · exact .inl hq2
    · exact .inr (by simp at hge; omega)
end Go.Proofs.Ytpcjaleogeoabaa
