/- CheckNumbers: the walk, a number each. -/
import Derived.Test.YtfllhgbpjpmakaaNuA
namespace Go.Proofs.Ytfllhgbpjpmakaa
open Go.RowKit
open M
set_option linter.unusedVariables false
set_option linter.unusedSimpArgs false

set_option maxRecDepth 1000000 in
set_option maxHeartbeats 4000000 in
theorem numbers_5 (which n : Int) (w : World) (hE : bits .and .i64 which 65535 % 10 = 5) (hz : 0 ≤ bits .and .i64 which 65535) :
    Calls Try.prog 4 #[.int .i64 which, .int .i64 n] w fun e w' => e = .returned (.bool true) ∧ Below w.heap.size w w' := by
  have kS : Calls Try.prog 8 #[] w fun e w' => e = .returned (.bool true) ∧ Hid (Below w.heap.size w w') := shown_any w
  have kG : ∀ W, Below w.heap.size w W → Calls Try.prog 15 #[] W fun e w' => e = .returned (.agg #[.int .i64 9, .int .i64 2, .int .i64 2, .int .i64 0, .int .i64 1, .int .i64 0, .int .i64 3, .int .i64 1, .int .i64 4, .int .i64 5]) ∧ Hid (Below w.heap.size w w') := fun W hW => (good_any W).mono (fun e w' h => ⟨h.1, hW.trans (h.2.mono hW.size)⟩)
  have hcv : cfgB ⟨9, 2, 2, 0, 1, n, 3, 1, 4, 5⟩ = inB 0 1048576 n := by simp [cfgB, rowB, inB]
  have hfv : fileN ⟨9, 2, 2, 0, 1, n, 3, 1, 4, 5⟩ [] = if inB 0 1048576 n = true then (-1, 0) else (0, 3) := by rw [fileN, hcv]; rfl
  have kF := fun (g : Nat) (W : World) (hg : g < W.heap.size) (hW : Below w.heap.size w W) => (file_any ⟨9, 2, 2, 0, 1, n, 3, 1, 4, 5⟩ [] none none 0 0 0 W (by decide) (tasks_nil _ _)).mono (R' := fun e w' => e = .returned (.tuple #[.int .i64 (fileN ⟨9, 2, 2, 0, 1, n, 3, 1, 4, 5⟩ []).1, .int .i64 (fileN ⟨9, 2, 2, 0, 1, n, 3, 1, 4, 5⟩ []).2]) ∧ Hid (Below w.heap.size w w') ∧ Hid (∀ o v, W.cell? ⟨g, o, none⟩ = some v → w'.cell? ⟨g, o, none⟩ = some v)) (fun e w' h => ⟨h.1, hW.trans (h.2.mono hW.size), fun o v hv => by rw [h.2.cell (p := ⟨g, o, none⟩) hg]; exact hv⟩)
  have kC := fun (W : World) (hW : Below w.heap.size w W) => (config_any ⟨9, 2, 2, 0, 1, n, 3, 1, 4, 5⟩ W).mono (R' := fun e w' => e = .returned (.int .i64 (errN (cfgB ⟨9, 2, 2, 0, 1, n, 3, 1, 4, 5⟩))) ∧ Hid (Below w.heap.size w w')) (fun e w' h => ⟨h.1, hW.trans (h.2.mono hW.size)⟩)
  rw [hcv] at kC
  rw [hfv] at kF
  unfold fiV at kF
  unfold cfV at kC
  simp only [List.length_nil] at kF kC
  clear hcv hfv
  by_cases h1 : n < 0
  · have hv : inB 0 1048576 n = false := inB_false.2 (by omega)
    rw [hv] at kF kC
    have kF' : ∀ (g : Nat) (W : World) (hg : g < W.heap.size) (hW : Below w.heap.size w W), Calls Try.prog 9 _ W (fun e w' => e = .returned (.tuple #[.int .i64 0, .int .i64 3]) ∧ _) := kF
    have kC' : ∀ (W : World) (hW : Below w.heap.size w W), Calls Try.prog 12 _ W (fun e w' => e = .returned (.int .i64 3) ∧ _) := kC
    clear kF kC hv
    go_enter Try.func4, Try.ntmps4
    go_wp2_with (first | (go_at_call 8; refine kS.mono ?_; rintro e w1 ⟨rfl, hB1⟩) | (go_at_call 15; refine (kG _ hB1.out).mono ?_; rintro e w2 ⟨rfl, hB2⟩) | (go_at_call 9; refine (kF' w2.heap.size _ (by simp) (by first | exact (hB2.out.alloc hB2.out.size _) | exact ((hB2.out.alloc hB2.out.size _).setCell hB2.out.size _))).mono ?_; rintro e w3 ⟨rfl, hB3, HC⟩; have hcell := HC.out; have a0 := hcell 0 (.int .i64 9) (by simp); have a1 := hcell 1 (.int .i64 2) (by simp); have a2 := hcell 2 (.int .i64 2) (by simp); have a3 := hcell 3 (.int .i64 0) (by simp); have a4 := hcell 4 (.int .i64 1) (by simp); have a5 := hcell 5 (.int .i64 n) (by simp); have a6 := hcell 6 (.int .i64 3) (by simp); have a7 := hcell 7 (.int .i64 1) (by simp); have a8 := hcell 8 (.int .i64 4) (by simp); have a9 := hcell 9 (.int .i64 5) (by simp); clear hcell) | (go_at_call 12; refine (kC' _ hB3.out).mono ?_; rintro e w4 ⟨rfl, hB4⟩))
    go_ret
    exact ⟨rfl, hB4.out⟩
  · by_cases h2 : 1048576 < n
    · have hv : inB 0 1048576 n = false := inB_false.2 (by omega)
      rw [hv] at kF kC
      have kF' : ∀ (g : Nat) (W : World) (hg : g < W.heap.size) (hW : Below w.heap.size w W), Calls Try.prog 9 _ W (fun e w' => e = .returned (.tuple #[.int .i64 0, .int .i64 3]) ∧ _) := kF
      have kC' : ∀ (W : World) (hW : Below w.heap.size w W), Calls Try.prog 12 _ W (fun e w' => e = .returned (.int .i64 3) ∧ _) := kC
      clear kF kC hv
      go_enter Try.func4, Try.ntmps4
      go_wp2_with (first | (go_at_call 8; refine kS.mono ?_; rintro e w1 ⟨rfl, hB1⟩) | (go_at_call 15; refine (kG _ hB1.out).mono ?_; rintro e w2 ⟨rfl, hB2⟩) | (go_at_call 9; refine (kF' w2.heap.size _ (by simp) (by first | exact (hB2.out.alloc hB2.out.size _) | exact ((hB2.out.alloc hB2.out.size _).setCell hB2.out.size _))).mono ?_; rintro e w3 ⟨rfl, hB3, HC⟩; have hcell := HC.out; have a0 := hcell 0 (.int .i64 9) (by simp); have a1 := hcell 1 (.int .i64 2) (by simp); have a2 := hcell 2 (.int .i64 2) (by simp); have a3 := hcell 3 (.int .i64 0) (by simp); have a4 := hcell 4 (.int .i64 1) (by simp); have a5 := hcell 5 (.int .i64 n) (by simp); have a6 := hcell 6 (.int .i64 3) (by simp); have a7 := hcell 7 (.int .i64 1) (by simp); have a8 := hcell 8 (.int .i64 4) (by simp); have a9 := hcell 9 (.int .i64 5) (by simp); clear hcell) | (go_at_call 12; refine (kC' _ hB3.out).mono ?_; rintro e w4 ⟨rfl, hB4⟩))
      go_ret
      exact ⟨rfl, hB4.out⟩
    · have hv : inB 0 1048576 n = true := inB_true.2 (by omega)
      rw [hv] at kF kC
      have kF' : ∀ (g : Nat) (W : World) (hg : g < W.heap.size) (hW : Below w.heap.size w W), Calls Try.prog 9 _ W (fun e w' => e = .returned (.tuple #[.int .i64 (-1), .int .i64 0]) ∧ _) := kF
      have kC' : ∀ (W : World) (hW : Below w.heap.size w W), Calls Try.prog 12 _ W (fun e w' => e = .returned (.int .i64 0) ∧ _) := kC
      clear kF kC hv
      go_enter Try.func4, Try.ntmps4
      go_wp2_with (first | (go_at_call 8; refine kS.mono ?_; rintro e w1 ⟨rfl, hB1⟩) | (go_at_call 15; refine (kG _ hB1.out).mono ?_; rintro e w2 ⟨rfl, hB2⟩) | (go_at_call 9; refine (kF' w2.heap.size _ (by simp) (by first | exact (hB2.out.alloc hB2.out.size _) | exact ((hB2.out.alloc hB2.out.size _).setCell hB2.out.size _))).mono ?_; rintro e w3 ⟨rfl, hB3, HC⟩; have hcell := HC.out; have a0 := hcell 0 (.int .i64 9) (by simp); have a1 := hcell 1 (.int .i64 2) (by simp); have a2 := hcell 2 (.int .i64 2) (by simp); have a3 := hcell 3 (.int .i64 0) (by simp); have a4 := hcell 4 (.int .i64 1) (by simp); have a5 := hcell 5 (.int .i64 n) (by simp); have a6 := hcell 6 (.int .i64 3) (by simp); have a7 := hcell 7 (.int .i64 1) (by simp); have a8 := hcell 8 (.int .i64 4) (by simp); have a9 := hcell 9 (.int .i64 5) (by simp); clear hcell) | (go_at_call 12; refine (kC' _ hB3.out).mono ?_; rintro e w4 ⟨rfl, hB4⟩))
      go_ret
      exact ⟨rfl, hB4.out⟩

set_option maxRecDepth 1000000 in
set_option maxHeartbeats 4000000 in
theorem numbers_6 (which n : Int) (w : World) (hE : bits .and .i64 which 65535 % 10 = 6) (hz : 0 ≤ bits .and .i64 which 65535) :
    Calls Try.prog 4 #[.int .i64 which, .int .i64 n] w fun e w' => e = .returned (.bool true) ∧ Below w.heap.size w w' := by
  have kS : Calls Try.prog 8 #[] w fun e w' => e = .returned (.bool true) ∧ Hid (Below w.heap.size w w') := shown_any w
  have kG : ∀ W, Below w.heap.size w W → Calls Try.prog 15 #[] W fun e w' => e = .returned (.agg #[.int .i64 9, .int .i64 2, .int .i64 2, .int .i64 0, .int .i64 1, .int .i64 0, .int .i64 3, .int .i64 1, .int .i64 4, .int .i64 5]) ∧ Hid (Below w.heap.size w w') := fun W hW => (good_any W).mono (fun e w' h => ⟨h.1, hW.trans (h.2.mono hW.size)⟩)
  have hcv : cfgB ⟨9, 2, 2, 0, 1, 0, n, 1, 4, 5⟩ = inB 1 1048576 n := by simp [cfgB, rowB, inB]
  have hfv : fileN ⟨9, 2, 2, 0, 1, 0, n, 1, 4, 5⟩ [] = if inB 1 1048576 n = true then (-1, 0) else (0, 3) := by rw [fileN, hcv]; rfl
  have kF := fun (g : Nat) (W : World) (hg : g < W.heap.size) (hW : Below w.heap.size w W) => (file_any ⟨9, 2, 2, 0, 1, 0, n, 1, 4, 5⟩ [] none none 0 0 0 W (by decide) (tasks_nil _ _)).mono (R' := fun e w' => e = .returned (.tuple #[.int .i64 (fileN ⟨9, 2, 2, 0, 1, 0, n, 1, 4, 5⟩ []).1, .int .i64 (fileN ⟨9, 2, 2, 0, 1, 0, n, 1, 4, 5⟩ []).2]) ∧ Hid (Below w.heap.size w w') ∧ Hid (∀ o v, W.cell? ⟨g, o, none⟩ = some v → w'.cell? ⟨g, o, none⟩ = some v)) (fun e w' h => ⟨h.1, hW.trans (h.2.mono hW.size), fun o v hv => by rw [h.2.cell (p := ⟨g, o, none⟩) hg]; exact hv⟩)
  have kC := fun (W : World) (hW : Below w.heap.size w W) => (config_any ⟨9, 2, 2, 0, 1, 0, n, 1, 4, 5⟩ W).mono (R' := fun e w' => e = .returned (.int .i64 (errN (cfgB ⟨9, 2, 2, 0, 1, 0, n, 1, 4, 5⟩))) ∧ Hid (Below w.heap.size w w')) (fun e w' h => ⟨h.1, hW.trans (h.2.mono hW.size)⟩)
  rw [hcv] at kC
  rw [hfv] at kF
  unfold fiV at kF
  unfold cfV at kC
  simp only [List.length_nil] at kF kC
  clear hcv hfv
  by_cases h1 : n < 1
  · have hv : inB 1 1048576 n = false := inB_false.2 (by omega)
    rw [hv] at kF kC
    have kF' : ∀ (g : Nat) (W : World) (hg : g < W.heap.size) (hW : Below w.heap.size w W), Calls Try.prog 9 _ W (fun e w' => e = .returned (.tuple #[.int .i64 0, .int .i64 3]) ∧ _) := kF
    have kC' : ∀ (W : World) (hW : Below w.heap.size w W), Calls Try.prog 12 _ W (fun e w' => e = .returned (.int .i64 3) ∧ _) := kC
    clear kF kC hv
    go_enter Try.func4, Try.ntmps4
    go_wp2_with (first | (go_at_call 8; refine kS.mono ?_; rintro e w1 ⟨rfl, hB1⟩) | (go_at_call 15; refine (kG _ hB1.out).mono ?_; rintro e w2 ⟨rfl, hB2⟩) | (go_at_call 9; refine (kF' w2.heap.size _ (by simp) (by first | exact (hB2.out.alloc hB2.out.size _) | exact ((hB2.out.alloc hB2.out.size _).setCell hB2.out.size _))).mono ?_; rintro e w3 ⟨rfl, hB3, HC⟩; have hcell := HC.out; have a0 := hcell 0 (.int .i64 9) (by simp); have a1 := hcell 1 (.int .i64 2) (by simp); have a2 := hcell 2 (.int .i64 2) (by simp); have a3 := hcell 3 (.int .i64 0) (by simp); have a4 := hcell 4 (.int .i64 1) (by simp); have a5 := hcell 5 (.int .i64 0) (by simp); have a6 := hcell 6 (.int .i64 n) (by simp); have a7 := hcell 7 (.int .i64 1) (by simp); have a8 := hcell 8 (.int .i64 4) (by simp); have a9 := hcell 9 (.int .i64 5) (by simp); clear hcell) | (go_at_call 12; refine (kC' _ hB3.out).mono ?_; rintro e w4 ⟨rfl, hB4⟩))
    go_ret
    exact ⟨rfl, hB4.out⟩
  · by_cases h2 : 1048576 < n
    · have hv : inB 1 1048576 n = false := inB_false.2 (by omega)
      rw [hv] at kF kC
      have kF' : ∀ (g : Nat) (W : World) (hg : g < W.heap.size) (hW : Below w.heap.size w W), Calls Try.prog 9 _ W (fun e w' => e = .returned (.tuple #[.int .i64 0, .int .i64 3]) ∧ _) := kF
      have kC' : ∀ (W : World) (hW : Below w.heap.size w W), Calls Try.prog 12 _ W (fun e w' => e = .returned (.int .i64 3) ∧ _) := kC
      clear kF kC hv
      go_enter Try.func4, Try.ntmps4
      go_wp2_with (first | (go_at_call 8; refine kS.mono ?_; rintro e w1 ⟨rfl, hB1⟩) | (go_at_call 15; refine (kG _ hB1.out).mono ?_; rintro e w2 ⟨rfl, hB2⟩) | (go_at_call 9; refine (kF' w2.heap.size _ (by simp) (by first | exact (hB2.out.alloc hB2.out.size _) | exact ((hB2.out.alloc hB2.out.size _).setCell hB2.out.size _))).mono ?_; rintro e w3 ⟨rfl, hB3, HC⟩; have hcell := HC.out; have a0 := hcell 0 (.int .i64 9) (by simp); have a1 := hcell 1 (.int .i64 2) (by simp); have a2 := hcell 2 (.int .i64 2) (by simp); have a3 := hcell 3 (.int .i64 0) (by simp); have a4 := hcell 4 (.int .i64 1) (by simp); have a5 := hcell 5 (.int .i64 0) (by simp); have a6 := hcell 6 (.int .i64 n) (by simp); have a7 := hcell 7 (.int .i64 1) (by simp); have a8 := hcell 8 (.int .i64 4) (by simp); have a9 := hcell 9 (.int .i64 5) (by simp); clear hcell) | (go_at_call 12; refine (kC' _ hB3.out).mono ?_; rintro e w4 ⟨rfl, hB4⟩))
      go_ret
      exact ⟨rfl, hB4.out⟩
    · have hv : inB 1 1048576 n = true := inB_true.2 (by omega)
      rw [hv] at kF kC
      have kF' : ∀ (g : Nat) (W : World) (hg : g < W.heap.size) (hW : Below w.heap.size w W), Calls Try.prog 9 _ W (fun e w' => e = .returned (.tuple #[.int .i64 (-1), .int .i64 0]) ∧ _) := kF
      have kC' : ∀ (W : World) (hW : Below w.heap.size w W), Calls Try.prog 12 _ W (fun e w' => e = .returned (.int .i64 0) ∧ _) := kC
      clear kF kC hv
      go_enter Try.func4, Try.ntmps4
      go_wp2_with (first | (go_at_call 8; refine kS.mono ?_; rintro e w1 ⟨rfl, hB1⟩) | (go_at_call 15; refine (kG _ hB1.out).mono ?_; rintro e w2 ⟨rfl, hB2⟩) | (go_at_call 9; refine (kF' w2.heap.size _ (by simp) (by first | exact (hB2.out.alloc hB2.out.size _) | exact ((hB2.out.alloc hB2.out.size _).setCell hB2.out.size _))).mono ?_; rintro e w3 ⟨rfl, hB3, HC⟩; have hcell := HC.out; have a0 := hcell 0 (.int .i64 9) (by simp); have a1 := hcell 1 (.int .i64 2) (by simp); have a2 := hcell 2 (.int .i64 2) (by simp); have a3 := hcell 3 (.int .i64 0) (by simp); have a4 := hcell 4 (.int .i64 1) (by simp); have a5 := hcell 5 (.int .i64 0) (by simp); have a6 := hcell 6 (.int .i64 n) (by simp); have a7 := hcell 7 (.int .i64 1) (by simp); have a8 := hcell 8 (.int .i64 4) (by simp); have a9 := hcell 9 (.int .i64 5) (by simp); clear hcell) | (go_at_call 12; refine (kC' _ hB3.out).mono ?_; rintro e w4 ⟨rfl, hB4⟩))
      go_ret
      exact ⟨rfl, hB4.out⟩

set_option maxRecDepth 1000000 in
set_option maxHeartbeats 4000000 in
theorem numbers_7 (which n : Int) (w : World) (hE : bits .and .i64 which 65535 % 10 = 7) (hz : 0 ≤ bits .and .i64 which 65535) :
    Calls Try.prog 4 #[.int .i64 which, .int .i64 n] w fun e w' => e = .returned (.bool true) ∧ Below w.heap.size w w' := by
  have kS : Calls Try.prog 8 #[] w fun e w' => e = .returned (.bool true) ∧ Hid (Below w.heap.size w w') := shown_any w
  have kG : ∀ W, Below w.heap.size w W → Calls Try.prog 15 #[] W fun e w' => e = .returned (.agg #[.int .i64 9, .int .i64 2, .int .i64 2, .int .i64 0, .int .i64 1, .int .i64 0, .int .i64 3, .int .i64 1, .int .i64 4, .int .i64 5]) ∧ Hid (Below w.heap.size w w') := fun W hW => (good_any W).mono (fun e w' h => ⟨h.1, hW.trans (h.2.mono hW.size)⟩)
  have hcv : cfgB ⟨9, 2, 2, 0, 1, 0, 3, n, 4, 5⟩ = inB 1 1048576 n := by simp [cfgB, rowB, inB]
  have hfv : fileN ⟨9, 2, 2, 0, 1, 0, 3, n, 4, 5⟩ [] = if inB 1 1048576 n = true then (-1, 0) else (0, 3) := by rw [fileN, hcv]; rfl
  have kF := fun (g : Nat) (W : World) (hg : g < W.heap.size) (hW : Below w.heap.size w W) => (file_any ⟨9, 2, 2, 0, 1, 0, 3, n, 4, 5⟩ [] none none 0 0 0 W (by decide) (tasks_nil _ _)).mono (R' := fun e w' => e = .returned (.tuple #[.int .i64 (fileN ⟨9, 2, 2, 0, 1, 0, 3, n, 4, 5⟩ []).1, .int .i64 (fileN ⟨9, 2, 2, 0, 1, 0, 3, n, 4, 5⟩ []).2]) ∧ Hid (Below w.heap.size w w') ∧ Hid (∀ o v, W.cell? ⟨g, o, none⟩ = some v → w'.cell? ⟨g, o, none⟩ = some v)) (fun e w' h => ⟨h.1, hW.trans (h.2.mono hW.size), fun o v hv => by rw [h.2.cell (p := ⟨g, o, none⟩) hg]; exact hv⟩)
  have kC := fun (W : World) (hW : Below w.heap.size w W) => (config_any ⟨9, 2, 2, 0, 1, 0, 3, n, 4, 5⟩ W).mono (R' := fun e w' => e = .returned (.int .i64 (errN (cfgB ⟨9, 2, 2, 0, 1, 0, 3, n, 4, 5⟩))) ∧ Hid (Below w.heap.size w w')) (fun e w' h => ⟨h.1, hW.trans (h.2.mono hW.size)⟩)
  rw [hcv] at kC
  rw [hfv] at kF
  unfold fiV at kF
  unfold cfV at kC
  simp only [List.length_nil] at kF kC
  clear hcv hfv
  by_cases h1 : n < 1
  · have hv : inB 1 1048576 n = false := inB_false.2 (by omega)
    rw [hv] at kF kC
    have kF' : ∀ (g : Nat) (W : World) (hg : g < W.heap.size) (hW : Below w.heap.size w W), Calls Try.prog 9 _ W (fun e w' => e = .returned (.tuple #[.int .i64 0, .int .i64 3]) ∧ _) := kF
    have kC' : ∀ (W : World) (hW : Below w.heap.size w W), Calls Try.prog 12 _ W (fun e w' => e = .returned (.int .i64 3) ∧ _) := kC
    clear kF kC hv
    go_enter Try.func4, Try.ntmps4
    go_wp2_with (first | (go_at_call 8; refine kS.mono ?_; rintro e w1 ⟨rfl, hB1⟩) | (go_at_call 15; refine (kG _ hB1.out).mono ?_; rintro e w2 ⟨rfl, hB2⟩) | (go_at_call 9; refine (kF' w2.heap.size _ (by simp) (by first | exact (hB2.out.alloc hB2.out.size _) | exact ((hB2.out.alloc hB2.out.size _).setCell hB2.out.size _))).mono ?_; rintro e w3 ⟨rfl, hB3, HC⟩; have hcell := HC.out; have a0 := hcell 0 (.int .i64 9) (by simp); have a1 := hcell 1 (.int .i64 2) (by simp); have a2 := hcell 2 (.int .i64 2) (by simp); have a3 := hcell 3 (.int .i64 0) (by simp); have a4 := hcell 4 (.int .i64 1) (by simp); have a5 := hcell 5 (.int .i64 0) (by simp); have a6 := hcell 6 (.int .i64 3) (by simp); have a7 := hcell 7 (.int .i64 n) (by simp); have a8 := hcell 8 (.int .i64 4) (by simp); have a9 := hcell 9 (.int .i64 5) (by simp); clear hcell) | (go_at_call 12; refine (kC' _ hB3.out).mono ?_; rintro e w4 ⟨rfl, hB4⟩))
    go_ret
    exact ⟨rfl, hB4.out⟩
  · by_cases h2 : 1048576 < n
    · have hv : inB 1 1048576 n = false := inB_false.2 (by omega)
      rw [hv] at kF kC
      have kF' : ∀ (g : Nat) (W : World) (hg : g < W.heap.size) (hW : Below w.heap.size w W), Calls Try.prog 9 _ W (fun e w' => e = .returned (.tuple #[.int .i64 0, .int .i64 3]) ∧ _) := kF
      have kC' : ∀ (W : World) (hW : Below w.heap.size w W), Calls Try.prog 12 _ W (fun e w' => e = .returned (.int .i64 3) ∧ _) := kC
      clear kF kC hv
      go_enter Try.func4, Try.ntmps4
      go_wp2_with (first | (go_at_call 8; refine kS.mono ?_; rintro e w1 ⟨rfl, hB1⟩) | (go_at_call 15; refine (kG _ hB1.out).mono ?_; rintro e w2 ⟨rfl, hB2⟩) | (go_at_call 9; refine (kF' w2.heap.size _ (by simp) (by first | exact (hB2.out.alloc hB2.out.size _) | exact ((hB2.out.alloc hB2.out.size _).setCell hB2.out.size _))).mono ?_; rintro e w3 ⟨rfl, hB3, HC⟩; have hcell := HC.out; have a0 := hcell 0 (.int .i64 9) (by simp); have a1 := hcell 1 (.int .i64 2) (by simp); have a2 := hcell 2 (.int .i64 2) (by simp); have a3 := hcell 3 (.int .i64 0) (by simp); have a4 := hcell 4 (.int .i64 1) (by simp); have a5 := hcell 5 (.int .i64 0) (by simp); have a6 := hcell 6 (.int .i64 3) (by simp); have a7 := hcell 7 (.int .i64 n) (by simp); have a8 := hcell 8 (.int .i64 4) (by simp); have a9 := hcell 9 (.int .i64 5) (by simp); clear hcell) | (go_at_call 12; refine (kC' _ hB3.out).mono ?_; rintro e w4 ⟨rfl, hB4⟩))
      go_ret
      exact ⟨rfl, hB4.out⟩
    · have hv : inB 1 1048576 n = true := inB_true.2 (by omega)
      rw [hv] at kF kC
      have kF' : ∀ (g : Nat) (W : World) (hg : g < W.heap.size) (hW : Below w.heap.size w W), Calls Try.prog 9 _ W (fun e w' => e = .returned (.tuple #[.int .i64 (-1), .int .i64 0]) ∧ _) := kF
      have kC' : ∀ (W : World) (hW : Below w.heap.size w W), Calls Try.prog 12 _ W (fun e w' => e = .returned (.int .i64 0) ∧ _) := kC
      clear kF kC hv
      go_enter Try.func4, Try.ntmps4
      go_wp2_with (first | (go_at_call 8; refine kS.mono ?_; rintro e w1 ⟨rfl, hB1⟩) | (go_at_call 15; refine (kG _ hB1.out).mono ?_; rintro e w2 ⟨rfl, hB2⟩) | (go_at_call 9; refine (kF' w2.heap.size _ (by simp) (by first | exact (hB2.out.alloc hB2.out.size _) | exact ((hB2.out.alloc hB2.out.size _).setCell hB2.out.size _))).mono ?_; rintro e w3 ⟨rfl, hB3, HC⟩; have hcell := HC.out; have a0 := hcell 0 (.int .i64 9) (by simp); have a1 := hcell 1 (.int .i64 2) (by simp); have a2 := hcell 2 (.int .i64 2) (by simp); have a3 := hcell 3 (.int .i64 0) (by simp); have a4 := hcell 4 (.int .i64 1) (by simp); have a5 := hcell 5 (.int .i64 0) (by simp); have a6 := hcell 6 (.int .i64 3) (by simp); have a7 := hcell 7 (.int .i64 n) (by simp); have a8 := hcell 8 (.int .i64 4) (by simp); have a9 := hcell 9 (.int .i64 5) (by simp); clear hcell) | (go_at_call 12; refine (kC' _ hB3.out).mono ?_; rintro e w4 ⟨rfl, hB4⟩))
      go_ret
      exact ⟨rfl, hB4.out⟩

set_option maxRecDepth 1000000 in
set_option maxHeartbeats 4000000 in
theorem numbers_8 (which n : Int) (w : World) (hE : bits .and .i64 which 65535 % 10 = 8) (hz : 0 ≤ bits .and .i64 which 65535) :
    Calls Try.prog 4 #[.int .i64 which, .int .i64 n] w fun e w' => e = .returned (.bool true) ∧ Below w.heap.size w w' := by
  have kS : Calls Try.prog 8 #[] w fun e w' => e = .returned (.bool true) ∧ Hid (Below w.heap.size w w') := shown_any w
  have kG : ∀ W, Below w.heap.size w W → Calls Try.prog 15 #[] W fun e w' => e = .returned (.agg #[.int .i64 9, .int .i64 2, .int .i64 2, .int .i64 0, .int .i64 1, .int .i64 0, .int .i64 3, .int .i64 1, .int .i64 4, .int .i64 5]) ∧ Hid (Below w.heap.size w w') := fun W hW => (good_any W).mono (fun e w' h => ⟨h.1, hW.trans (h.2.mono hW.size)⟩)
  have hcv : cfgB ⟨9, 2, 2, 0, 1, 0, 3, 1, n, 5⟩ = inB 1 1048576 n := by simp [cfgB, rowB, inB]
  have hfv : fileN ⟨9, 2, 2, 0, 1, 0, 3, 1, n, 5⟩ [] = if inB 1 1048576 n = true then (-1, 0) else (0, 3) := by rw [fileN, hcv]; rfl
  have kF := fun (g : Nat) (W : World) (hg : g < W.heap.size) (hW : Below w.heap.size w W) => (file_any ⟨9, 2, 2, 0, 1, 0, 3, 1, n, 5⟩ [] none none 0 0 0 W (by decide) (tasks_nil _ _)).mono (R' := fun e w' => e = .returned (.tuple #[.int .i64 (fileN ⟨9, 2, 2, 0, 1, 0, 3, 1, n, 5⟩ []).1, .int .i64 (fileN ⟨9, 2, 2, 0, 1, 0, 3, 1, n, 5⟩ []).2]) ∧ Hid (Below w.heap.size w w') ∧ Hid (∀ o v, W.cell? ⟨g, o, none⟩ = some v → w'.cell? ⟨g, o, none⟩ = some v)) (fun e w' h => ⟨h.1, hW.trans (h.2.mono hW.size), fun o v hv => by rw [h.2.cell (p := ⟨g, o, none⟩) hg]; exact hv⟩)
  have kC := fun (W : World) (hW : Below w.heap.size w W) => (config_any ⟨9, 2, 2, 0, 1, 0, 3, 1, n, 5⟩ W).mono (R' := fun e w' => e = .returned (.int .i64 (errN (cfgB ⟨9, 2, 2, 0, 1, 0, 3, 1, n, 5⟩))) ∧ Hid (Below w.heap.size w w')) (fun e w' h => ⟨h.1, hW.trans (h.2.mono hW.size)⟩)
  rw [hcv] at kC
  rw [hfv] at kF
  unfold fiV at kF
  unfold cfV at kC
  simp only [List.length_nil] at kF kC
  clear hcv hfv
  by_cases h1 : n < 1
  · have hv : inB 1 1048576 n = false := inB_false.2 (by omega)
    rw [hv] at kF kC
    have kF' : ∀ (g : Nat) (W : World) (hg : g < W.heap.size) (hW : Below w.heap.size w W), Calls Try.prog 9 _ W (fun e w' => e = .returned (.tuple #[.int .i64 0, .int .i64 3]) ∧ _) := kF
    have kC' : ∀ (W : World) (hW : Below w.heap.size w W), Calls Try.prog 12 _ W (fun e w' => e = .returned (.int .i64 3) ∧ _) := kC
    clear kF kC hv
    go_enter Try.func4, Try.ntmps4
    go_wp2_with (first | (go_at_call 8; refine kS.mono ?_; rintro e w1 ⟨rfl, hB1⟩) | (go_at_call 15; refine (kG _ hB1.out).mono ?_; rintro e w2 ⟨rfl, hB2⟩) | (go_at_call 9; refine (kF' w2.heap.size _ (by simp) (by first | exact (hB2.out.alloc hB2.out.size _) | exact ((hB2.out.alloc hB2.out.size _).setCell hB2.out.size _))).mono ?_; rintro e w3 ⟨rfl, hB3, HC⟩; have hcell := HC.out; have a0 := hcell 0 (.int .i64 9) (by simp); have a1 := hcell 1 (.int .i64 2) (by simp); have a2 := hcell 2 (.int .i64 2) (by simp); have a3 := hcell 3 (.int .i64 0) (by simp); have a4 := hcell 4 (.int .i64 1) (by simp); have a5 := hcell 5 (.int .i64 0) (by simp); have a6 := hcell 6 (.int .i64 3) (by simp); have a7 := hcell 7 (.int .i64 1) (by simp); have a8 := hcell 8 (.int .i64 n) (by simp); have a9 := hcell 9 (.int .i64 5) (by simp); clear hcell) | (go_at_call 12; refine (kC' _ hB3.out).mono ?_; rintro e w4 ⟨rfl, hB4⟩))
    go_ret
    exact ⟨rfl, hB4.out⟩
  · by_cases h2 : 1048576 < n
    · have hv : inB 1 1048576 n = false := inB_false.2 (by omega)
      rw [hv] at kF kC
      have kF' : ∀ (g : Nat) (W : World) (hg : g < W.heap.size) (hW : Below w.heap.size w W), Calls Try.prog 9 _ W (fun e w' => e = .returned (.tuple #[.int .i64 0, .int .i64 3]) ∧ _) := kF
      have kC' : ∀ (W : World) (hW : Below w.heap.size w W), Calls Try.prog 12 _ W (fun e w' => e = .returned (.int .i64 3) ∧ _) := kC
      clear kF kC hv
      go_enter Try.func4, Try.ntmps4
      go_wp2_with (first | (go_at_call 8; refine kS.mono ?_; rintro e w1 ⟨rfl, hB1⟩) | (go_at_call 15; refine (kG _ hB1.out).mono ?_; rintro e w2 ⟨rfl, hB2⟩) | (go_at_call 9; refine (kF' w2.heap.size _ (by simp) (by first | exact (hB2.out.alloc hB2.out.size _) | exact ((hB2.out.alloc hB2.out.size _).setCell hB2.out.size _))).mono ?_; rintro e w3 ⟨rfl, hB3, HC⟩; have hcell := HC.out; have a0 := hcell 0 (.int .i64 9) (by simp); have a1 := hcell 1 (.int .i64 2) (by simp); have a2 := hcell 2 (.int .i64 2) (by simp); have a3 := hcell 3 (.int .i64 0) (by simp); have a4 := hcell 4 (.int .i64 1) (by simp); have a5 := hcell 5 (.int .i64 0) (by simp); have a6 := hcell 6 (.int .i64 3) (by simp); have a7 := hcell 7 (.int .i64 1) (by simp); have a8 := hcell 8 (.int .i64 n) (by simp); have a9 := hcell 9 (.int .i64 5) (by simp); clear hcell) | (go_at_call 12; refine (kC' _ hB3.out).mono ?_; rintro e w4 ⟨rfl, hB4⟩))
      go_ret
      exact ⟨rfl, hB4.out⟩
    · have hv : inB 1 1048576 n = true := inB_true.2 (by omega)
      rw [hv] at kF kC
      have kF' : ∀ (g : Nat) (W : World) (hg : g < W.heap.size) (hW : Below w.heap.size w W), Calls Try.prog 9 _ W (fun e w' => e = .returned (.tuple #[.int .i64 (-1), .int .i64 0]) ∧ _) := kF
      have kC' : ∀ (W : World) (hW : Below w.heap.size w W), Calls Try.prog 12 _ W (fun e w' => e = .returned (.int .i64 0) ∧ _) := kC
      clear kF kC hv
      go_enter Try.func4, Try.ntmps4
      go_wp2_with (first | (go_at_call 8; refine kS.mono ?_; rintro e w1 ⟨rfl, hB1⟩) | (go_at_call 15; refine (kG _ hB1.out).mono ?_; rintro e w2 ⟨rfl, hB2⟩) | (go_at_call 9; refine (kF' w2.heap.size _ (by simp) (by first | exact (hB2.out.alloc hB2.out.size _) | exact ((hB2.out.alloc hB2.out.size _).setCell hB2.out.size _))).mono ?_; rintro e w3 ⟨rfl, hB3, HC⟩; have hcell := HC.out; have a0 := hcell 0 (.int .i64 9) (by simp); have a1 := hcell 1 (.int .i64 2) (by simp); have a2 := hcell 2 (.int .i64 2) (by simp); have a3 := hcell 3 (.int .i64 0) (by simp); have a4 := hcell 4 (.int .i64 1) (by simp); have a5 := hcell 5 (.int .i64 0) (by simp); have a6 := hcell 6 (.int .i64 3) (by simp); have a7 := hcell 7 (.int .i64 1) (by simp); have a8 := hcell 8 (.int .i64 n) (by simp); have a9 := hcell 9 (.int .i64 5) (by simp); clear hcell) | (go_at_call 12; refine (kC' _ hB3.out).mono ?_; rintro e w4 ⟨rfl, hB4⟩))
      go_ret
      exact ⟨rfl, hB4.out⟩

set_option maxRecDepth 1000000 in
set_option maxHeartbeats 4000000 in
theorem numbers_9 (which n : Int) (w : World) (hE : bits .and .i64 which 65535 % 10 = 9) (hz : 0 ≤ bits .and .i64 which 65535) :
    Calls Try.prog 4 #[.int .i64 which, .int .i64 n] w fun e w' => e = .returned (.bool true) ∧ Below w.heap.size w w' := by
  have kS : Calls Try.prog 8 #[] w fun e w' => e = .returned (.bool true) ∧ Hid (Below w.heap.size w w') := shown_any w
  have kG : ∀ W, Below w.heap.size w W → Calls Try.prog 15 #[] W fun e w' => e = .returned (.agg #[.int .i64 9, .int .i64 2, .int .i64 2, .int .i64 0, .int .i64 1, .int .i64 0, .int .i64 3, .int .i64 1, .int .i64 4, .int .i64 5]) ∧ Hid (Below w.heap.size w w') := fun W hW => (good_any W).mono (fun e w' h => ⟨h.1, hW.trans (h.2.mono hW.size)⟩)
  have hcv : cfgB ⟨9, 2, 2, 0, 1, 0, 3, 1, 4, n⟩ = inB 1 1048576 n := by simp [cfgB, rowB, inB]
  have hfv : fileN ⟨9, 2, 2, 0, 1, 0, 3, 1, 4, n⟩ [] = if inB 1 1048576 n = true then (-1, 0) else (0, 3) := by rw [fileN, hcv]; rfl
  have kF := fun (g : Nat) (W : World) (hg : g < W.heap.size) (hW : Below w.heap.size w W) => (file_any ⟨9, 2, 2, 0, 1, 0, 3, 1, 4, n⟩ [] none none 0 0 0 W (by decide) (tasks_nil _ _)).mono (R' := fun e w' => e = .returned (.tuple #[.int .i64 (fileN ⟨9, 2, 2, 0, 1, 0, 3, 1, 4, n⟩ []).1, .int .i64 (fileN ⟨9, 2, 2, 0, 1, 0, 3, 1, 4, n⟩ []).2]) ∧ Hid (Below w.heap.size w w') ∧ Hid (∀ o v, W.cell? ⟨g, o, none⟩ = some v → w'.cell? ⟨g, o, none⟩ = some v)) (fun e w' h => ⟨h.1, hW.trans (h.2.mono hW.size), fun o v hv => by rw [h.2.cell (p := ⟨g, o, none⟩) hg]; exact hv⟩)
  have kC := fun (W : World) (hW : Below w.heap.size w W) => (config_any ⟨9, 2, 2, 0, 1, 0, 3, 1, 4, n⟩ W).mono (R' := fun e w' => e = .returned (.int .i64 (errN (cfgB ⟨9, 2, 2, 0, 1, 0, 3, 1, 4, n⟩))) ∧ Hid (Below w.heap.size w w')) (fun e w' h => ⟨h.1, hW.trans (h.2.mono hW.size)⟩)
  rw [hcv] at kC
  rw [hfv] at kF
  unfold fiV at kF
  unfold cfV at kC
  simp only [List.length_nil] at kF kC
  clear hcv hfv
  by_cases h1 : n < 1
  · have hv : inB 1 1048576 n = false := inB_false.2 (by omega)
    rw [hv] at kF kC
    have kF' : ∀ (g : Nat) (W : World) (hg : g < W.heap.size) (hW : Below w.heap.size w W), Calls Try.prog 9 _ W (fun e w' => e = .returned (.tuple #[.int .i64 0, .int .i64 3]) ∧ _) := kF
    have kC' : ∀ (W : World) (hW : Below w.heap.size w W), Calls Try.prog 12 _ W (fun e w' => e = .returned (.int .i64 3) ∧ _) := kC
    clear kF kC hv
    go_enter Try.func4, Try.ntmps4
    go_wp2_with (first | (go_at_call 8; refine kS.mono ?_; rintro e w1 ⟨rfl, hB1⟩) | (go_at_call 15; refine (kG _ hB1.out).mono ?_; rintro e w2 ⟨rfl, hB2⟩) | (go_at_call 9; refine (kF' w2.heap.size _ (by simp) (by first | exact (hB2.out.alloc hB2.out.size _) | exact ((hB2.out.alloc hB2.out.size _).setCell hB2.out.size _))).mono ?_; rintro e w3 ⟨rfl, hB3, HC⟩; have hcell := HC.out; have a0 := hcell 0 (.int .i64 9) (by simp); have a1 := hcell 1 (.int .i64 2) (by simp); have a2 := hcell 2 (.int .i64 2) (by simp); have a3 := hcell 3 (.int .i64 0) (by simp); have a4 := hcell 4 (.int .i64 1) (by simp); have a5 := hcell 5 (.int .i64 0) (by simp); have a6 := hcell 6 (.int .i64 3) (by simp); have a7 := hcell 7 (.int .i64 1) (by simp); have a8 := hcell 8 (.int .i64 4) (by simp); have a9 := hcell 9 (.int .i64 n) (by simp); clear hcell) | (go_at_call 12; refine (kC' _ hB3.out).mono ?_; rintro e w4 ⟨rfl, hB4⟩))
    go_ret
    exact ⟨rfl, hB4.out⟩
  · by_cases h2 : 1048576 < n
    · have hv : inB 1 1048576 n = false := inB_false.2 (by omega)
      rw [hv] at kF kC
      have kF' : ∀ (g : Nat) (W : World) (hg : g < W.heap.size) (hW : Below w.heap.size w W), Calls Try.prog 9 _ W (fun e w' => e = .returned (.tuple #[.int .i64 0, .int .i64 3]) ∧ _) := kF
      have kC' : ∀ (W : World) (hW : Below w.heap.size w W), Calls Try.prog 12 _ W (fun e w' => e = .returned (.int .i64 3) ∧ _) := kC
      clear kF kC hv
      go_enter Try.func4, Try.ntmps4
      go_wp2_with (first | (go_at_call 8; refine kS.mono ?_; rintro e w1 ⟨rfl, hB1⟩) | (go_at_call 15; refine (kG _ hB1.out).mono ?_; rintro e w2 ⟨rfl, hB2⟩) | (go_at_call 9; refine (kF' w2.heap.size _ (by simp) (by first | exact (hB2.out.alloc hB2.out.size _) | exact ((hB2.out.alloc hB2.out.size _).setCell hB2.out.size _))).mono ?_; rintro e w3 ⟨rfl, hB3, HC⟩; have hcell := HC.out; have a0 := hcell 0 (.int .i64 9) (by simp); have a1 := hcell 1 (.int .i64 2) (by simp); have a2 := hcell 2 (.int .i64 2) (by simp); have a3 := hcell 3 (.int .i64 0) (by simp); have a4 := hcell 4 (.int .i64 1) (by simp); have a5 := hcell 5 (.int .i64 0) (by simp); have a6 := hcell 6 (.int .i64 3) (by simp); have a7 := hcell 7 (.int .i64 1) (by simp); have a8 := hcell 8 (.int .i64 4) (by simp); have a9 := hcell 9 (.int .i64 n) (by simp); clear hcell) | (go_at_call 12; refine (kC' _ hB3.out).mono ?_; rintro e w4 ⟨rfl, hB4⟩))
      go_ret
      exact ⟨rfl, hB4.out⟩
    · have hv : inB 1 1048576 n = true := inB_true.2 (by omega)
      rw [hv] at kF kC
      have kF' : ∀ (g : Nat) (W : World) (hg : g < W.heap.size) (hW : Below w.heap.size w W), Calls Try.prog 9 _ W (fun e w' => e = .returned (.tuple #[.int .i64 (-1), .int .i64 0]) ∧ _) := kF
      have kC' : ∀ (W : World) (hW : Below w.heap.size w W), Calls Try.prog 12 _ W (fun e w' => e = .returned (.int .i64 0) ∧ _) := kC
      clear kF kC hv
      go_enter Try.func4, Try.ntmps4
      go_wp2_with (first | (go_at_call 8; refine kS.mono ?_; rintro e w1 ⟨rfl, hB1⟩) | (go_at_call 15; refine (kG _ hB1.out).mono ?_; rintro e w2 ⟨rfl, hB2⟩) | (go_at_call 9; refine (kF' w2.heap.size _ (by simp) (by first | exact (hB2.out.alloc hB2.out.size _) | exact ((hB2.out.alloc hB2.out.size _).setCell hB2.out.size _))).mono ?_; rintro e w3 ⟨rfl, hB3, HC⟩; have hcell := HC.out; have a0 := hcell 0 (.int .i64 9) (by simp); have a1 := hcell 1 (.int .i64 2) (by simp); have a2 := hcell 2 (.int .i64 2) (by simp); have a3 := hcell 3 (.int .i64 0) (by simp); have a4 := hcell 4 (.int .i64 1) (by simp); have a5 := hcell 5 (.int .i64 0) (by simp); have a6 := hcell 6 (.int .i64 3) (by simp); have a7 := hcell 7 (.int .i64 1) (by simp); have a8 := hcell 8 (.int .i64 4) (by simp); have a9 := hcell 9 (.int .i64 n) (by simp); clear hcell) | (go_at_call 12; refine (kC' _ hB3.out).mono ?_; rintro e w4 ⟨rfl, hB4⟩))
      go_ret
      exact ⟨rfl, hB4.out⟩

theorem i64_and16 (n : Int) : bits .and .i64 n 65535 = n % 65536 := by
  have h : (BitVec.ofInt 64 65535).toNat = 2 ^ 16 - 1 := by decide
  have key : (BitVec.ofInt 64 n &&& BitVec.ofInt 64 65535).toNat = (n % ((2 ^ 64 : Nat) : Int)).toNat % 2 ^ 16 := by
    rw [BitVec.toNat_and, BitVec.toNat_ofInt, h, Nat.and_two_pow_sub_one_eq_mod]
  show IntKind.i64.wrap ((BitVec.ofInt 64 n &&& BitVec.ofInt 64 65535).toNat : Nat) = n % 65536
  rw [key, IntKind.wrap_i64]
  omega
theorem checkNumbers_walk (which n : Int) (w : World) :
    Calls Try.prog 4 #[.int .i64 which, .int .i64 n] w fun e w' => e = .returned (.bool true) ∧ Below w.heap.size w w' := by
  have hz : 0 ≤ bits .and .i64 which 65535 := by rw [i64_and16]; omega
  have h : bits .and .i64 which 65535 % 10 = 0 ∨ bits .and .i64 which 65535 % 10 = 1 ∨ bits .and .i64 which 65535 % 10 = 2 ∨ bits .and .i64 which 65535 % 10 = 3 ∨ bits .and .i64 which 65535 % 10 = 4 ∨ bits .and .i64 which 65535 % 10 = 5 ∨ bits .and .i64 which 65535 % 10 = 6 ∨ bits .and .i64 which 65535 % 10 = 7 ∨ bits .and .i64 which 65535 % 10 = 8 ∨ bits .and .i64 which 65535 % 10 = 9 := by omega
  rcases h with h | h | h | h | h | h | h | h | h | h
  · exact numbers_0 which n w h hz
  · exact numbers_1 which n w h hz
  · exact numbers_2 which n w h hz
  · exact numbers_3 which n w h hz
  · exact numbers_4 which n w h hz
  · exact numbers_5 which n w h hz
  · exact numbers_6 which n w h hz
  · exact numbers_7 which n w h hz
  · exact numbers_8 which n w h hz
  · exact numbers_9 which n w h hz
end Go.Proofs.Ytfllhgbpjpmakaa
