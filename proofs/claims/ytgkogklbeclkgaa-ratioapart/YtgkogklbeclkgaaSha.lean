/- A pair's share, and the document's. -/
import Derived.Test.YtgkogklbeclkgaaCmp
import Derived.Deep.RegionHeld3
namespace Go.Proofs.Ytgkogklbeclkgaa
open Go.RowKit
open M
set_option linter.unusedVariables false
set_option linter.unusedSimpArgs false

theorem cell_new {w : World} {n : Nat} (h : w.heap.size = n) (A : Array Value) (T : TypeId) (k : Nat) (v : Value) (hk : A[k]? = some v) : (w.alloc (.cells A T)).drew.drew.cell? ⟨n, k, none⟩ = some v := by
  show (w.alloc (.cells A T)).cell? _ = _
  rw [cell_of_row _ _ k _ _ _ (heap_alloc_at h _)]; exact hk
/-- A weight that is at least one. -/
def wei (p : Int) : Int := max (cut p) 1
theorem wei_lo (p : Int) : 1 ≤ wei p := by unfold wei; omega
theorem wei_hi (p : Int) : wei p ≤ 16777216 := by have := cut_hi p; unfold wei; omega
set_option maxHeartbeats 1000000 in
theorem pair_any (p q : Int) (w : World) : Calls Try.prog 10 #[.agg #[.int .i64 p, .int .i64 q]] w fun e w' => e = .returned (.tuple #[.complex .f64 (F (wei p)) (F (cut q)), .agg #[.int .i64 (wei p), .int .i64 (cut q)]]) ∧ Below w.heap.size w w' := by
  have hk : ∀ W, Calls Try.prog 13 #[.int .i64 p] W fun e w' => e = .returned (.int .i64 (cut p)) ∧ w' = W := fun W => cutr_any p W
  have hl : ∀ W, Calls Try.prog 13 #[.int .i64 q] W fun e w' => e = .returned (.int .i64 (cut q)) ∧ w' = W := fun W => cutr_any q W
  have hs : ∀ W, Calls Try.prog 11 #[.int .i64 (wei p), .int .i64 (cut q)] W fun e w' => e = .returned (.complex .f64 (F (wei p)) (F (cut q))) ∧ w' = W := fun W => by
    have := share_any (wei p) (cut q) W
    rw [cut_id (by have := wei_lo p; omega) (wei_hi p), cut_id (cut_lo q) (cut_hi q)] at this
    exact this
  have hw : max (cut p) 1 = wei p := rfl
  generalize wei p = P at *
  generalize cut p = P0 at *
  generalize cut q = Q at *
  go_enter Try.func10, Try.ntmps10
  go_wp2
  go_region_held3 (fun W => W.cell? ⟨w.heap.size, 0, none⟩ = some (.int .i64 p) ∧ W.cell? ⟨w.heap.size, 1, none⟩ = some (.int .i64 q)) (go_keep) (first | (go_at_call 13; refine (hk _).mono ?_; rintro e w' ⟨rfl, rfl⟩) | (go_at_call 13; refine (hl _).mono ?_; rintro e w' ⟨rfl, rfl⟩))
  all_goals
    go_wp2
    have c0 : (((w.alloc (.cells #[.int .i64 p, .int .i64 q] 23)).alloc (.cells #[.int .i64 0, .int .i64 0] 26)).alloc (.cells #[.int .i64 P, .int .i64 Q] 26)).drew.drew.cell? ⟨w.heap.size + 1 + 1, 0, none⟩ = some (.int .i64 P) := cell_new (by simp) _ _ 0 _ rfl
    have c1 : (((w.alloc (.cells #[.int .i64 p, .int .i64 q] 23)).alloc (.cells #[.int .i64 0, .int .i64 0] 26)).alloc (.cells #[.int .i64 P, .int .i64 Q] 26)).drew.drew.cell? ⟨w.heap.size + 1 + 1, 1, none⟩ = some (.int .i64 Q) := cell_new (by simp) _ _ 1 _ rfl
    have d0 : (((w.alloc (.cells #[.int .i64 p, .int .i64 q] 23)).alloc (.cells #[.int .i64 P, .int .i64 Q] 26)).alloc (.cells #[.int .i64 P, .int .i64 Q] 26)).drew.drew.cell? ⟨w.heap.size + 1 + 1, 0, none⟩ = some (.int .i64 P) := cell_new (by simp) _ _ 0 _ rfl
    have d1 : (((w.alloc (.cells #[.int .i64 p, .int .i64 q] 23)).alloc (.cells #[.int .i64 P, .int .i64 Q] 26)).alloc (.cells #[.int .i64 P, .int .i64 Q] 26)).drew.drew.cell? ⟨w.heap.size + 1 + 1, 1, none⟩ = some (.int .i64 Q) := cell_new (by simp) _ _ 1 _ rfl
    go_region_held3 (fun W => W.cell? ⟨w.heap.size + 1 + 1, 0, none⟩ = some (.int .i64 P) ∧ W.cell? ⟨w.heap.size + 1 + 1, 1, none⟩ = some (.int .i64 Q)) (first | go_keep | exact ⟨c0, c1⟩ | exact ⟨d0, d1⟩) ((go_at_call 11; refine (hs _).mono ?_; rintro e w' ⟨rfl, rfl⟩))
  all_goals
    go_wp2
    refine bodyPost_ret (v := .tuple #[.complex .f64 (F P) (F Q), .agg #[.int .i64 P, .int .i64 Q]]) (by simp [results, Try.results10, go_sem]) rfl ⟨rfl, ?_⟩
    exact (((((Below.refl _ _).alloc (Nat.le_refl _) _).alloc (by simp) _).alloc (by simp; omega) _).drew).drew
end Go.Proofs.Ytgkogklbeclkgaa
