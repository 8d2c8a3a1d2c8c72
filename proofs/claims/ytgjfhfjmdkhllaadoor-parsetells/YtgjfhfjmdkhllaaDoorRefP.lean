/- What op of the document's own Parse answers. -/
import Derived.Test.YtgjfhfjmdkhllaaDoorRefM
import Derived.Test.YtgjfhfjmdkhllaaDoorShow
import Derived.BigRegion
import Derived.BigQuiet
namespace Go.Proofs.YtgjfhfjmdkhllaaDoor
open Go.RowKit
open M
set_option linter.unusedVariables false
set_option linter.unusedSimpArgs false

set_option maxRecDepth 1000000 in
set_option maxHeartbeats 1500000 in
theorem op_tick (fourth : List UInt8) (a : Option Addr) (k cap : Nat) (w : World) :
    Calls Tryd.prog 35 #[strV wTick, strV fourth, .slice a k cap] w fun e w' => e = .returned (.agg #[.int .i64 3, .int .i64 0, .int .i64 0, .int .i64 0, .int .i64 0]) ∧ Below w.heap.size w w' := by
  unfold wTick
  go_enter Tryd.func35, Tryd.ntmps35
  go_wp2
  all_goals refine bodyPost_ret (v := .agg #[.int .i64 3, .int .i64 0, .int .i64 0, .int .i64 0, .int .i64 0]) (by simp [results, Tryd.results35, go_sem]) rfl ⟨rfl, ?_⟩
  all_goals first
    | exact (Below.refl _ _).alloc (Nat.le_refl _) _
    | exact ((Below.refl _ _).alloc (Nat.le_refl _) _).drew
    | exact Joins.below_alloc2 w _ _
    | exact (Joins.below_alloc2 w _ _).drew

set_option maxRecDepth 1000000 in
set_option maxHeartbeats 1500000 in
theorem op_dispatch (fourth : List UInt8) (a : Option Addr) (k cap : Nat) (w : World) :
    Calls Tryd.prog 35 #[strV wDispatch, strV fourth, .slice a k cap] w fun e w' => e = .returned (.agg #[.int .i64 4, .int .i64 0, .int .i64 0, .int .i64 0, .int .i64 0]) ∧ Below w.heap.size w w' := by
  unfold wDispatch
  go_enter Tryd.func35, Tryd.ntmps35
  go_wp2
  all_goals refine bodyPost_ret (v := .agg #[.int .i64 4, .int .i64 0, .int .i64 0, .int .i64 0, .int .i64 0]) (by simp [results, Tryd.results35, go_sem]) rfl ⟨rfl, ?_⟩
  all_goals first
    | exact (Below.refl _ _).alloc (Nat.le_refl _) _
    | exact ((Below.refl _ _).alloc (Nat.le_refl _) _).drew
    | exact Joins.below_alloc2 w _ _
    | exact (Joins.below_alloc2 w _ _).drew

set_option maxRecDepth 1000000 in
set_option maxHeartbeats 1500000 in
theorem op_cancel (fourth : List UInt8) (x0 : Int) (b off cap : Nat) (w : World) (hb : b < w.heap.size) (c0 : w.cell? ⟨b, off, none⟩ = some (.int .i64 x0)) :
    Calls Tryd.prog 35 #[strV wCancel, strV fourth, .slice (some ⟨b, off, none⟩) 1 cap] w fun e w' => e = .returned (.agg #[.int .i64 2, .int .i64 x0, .int .i64 0, .int .i64 0, .int .i64 0]) ∧ Below w.heap.size w w' := by
  unfold wCancel
  go_enter Tryd.func35, Tryd.ntmps35
  go_wp2
  all_goals refine bodyPost_ret (v := .agg #[.int .i64 2, .int .i64 x0, .int .i64 0, .int .i64 0, .int .i64 0]) (by simp [results, Tryd.results35, go_sem]) rfl ⟨rfl, ?_⟩
  all_goals first
    | exact (Below.refl _ _).alloc (Nat.le_refl _) _
    | exact ((Below.refl _ _).alloc (Nat.le_refl _) _).drew
    | exact Joins.below_alloc2 w _ _
    | exact (Joins.below_alloc2 w _ _).drew

set_option maxRecDepth 1000000 in
set_option maxHeartbeats 1500000 in
theorem op_query (fourth : List UInt8) (x0 : Int) (b off cap : Nat) (w : World) (hb : b < w.heap.size) (c0 : w.cell? ⟨b, off, none⟩ = some (.int .i64 x0)) :
    Calls Tryd.prog 35 #[strV wQuery, strV fourth, .slice (some ⟨b, off, none⟩) 1 cap] w fun e w' => e = .returned (.agg #[.int .i64 6, .int .i64 x0, .int .i64 0, .int .i64 0, .int .i64 0]) ∧ Below w.heap.size w w' := by
  unfold wQuery
  go_enter Tryd.func35, Tryd.ntmps35
  go_wp2
  all_goals refine bodyPost_ret (v := .agg #[.int .i64 6, .int .i64 x0, .int .i64 0, .int .i64 0, .int .i64 0]) (by simp [results, Tryd.results35, go_sem]) rfl ⟨rfl, ?_⟩
  all_goals first
    | exact (Below.refl _ _).alloc (Nat.le_refl _) _
    | exact ((Below.refl _ _).alloc (Nat.le_refl _) _).drew
    | exact Joins.below_alloc2 w _ _
    | exact (Joins.below_alloc2 w _ _).drew

set_option maxRecDepth 1000000 in
set_option maxHeartbeats 1500000 in
theorem op_submit (fourth : List UInt8) (x0 x1 x2 : Int) (b off cap : Nat) (w : World) (hb : b < w.heap.size) (c0 : w.cell? ⟨b, off, none⟩ = some (.int .i64 x0)) (c1 : w.cell? ⟨b, off + 1, none⟩ = some (.int .i64 x1)) (c2 : w.cell? ⟨b, off + 2, none⟩ = some (.int .i64 x2)) :
    Calls Tryd.prog 35 #[strV wSubmit, strV fourth, .slice (some ⟨b, off, none⟩) 3 cap] w fun e w' => e = .returned (.agg #[.int .i64 1, .int .i64 x0, .int .i64 x1, .int .i64 x2, .int .i64 0]) ∧ Below w.heap.size w w' := by
  unfold wSubmit
  go_enter Tryd.func35, Tryd.ntmps35
  go_wp2
  go_region
  all_goals go_wp2
  all_goals refine bodyPost_ret (v := .agg #[.int .i64 1, .int .i64 x0, .int .i64 x1, .int .i64 x2, .int .i64 0]) (by simp [results, Tryd.results35, go_sem]) rfl ⟨rfl, ?_⟩
  all_goals first
    | exact (Below.refl _ _).alloc (Nat.le_refl _) _
    | exact ((Below.refl _ _).alloc (Nat.le_refl _) _).drew
    | exact Joins.below_alloc2 w _ _
    | exact (Joins.below_alloc2 w _ _).drew

set_option maxRecDepth 1000000 in
set_option maxHeartbeats 1500000 in
theorem op_fail (fourth : List UInt8) (x0 x1 : Int) (b off cap : Nat) (w : World) (hb : b < w.heap.size) (c0 : w.cell? ⟨b, off, none⟩ = some (.int .i64 x0)) (c1 : w.cell? ⟨b, off + 1, none⟩ = some (.int .i64 x1)) :
    Calls Tryd.prog 35 #[strV wAnswer, strV wFail, .slice (some ⟨b, off, none⟩) 2 cap] w fun e w' => e = .returned (.agg #[.int .i64 5, .int .i64 x0, .int .i64 x1, .int .i64 2, .int .i64 0]) ∧ Below w.heap.size w w' := by
  unfold wAnswer
  unfold wFail
  go_enter Tryd.func35, Tryd.ntmps35
  go_wp2
  go_region
  all_goals go_wp2
  all_goals refine bodyPost_ret (v := .agg #[.int .i64 5, .int .i64 x0, .int .i64 x1, .int .i64 2, .int .i64 0]) (by simp [results, Tryd.results35, go_sem]) rfl ⟨rfl, ?_⟩
  all_goals first
    | exact (Below.refl _ _).alloc (Nat.le_refl _) _
    | exact ((Below.refl _ _).alloc (Nat.le_refl _) _).drew
    | exact Joins.below_alloc2 w _ _
    | exact (Joins.below_alloc2 w _ _).drew

set_option maxRecDepth 1000000 in
set_option maxHeartbeats 1500000 in
theorem op_need (fourth : List UInt8) (x0 x1 x2 : Int) (b off cap : Nat) (w : World) (hb : b < w.heap.size) (c0 : w.cell? ⟨b, off, none⟩ = some (.int .i64 x0)) (c1 : w.cell? ⟨b, off + 1, none⟩ = some (.int .i64 x1)) (c2 : w.cell? ⟨b, off + 2, none⟩ = some (.int .i64 x2)) :
    Calls Tryd.prog 35 #[strV wAnswer, strV wNeed, .slice (some ⟨b, off, none⟩) 3 cap] w fun e w' => e = .returned (.agg #[.int .i64 5, .int .i64 x0, .int .i64 x1, .int .i64 3, .int .i64 x2]) ∧ Below w.heap.size w w' := by
  unfold wAnswer
  unfold wNeed
  go_enter Tryd.func35, Tryd.ntmps35
  go_wp2
  go_region
  all_goals go_wp2
  all_goals refine bodyPost_ret (v := .agg #[.int .i64 5, .int .i64 x0, .int .i64 x1, .int .i64 3, .int .i64 x2]) (by simp [results, Tryd.results35, go_sem]) rfl ⟨rfl, ?_⟩
  all_goals first
    | exact (Below.refl _ _).alloc (Nat.le_refl _) _
    | exact ((Below.refl _ _).alloc (Nat.le_refl _) _).drew
    | exact Joins.below_alloc2 w _ _
    | exact (Joins.below_alloc2 w _ _).drew

set_option maxRecDepth 1000000 in
set_option maxHeartbeats 1500000 in
theorem op_did (fourth : List UInt8) (x0 x1 : Int) (b off cap : Nat) (w : World) (hb : b < w.heap.size) (c0 : w.cell? ⟨b, off, none⟩ = some (.int .i64 x0)) (c1 : w.cell? ⟨b, off + 1, none⟩ = some (.int .i64 x1)) (hf : fourth ≠ wFail) (hn : fourth ≠ wNeed) :
    Calls Tryd.prog 35 #[strV wAnswer, strV fourth, .slice (some ⟨b, off, none⟩) 2 cap] w fun e w' => e = .returned (.agg #[.int .i64 5, .int .i64 x0, .int .i64 x1, .int .i64 1, .int .i64 0]) ∧ Below w.heap.size w w' := by
  unfold wAnswer
  have df : (fourth == [102, 97, 105, 108]) = false := beq_eq_false_iff_ne.2 hf
  have dn : (fourth == [110, 101, 101, 100]) = false := beq_eq_false_iff_ne.2 hn
  clear hf hn
  go_enter Tryd.func35, Tryd.ntmps35
  go_wp2
  go_region
  all_goals go_wp2
  all_goals refine bodyPost_ret (v := .agg #[.int .i64 5, .int .i64 x0, .int .i64 x1, .int .i64 1, .int .i64 0]) (by simp [results, Tryd.results35, go_sem]) rfl ⟨rfl, ?_⟩
  all_goals first
    | exact (Below.refl _ _).alloc (Nat.le_refl _) _
    | exact ((Below.refl _ _).alloc (Nat.le_refl _) _).drew
    | exact Joins.below_alloc2 w _ _
    | exact (Joins.below_alloc2 w _ _).drew

end Go.Proofs.YtgjfhfjmdkhllaaDoor
