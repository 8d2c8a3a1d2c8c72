/- The document's own memory and ahead. -/
import Derived.Test.YtebielckdloncaaOrd
import Derived.Test.YtebielckdloncaaMay
namespace Go.Proofs.Ytebielckdloncaa
open Go.Shelf Go.RowKit Go.Lib Go.Sort
open M
set_option linter.unusedVariables false
set_option linter.unusedSimpArgs false

set_option maxHeartbeats 1000000 in
theorem memory_any (m : Int) (w : World) : Calls Try.prog 17 #[.int .i64 m] w fun e w' => e = .returned (.int .i64 (bnd m)) ∧ w' = w := by
  have h1 : ∀ (ts : Array TypeId) (t : TypeId) (W : World), (Builtin.max_ ts t #[.int .i64 m, .int .i64 0]).run Try.prog W = .ok (.int .i64 (max m 0)) W := fun ts t W => by
    by_cases h : m < 0
    · simp [Builtin.max_, Builtin.max2, show max m 0 = 0 by omega, h]
    · simp [Builtin.max_, Builtin.max2, show max m 0 = m by omega, h]
  have h2 : ∀ (ts : Array TypeId) (t : TypeId) (W : World), (Builtin.min_ ts t #[.int .i64 (max m 0), .int .i64 1048576]).run Try.prog W = .ok (.int .i64 (bnd m)) W := fun ts t W => by
    unfold bnd
    by_cases h : max m 0 < 1048576
    · simp [Builtin.min_, Builtin.min2, h]; omega
    · simp [Builtin.min_, Builtin.min2, h]; omega
  generalize bnd m = B at *
  generalize max m 0 = A at *
  go_enter Try.func17, Try.ntmps17
  go_wp2
  go_ret
  exact ⟨rfl, rfl⟩

theorem two_boxes (w : World) (o o' : Obj) : ∃ q os, (w.alloc o).alloc o' = grow (w.drewN q) os := ⟨0, #[o] ++ #[o'], by rw [alloc_eq_grow, alloc_eq_grow, grow_grow]; rfl⟩
set_option maxRecDepth 1000000 in
set_option maxHeartbeats 2000000 in
theorem ahead_any (a b : R) (w : World) : Calls Try.prog 18 #[rV a, rV b] w fun e w' => e = .returned (.bool (decide (rlt a b))) ∧ ∃ q os, w' = grow (w.drewN q) os := by
  obtain ⟨xt, xp, xm, xq, xs⟩ := a
  obtain ⟨yt, yp, ym, yq, ys⟩ := b
  unfold rV
  simp only []
  have HD : Hid (∀ p : Prop, ∀ [Decidable p], (p ↔ rlt ⟨xt, xp, xm, xq, xs⟩ ⟨yt, yp, ym, yq, ys⟩) → decide p = decide (rlt ⟨xt, xp, xm, xq, xs⟩ ⟨yt, yp, ym, yq, ys⟩)) := fun p _ h => decide_eq_decide.2 h
  by_cases h1 : xp = yp
  · subst h1
    by_cases h2 : xs = ys
    · subst h2
      go_enter Try.func18, Try.ntmps18
      go_wp2
      go_ret
      exact ⟨ret_bool (HD.out _ (by unfold rlt; simp)), two_boxes _ _ _⟩
    · have d : (xs != ys) = true := by simp [h2]
      go_enter Try.func18, Try.ntmps18
      go_wp2
      go_ret
      exact ⟨ret_bool (HD.out _ (by constructor <;> intro h <;> unfold rlt at * <;> simp at * <;> omega)), two_boxes _ _ _⟩
  · have d : (xp != yp) = true := by simp [h1]
    go_enter Try.func18, Try.ntmps18
    go_wp2
    go_ret
    exact ⟨ret_bool (HD.out _ (by constructor <;> intro h <;> unfold rlt at * <;> simp at * <;> omega)), two_boxes _ _ _⟩
end Go.Proofs.Ytebielckdloncaa
