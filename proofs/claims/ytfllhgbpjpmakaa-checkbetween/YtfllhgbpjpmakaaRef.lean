/- What the document's own Config, Task and File answer; good, mid. -/
import Derived.Test.YtfllhgbpjpmakaaFile
namespace Go.Proofs.Ytfllhgbpjpmakaa
open Go.RowKit
open M
set_option linter.unusedVariables false
set_option linter.unusedSimpArgs false

theorem mx_le {a b K : Int} : (if b > a then b else a) ≤ K ↔ a ≤ K ∧ b ≤ K := by split <;> omega
theorem mn_ge {a b K : Int} : K ≤ (if b < a then b else a) ↔ K ≤ a ∧ K ≤ b := by split <;> omega
theorem min8_is (a b c d e f g h : Int) : ∃ m : Int, (∀ (ts : Array TypeId) (t : TypeId) (W : World), (Builtin.min_ ts t #[.int .i64 a, .int .i64 b, .int .i64 c, .int .i64 d, .int .i64 e, .int .i64 f, .int .i64 g, .int .i64 h]).run Try.prog W = .ok (.int .i64 m) W) ∧ ∀ K, K ≤ m ↔ (((((((K ≤ a ∧ K ≤ b) ∧ K ≤ c) ∧ K ≤ d) ∧ K ≤ e) ∧ K ≤ f) ∧ K ≤ g) ∧ K ≤ h) := by
  refine ⟨_, fun ts t W => by simp [Builtin.min_, Builtin.min2]; rfl, fun K => ?_⟩
  simp only [mn_ge]
theorem max9_is (a b c d e f g h i : Int) : ∃ m : Int, (∀ (ts : Array TypeId) (t : TypeId) (W : World), (Builtin.max_ ts t #[.int .i64 a, .int .i64 b, .int .i64 c, .int .i64 d, .int .i64 e, .int .i64 f, .int .i64 g, .int .i64 h, .int .i64 i]).run Try.prog W = .ok (.int .i64 m) W) ∧ ∀ K, m ≤ K ↔ ((((((((a ≤ K ∧ b ≤ K) ∧ c ≤ K) ∧ d ≤ K) ∧ e ≤ K) ∧ f ≤ K) ∧ g ≤ K) ∧ h ≤ K) ∧ i ≤ K) := by
  refine ⟨_, fun ts t W => by simp [Builtin.max_, Builtin.max2]; rfl, fun K => ?_⟩
  simp only [mx_le]
theorem min2_is (a b : Int) : ∃ m : Int, (∀ (ts : Array TypeId) (t : TypeId) (W : World), (Builtin.min_ ts t #[.int .i64 a, .int .i64 b]).run Try.prog W = .ok (.int .i64 m) W) ∧ (∀ K, K ≤ m ↔ (K ≤ a ∧ K ≤ b)) ∧ m = min a b := by
  refine ⟨_, fun ts t W => by simp [Builtin.min_, Builtin.min2]; rfl, fun K => ?_, ?_⟩
  · simp only [mn_ge]
  · split <;> omega
theorem max2_is (a b : Int) : ∃ m : Int, (∀ (ts : Array TypeId) (t : TypeId) (W : World), (Builtin.max_ ts t #[.int .i64 a, .int .i64 b]).run Try.prog W = .ok (.int .i64 m) W) ∧ (∀ K, m ≤ K ↔ (a ≤ K ∧ b ≤ K)) ∧ m = max a b := by
  refine ⟨_, fun ts t W => by simp [Builtin.max_, Builtin.max2]; rfl, fun K => ?_, ?_⟩
  · simp only [mx_le]
  · split <;> omega

set_option maxRecDepth 1000000 in
set_option maxHeartbeats 4000000 in
theorem refTask_any (t : Int × Int) (w : World) :
    Calls Try.prog 13 #[.agg #[.int .i64 t.1, .int .i64 t.2]] w fun e w' => e = .returned (.bool (taskB t)) ∧ Below w.heap.size w w' := by
  obtain ⟨x, y⟩ := t
  obtain ⟨m, hm, hmK, hm9⟩ := min2_is x y
  obtain ⟨M, hM, hMK, hM9⟩ := max2_is x y
  clear hm9 hM9
  have ht : taskB (x, y) = (decide (1 ≤ m) && decide (M ≤ 1048576)) := by
    rw [Bool.eq_iff_iff]
    simp only [taskB, Bool.and_eq_true, inB_true, decide_eq_true_eq, hmK, hMK]
    omega
  rw [ht]
  clear hmK hMK ht
  by_cases h1 : 1 ≤ m <;> by_cases h2 : M ≤ 1048576
  · go_enter Try.func13, Try.ntmps13
    go_wp2
    go_ret
    exact ⟨ret_bool (by simp_all <;> first | omega | (intros; omega)), (Below.refl _ _).alloc (Nat.le_refl _) _⟩
  · go_enter Try.func13, Try.ntmps13
    go_wp2
    go_ret
    exact ⟨ret_bool (by simp_all <;> first | omega | (intros; omega)), (Below.refl _ _).alloc (Nat.le_refl _) _⟩
  · go_enter Try.func13, Try.ntmps13
    go_wp2
    go_ret
    exact ⟨ret_bool (by simp_all <;> first | omega | (intros; omega)), (Below.refl _ _).alloc (Nat.le_refl _) _⟩
  · go_enter Try.func13, Try.ntmps13
    go_wp2
    go_ret
    exact ⟨ret_bool (by simp_all <;> first | omega | (intros; omega)), (Below.refl _ _).alloc (Nat.le_refl _) _⟩

set_option maxRecDepth 1000000 in
set_option maxHeartbeats 4000000 in
theorem refConfig_any (c : Cf) (w : World) :
    Calls Try.prog 11 #[cfV c] w fun e w' => e = .returned (.bool (cfgB c)) ∧ Below w.heap.size w w' := by
  obtain ⟨x0, x1, x2, x3, x4, x5, x6, x7, x8, x9⟩ := c
  obtain ⟨m, hm, hmK⟩ := min8_is x0 x2 x4 x6 x7 x8 x9 x1
  obtain ⟨M, hM, hMK⟩ := max9_is x0 x2 x4 x6 x7 x8 x9 x3 x5
  have ht : cfgB ⟨x0, x1, x2, x3, x4, x5, x6, x7, x8, x9⟩ = (decide (1 ≤ m) && decide (M ≤ 1048576) && decide (x1 ≤ 16) && decide (0 ≤ x3) && decide (0 ≤ x5)) := by
    rw [Bool.eq_iff_iff]
    simp only [cfgB, rowB, List.all_cons, List.all_nil, Bool.and_true, Bool.and_eq_true, inB_true, decide_eq_true_eq, hmK, hMK]
    omega
  rw [ht]
  clear hmK hMK ht
  unfold cfV
  simp only []
  by_cases h1 : 1 ≤ m
  · by_cases h2 : M ≤ 1048576
    · by_cases h3 : x1 ≤ 16
      · by_cases h4 : 0 ≤ x3
        · go_enter Try.func11, Try.ntmps11
          go_wp2
          all_goals
            go_ret
            exact ⟨ret_bool (by simp_all <;> first | omega | (intros; omega)), (Below.refl _ _).alloc (Nat.le_refl _) _⟩
        · go_enter Try.func11, Try.ntmps11
          go_wp2
          all_goals
            go_ret
            exact ⟨ret_bool (by simp_all <;> first | omega | (intros; omega)), (Below.refl _ _).alloc (Nat.le_refl _) _⟩
      · go_enter Try.func11, Try.ntmps11
        go_wp2
        all_goals
          go_ret
          exact ⟨ret_bool (by simp_all <;> first | omega | (intros; omega)), (Below.refl _ _).alloc (Nat.le_refl _) _⟩
    · go_enter Try.func11, Try.ntmps11
      go_wp2
      all_goals
        go_ret
        exact ⟨ret_bool (by simp_all <;> first | omega | (intros; omega)), (Below.refl _ _).alloc (Nat.le_refl _) _⟩
  · go_enter Try.func11, Try.ntmps11
    go_wp2
    all_goals
      go_ret
      exact ⟨ret_bool (by simp_all <;> first | omega | (intros; omega)), (Below.refl _ _).alloc (Nat.le_refl _) _⟩

set_option maxRecDepth 1000000 in
set_option maxHeartbeats 4000000 in
theorem good_any (w : World) :
    Calls Try.prog 15 #[] w fun e w' => e = .returned (cfV ⟨9, 2, 2, 0, 1, 0, 3, 1, 4, 5⟩) ∧ Below w.heap.size w w' := by
  go_enter Try.func15, Try.ntmps15
  go_wp2
  exact bodyPost_ret (v := .agg #[.int .i64 9, .int .i64 2, .int .i64 2, .int .i64 0, .int .i64 1, .int .i64 0, .int .i64 3, .int .i64 1, .int .i64 4, .int .i64 5]) (by simp [results, Try.results15, go_sem]) rfl ⟨rfl, (Below.refl _ _).alloc (Nat.le_refl _) _⟩
end Go.Proofs.Ytfllhgbpjpmakaa
