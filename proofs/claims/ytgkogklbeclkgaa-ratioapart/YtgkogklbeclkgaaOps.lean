/- The calls of package ratio, and of the document's own, at whole numbers. -/
import Derived.Test.YtgkogklbeclkgaaMem
import Derived.BigQuiet
import Derived.Deep.QuietTactic
import Derived.Lib.MinMax
namespace Go.Proofs.Ytgkogklbeclkgaa
open Go.RowKit
open M
set_option linter.unusedVariables false
set_option linter.unusedSimpArgs false

theorem part_any (n : Int) (w : World) : Calls Try.prog 19 #[.int .i64 n] w fun e w' => e = .returned (.float .f64 (F (cut n))) ∧ w' = w := by
  have hc : ∀ w m, (convert 3 42 (.int .i64 m)).run Try.prog w = .ok (.float .f64 (F m)) w := fun w m => run_convert_int_float w 3 42 .i64 .f64 m (by rw [Try.underlying3]; rfl) Try.underlying42
  go_enter Try.func19, Try.ntmps19
  go_wp2_with (simp only [hc])
  go_ret
  exact ⟨rfl, rfl⟩

theorem share_any (a b : Int) (w : World) : Calls Try.prog 11 #[.int .i64 a, .int .i64 b] w fun e w' => e = .returned (.complex .f64 (F (cut a)) (F (cut b))) ∧ w' = w := by
  go_enter Try.func11, Try.ntmps11
  go_wp2_with (go_at_call 19; refine (part_any _ _).mono ?_; rintro e w' ⟨rfl, rfl⟩)
  go_ret
  exact ⟨rfl, rfl⟩

theorem cutr_any (n : Int) (w : World) : Calls Try.prog 13 #[.int .i64 n] w fun e w' => e = .returned (.int .i64 (cut n)) ∧ w' = w := by
  go_enter Try.func13, Try.ntmps13
  go_wp2
  go_ret
  exact ⟨rfl, rfl⟩

theorem whole_is (x : Nat) (n : Int) (w : World) (hx : Is x n) (h0 : 0 ≤ n) (h1 : n ≤ 9007199254740992) : Calls Try.prog 20 #[.float .f64 x] w fun e w' => e = .returned (.int .i64 n) ∧ w' = w := by
  have g1 : (FloatKind.f64.format.order x 4845873199050653696 == some Ordering.gt) = false := by rw [is_gt hx is_top]; simp; omega
  have g2 := is_gt hx is_0
  have hi := is_int hx (by omega)
  have hc : ∀ w, (convert 42 3 (.float .f64 x)).run Try.prog w = .ok (.int .i64 n) w := fun w => run_convert_float_int w 42 3 .f64 .i64 x n (by rw [Try.underlying42]; rfl) Try.underlying3 hi
  clear hi hx
  by_cases hp : 0 < n
  · have g3 : (FloatKind.f64.format.order x 0 == some Ordering.gt) = true := by rw [g2]; simpa using hp
    clear g2
    go_enter Try.func20, Try.ntmps20
    go_wp2_with (simp only [hc])
    go_ret
    exact ⟨rfl, rfl⟩
  · have g3 : (FloatKind.f64.format.order x 0 == some Ordering.gt) = false := by rw [g2]; simpa using hp
    have : n = 0 := by omega
    subst this
    clear g2
    go_enter Try.func20, Try.ntmps20
    go_wp2_with (simp only [hc])
    go_ret
    exact ⟨rfl, rfl⟩

theorem weight_is (x y : Nat) (n : Int) (w : World) (hx : Is x n) (h0 : 0 ≤ n) (h1 : n ≤ 9007199254740992) : Calls Try.prog 12 #[.complex .f64 x y] w fun e w' => e = .returned (.int .i64 n) ∧ w' = w := by
  go_enter Try.func12, Try.ntmps12
  go_wp2_with (go_at_call 20; refine (whole_is _ _ _ hx h0 h1).mono ?_; rintro e w' ⟨rfl, rfl⟩)
  go_ret
  exact ⟨rfl, rfl⟩

theorem cost_is (x y : Nat) (n : Int) (w : World) (hx : Is y n) (h0 : 0 ≤ n) (h1 : n ≤ 9007199254740992) : Calls Try.prog 14 #[.complex .f64 x y] w fun e w' => e = .returned (.int .i64 n) ∧ w' = w := by
  go_enter Try.func14, Try.ntmps14
  go_wp2_with (go_at_call 20; refine (whole_is _ _ _ hx h0 h1).mono ?_; rintro e w' ⟨rfl, rfl⟩)
  go_ret
  exact ⟨rfl, rfl⟩

theorem conj_any (x y : Nat) (w : World) : Calls Try.prog 21 #[.complex .f64 x y] w fun e w' => e = .returned (.complex .f64 x (Op.negFloat .f64 y)) ∧ w' = w := by
  have hneg : Op.unary .neg (.float .f64 y) = pure (.float .f64 (Op.negFloat .f64 y)) := rfl
  go_enter Try.func21, Try.ntmps21
  go_wp2_with (simp only [hneg])
  go_ret
  exact ⟨rfl, rfl⟩
end Go.Proofs.Ytgkogklbeclkgaa
