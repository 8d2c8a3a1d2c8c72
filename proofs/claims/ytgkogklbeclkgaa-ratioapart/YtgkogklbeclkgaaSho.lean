/- What must be in any case. -/
import Derived.Test.YtgkogklbeclkgaaSum
namespace Go.Proofs.Ytgkogklbeclkgaa
open Go.RowKit Go.Lib
open M
set_option linter.unusedVariables false
set_option linter.unusedSimpArgs false

theorem F_1 : F 1 = 4607182418800017408 := by decide +kernel
theorem F_4 : F 4 = 4616189618054758400 := by decide +kernel
theorem share_at (a b : Int) (x y : Nat) (hx : F (cut a) = x) (hy : F (cut b) = y) (w : World) : Calls Try.prog 11 #[.int .i64 a, .int .i64 b] w fun e w' => e = .returned (.complex .f64 x y) ∧ w' = w := by
  subst hx hy; exact share_any a b w
theorem sml (n : Int) (h : 0 ≤ n) (k : n ≤ 33554432) : Sml n := ⟨h, k⟩
set_option maxHeartbeats 1000000 in
theorem shown_any (w : World) : Calls Try.prog 9 #[] w fun e w' => e = .returned (.bool true) ∧ Below w.heap.size w w' := by
  have i2 : Is 4611686018427387904 2 := F_2 ▸ is_F (by decide)
  have i6 : Is 4618441417868443648 6 := F_6 ▸ is_F (by decide)
  have i1 : Is 4607182418800017408 1 := F_1 ▸ is_F (by decide)
  have i4 : Is 4616189618054758400 4 := F_4 ▸ is_F (by decide)
  have i3 : Is 4613937818241073152 3 := F_3 ▸ is_F (by decide)
  have i10 : Is 4621819117588971520 10 := F_10 ▸ is_F (by decide)
  have s2 := sml 2 (by decide) (by decide)
  have s6 := sml 6 (by decide) (by decide)
  have s1 := sml 1 (by decide) (by decide)
  have s4 := sml 4 (by decide) (by decide)
  have s3 := sml 3 (by decide) (by decide)
  have e1 : (FloatKind.f64.format.order 4611686018427387904 4611686018427387904 == some Ordering.eq) = true := by rw [is_eq i2 i2]; rfl
  have e2 : (FloatKind.f64.format.order 4618441417868443648 4618441417868443648 == some Ordering.eq) = true := by rw [is_eq i6 i6]; rfl
  have k1 := share_at 2 6 _ _ F_2 F_6
  have k2 := share_at 1 4 _ _ F_1 F_4
  have k3 := share_at 1 3 _ _ F_1 F_3
  have c1 := fun w => compare_is _ _ _ _ 2 6 1 4 w i2 i6 i1 i4 s2 s6 s1 s4
  have c2 := fun w => compare_is _ _ _ _ 1 4 2 6 w i1 i4 i2 i6 s1 s4 s2 s6
  have c3 := fun w => compare_is _ _ _ _ 2 6 1 3 w i2 i6 i1 i3 s2 s6 s1 s3
  have d1 : cmB 2 6 1 4 = -1 := rfl
  have d2 : cmB 1 4 2 6 = 1 := rfl
  have d3 : cmB 2 6 1 3 = 0 := rfl
  rw [d1] at c1
  rw [d2] at c2
  rw [d3] at c3
  have w1 := fun w => weight_is 4607182418800017408 4616189618054758400 1 w i1 (by decide) (by decide)
  have w2 := fun w => cost_is 4607182418800017408 4616189618054758400 4 w i4 (by decide) (by decide)
  have su := fun g w => sum_two _ _ _ _ 2 6 1 4 g w i2 i6 i1 i4 s2 s6 s1 s4
  clear i1 i2 i4 i6 s1 s2 s3 s4 s6 d1 d2 d3
  have I3 : Hid (Is 4613937818241073152 3) := i3
  have I10 : Hid (Is 4621819117588971520 10) := i10
  clear i3 i10
  go_enter Try.func9, Try.ntmps9
  go_wp2_with (go_at_call 11; refine (k1 _).mono ?_; rintro e w' ⟨rfl, rfl⟩; refine Hid.out ?_)
  refine hide_it ?_
  go_wp2_with (go_at_call 11; refine (k2 _).mono ?_; rintro e w' ⟨rfl, rfl⟩; refine Hid.out ?_)
  refine hide_it ?_
  go_wp2_with (go_at_call 15; refine (c1 _).mono ?_; rintro e w' ⟨rfl, rfl⟩; refine Hid.out ?_)
  refine hide_it ?_
  go_wp2_with (go_at_call 15; refine (c2 _).mono ?_; rintro e w' ⟨rfl, rfl⟩; refine Hid.out ?_)
  refine hide_it ?_
  go_wp2_with (go_at_call 11; refine (k3 _).mono ?_; rintro e w' ⟨rfl, rfl⟩; refine Hid.out ?_)
  refine hide_it ?_
  go_wp2_with (go_at_call 15; refine (c3 _).mono ?_; rintro e w' ⟨rfl, rfl⟩; refine Hid.out ?_)
  refine hide_it ?_
  go_wp2_with (first
    | (go_at_call 17; refine (su _ _ (by simp) (by simp)).mono ?_; rintro e w' ⟨re, im, rfl, hr, hi, rfl⟩; have t1 : (FloatKind.f64.format.order re 4613937818241073152 == some Ordering.eq) = true := (by rw [is_eq hr I3.out]; rfl); have t2 : (FloatKind.f64.format.order im 4621819117588971520 == some Ordering.eq) = true := (by rw [is_eq hi I10.out]; rfl))
    | (go_at_call 12; refine (w1 _).mono ?_; rintro e w' ⟨rfl, rfl⟩)
    | (go_at_call 14; refine (w2 _).mono ?_; rintro e w' ⟨rfl, rfl⟩))
  go_ret
  exact ⟨rfl, (Below.refl _ _).alloc (Nat.le_refl _) _⟩
end Go.Proofs.Ytgkogklbeclkgaa
