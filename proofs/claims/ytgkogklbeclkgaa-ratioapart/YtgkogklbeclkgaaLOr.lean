/- RatioOrder, walked. -/
import Derived.Test.YtgkogklbeclkgaaBox
namespace Go.Proofs.Ytgkogklbeclkgaa
open Go.RowKit Go.Lib
open M
set_option linter.unusedVariables false
set_option linter.unusedSimpArgs false

namespace M
theorem cmB_is (a b c d : Int) : (cmB a b c d = -1 ∧ b * c < d * a) ∨ (cmB a b c d = 0 ∧ b * c = d * a) ∨ (cmB a b c d = 1 ∧ d * a < b * c) := by unfold cmB; omega
theorem cmB_turn (a b c d : Int) : cmB c d a b = - cmB a b c d := by
  unfold cmB
  generalize b * c = x
  generalize d * a = y
  omega
theorem cmB_self (a b : Int) : cmB a b a b = 0 := by unfold cmB; simp
theorem cmB_le (a b c d : Int) : cmB a b c d ≤ 0 ↔ b * c ≤ d * a := by have := cmB_is a b c d; omega
theorem cmB_trans {a b c d e f : Int} (ha : 0 < a) (hc : 0 < c) (he : 0 < e) (h : cmB a b c d ≤ 0) (k : cmB c d e f ≤ 0) : cmB a b e f ≤ 0 := by
  rw [cmB_le] at *
  have h1 : b * c * e ≤ d * a * e := Int.mul_le_mul_of_nonneg_right h (by omega)
  have h2 : d * e * a ≤ f * c * a := Int.mul_le_mul_of_nonneg_right k (by omega)
  have e1 : b * c * e = b * e * c := by rw [Int.mul_assoc, Int.mul_comm c e, Int.mul_assoc]
  have e2 : d * a * e = d * e * a := by rw [Int.mul_assoc, Int.mul_comm a e, Int.mul_assoc]
  have e3 : f * c * a = f * a * c := by rw [Int.mul_assoc, Int.mul_comm c a, Int.mul_assoc]
  exact Int.le_of_mul_le_mul_right (by omega) hc
end M
theorem Bd.box3 (w : World) (a b c d e f : Value) (T : TypeId) : Bd w [(w.heap.size + 1 + 1, e, f), (w.heap.size + 1, c, d), (w.heap.size, a, b)] (((w.alloc (.cells #[a, b] T)).alloc (.cells #[c, d] T)).alloc (.cells #[e, f] T)) :=
  (Bd.box2 w a b c d T).alloc e f T (by simp)

set_option maxHeartbeats 2000000 in
theorem ratioOrder_walk (a b c d f g : Int) (w : World) : Calls Try.prog 4 #[.agg #[.int .i64 a, .int .i64 b], .agg #[.int .i64 c, .int .i64 d], .agg #[.int .i64 f, .int .i64 g]] w fun e w' => e = .returned (.bool true) ∧ Below w.heap.size w w' := by
  have H0 := hide_it (Bd.box3 w (.int .i64 a) (.int .i64 b) (.int .i64 c) (.int .i64 d) (.int .i64 f) (.int .i64 g) 23)
  have A1 := prt_wei a
  have B0 := prt_cut b
  have C1 := prt_wei c
  have D0 := prt_cut d
  have F1 := prt_wei f
  have G0 := prt_cut g
  have a0 := wei_lo a
  have c0 := wei_lo c
  have f0 := wei_lo f
  go_enter Try.func4, Try.ntmps4
  go_wp2_with (go_at_call 9; refine (shown_any _).mono ?_; rintro e w1 ⟨rfl, hb1⟩; have H1 := hide_it (H0.out.below hb1); clear hb1; refine Hid.out ?_)
  clear H0
  generalize hn : w.heap.size = n at *
  generalize hn1 : n + 1 = n1 at *
  generalize hn2 : n1 + 1 = n2 at *
  obtain ⟨l0, p0, p1⟩ := H1.out.at n (x := .int .i64 a) (y := .int .i64 b) (by simp)
  refine hide_it ?_
  go_wp2_with (go_at_call 10; refine (pair_any _ _ _).mono ?_; rintro e w2 ⟨rfl, hb2⟩; have H2 := hide_it (H1.out.below hb2); clear hb2; refine Hid.out ?_)
  clear H1 l0 p0 p1
  obtain ⟨l0, p0, p1⟩ := H2.out.at n1 (x := .int .i64 c) (y := .int .i64 d) (by simp)
  refine hide_it ?_
  go_wp2_with (go_at_call 10; refine (pair_any _ _ _).mono ?_; rintro e w3 ⟨rfl, hb3⟩; have H3 := hide_it ((H2.out.alloc (.int .i64 (wei a)) (.int .i64 (cut b)) 26 rfl).below hb3); clear hb3; refine Hid.out ?_)
  clear H2 l0 p0 p1
  obtain ⟨l0, p0, p1⟩ := H3.out.at n2 (x := .int .i64 f) (y := .int .i64 g) (by simp)
  refine hide_it ?_
  go_wp2_with (go_at_call 10; refine (pair_any _ _ _).mono ?_; rintro e w4 ⟨rfl, hb4⟩; have H4 := hide_it ((H3.out.alloc (.int .i64 (wei c)) (.int .i64 (cut d)) 26 rfl).below hb4); clear hb4; refine Hid.out ?_)
  clear H3 l0 p0 p1
  have hB := hide_it (H4.out.bel)
  have hZ := hide_it (H4.out.size)
  have k1 := fun W => compare_F W A1 B0 C1 D0
  have k2 := fun W => compare_F W C1 D0 F1 G0
  have k3 := fun W => compare_F W A1 B0 F1 G0
  have k4 := fun W => compare_F W C1 D0 A1 B0
  have k5 := fun W => compare_F W A1 B0 A1 B0
  have t1 : cmB (wei a) (cut b) (wei c) (cut d) ≤ 0 → cmB (wei c) (cut d) (wei f) (cut g) ≤ 0 → cmB (wei a) (cut b) (wei f) (cut g) ≤ 0 := cmB_trans (by omega) (by omega) (by omega)
  have t2 : cmB (wei f) (cut g) (wei c) (cut d) ≤ 0 → cmB (wei c) (cut d) (wei a) (cut b) ≤ 0 → cmB (wei f) (cut g) (wei a) (cut b) ≤ 0 := cmB_trans (by omega) (by omega) (by omega)
  rw [cmB_turn (wei c) (cut d) (wei f) (cut g), cmB_turn (wei a) (cut b) (wei c) (cut d), cmB_turn (wei a) (cut b) (wei f) (cut g)] at t2
  rw [cmB_turn (wei a) (cut b) (wei c) (cut d)] at k4
  rw [cmB_self] at k5
  have q1 := cmB_is (wei a) (cut b) (wei c) (cut d)
  have q2 := cmB_is (wei c) (cut d) (wei f) (cut g)
  have q3 := cmB_is (wei a) (cut b) (wei f) (cut g)
  clear A1 B0 C1 D0 F1 G0 a0 c0 f0 H4
  generalize cmB (wei a) (cut b) (wei c) (cut d) = x at *
  generalize cmB (wei c) (cut d) (wei f) (cut g) = y at *
  generalize cmB (wei a) (cut b) (wei f) (cut g) = z at *
  generalize wei a = P at *
  generalize wei c = R at *
  generalize wei f = U at *
  generalize cut b = Q at *
  generalize cut d = S at *
  generalize cut g = V at *
  have x1 : x = -1 ∨ x = 0 ∨ x = 1 := by omega
  have y1 : y = -1 ∨ y = 0 ∨ y = 1 := by omega
  have z1 : z = -1 ∨ z = 0 ∨ z = 1 := by omega
  clear q1 q2 q3
  refine hide_it ?_
  go_wp2_with (go_at_call 15; refine (k1 _).mono ?_; rintro e w' ⟨rfl, rfl⟩; refine Hid.out ?_)
  refine hide_it ?_
  go_wp2_with (go_at_call 15; refine (k2 _).mono ?_; rintro e w' ⟨rfl, rfl⟩; refine Hid.out ?_)
  refine hide_it ?_
  go_wp2_with (go_at_call 15; refine (k3 _).mono ?_; rintro e w' ⟨rfl, rfl⟩; refine Hid.out ?_)
  refine hide_it ?_
  go_wp2_with (go_at_call 15; refine (k4 _).mono ?_; rintro e w' ⟨rfl, rfl⟩; refine Hid.out ?_)
  rcases x1 with rfl | rfl | rfl <;> rcases y1 with rfl | rfl | rfl <;> rcases z1 with rfl | rfl | rfl
  all_goals first | (exfalso; revert t1 t2; decide) | skip
  all_goals clear t1 t2
  all_goals
    refine hide_it ?_
    go_wp2_with (go_at_call 15; refine (k5 _).mono ?_; rintro e w' ⟨rfl, rfl⟩)
    go_ret
    exact ⟨rfl, hB.out.alloc hZ.out _⟩
end Go.Proofs.Ytgkogklbeclkgaa
