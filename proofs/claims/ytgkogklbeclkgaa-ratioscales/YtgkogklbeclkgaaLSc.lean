/- RatioScales, walked. -/
import Derived.Test.YtgkogklbeclkgaaLOr
namespace Go.Proofs.Ytgkogklbeclkgaa
open Go.RowKit Go.Lib
open M
set_option linter.unusedVariables false
set_option linter.unusedSimpArgs false
theorem i64_and12 (n : Int) : bits .and .i64 n 4095 = n % 4096 := by
  have h : (BitVec.ofInt 64 4095).toNat = 2 ^ 12 - 1 := by decide
  have key : (BitVec.ofInt 64 n &&& BitVec.ofInt 64 4095).toNat = (n % ((2 ^ 64 : Nat) : Int)).toNat % 2 ^ 12 := by
    rw [BitVec.toNat_and, BitVec.toNat_ofInt, h, Nat.and_two_pow_sub_one_eq_mod]
  show IntKind.i64.wrap ((BitVec.ofInt 64 n &&& BitVec.ofInt 64 4095).toNat : Nat) = n % 4096
  rw [key, IntKind.wrap_i64]
  omega
theorem and12 (n : Int) : ∃ u : Int, bits .and .i64 n 4095 = u ∧ 0 ≤ u ∧ u < 4096 := ⟨n % 4096, i64_and12 n, by omega, by omega⟩

theorem share_P (a b : Int) (ha : Prt a) (hb : Prt b) (w : World) : Calls Try.prog 11 #[.int .i64 a, .int .i64 b] w fun e w' => e = .returned (.complex .f64 (F a) (F b)) ∧ w' = w := by
  have := share_any a b w
  rw [cut_id ha.1 ha.2, cut_id hb.1 hb.2] at this
  exact this
theorem prt_mul {a b : Int} (ha : 0 ≤ a) (ha' : a ≤ 4096) (hb : 0 ≤ b) (hb' : b ≤ 4096) : Prt (a * b) :=
  ⟨Int.mul_nonneg ha hb, by have := Int.mul_le_mul ha' hb' hb (by omega); omega⟩
set_option maxHeartbeats 2000000 in
theorem ratioScales_walk (a b ti mo : Int) (w : World) (wa : -9223372036854775808 ≤ a ∧ a ≤ 9223372036854775807) (wb : -9223372036854775808 ≤ b ∧ b ≤ 9223372036854775807) : Calls Try.prog 6 #[.agg #[.int .i64 a, .int .i64 b], .int .i64 ti, .int .i64 mo] w fun e w' => e = .returned (.bool true) ∧ Below w.heap.size w w' := by
  have H0 := hide_it ((Bd.nil w).alloc (.int .i64 a) (.int .i64 b) 23 rfl)
  obtain ⟨u, hu, u0, u1⟩ := and12 a
  obtain ⟨c, hc, c0, c1⟩ := and12 b
  obtain ⟨t, ht, t0, t1⟩ := and12 ti
  obtain ⟨m, hm, m0, m1⟩ := and12 mo
  have pW : Prt (1 + u) := ⟨by omega, by omega⟩
  have pc : Prt c := ⟨by omega, by omega⟩
  have pX : Prt ((1 + u) * (1 + t)) := prt_mul (by omega) (by omega) (by omega) (by omega)
  have pY : Prt (c * (1 + t)) := prt_mul (by omega) (by omega) (by omega) (by omega)
  have pZ : Prt (c + (1 + m)) := ⟨by omega, by omega⟩
  have pV : Prt (1 + u + (1 + m)) := ⟨by omega, by omega⟩
  have e4 : wrap64 ((1 + u) * (1 + t)) = (1 + u) * (1 + t) := by have := pX.1; have := pX.2; unfold wrap64; omega
  have e5 : wrap64 (c * (1 + t)) = c * (1 + t) := by have := pY.1; have := pY.2; unfold wrap64; omega
  have s1 := fun V' => share_P (1 + u) c pW pc V'
  have s2 := fun V' => share_P _ _ pX pY V'
  have s3 := fun V' => share_P _ _ pW pZ V'
  have s4 := fun V' => share_P _ _ pV pc V'
  have d1 : cmB (1 + u) c ((1 + u) * (1 + t)) (c * (1 + t)) = 0 := by
    unfold cmB
    have : c * ((1 + u) * (1 + t)) = c * (1 + t) * (1 + u) := by rw [Int.mul_assoc, Int.mul_comm (1 + t) (1 + u)]
    rw [this]; simp
  have d2 : cmB (1 + u) c (1 + u) (c + (1 + m)) = -1 := by
    unfold cmB
    have : c * (1 + u) < (c + (1 + m)) * (1 + u) := Int.mul_lt_mul_of_pos_right (by omega) (by omega)
    simp [this]
  have d3 : cmB (1 + u + (1 + m)) c (1 + u) c ≤ 0 := by
    rw [cmB_le]
    exact Int.mul_le_mul_of_nonneg_left (by omega) c0
  have k1 := fun V' => compare_F V' pW pc pX pY
  have k2 := fun V' => compare_F V' pW pc pW pZ
  have k3 := fun V' => compare_F V' pV pc pW pc
  rw [d1] at k1
  rw [d2] at k2
  generalize cmB (1 + u + (1 + m)) c (1 + u) c = D at *
  clear d1 d2 pW pc pX pY pZ pV wa wb
  have h3 : decide (D ≤ 0) = true := by simpa using d3
  go_enter Try.func6, Try.ntmps6
  go_wp2_with (go_at_call 9; refine (shown_any _).mono ?_; rintro e w1 ⟨rfl, hb1⟩; have H1 := hide_it (H0.out.below hb1); clear hb1; refine Hid.out ?_)
  clear H0
  generalize hn : w.heap.size = n at *
  obtain ⟨l0, p0, p1⟩ := H1.out.at n (x := .int .i64 a) (y := .int .i64 b) (by simp)
  refine hide_it ?_
  go_wp2_with (go_at_call 11; refine (s1 _).mono ?_; rintro e w' ⟨rfl, rfl⟩; refine Hid.out ?_)
  refine hide_it ?_
  go_wp2_with (go_at_call 11; refine (s2 _).mono ?_; rintro e w' ⟨rfl, rfl⟩; refine Hid.out ?_)
  refine hide_it ?_
  go_wp2_with (go_at_call 15; refine (k1 _).mono ?_; rintro e w' ⟨rfl, rfl⟩; refine Hid.out ?_)
  refine hide_it ?_
  go_wp2_with (go_at_call 11; refine (s3 _).mono ?_; rintro e w' ⟨rfl, rfl⟩; refine Hid.out ?_)
  refine hide_it ?_
  go_wp2_with (go_at_call 15; refine (k2 _).mono ?_; rintro e w' ⟨rfl, rfl⟩; refine Hid.out ?_)
  refine hide_it ?_
  go_wp2_with (go_at_call 11; refine (s4 _).mono ?_; rintro e w' ⟨rfl, rfl⟩; refine Hid.out ?_)
  refine hide_it ?_
  go_wp2_with (go_at_call 15; refine (k3 _).mono ?_; rintro e w' ⟨rfl, rfl⟩)
  go_ret
  exact ⟨rfl, H1.out.bel⟩
end Go.Proofs.Ytgkogklbeclkgaa
