/- Compare at whole numbers; the document's own. -/
import Derived.Test.YtgkogklbeclkgaaOps
namespace Go.Proofs.Ytgkogklbeclkgaa
open Go.RowKit
open M
set_option linter.unusedVariables false
set_option linter.unusedSimpArgs false

namespace M
/-- Parts of a share, or of a sum of some. -/
def Sml (a : Int) : Prop := 0 ≤ a ∧ a ≤ 33554432
theorem mul_sml {a b : Int} (ha : Sml a) (hb : Sml b) : 0 ≤ a * b ∧ a * b ≤ 1125899906842624 := by
  refine ⟨Int.mul_nonneg ha.1 hb.1, ?_⟩
  have := Int.mul_le_mul ha.2 hb.2 hb.1 (by omega)
  omega
theorem mul_is {u v x y : Nat} {a b c d : Int} (hu : Is u a) (hv : Is v b) (hx : Is x c) (hy : Is y d)
    (h1 : (a * c).natAbs ≤ 1125899906842624) (h2 : (b * d).natAbs ≤ 1125899906842624) (h3 : (a * d).natAbs ≤ 1125899906842624) (h4 : (b * c).natAbs ≤ 1125899906842624) :
    ∃ re im, cMulBits u v x y = some (re, im) ∧ Is re (a * c - b * d) ∧ Is im (a * d + b * c) := by
  obtain ⟨r1, e1, i1⟩ := is_mul hu hx (by omega)
  obtain ⟨r2, e2, i2⟩ := is_mul hv hy (by omega)
  obtain ⟨r3, e3, i3⟩ := is_sub i1 i2 (by omega)
  obtain ⟨r4, e4, i4⟩ := is_mul hu hy (by omega)
  obtain ⟨r5, e5, i5⟩ := is_mul hv hx (by omega)
  obtain ⟨r6, e6, i6⟩ := is_add i4 i5 (by omega)
  exact ⟨r3, r6, by simp [cMulBits, e1, e2, e3, e4, e5, e6], i3, i6⟩
end M

theorem compare_is (x y u v : Nat) (a b c d : Int) (w : World) (hx : Is x a) (hy : Is y b) (hu : Is u c) (hv : Is v d) (ha : Sml a) (hb : Sml b) (hc : Sml c) (hd : Sml d) :
    Calls Try.prog 15 #[.complex .f64 x y, .complex .f64 u v] w fun e w' => e = .returned (.int .i64 (cmB a b c d)) ∧ w' = w := by
  have m1 := mul_sml hc ha
  have m2 := mul_sml hd hb
  have m3 := mul_sml hc hb
  have m4 := mul_sml hd ha
  obtain ⟨re, im, hm, _, hi⟩ := mul_is hu (is_neg hv) hx hy (by omega) (by rw [Int.neg_mul]; omega) (by omega) (by rw [Int.neg_mul]; omega)
  have hop := fun t w => run_complex_mul (P := Try.prog) w t _ _ _ _ re im hm
  rw [Int.neg_mul] at hi
  have hl := is_lt hi is_0
  have hg := is_gt hi is_0
  have hcm : cmB a b c d = if c * b + -(d * a) < 0 then -1 else if 0 < c * b + -(d * a) then 1 else 0 := by
    unfold cmB; rw [Int.mul_comm b c]
    by_cases q : c * b < d * a
    · rw [if_pos q, if_pos (show c * b + -(d * a) < 0 by omega)]
    · rw [if_neg q, if_neg (show ¬ c * b + -(d * a) < 0 by omega)]
      by_cases q2 : d * a < c * b
      · rw [if_pos q2, if_pos (show 0 < c * b + -(d * a) by omega)]
      · rw [if_neg q2, if_neg (show ¬ 0 < c * b + -(d * a) by omega)]
  rw [hcm]
  clear hcm m1 m2 m3 m4 hm hi hx hy hu hv ha hb hc hd
  generalize c * b + -(d * a) = z at *
  by_cases q : z < 0
  · have q1 : (FloatKind.f64.format.order im 0 == some Ordering.lt) = true := by rw [hl]; simpa using q
    rw [if_pos q]
    clear hl hg q
    go_enter Try.func15, Try.ntmps15
    go_wp2_with (first | (go_at_call 21; refine (conj_any _ _ _).mono ?_; rintro e w' ⟨rfl, rfl⟩) | simp only [hop])
    go_ret
    exact ⟨rfl, rfl⟩
  · have q1 : (FloatKind.f64.format.order im 0 == some Ordering.lt) = false := by rw [hl]; simpa using q
    rw [if_neg q]
    by_cases p : 0 < z
    · have q2 : (FloatKind.f64.format.order im 0 == some Ordering.gt) = true := by rw [hg]; simpa using p
      rw [if_pos p]
      clear hl hg q p
      go_enter Try.func15, Try.ntmps15
      go_wp2_with (first | (go_at_call 21; refine (conj_any _ _ _).mono ?_; rintro e w' ⟨rfl, rfl⟩) | simp only [hop])
      go_ret
      exact ⟨rfl, rfl⟩
    · have q2 : (FloatKind.f64.format.order im 0 == some Ordering.gt) = false := by rw [hg]; simpa using p
      rw [if_neg p]
      clear hl hg q p
      go_enter Try.func15, Try.ntmps15
      go_wp2_with (first | (go_at_call 21; refine (conj_any _ _ _).mono ?_; rintro e w' ⟨rfl, rfl⟩) | simp only [hop])
      go_ret
      exact ⟨rfl, rfl⟩

/-- The document's own. -/
theorem rcompare_any (a b c d : Int) (w : World) (ha : Sml a) (hb : Sml b) (hc : Sml c) (hd : Sml d) :
    Calls Try.prog 16 #[.agg #[.int .i64 a, .int .i64 b], .agg #[.int .i64 c, .int .i64 d]] w fun e w' => e = .returned (.int .i64 (cmB a b c d)) ∧ Below w.heap.size w w' := by
  have m1 := mul_sml hb hc
  have m2 := mul_sml hd ha
  have w1 : wrap64 (b * c) = b * c := by unfold wrap64; omega
  have w2 : wrap64 (d * a) = d * a := by unfold wrap64; omega
  unfold cmB
  clear ha hb hc hd
  generalize hp : b * c = p at *
  generalize hq : d * a = q at *
  by_cases g1 : p < q
  · rw [if_pos g1]
    go_enter Try.func16, Try.ntmps16
    go_wp2
    go_ret
    exact ⟨rfl, ((Below.refl _ _).alloc (Nat.le_refl _) _).alloc (by simp) _⟩
  · rw [if_neg g1]
    by_cases g2 : q < p
    · rw [if_pos g2]
      go_enter Try.func16, Try.ntmps16
      go_wp2
      go_ret
      exact ⟨rfl, ((Below.refl _ _).alloc (Nat.le_refl _) _).alloc (by simp) _⟩
    · rw [if_neg g2]
      go_enter Try.func16, Try.ntmps16
      go_wp2
      go_ret
      exact ⟨rfl, ((Below.refl _ _).alloc (Nat.le_refl _) _).alloc (by simp) _⟩
end Go.Proofs.Ytgkogklbeclkgaa
