/-
  The plain mathematics of package num: no Go in sight. What sums, differences and products are where an int holds them; doubling up to a bound. No conditions but those that each lemma names.
-/
import Derived.WalkKit
namespace Go.Proofs.YtamikhffclbbcaaDoor
open Go.RowKit (wrap64)

/-- Does an int hold x? -/
def inI (x : Int) : Bool := decide (-9223372036854775808 ≤ x ∧ x ≤ 9223372036854775807)
/-- x where an int holds it, else 0. -/
def cutI (x : Int) : Int := if inI x = true then x else 0

theorem inI_iff (x : Int) : inI x = true ↔ -9223372036854775808 ≤ x ∧ x ≤ 9223372036854775807 := by
  unfold inI; simp
theorem inI_false (x : Int) : inI x = false ↔ ¬ (-9223372036854775808 ≤ x ∧ x ≤ 9223372036854775807) := by
  unfold inI; simp
theorem cutI_in {x : Int} (h : inI x = true) : cutI x = x := by unfold cutI; rw [if_pos h]
theorem cutI_out {x : Int} (h : inI x = false) : cutI x = 0 := by unfold cutI; rw [h]; simp
theorem cutI_bd (x : Int) : -9223372036854775808 ≤ cutI x ∧ cutI x ≤ 9223372036854775807 := by
  by_cases h : inI x = true
  · rw [cutI_in h]; exact (inI_iff x).1 h
  · rw [cutI_out (by simpa using h)]; omega

theorem wrap64_bd (x : Int) : -9223372036854775808 ≤ wrap64 x ∧ wrap64 x ≤ 9223372036854775807 := by
  unfold wrap64; omega
theorem wrap64_id {x : Int} (h0 : -9223372036854775808 ≤ x) (h1 : x ≤ 9223372036854775807) : wrap64 x = x := by
  unfold wrap64; omega

/-- Dividing back shows whether an int holds a product. -/
theorem mul_back (a b : Int) (ha0 : -9223372036854775808 ≤ a) (ha1 : a ≤ 9223372036854775807) (hb0 : -9223372036854775808 ≤ b) (hb1 : b ≤ 9223372036854775807)
    (hb : b ≠ 0) (h : ¬ (a = -9223372036854775808 ∧ b = -1)) : wrap64 ((wrap64 (a * b)).tdiv b) = a ↔ inI (a * b) = true := by
  constructor
  · intro hd
    rw [inI_iff]
    by_cases hm : b = -1
    · subst hm; omega
    have hw := wrap64_bd (a * b)
    have hcong : ∃ k : Int, wrap64 (a * b) = a * b + 18446744073709551616 * k := by
      refine ⟨-((a * b + 9223372036854775808) / 18446744073709551616), ?_⟩
      unfold wrap64; omega
    obtain ⟨k, hk⟩ := hcong
    generalize wrap64 (a * b) = p at *
    have hq : -9223372036854775808 ≤ p.tdiv b ∧ p.tdiv b ≤ 9223372036854775807 := by
      by_cases h1 : b = 1
      · subst h1; rw [Int.tdiv_one]; exact hw
      · have e : (p.tdiv b).natAbs = p.natAbs / b.natAbs := Int.natAbs_tdiv p b
        have : p.natAbs / b.natAbs ≤ p.natAbs / 2 := Nat.div_le_div_left (by omega) (by decide)
        omega
    rw [wrap64_id hq.1 hq.2] at hd
    have hdm := Int.mul_tdiv_add_tmod p b
    have hlt : (p.tmod b).natAbs < b.natAbs := by
      rw [Int.natAbs_tmod]; exact Nat.mod_lt _ (by omega)
    rw [hd, Int.mul_comm] at hdm
    omega
  · intro hi
    have hi2 := (inI_iff _).1 hi
    rw [wrap64_id hi2.1 hi2.2, Int.mul_tdiv_cancel a hb, wrap64_id ha0 ha1]

theorem ref_pp (a b : Int) (ha : 0 < a) (hb : 0 < b) : 9223372036854775807 / b < a ↔ inI (a * b) = false := by
  have h0 : 0 < a * b := Int.mul_pos ha hb
  rw [Int.ediv_lt_iff_lt_mul hb, inI_false]
  omega
theorem ref_pn (a b : Int) (ha : 0 < a) (hb : b < 0) : b < wrap64 (-Int.tdiv 9223372036854775808 a) ↔ inI (a * b) = false := by
  have h0 : a * b < 0 := Int.mul_neg_of_pos_of_neg ha hb
  have e : Int.tdiv 9223372036854775808 a = 9223372036854775808 / a := Int.tdiv_eq_ediv_of_nonneg (by decide)
  have q0 : 0 ≤ (9223372036854775808 : Int) / a := Int.ediv_nonneg (by decide) (by omega)
  have q1 : (9223372036854775808 : Int) / a ≤ 9223372036854775808 := Int.ediv_le_self _ (by decide)
  rw [e, wrap64_id (by omega) (by omega), inI_false]
  have := Int.ediv_lt_iff_lt_mul (a := 9223372036854775808) (b := -b) ha
  rw [Int.neg_mul, Int.mul_comm b a] at this
  omega
theorem ref_np (a b : Int) (ha : a < 0) (hb : 0 < b) : a < wrap64 (-Int.tdiv 9223372036854775808 b) ↔ inI (a * b) = false := by
  rw [ref_pn b a hb ha, Int.mul_comm]
theorem ref_nn (a b : Int) (ha : a < 0) (hb : b < 0) : wrap64 (-Int.tdiv 9223372036854775807 b) < -a ↔ inI (a * b) = false := by
  have h0 : 0 < a * b := Int.mul_pos_of_neg_of_neg ha hb
  have e : -Int.tdiv 9223372036854775807 b = 9223372036854775807 / (-b) := by
    rw [← Int.tdiv_neg]; exact Int.tdiv_eq_ediv_of_nonneg (by decide)
  have q0 : 0 ≤ (9223372036854775807 : Int) / (-b) := Int.ediv_nonneg (by decide) (by omega)
  have q1 : (9223372036854775807 : Int) / (-b) ≤ 9223372036854775807 := Int.ediv_le_self _ (by decide)
  rw [e, wrap64_id (by omega) (by omega), inI_false, Int.ediv_lt_iff_lt_mul (by omega), Int.neg_mul_neg]
  omega
/-- The least int by a negative one: no int holds it. -/
theorem least_nn (a b : Int) (ha : a < 0) (hb : b < 0) (h : a = -9223372036854775808 ∨ b = -9223372036854775808) : inI (a * b) = false := by
  rw [inI_false]
  rcases h with rfl | rfl
  · have := Int.mul_le_mul_of_nonneg_left (show 1 ≤ -b by omega) (show (0 : Int) ≤ 9223372036854775808 by decide)
    omega
  · have := Int.mul_le_mul_of_nonneg_left (show 1 ≤ -a by omega) (show (0 : Int) ≤ 9223372036854775808 by decide)
    omega
theorem cutI_wrap {x : Int} (h : inI x = true) : cutI x = wrap64 x := by
  have h2 := (inI_iff _).1 h
  rw [cutI_in h, wrap64_id h2.1 h2.2]

/-! ### Doubling -/
/-- base doubled n times, at most so much. -/
def dbl (x : Int) (n : Nat) (e : Int) : Int := min (x * 2 ^ n) e

theorem dbl_zero (x e : Int) : dbl x 0 e = min x e := by simp [dbl]
theorem dbl_bd (x : Int) (n : Nat) (e : Int) (hx : 0 ≤ x) (he : 0 ≤ e) : 0 ≤ dbl x n e ∧ dbl x n e ≤ e := by
  unfold dbl
  have : 0 ≤ x * 2 ^ n := Int.mul_nonneg hx (Int.le_of_lt (Int.pow_pos (by decide)))
  omega
theorem pow_ge_one (n : Nat) : (1 : Int) ≤ 2 ^ n := Int.pow_pos (by decide)
theorem le_mul_pow (x : Int) (n : Nat) (hx : 0 ≤ x) : x ≤ x * 2 ^ n := by
  have := Int.mul_le_mul_of_nonneg_left (pow_ge_one n) hx
  omega
/-- At its end it stays. -/
theorem dbl_end (x : Int) (n : Nat) (e : Int) (hx : 0 ≤ x) (h : e ≤ x) : dbl x n e = e := by
  unfold dbl
  have := le_mul_pow x n hx
  omega
theorem dbl_nought (n : Nat) (e : Int) (he : 0 ≤ e) : dbl 0 n e = 0 := by unfold dbl; omega
/-- One step. -/
theorem dbl_succ (x : Int) (n : Nat) (e : Int) : dbl x (n + 1) e = dbl (x + x) n e := by
  unfold dbl
  rw [Int.pow_succ, show x * (2 ^ n * 2) = (x + x) * 2 ^ n by rw [Int.add_mul, ← Int.mul_assoc]; omega]
/-- One step too far. -/
theorem dbl_over (x : Int) (n : Nat) (e : Int) (hx : 0 ≤ x) (h : e < x + x) : dbl x (n + 1) e = e := by
  rw [dbl_succ]; exact dbl_end _ _ _ (by omega) (by omega)
/-- Once more, from its end. -/
theorem dbl_once (x : Int) (n : Nat) (e : Int) (hx : 0 ≤ x) (he : 0 ≤ e) : dbl x (n + 1) e = dbl (dbl x n e) 1 e := by
  unfold dbl
  have h0 : 0 ≤ x * 2 ^ n := Int.mul_nonneg hx (Int.le_of_lt (Int.pow_pos (by decide)))
  rw [Int.pow_succ, ← Int.mul_assoc]
  generalize x * 2 ^ n = y at *
  omega
theorem dbl_rises (x : Int) (n : Nat) (e : Int) (hx : 0 ≤ x) : dbl x n e ≤ dbl x (n + 1) e := by
  unfold dbl
  have h0 : 0 ≤ x * 2 ^ n := Int.mul_nonneg hx (Int.le_of_lt (Int.pow_pos (by decide)))
  rw [Int.pow_succ, ← Int.mul_assoc]
  generalize x * 2 ^ n = y at *
  omega
theorem dbl_more (x : Int) (n : Nat) (e e' : Int) (h : e ≤ e') : dbl x n e ≤ dbl x n e' := by unfold dbl; omega
theorem dbl_twice (x : Int) (n : Nat) (e : Int) (hx : 0 ≤ x) : dbl x n e = e ∨ dbl x (n + 1) e = e ∨ dbl x (n + 1) e = 2 * dbl x n e := by
  unfold dbl
  have h0 : 0 ≤ x * 2 ^ n := Int.mul_nonneg hx (Int.le_of_lt (Int.pow_pos (by decide)))
  rw [Int.pow_succ, ← Int.mul_assoc]
  generalize x * 2 ^ n = y at *
  omega

/-! ### What a loop of doublings keeps -/
open Go.RowKit (Hid)
theorem end_over (x : Int) (k : Nat) (e R : Int) (hx : 0 ≤ x) (hk : 0 < k) (h : e < x + x) (hr : Hid (dbl x k e = R)) : e = R := by
  obtain ⟨j, rfl⟩ : ∃ j, k = j + 1 := ⟨k - 1, by omega⟩
  rw [← hr.out, dbl_over x j e hx h]
theorem end_step (x : Int) (k : Nat) (e R : Int) (hk : 0 < k) (hr : Hid (dbl x k e = R)) : Hid (dbl (x + x) (k - 1) e = R) := by
  obtain ⟨j, rfl⟩ : ∃ j, k = j + 1 := ⟨k - 1, by omega⟩
  show dbl (x + x) (j + 1 - 1) e = R
  rw [← hr.out, dbl_succ, Nat.add_sub_cancel]
theorem end_step2 (x : Int) (i n : Nat) (e R : Int) (hk : i < n) (hr : Hid (dbl x (n - i) e = R)) : Hid (dbl (x * 2) (n - (i + 1)) e = R) := by
  have := end_step x (n - i) e R (by omega) hr
  rw [show n - i - 1 = n - (i + 1) by omega, show x + x = x * 2 by omega] at this
  exact this
theorem end_stop (x : Int) (k : Nat) (e : Int) (hx : 0 ≤ x) (he : 0 ≤ e) (h : ¬ (0 < k ∧ 0 < x ∧ x < e)) : dbl x k e = min x e := by
  by_cases hk : 0 < k
  · by_cases hx0 : 0 < x
    · have h3 : e ≤ x := by omega
      rw [dbl_end x k e hx h3]; omega
    · obtain rfl : x = 0 := by omega
      rw [dbl_nought k e he]; omega
  · obtain rfl : k = 0 := by omega
    exact dbl_zero x e

end Go.Proofs.YtamikhffclbbcaaDoor
