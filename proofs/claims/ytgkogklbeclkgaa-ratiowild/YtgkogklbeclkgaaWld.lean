/- Words whatever they are: how they are read, how they stand to whole numbers, what is cut of them. -/
import Derived.Test.YtgkogklbeclkgaaMem
namespace Go.Proofs.Ytgkogklbeclkgaa
open Go.RowKit Go.Lib
open Ieee
namespace M
/-- A word that is a number has its place among the least ones. -/
theorem read_place {x : Nat} {s : Bool} {m : Nat} {e : Int} (h : double.read x = .number s m e) : ∃ k : Nat, e = -1074 + k := by
  have hl : double.leastPlace = -1074 := by decide
  unfold Format.read at h
  simp only [hl] at h
  revert h
  split
  · intro h; injection h with _ _ h3; exact ⟨0, by omega⟩
  · split
    · intro h; injection h with _ _ h3; exact ⟨_, h3.symm⟩
    · split
      · intro h; cases h
      · intro h; cases h
theorem order_num {x y : Nat} {s t : Bool} {m n k l : Nat} (h1 : double.read x = .number s m (-1074 + k)) (h3 : double.read y = .number t n (-1074 + l)) : FloatKind.f64.format.order x y = some (compare (signed s m k) (signed t n l)) := by
  show (double.read x).order (double.read y) = _
  rw [h1, h3]
  obtain ⟨o1, o2⟩ := on_base s t m n k l
  have hbase : min (-1074 + (k : Int)) (-1074 + (l : Int)) = -1074 + ((min k l : Nat) : Int) := by omega
  have e1 : (-1074 + (k : Int) - (-1074 + ((min k l : Nat) : Int))).toNat = k - min k l := by omega
  have e2 : (-1074 + (l : Int) - (-1074 + ((min k l : Nat) : Int))).toNat = l - min k l := by omega
  show some (compare _ _) = _
  rw [hbase, e1, e2]
  have hP : (0 : Int) < ((2 ^ min k l : Nat) : Int) := by exact_mod_cast pow_pos2 _
  rw [← o1, ← o2]
  generalize signed s m (k - min k l) = X
  generalize signed t n (l - min k l) = Y
  generalize ((2 ^ min k l : Nat) : Int) = P at hP
  have lt_iff : ∀ {X Y : Int}, (X * P < Y * P ↔ X < Y) := fun {X Y} => Int.mul_lt_mul_right hP
  congr 1
  simp only [compare, compareOfLessAndEq]
  by_cases z : X < Y
  · rw [if_pos z, if_pos (lt_iff.2 z)]
  · rw [if_neg z, if_neg (fun q => z (lt_iff.1 q))]
    by_cases z2 : X = Y
    · rw [if_pos z2, if_pos (by rw [z2])]
    · rw [if_neg z2, if_neg (fun q => z2 ?_)]
      have h1 : ¬ Y < X → False := fun h => z2 (by omega)
      have h2 : Y < X := Classical.byContradiction h1
      have := (lt_iff (X := Y) (Y := X)).2 h2
      omega
theorem cmp_gt {A B : Int} : (some (compare A B) == some Ordering.gt) = decide (B < A) := by
  simp only [compare, compareOfLessAndEq]
  by_cases h : A < B
  · have : ¬ B < A := by omega
    simp [h, this]
  · by_cases e : A = B
    · subst e; simp
    · have : B < A := by omega
      simp [h, e, this]
theorem cmp_lt {A B : Int} : (some (compare A B) == some Ordering.lt) = decide (A < B) := by
  simp only [compare, compareOfLessAndEq]
  by_cases h : A < B
  · simp [h]
  · by_cases e : A = B
    · subst e; simp
    · simp [h, e]
/-- How a word stands to a whole number. -/
theorem order_is {x y : Nat} {s : Bool} {m k : Nat} {b : Int} (h1 : double.read x = .number s m (-1074 + k)) (hy : Is y b) : FloatKind.f64.format.order x y = some (compare (signed s m k) (b * (U : Int))) := by
  obtain ⟨t, n, l, h3, h4⟩ := hy
  rw [order_num h1 h3, h4]
theorem order_inf {x y : Nat} {s : Bool} {b : Int} (h1 : double.read x = .infinity s) (hy : Is y b) : FloatKind.f64.format.order x y = some (if s then .lt else .gt) := by
  obtain ⟨t, n, l, h3, h4⟩ := hy
  show (double.read x).order (double.read y) = _
  rw [h1, h3]; rfl
theorem order_nan {x y : Nat} {s : Bool} {f : Nat} (h1 : double.read x = .nan s f) : FloatKind.f64.format.order x y = none := by
  show (double.read x).order (double.read y) = _
  rw [h1]; rfl
/-- What is above a whole number is above each that is less. -/
theorem gt_mono {x y z : Nat} {b c : Int} (hy : Is y b) (hz : Is z c) (hbc : c ≤ b) (h : (FloatKind.f64.format.order x y == some Ordering.gt) = true) : (FloatKind.f64.format.order x z == some Ordering.gt) = true := by
  cases hx : double.read x with
  | nan s f => rw [order_nan hx] at h; cases h
  | infinity s => rw [order_inf hx hy] at h; rw [order_inf hx hz]; exact h
  | number s m e =>
    obtain ⟨k, rfl⟩ := read_place hx
    rw [order_is hx hy, cmp_gt] at h
    rw [order_is hx hz, cmp_gt]
    have hU : (0 : Int) ≤ (U : Int) := Int.natCast_nonneg _
    have := Int.mul_le_mul_of_nonneg_right hbc hU
    simp only [decide_eq_true_eq] at *
    omega
/-- What is cut of a number that is not below 0, and not above 2^53. -/
theorem cut_num {x : Nat} {s : Bool} {m k : Nat} (hx : double.read x = .number s m (-1074 + k)) (h0 : 0 ≤ signed s m k) (h1 : signed s m k ≤ 9007199254740992 * (U : Int)) :
    ∃ n : Int, floatToIntVal .f64 x .i64 = some n ∧ 0 ≤ n ∧ n ≤ 9007199254740992 ∧ (m = 0 → n = 0) := by
  obtain ⟨B, hB, hU⟩ := U_pow
  have hs : m = 0 ∨ s = false := by
    by_cases hm : m = 0
    · exact .inl hm
    · cases s with
      | false => exact .inr rfl
      | true =>
        exfalso
        rw [signed_eq] at h0
        have : 0 < m * 2 ^ k := Nat.mul_pos (by omega) (pow_pos2 k)
        simp only [if_true] at h0
        omega
  have hle : m * 2 ^ k ≤ 9007199254740992 * 2 ^ B := by
    rcases hs with rfl | rfl
    · rw [Nat.zero_mul]; exact Nat.zero_le _
    · rw [signed_eq] at h1
      rw [← hU.eq]
      simp only [Bool.false_eq_true, if_false, Int.one_mul] at h1
      generalize m * 2 ^ k = V at h1
      generalize U = u at h1
      omega
  have hc : ∃ c : Nat, Toward.zero.cut s (m <<< (-1074 + (k : Int)).toNat) (-(-1074 + (k : Int))).toNat = c ∧ c ≤ 9007199254740992 ∧ (m = 0 → c = 0) := by
    by_cases hk : B ≤ k
    · obtain ⟨u, hu⟩ : ∃ u, k = B + u := ⟨k - B, by omega⟩
      have e1 : (-1074 + (k : Int)).toNat = u := by omega
      have e2 : (-(-1074 + (k : Int))).toNat = 0 := by omega
      have e3 : m * 2 ^ u ≤ 9007199254740992 := by
        have : m * 2 ^ u * 2 ^ B ≤ 9007199254740992 * 2 ^ B := by rw [Nat.mul_assoc, ← Nat.pow_add, Nat.add_comm u B, ← hu]; exact hle
        exact Nat.le_of_mul_le_mul_right this (pow_pos2 B)
      rw [e1, e2, Nat.shiftLeft_eq]
      exact ⟨m * 2 ^ u, by simp [Toward.cut], e3, fun h => by rw [h, Nat.zero_mul]⟩
    · obtain ⟨u, hu⟩ : ∃ u, B = k + u := ⟨B - k, by omega⟩
      have e1 : (-1074 + (k : Int)).toNat = 0 := by omega
      have e2 : (-(-1074 + (k : Int))).toNat = u := by omega
      have e3 : m ≤ 9007199254740992 * 2 ^ u := by
        have : m * 2 ^ k ≤ 9007199254740992 * 2 ^ u * 2 ^ k := by rw [Nat.mul_assoc, ← Nat.pow_add, Nat.add_comm u k, ← hu]; exact hle
        exact Nat.le_of_mul_le_mul_right this (pow_pos2 k)
      rw [e1, e2, Nat.shiftLeft_eq, Nat.pow_zero, Nat.mul_one]
      refine ⟨m / (1 <<< min u (m.log2 + 2)), by simp [Toward.cut], ?_, fun h => by rw [h, Nat.zero_div]⟩
      rw [Nat.shiftLeft_eq, Nat.one_mul]
      by_cases hq : u ≤ m.log2 + 2
      · rw [Nat.min_eq_left hq]
        exact Nat.div_le_of_le_mul (by rw [Nat.mul_comm]; exact e3)
      · rw [Nat.min_eq_right (by omega)]
        have : m < 2 ^ (m.log2 + 2) := Nat.lt_of_lt_of_le Nat.lt_log2_self (Nat.pow_le_pow_right (by omega) (by omega))
        rw [Nat.div_eq_of_lt this]
        omega
  obtain ⟨c, hc1, hc2, hc3⟩ := hc
  have hsg : signed s c 0 = (c : Int) := by
    rw [signed_eq]
    rcases hs with hm | rfl
    · rw [hc3 hm]; simp
    · simp
  have ht : (FloatKind.f64.decode x).toInt .zero = some (c : Int) := by
    show (double.read x).toInt .zero = _
    rw [hx]
    show some (signed s (Toward.zero.cut s _ _) 0) = _
    rw [hc1, hsg]
  refine ⟨c, ?_, by omega, by omega, fun h => by rw [hc3 h]; rfl⟩
  unfold floatToIntVal
  rw [ht]
  have mn : IntKind.i64.min = -9223372036854775808 := by decide
  have mx : IntKind.i64.max = 9223372036854775807 := by decide
  have : IntKind.i64.min ≤ (c : Int) ∧ (c : Int) ≤ IntKind.i64.max := by rw [mn, mx]; omega
  simp only [this, and_self, if_true]
/-- What is above 0, and not above 2^53, is cut to a number. -/
theorem cut_some {x : Nat} (h1 : (FloatKind.f64.format.order x 4845873199050653696 == some Ordering.gt) = false) (h0 : (FloatKind.f64.format.order x 0 == some Ordering.gt) = true) : ∃ n : Int, floatToIntVal .f64 x .i64 = some n ∧ 0 ≤ n ∧ n ≤ 9007199254740992 := by
  cases hx : double.read x with
  | nan s f => rw [order_nan hx] at h0; cases h0
  | infinity s => rw [order_inf hx is_0] at h0; rw [order_inf hx is_top] at h1; rw [h1] at h0; cases h0
  | number s m e =>
    obtain ⟨k, rfl⟩ := read_place hx
    rw [order_is hx is_top, cmp_gt] at h1
    rw [order_is hx is_0, cmp_gt] at h0
    simp only [decide_eq_true_eq, decide_eq_false_iff_not] at h0 h1
    obtain ⟨n, a, b, c, _⟩ := cut_num hx (by rw [Int.zero_mul] at h0; omega) (by omega)
    exact ⟨n, a, b, c⟩
/-- What is a number from 0 to a thousand is cut to one; to 0, if it is not above 0. -/
theorem cut_low {x : Nat} (h1 : (FloatKind.f64.format.order x 0 == some Ordering.lt) = false) (h2 : (FloatKind.f64.format.order x 4652007308841189376 == some Ordering.gt) = false) (h3 : (FloatKind.f64.format.order x x == some Ordering.eq) = true) :
    (FloatKind.f64.format.order x 4845873199050653696 == some Ordering.gt) = false ∧ ∃ n : Int, floatToIntVal .f64 x .i64 = some n ∧ ((FloatKind.f64.format.order x 0 == some Ordering.gt) = false → n = 0) := by
  have i3 : Is 4652007308841189376 1000 := F_1000 ▸ is_F (by decide)
  cases hx : double.read x with
  | nan s f => rw [order_nan hx] at h3; cases h3
  | infinity s =>
    rw [order_inf hx is_0] at h1; rw [order_inf hx i3] at h2
    cases s
    · cases h2
    · cases h1
  | number s m e =>
    obtain ⟨k, rfl⟩ := read_place hx
    rw [order_is hx is_0, cmp_lt] at h1
    rw [order_is hx i3, cmp_gt] at h2
    simp only [decide_eq_false_iff_not] at h1 h2
    have hU : (0 : Int) < (U : Int) := by exact_mod_cast U_pos
    rw [order_is hx is_0, order_is hx is_top, cmp_gt, cmp_gt]
    have q1 : 0 ≤ signed s m k := by rw [Int.zero_mul] at h1; omega
    have q2 : signed s m k ≤ 9007199254740992 * (U : Int) := by omega
    obtain ⟨n, a, b, c, d⟩ := cut_num hx q1 q2
    refine ⟨by simp only [decide_eq_false_iff_not]; omega, n, a, fun h => d ?_⟩
    simp only [decide_eq_false_iff_not, Int.zero_mul] at h
    have z : signed s m k = 0 := by omega
    rw [signed_eq] at z
    have z2 : m * 2 ^ k = 0 := by
      cases s
      · simp only [Bool.false_eq_true, if_false] at z; omega
      · simp only [if_true] at z; omega
    rcases Nat.mul_eq_zero.1 z2 with h | h
    · exact h
    · have := pow_pos2 k; omega
end M
end Go.Proofs.Ytgkogklbeclkgaa
