/- Whole numbers as floats of 64 bits: which word stands for which, and what the operations make of them. -/
import Derived.WalkLawsBesides
namespace Go.Proofs.Ytgkogklbeclkgaa
open Ieee
namespace M

/-- As many least units as one has. -/
def two (k : Nat) : Nat := 2 ^ k
def U : Nat := two 1074
theorem two_pos (k : Nat) : 0 < two k := Nat.two_pow_pos k
theorem U_pos : 0 < U := two_pos _
theorem rung_le {q f : Nat} (hq : q ≤ 1074) (hf : f < 2 ^ 52) : (q + 1) * 2 ^ 52 + f ≤ 2047 * 2 ^ 52 := by omega
theorem U_split {d : Nat} (h : d ≤ 1074) : 2 ^ d * 2 ^ (1074 - d) = U := by
  unfold U two; rw [← Nat.pow_add]; congr 1; omega

/-- A word stands for a whole number: what it is read as is so many of the least units. -/
def Is (x : Nat) (n : Int) : Prop := ∃ (s : Bool) (m k : Nat), double.read x = .number s m (-1074 + k) ∧ signed s m k = n * (U : Int)

theorem signed_eq (s : Bool) (m k : Nat) : signed s m k = (if s then -1 else 1) * ((m * 2 ^ k : Nat) : Int) := by
  unfold signed
  rw [Nat.shiftLeft_eq]
  cases s <;> simp

theorem pow_pos2 (k : Nat) : 0 < 2 ^ k := Nat.two_pow_pos k

theorem log2_mul {m : Nat} (h : m ≠ 0) (k : Nat) : (m * 2 ^ k).log2 = m.log2 + k := by
  induction k with
  | zero => simp
  | succ k ih => rw [Nat.pow_succ, ← Nat.mul_assoc, Nat.mul_comm _ 2, Nat.log2_two_mul (by have := pow_pos2 k; exact Nat.mul_ne_zero h (by omega)), ih]; omega

/-- What is cut of a whole number behind as many noughts is nothing. -/
theorem cut_whole (s : Bool) (K D : Nat) (hK : K ≠ 0) : Toward.even.cut s (K * 2 ^ D) D = K := by
  have hl : (K * 2 ^ D).log2 = K.log2 + D := log2_mul hK D
  unfold Toward.cut
  have h1 : min D ((K * 2 ^ D).log2 + 2) = D := by rw [hl]; omega
  simp only [h1]
  have hp := pow_pos2 D
  rw [Nat.shiftLeft_eq, Nat.one_mul, Nat.mul_div_cancel _ hp, Nat.mul_mod_left]
  have a1 : decide (2 ^ D < 2 * 0) = false := by simp
  have a2 : (2 ^ D == 2 * 0) = false := by simp
  rw [a1, a2]
  simp

/-- The rung of a number from 2^52 on, in a place. -/
theorem read_word (s : Bool) (e f : Nat) (he : e < 2046) (hf : f < 2 ^ 52) :
    double.read (double.word s ((e + 1) * 2 ^ 52 + f)) = .number s (2 ^ 52 + f) (-1074 + (e : Int)) := by
  have hb : double.binade = 2 ^ 52 := rfl
  have hs : double.signWeight = 2 ^ 63 := rfl
  have hi : double.infRung = 2047 * 2 ^ 52 := rfl
  have hl : double.leastPlace = -1074 := by decide
  have hr : (e + 1) * 2 ^ 52 + f < 2 ^ 63 := by
    have : (e + 1) * 2 ^ 52 ≤ 2046 * 2 ^ 52 := Nat.mul_le_mul_right _ (by omega)
    omega
  have h1 : double.word s ((e + 1) * 2 ^ 52 + f) % 2 ^ 63 = (e + 1) * 2 ^ 52 + f := by
    unfold Format.word; rw [hs]
    cases s
    · simp only [Bool.false_eq_true, if_false]; exact Nat.mod_eq_of_lt hr
    · simp only [if_true]; rw [Nat.add_mod_left]; exact Nat.mod_eq_of_lt hr
  have h2 : (double.word s ((e + 1) * 2 ^ 52 + f) / 2 ^ 63 % 2 == 1) = s := by
    unfold Format.word; rw [hs]
    cases s
    · simp only [Bool.false_eq_true, if_false]; rw [Nat.div_eq_of_lt hr]; rfl
    · simp only [if_true]; rw [Nat.add_div_left _ (by decide), Nat.div_eq_of_lt hr]; rfl
  unfold Format.read
  simp only [hb, hs, hi, hl, h1, h2]
  have h3 : ¬ ((e + 1) * 2 ^ 52 + f < 2 ^ 52) := by
    have : 1 * 2 ^ 52 ≤ (e + 1) * 2 ^ 52 := Nat.mul_le_mul_right _ (by omega)
    omega
  have h4 : (e + 1) * 2 ^ 52 + f < 2047 * 2 ^ 52 := by
    have : (e + 1) * 2 ^ 52 ≤ 2046 * 2 ^ 52 := Nat.mul_le_mul_right _ (by omega)
    omega
  rw [if_neg h3, if_pos h4]
  have h5 : ((e + 1) * 2 ^ 52 + f) % 2 ^ 52 = f := by rw [Nat.add_comm, Nat.add_mul_mod_self_right]; exact Nat.mod_eq_of_lt hf
  have h6 : ((e + 1) * 2 ^ 52 + f) / 2 ^ 52 - 1 = e := by rw [Nat.add_comm, Nat.add_mul_div_right _ _ (by decide), Nat.div_eq_of_lt hf]; omega
  rw [h5, h6]

/-- WHAT IS WRITTEN OF A WHOLE NUMBER BELOW 2^53 IS READ AS IT. -/
theorem nearest_whole (s : Bool) (mag a b N : Nat) (hN : N < 2 ^ 53) (h : mag * 2 ^ a = N * 2 ^ b) :
    ∃ (m k : Nat), double.read (double.nearest s mag ((a : Int) - b)) = .number s m (-1074 + k) ∧ m * 2 ^ k = N * U := by
  have hl : double.leastPlace = -1074 := by decide
  have hfb : (double.fractionBits : Int) = 52 := rfl
  have hb : double.binade = 2 ^ 52 := rfl
  have hs : double.signWeight = 2 ^ 63 := rfl
  have hi : double.infRung = 2047 * 2 ^ 52 := rfl
  by_cases hm : mag = 0
  · subst hm
    have hN0 : N = 0 := by
      rw [Nat.zero_mul] at h
      rcases Nat.mul_eq_zero.1 h.symm with h | h
      · exact h
      · have := pow_pos2 b; omega
    subst hN0
    refine ⟨0, 0, ?_, by rw [Nat.zero_mul, Nat.zero_mul]⟩
    unfold Format.nearest
    rw [if_pos rfl]
    cases s <;> rfl
  · have hN0 : N ≠ 0 := by
      rintro rfl
      rw [Nat.zero_mul] at h
      rcases Nat.mul_eq_zero.1 h with h | h
      · exact hm h
      · have := pow_pos2 a; omega
    have hlog : mag.log2 + a = N.log2 + b := by rw [← log2_mul hm, ← log2_mul hN0, h]
    have hL : N.log2 ≤ 52 := by have := (Nat.log2_lt hN0 (k := 53)).2 hN; omega
    obtain ⟨d, hd⟩ : ∃ d, N.log2 + d = 52 := ⟨52 - N.log2, by omega⟩
    have hd52 : d ≤ 52 := by omega
    have hlast : max ((a : Int) - b + (mag.log2 : Nat) - 52) (-1074) = -(d : Int) := by omega
    have hkept : ∃ f, f < 2 ^ 52 ∧ N * 2 ^ d = 2 ^ 52 + f := by
      have h1 : 2 ^ N.log2 ≤ N := Nat.log2_self_le hN0
      have h2 : N < 2 ^ (N.log2 + 1) := Nat.lt_log2_self
      have h3 : 2 ^ N.log2 * 2 ^ d ≤ N * 2 ^ d := Nat.mul_le_mul_right _ h1
      have h4 : N * 2 ^ d < 2 ^ (N.log2 + 1) * 2 ^ d := Nat.mul_lt_mul_of_pos_right h2 (pow_pos2 d)
      rw [← Nat.pow_add, hd] at h3
      rw [← Nat.pow_add, show N.log2 + 1 + d = 53 by omega] at h4
      exact ⟨N * 2 ^ d - 2 ^ 52, by omega, by omega⟩
    obtain ⟨f, hf, hK⟩ := hkept
    have hK0 : N * 2 ^ d ≠ 0 := by omega
    have hcut : Toward.even.cut s (mag <<< ((a : Int) - b - -(d : Int)).toNat) (-(d : Int) - ((a : Int) - b)).toNat = N * 2 ^ d := by
      by_cases hab : b ≤ a + d
      · obtain ⟨u, hu⟩ : ∃ u, a + d = b + u := ⟨a + d - b, by omega⟩
        have e1 : ((a : Int) - b - -(d : Int)).toNat = u := by omega
        have e2 : (-(d : Int) - ((a : Int) - b)).toNat = 0 := by omega
        have e3 : mag * 2 ^ u = N * 2 ^ d := by
          have : mag * 2 ^ u * 2 ^ b = N * 2 ^ d * 2 ^ b := by
            rw [Nat.mul_assoc, ← Nat.pow_add, Nat.add_comm u b, ← hu, Nat.pow_add, ← Nat.mul_assoc, h, Nat.mul_assoc, Nat.mul_assoc, Nat.mul_comm (2 ^ b)]
          exact Nat.mul_right_cancel (pow_pos2 b) this
        rw [e1, e2, Nat.shiftLeft_eq, e3]
        have := cut_whole s (N * 2 ^ d) 0 hK0
        simpa using this
      · obtain ⟨u, hu⟩ : ∃ u, b = a + d + u := ⟨b - (a + d), by omega⟩
        have e1 : ((a : Int) - b - -(d : Int)).toNat = 0 := by omega
        have e2 : (-(d : Int) - ((a : Int) - b)).toNat = u := by omega
        have e3 : mag = N * 2 ^ d * 2 ^ u := by
          have : mag * 2 ^ a = N * 2 ^ d * 2 ^ u * 2 ^ a := by
            rw [h, hu, Nat.mul_assoc, Nat.mul_assoc, ← Nat.pow_add, ← Nat.pow_add]; congr 2; omega
          exact Nat.mul_right_cancel (pow_pos2 a) this
        rw [e1, e2, Nat.shiftLeft_eq, e3]
        have := cut_whole s (N * 2 ^ d) u hK0
        simpa using this
    refine ⟨2 ^ 52 + f, 1074 - d, ?_, ?_⟩
    · unfold Format.nearest
      rw [if_neg hm]
      simp only [hl, hfb, hb, hi, hlast]
      rw [hcut, hK]
      have e4 : (-(d : Int) - -1074).toNat = 1074 - d := by omega
      rw [e4]
      have e5 : (1074 - d) * 2 ^ 52 + (2 ^ 52 + f) = (1074 - d + 1) * 2 ^ 52 + f := by rw [Nat.succ_mul]; omega
      have e6 : (1074 - d + 1) * 2 ^ 52 + f ≤ 2047 * 2 ^ 52 := rung_le (by omega) hf
      rw [e5, Nat.min_eq_left e6, read_word s (1074 - d) f (by omega) hf]
    · rw [← hK, Nat.mul_assoc, U_split (by omega)]

/-- A whole number as a word. -/
theorem is_float {n : Int} (h : n.natAbs < 2 ^ 53) : Is (floatOfInt .f64 n) n := by
  obtain ⟨m, k, h1, h2⟩ := nearest_whole (decide (n < 0)) n.natAbs 0 0 n.natAbs h rfl
  refine ⟨decide (n < 0), m, k, ?_, ?_⟩
  · exact h1
  · rw [signed_eq, h2]
    by_cases hn : n < 0
    · have : ((n.natAbs : Nat) : Int) = -n := by omega
      simp only [hn, decide_true, if_true, Int.natCast_mul, this]
      simp [Int.neg_mul]
    · have : ((n.natAbs : Nat) : Int) = n := by omega
      simp only [hn, decide_false, Int.natCast_mul, this]
      simp

theorem sgn_eq (s : Bool) (m k : Nat) (n : Int) (h : signed s m k = n * (U : Int)) : m * 2 ^ k = n.natAbs * U ∧ (n ≠ 0 → s = decide (n < 0)) := by
  rw [signed_eq] at h
  have hU := U_pos
  have h0 : (0 : Int) ≤ ((m * 2 ^ k : Nat) : Int) := Int.natCast_nonneg _
  constructor
  · have := congrArg Int.natAbs h
    rw [Int.natAbs_mul, Int.natAbs_mul, Int.natAbs_natCast, Int.natAbs_natCast] at this
    cases s <;> simpa using this
  · intro hn
    generalize ((m * 2 ^ k : Nat) : Int) = V at h h0
    have hU' : (0 : Int) < (U : Int) := by exact_mod_cast hU
    generalize (U : Int) = u at h hU'
    cases s
    · simp only [Bool.false_eq_true, if_false, Int.one_mul] at h
      have : ¬ n < 0 := fun hl => by have := Int.mul_neg_of_neg_of_pos hl hU'; omega
      simp [this]
    · simp only [if_true] at h
      have : n < 0 := by
        rcases Int.lt_trichotomy n 0 with hl | hl | hl
        · exact hl
        · exact absurd hl hn
        · have := Int.mul_pos hl hU'; omega
      simp [this]

theorem sgn_mk (s : Bool) (m k : Nat) (n : Int) (h : m * 2 ^ k = n.natAbs * U) (hs : n ≠ 0 → s = decide (n < 0)) : signed s m k = n * (U : Int) := by
  rw [signed_eq, h, Int.natCast_mul]
  by_cases hn : n = 0
  · subst hn; simp
  · have := hs hn
    subst this
    by_cases hl : n < 0
    · have e : ((n.natAbs : Nat) : Int) = -n := by omega
      simp only [hl, decide_true, if_true, e, ← Int.mul_assoc]; congr 1; omega
    · have e : ((n.natAbs : Nat) : Int) = n := by omega
      simp only [hl, decide_false, e, ← Int.mul_assoc]; simp

/-- What is written of a number that is whole stands for it. -/
theorem is_write (s : Bool) (mag a b : Nat) (n : Int) (place : Int) (hp : place = (a : Int) - b) (hn : n.natAbs < 2 ^ 53) (h : mag * 2 ^ a = n.natAbs * 2 ^ b) (hs : n ≠ 0 → s = decide (n < 0)) :
    Is (double.nearest s mag place) n := by
  subst hp
  obtain ⟨m, k, h1, h2⟩ := nearest_whole s mag a b n.natAbs hn h
  exact ⟨s, m, k, h1, sgn_mk s m k n h2 hs⟩

/-- (Kept from omega's eyes.) -/
def IsU (b : Nat) : Prop := U = two b
theorem U_pow : ∃ b : Nat, b = 1074 ∧ IsU b := ⟨1074, rfl, rfl⟩
theorem two_eq (b : Nat) : two b = 2 ^ b := rfl
theorem IsU.eq {b : Nat} (h : IsU b) : U = 2 ^ b := h.trans (two_eq b)

/-- Two, on one base. -/
theorem on_base (s t : Bool) (m n k l : Nat) : signed s m (k - min k l) * ((2 ^ min k l : Nat) : Int) = signed s m k ∧ signed t n (l - min k l) * ((2 ^ min k l : Nat) : Int) = signed t n l := by
  have aux : ∀ (s : Bool) (m k j : Nat), j ≤ k → signed s m (k - j) * ((2 ^ j : Nat) : Int) = signed s m k := by
    intro s m k j h
    rw [signed_eq, signed_eq, Int.mul_assoc, ← Int.natCast_mul, Nat.mul_assoc, ← Nat.pow_add, Nat.sub_add_cancel h]
  exact ⟨aux s m k _ (by omega), aux t n l _ (by omega)⟩

theorem sum_is {d e : Datum} {a b : Int} {s t : Bool} {m n k l : Nat} (hd : d = .number s m (-1074 + k)) (he : e = .number t n (-1074 + l)) (ha : signed s m k = a * (U : Int)) (hb : signed t n l = b * (U : Int)) (h : (a + b).natAbs < 2 ^ 53) :
    ∃ r, (d.sum e).map double.write = some r ∧ Is r (a + b) := by
  subst hd he
  refine ⟨_, rfl, ?_⟩
  obtain ⟨o1, o2⟩ := on_base s t m n k l
  have hbase : min (-1074 + (k : Int)) (-1074 + (l : Int)) = -1074 + ((min k l : Nat) : Int) := by omega
  have e1 : (-1074 + (k : Int) - (-1074 + ((min k l : Nat) : Int))).toNat = k - min k l := by omega
  have e2 : (-1074 + (l : Int) - (-1074 + ((min k l : Nat) : Int))).toNat = l - min k l := by omega
  obtain ⟨B, hB, hU⟩ := U_pow
  simp only [Format.write]
  rw [hbase, e1, e2]
  have tot : (signed s m (k - min k l) + signed t n (l - min k l)) * ((2 ^ min k l : Nat) : Int) = (a + b) * (U : Int) := by
    rw [Int.add_mul, o1, o2, ha, hb, Int.add_mul]
  generalize signed s m (k - min k l) + signed t n (l - min k l) = T at tot
  have hP : (0 : Int) < ((2 ^ min k l : Nat) : Int) := by exact_mod_cast pow_pos2 _
  have hUp : (0 : Int) < (U : Int) := by exact_mod_cast U_pos
  refine is_write _ _ (min k l) B (a + b) _ (by omega) h ?_ ?_
  · have := congrArg Int.natAbs tot
    rw [Int.natAbs_mul, Int.natAbs_mul, Int.natAbs_natCast, Int.natAbs_natCast] at this
    rw [this, hU.eq]
  · intro hn
    generalize ((2 ^ min k l : Nat) : Int) = P at tot hP
    generalize (U : Int) = u at tot hUp
    generalize a + b = c at tot hn
    have hT : T ≠ 0 := by rintro rfl; rw [Int.zero_mul] at tot; rcases Int.mul_eq_zero.1 tot.symm with h | h <;> omega
    rw [if_neg hT]
    rw [decide_eq_decide]
    constructor
    · intro hl
      have := Int.mul_neg_of_neg_of_pos hl hP
      rcases Int.lt_trichotomy c 0 with q | q | q
      · exact q
      · exact absurd q hn
      · have := Int.mul_pos q hUp; omega
    · intro hl
      have := Int.mul_neg_of_neg_of_pos hl hUp
      rcases Int.lt_trichotomy T 0 with q | q | q
      · exact q
      · exact absurd q hT
      · have := Int.mul_pos q hP; omega

theorem is_add {x y : Nat} {a b : Int} (hx : Is x a) (hy : Is y b) (h : (a + b).natAbs < 2 ^ 53) : ∃ r, floatBits .add .f64 x y = some r ∧ Is r (a + b) := by
  obtain ⟨s, m, k, h1, h2⟩ := hx
  obtain ⟨t, n, l, h3, h4⟩ := hy
  exact sum_is h1 h3 h2 h4 h

theorem signed_not (s : Bool) (m k : Nat) : signed (!s) m k = - signed s m k := by
  unfold signed; cases s <;> simp

theorem is_sub {x y : Nat} {a b : Int} (hx : Is x a) (hy : Is y b) (h : (a - b).natAbs < 2 ^ 53) : ∃ r, floatBits .sub .f64 x y = some r ∧ Is r (a - b) := by
  obtain ⟨s, m, k, h1, h2⟩ := hx
  obtain ⟨t, n, l, h3, h4⟩ := hy
  rw [Int.sub_eq_add_neg] at h ⊢
  refine sum_is (s := s) (t := !t) (m := m) (n := n) h1 ?_ h2 (by rw [signed_not, h4, Int.neg_mul]) h
  show (double.read y).opposite = _
  rw [h3]; rfl

theorem is_mul {x y : Nat} {a b : Int} (hx : Is x a) (hy : Is y b) (h : (a * b).natAbs < 2 ^ 53) : ∃ r, floatBits .mul .f64 x y = some r ∧ Is r (a * b) := by
  obtain ⟨s, m, k, h1, h2⟩ := hx
  obtain ⟨t, n, l, h3, h4⟩ := hy
  obtain ⟨B, hB, hU⟩ := U_pow
  obtain ⟨p1, p2⟩ := sgn_eq _ _ _ _ h2
  obtain ⟨p3, p4⟩ := sgn_eq _ _ _ _ h4
  refine ⟨double.nearest (s ^^ t) (m * n) (-1074 + (k : Int) + (-1074 + (l : Int))), ?_, ?_⟩
  · show ((double.read x).product (double.read y)).map double.write = _
    rw [h1, h3]; rfl
  · refine is_write _ _ (k + l) (B + B) (a * b) _ (by omega) h ?_ ?_
    · rw [Int.natAbs_mul, Nat.pow_add, Nat.pow_add, ← hU.eq]
      calc m * n * (2 ^ k * 2 ^ l) = (m * 2 ^ k) * (n * 2 ^ l) := by simp only [Nat.mul_left_comm, Nat.mul_assoc]
        _ = a.natAbs * U * (b.natAbs * U) := by rw [p1, p3]
        _ = a.natAbs * b.natAbs * (U * U) := by simp only [Nat.mul_left_comm, Nat.mul_comm, Nat.mul_assoc]
    · intro hn
      have ha : a ≠ 0 := by rintro rfl; simp at hn
      have hb : b ≠ 0 := by rintro rfl; simp at hn
      rw [p2 ha, p4 hb]
      by_cases l1 : a < 0 <;> by_cases l2 : b < 0
      · have := Int.mul_pos_of_neg_of_neg l1 l2
        have : ¬ a * b < 0 := by omega
        simp [l1, l2, this]
      · have := Int.mul_neg_of_neg_of_pos l1 (show 0 < b by omega)
        simp [l1, l2, this]
      · have := Int.mul_neg_of_pos_of_neg (show 0 < a by omega) l2
        simp [l1, l2, this]
      · have := Int.mul_pos (show 0 < a by omega) (show 0 < b by omega)
        have : ¬ a * b < 0 := by omega
        simp [l1, l2, this]

/-- How two words stand to each other. -/
theorem is_order {x y : Nat} {a b : Int} (hx : Is x a) (hy : Is y b) : FloatKind.f64.format.order x y = some (compare a b) := by
  obtain ⟨s, m, k, h1, h2⟩ := hx
  obtain ⟨t, n, l, h3, h4⟩ := hy
  show (double.read x).order (double.read y) = _
  rw [h1, h3]
  obtain ⟨o1, o2⟩ := on_base s t m n k l
  have hbase : min (-1074 + (k : Int)) (-1074 + (l : Int)) = -1074 + ((min k l : Nat) : Int) := by omega
  have e1 : (-1074 + (k : Int) - (-1074 + ((min k l : Nat) : Int))).toNat = k - min k l := by omega
  have e2 : (-1074 + (l : Int) - (-1074 + ((min k l : Nat) : Int))).toNat = l - min k l := by omega
  show some (compare _ _) = _
  rw [hbase, e1, e2]
  have hP : (0 : Int) < ((2 ^ min k l : Nat) : Int) := by exact_mod_cast pow_pos2 _
  have hUp : (0 : Int) < (U : Int) := by exact_mod_cast U_pos
  rw [h2] at o1
  rw [h4] at o2
  generalize signed s m (k - min k l) = X at o1
  generalize signed t n (l - min k l) = Y at o2
  generalize ((2 ^ min k l : Nat) : Int) = P at o1 o2 hP
  generalize (U : Int) = u at o1 o2 hUp
  have lt_iff : ∀ {X Y a b : Int}, X * P = a * u → Y * P = b * u → (X < Y ↔ a < b) := by
    intro X Y a b o1 o2
    rw [← Int.mul_lt_mul_right hP, o1, o2, Int.mul_lt_mul_right hUp]
  have q1 := lt_iff o1 o2
  have q2 := lt_iff o2 o1
  congr 1
  simp only [compare, compareOfLessAndEq]
  by_cases z : a < b
  · rw [if_pos z, if_pos (q1.2 z)]
  · rw [if_neg z, if_neg (fun q => z (q1.1 q))]
    by_cases z2 : a = b
    · rw [if_pos z2, if_pos (by omega)]
    · rw [if_neg z2, if_neg (by omega)]

theorem is_neg {x : Nat} {a : Int} (hx : Is x a) : Is (Op.negFloat .f64 x) (-a) := by
  obtain ⟨s, m, k, h1, h2⟩ := hx
  refine ⟨!s, m, k, ?_, by rw [signed_not, h2, Int.neg_mul]⟩
  have e : Op.negFloat .f64 x = x ^^^ 2 ^ 63 := rfl
  rw [e]
  have r1 : (x ^^^ 2 ^ 63) % 2 ^ 63 = x % 2 ^ 63 := by
    rw [Nat.xor_mod_two_pow, Nat.mod_self, Nat.xor_zero]
  have r2 : (x ^^^ 2 ^ 63) / 2 ^ 63 % 2 = 1 - x / 2 ^ 63 % 2 := by
    rw [Nat.xor_div_two_pow, Nat.div_self (by decide)]
    generalize x / 2 ^ 63 = q
    have := Nat.xor_mod_two_pow (a := q) (b := 1) (n := 1)
    simp only [Nat.pow_one] at this
    rw [this]
    rcases Nat.mod_two_eq_zero_or_one q with h | h <;> rw [h] <;> decide
  unfold Format.read at h1 ⊢
  have hs : double.signWeight = 2 ^ 63 := rfl
  simp only [hs] at h1 ⊢
  rw [r1, r2]
  have r3 : (1 - x / 2 ^ 63 % 2 == 1) = !(x / 2 ^ 63 % 2 == 1) := by
    rcases Nat.mod_two_eq_zero_or_one (x / 2 ^ 63) with h | h <;> rw [h] <;> decide
  rw [r3]
  generalize (x / 2 ^ 63 % 2 == 1) = bb at h1 ⊢
  revert h1
  split
  · intro h; injection h with h5 h6 h7; rw [h5, h6, h7]
  · split
    · intro h; injection h with h5 h6 h7; rw [h5, h6, h7]
    · split
      · intro h; cases h
      · intro h; cases h

/-- The number that a word stands for. -/
theorem is_int {x : Nat} {a : Int} (hx : Is x a) (h : a.natAbs < 2 ^ 63) : floatToIntVal .f64 x .i64 = some a := by
  obtain ⟨s, m, k, h1, h2⟩ := hx
  obtain ⟨B, hB, hU⟩ := U_pow
  obtain ⟨p1, p2⟩ := sgn_eq _ _ _ _ h2
  have hc : Toward.zero.cut s (m <<< (-1074 + (k : Int)).toNat) (-(-1074 + (k : Int))).toNat = a.natAbs := by
    by_cases hk : B ≤ k
    · obtain ⟨u, hu⟩ : ∃ u, k = B + u := ⟨k - B, by omega⟩
      have e1 : (-1074 + (k : Int)).toNat = u := by omega
      have e2 : (-(-1074 + (k : Int))).toNat = 0 := by omega
      have e3 : m * 2 ^ u = a.natAbs := by
        have : m * 2 ^ u * 2 ^ B = a.natAbs * 2 ^ B := by rw [← hU.eq, ← p1, hu, Nat.add_comm B u, Nat.pow_add, ← hU.eq, Nat.mul_assoc]
        exact Nat.mul_right_cancel (pow_pos2 B) this
      rw [e1, e2, Nat.shiftLeft_eq, e3]
      simp [Toward.cut]
    · obtain ⟨u, hu⟩ : ∃ u, B = k + u := ⟨B - k, by omega⟩
      have e1 : (-1074 + (k : Int)).toNat = 0 := by omega
      have e2 : (-(-1074 + (k : Int))).toNat = u := by omega
      have e3 : m = a.natAbs * 2 ^ u := by
        have : m * 2 ^ k = a.natAbs * 2 ^ u * 2 ^ k := by rw [p1, hU.eq, hu, Nat.add_comm k u, Nat.pow_add, Nat.mul_assoc]
        exact Nat.mul_right_cancel (pow_pos2 k) this
      rw [e1, e2, Nat.shiftLeft_eq, Nat.pow_zero, Nat.mul_one, e3]
      by_cases ha : a.natAbs = 0
      · rw [ha]; simp [Toward.cut]
      · have hl : (a.natAbs * 2 ^ u).log2 = a.natAbs.log2 + u := log2_mul ha u
        unfold Toward.cut
        have h1 : min u ((a.natAbs * 2 ^ u).log2 + 2) = u := by rw [hl]; omega
        simp only [h1]
        rw [Nat.shiftLeft_eq, Nat.one_mul, Nat.mul_div_cancel _ (pow_pos2 u)]
        simp
  have hs0 : signed s a.natAbs 0 = a := by
    rw [signed_eq]
    by_cases hn : a = 0
    · subst hn; simp
    · rw [p2 hn]
      by_cases hl : a < 0
      · simp only [hl, decide_true, if_true]; omega
      · simp only [hl, decide_false]; simp; omega
  unfold floatToIntVal
  have : (FloatKind.f64.decode x).toInt .zero = some a := by
    show (double.read x).toInt .zero = _
    rw [h1]
    show some (signed s (Toward.zero.cut s _ _) 0) = _
    rw [hc, hs0]
  rw [this]
  have mn : IntKind.i64.min = -9223372036854775808 := by decide
  have mx : IntKind.i64.max = 9223372036854775807 := by decide
  have : IntKind.i64.min ≤ a ∧ a ≤ IntKind.i64.max := by rw [mn, mx]; omega
  simp only [this, and_self, if_true]
end M
end Go.Proofs.Ytgkogklbeclkgaa
