/-
  What Add, Sub and Mul of package num, and the document's, answer: for every two ints.
-/
import Derived.Test.YtamikhffclbbcaaDoorProg
import Derived.WalkKit
import Derived.WalkSpells
import Derived.WalkLawsBesides
import Derived.Test.YtamikhffclbbcaaDoorMath
namespace Go.Proofs.YtamikhffclbbcaaDoor
open Go.RowKit

set_option maxHeartbeats 400000 in
theorem add_any (a b : Int) (w : World) (ha0 : -9223372036854775808 ≤ a) (ha1 : a ≤ 9223372036854775807) (hb0 : -9223372036854775808 ≤ b) (hb1 : b ≤ 9223372036854775807) :
    Calls Tryd.prog 14 #[.int .i64 a, .int .i64 b] w fun e w' => e = .returned (.tuple #[.int .i64 (cutI (a + b)), .bool (inI (a + b))]) ∧ w' = w := by
  by_cases hi : inI (a + b) = true
  · have hi2 := (inI_iff _).1 hi
    rw [cutI_in hi, hi]
    by_cases hb : b < 0
    · have hd : decide (a + b < a) = true := by simp; omega
      go_enter Tryd.func14, Tryd.ntmps14
      go_wp2
      go_ret2
      exact ⟨rfl, rfl⟩
    · have hd : decide (a + b < a) = false := by simp; omega
      go_enter Tryd.func14, Tryd.ntmps14
      go_wp2
      go_ret2
      exact ⟨rfl, rfl⟩
  · have hi1 : inI (a + b) = false := by simpa using hi
    have hi2 := (inI_false _).1 hi1
    rw [cutI_out hi1, hi1]
    by_cases hb : b < 0
    · have hd : decide (wrap64 (a + b) < a) = false := by unfold wrap64; simp; omega
      clear hi hi1 hi2
      go_enter Tryd.func14, Tryd.ntmps14
      go_wp2
      go_ret2
      exact ⟨rfl, rfl⟩
    · have hd : decide (wrap64 (a + b) < a) = true := by unfold wrap64; simp; omega
      clear hi hi1 hi2
      go_enter Tryd.func14, Tryd.ntmps14
      go_wp2
      go_ret2
      exact ⟨rfl, rfl⟩

set_option maxHeartbeats 400000 in
theorem sub_any (a b : Int) (w : World) (ha0 : -9223372036854775808 ≤ a) (ha1 : a ≤ 9223372036854775807) (hb0 : -9223372036854775808 ≤ b) (hb1 : b ≤ 9223372036854775807) :
    Calls Tryd.prog 16 #[.int .i64 a, .int .i64 b] w fun e w' => e = .returned (.tuple #[.int .i64 (cutI (a - b)), .bool (inI (a - b))]) ∧ w' = w := by
  by_cases hi : inI (a - b) = true
  · have hi2 := (inI_iff _).1 hi
    rw [cutI_in hi, hi]
    by_cases hb : b < 0
    · have hd : decide (a < a - b) = true := by simp; omega
      go_enter Tryd.func16, Tryd.ntmps16
      go_wp2
      go_ret2
      exact ⟨rfl, rfl⟩
    · have hd : decide (a < a - b) = false := by simp; omega
      go_enter Tryd.func16, Tryd.ntmps16
      go_wp2
      go_ret2
      exact ⟨rfl, rfl⟩
  · have hi1 : inI (a - b) = false := by simpa using hi
    have hi2 := (inI_false _).1 hi1
    rw [cutI_out hi1, hi1]
    by_cases hb : b < 0
    · have hd : decide (a < wrap64 (a - b)) = false := by unfold wrap64; simp; omega
      clear hi hi1 hi2
      go_enter Tryd.func16, Tryd.ntmps16
      go_wp2
      go_ret2
      exact ⟨rfl, rfl⟩
    · have hd : decide (a < wrap64 (a - b)) = true := by unfold wrap64; simp; omega
      clear hi hi1 hi2
      go_enter Tryd.func16, Tryd.ntmps16
      go_wp2
      go_ret2
      exact ⟨rfl, rfl⟩

set_option maxHeartbeats 400000 in
theorem refAdd_any (a b : Int) (w : World) (ha0 : -9223372036854775808 ≤ a) (ha1 : a ≤ 9223372036854775807) (hb0 : -9223372036854775808 ≤ b) (hb1 : b ≤ 9223372036854775807) :
    Calls Tryd.prog 15 #[.int .i64 a, .int .i64 b] w fun e w' => e = .returned (.tuple #[.int .i64 (cutI (a + b)), .bool (inI (a + b))]) ∧ w' = w := by
  by_cases hi : inI (a + b) = true
  · have hi2 := (inI_iff _).1 hi
    rw [cutI_in hi, hi]
    rcases Int.lt_trichotomy b 0 with hb | hb | hb
    · have h1 : ¬ 0 < b := by omega
      have h2 : ¬ a < -9223372036854775808 - b := by omega
      go_enter Tryd.func15, Tryd.ntmps15
      go_wp2
      go_ret2
      exact ⟨rfl, rfl⟩
    · subst hb
      rw [Int.add_zero]
      go_enter Tryd.func15, Tryd.ntmps15
      go_wp2
      go_ret2
      exact ⟨rfl, rfl⟩
    · have h1 : ¬ b < 0 := by omega
      have h2 : ¬ 9223372036854775807 - b < a := by omega
      go_enter Tryd.func15, Tryd.ntmps15
      go_wp2
      go_ret2
      exact ⟨rfl, rfl⟩
  · have hi1 : inI (a + b) = false := by simpa using hi
    have hi2 := (inI_false _).1 hi1
    rw [cutI_out hi1, hi1]
    by_cases hb : b < 0
    · have h1 : ¬ 0 < b := by omega
      have h2 : a < -9223372036854775808 - b := by omega
      clear hi hi1 hi2
      go_enter Tryd.func15, Tryd.ntmps15
      go_wp2
      go_ret2
      exact ⟨rfl, rfl⟩
    · have h1 : 0 < b := by omega
      have h2 : 9223372036854775807 - b < a := by omega
      clear hi hi1 hi2
      go_enter Tryd.func15, Tryd.ntmps15
      go_wp2
      go_ret2
      exact ⟨rfl, rfl⟩

set_option maxHeartbeats 400000 in
theorem refSub_any (a b : Int) (w : World) (ha0 : -9223372036854775808 ≤ a) (ha1 : a ≤ 9223372036854775807) (hb0 : -9223372036854775808 ≤ b) (hb1 : b ≤ 9223372036854775807) :
    Calls Tryd.prog 17 #[.int .i64 a, .int .i64 b] w fun e w' => e = .returned (.tuple #[.int .i64 (cutI (a - b)), .bool (inI (a - b))]) ∧ w' = w := by
  by_cases hi : inI (a - b) = true
  · have hi2 := (inI_iff _).1 hi
    rw [cutI_in hi, hi]
    rcases Int.lt_trichotomy b 0 with hb | hb | hb
    · have h1 : ¬ 0 < b := by omega
      have h2 : ¬ 9223372036854775807 + b < a := by omega
      go_enter Tryd.func17, Tryd.ntmps17
      go_wp2
      go_ret2
      exact ⟨rfl, rfl⟩
    · subst hb
      rw [Int.sub_zero]
      go_enter Tryd.func17, Tryd.ntmps17
      go_wp2
      go_ret2
      exact ⟨rfl, rfl⟩
    · have h1 : ¬ b < 0 := by omega
      have h2 : ¬ a < -9223372036854775808 + b := by omega
      go_enter Tryd.func17, Tryd.ntmps17
      go_wp2
      go_ret2
      exact ⟨rfl, rfl⟩
  · have hi1 : inI (a - b) = false := by simpa using hi
    have hi2 := (inI_false _).1 hi1
    rw [cutI_out hi1, hi1]
    by_cases hb : b < 0
    · have h1 : ¬ 0 < b := by omega
      have h2 : 9223372036854775807 + b < a := by omega
      clear hi hi1 hi2
      go_enter Tryd.func17, Tryd.ntmps17
      go_wp2
      go_ret2
      exact ⟨rfl, rfl⟩
    · have h1 : 0 < b := by omega
      have h2 : a < -9223372036854775808 + b := by omega
      clear hi hi1 hi2
      go_enter Tryd.func17, Tryd.ntmps17
      go_wp2
      go_ret2
      exact ⟨rfl, rfl⟩

set_option maxHeartbeats 400000 in
theorem mul_any (a b : Int) (w : World) (ha0 : -9223372036854775808 ≤ a) (ha1 : a ≤ 9223372036854775807) (hb0 : -9223372036854775808 ≤ b) (hb1 : b ≤ 9223372036854775807) :
    Calls Tryd.prog 18 #[.int .i64 a, .int .i64 b] w fun e w' => e = .returned (.tuple #[.int .i64 (cutI (a * b)), .bool (inI (a * b))]) ∧ w' = w := by
  by_cases hb : b = 0
  · subst hb
    rw [Int.mul_zero, show cutI 0 = 0 by decide, show inI 0 = true by decide]
    go_enter Tryd.func18, Tryd.ntmps18
    go_wp2
    go_ret2
    exact ⟨rfl, rfl⟩
  by_cases hm : a = -9223372036854775808 ∧ b = -1
  · obtain ⟨rfl, rfl⟩ := hm
    rw [show cutI (-9223372036854775808 * -1) = 0 by decide, show inI (-9223372036854775808 * -1) = false by decide]
    go_enter Tryd.func18, Tryd.ntmps18
    go_wp2
    go_ret2
    exact ⟨rfl, rfl⟩
  have hback := mul_back a b ha0 ha1 hb0 hb1 hb hm
  have hmm : (a == -9223372036854775808) = true → (b == -1) = false := by simp; exact fun e1 e2 => hm ⟨e1, e2⟩
  by_cases hi : inI (a * b) = true
  · have hi2 := (inI_iff _).1 hi
    have e : cutI (a * b) = wrap64 (a * b) := by rw [cutI_in hi, wrap64_id hi2.1 hi2.2]
    have hq2 : (wrap64 ((wrap64 (a * b)).tdiv b) != a) = false := by simp [hback.2 hi]
    rw [e, hi]
    clear e hback hi hi2 hm
    by_cases ha : (a == -9223372036854775808) = true
    · have hbm := hmm ha
      clear hmm
      go_enter Tryd.func18, Tryd.ntmps18
      go_wp2
      go_ret2
      exact ⟨rfl, rfl⟩
    · have ha' : (a == -9223372036854775808) = false := by simpa using ha
      clear hmm
      go_enter Tryd.func18, Tryd.ntmps18
      go_wp2
      go_ret2
      exact ⟨rfl, rfl⟩
  · have hi1 : inI (a * b) = false := by simpa using hi
    have hq2 : (wrap64 ((wrap64 (a * b)).tdiv b) != a) = true := by simp; exact fun h => hi (hback.1 h)
    rw [cutI_out hi1, hi1]
    clear hback hi hi1 hm
    by_cases ha : (a == -9223372036854775808) = true
    · have hbm := hmm ha
      clear hmm
      go_enter Tryd.func18, Tryd.ntmps18
      go_wp2
      go_ret2
      exact ⟨rfl, rfl⟩
    · have ha' : (a == -9223372036854775808) = false := by simpa using ha
      clear hmm
      go_enter Tryd.func18, Tryd.ntmps18
      go_wp2
      go_ret2
      exact ⟨rfl, rfl⟩

set_option maxHeartbeats 400000 in
theorem refMul_any (a b : Int) (w : World) (ha0 : -9223372036854775808 ≤ a) (ha1 : a ≤ 9223372036854775807) (hb0 : -9223372036854775808 ≤ b) (hb1 : b ≤ 9223372036854775807) :
    Calls Tryd.prog 19 #[.int .i64 a, .int .i64 b] w fun e w' => e = .returned (.tuple #[.int .i64 (cutI (a * b)), .bool (inI (a * b))]) ∧ w' = w := by
  by_cases az : a = 0
  · subst az
    rw [Int.zero_mul, show cutI 0 = 0 by decide, show inI 0 = true by decide]
    go_enter Tryd.func19, Tryd.ntmps19
    go_wp2
    go_ret2
    exact ⟨rfl, rfl⟩
  have z1 : (a == 0) = false := by simpa using az
  by_cases bz : b = 0
  · subst bz
    rw [Int.mul_zero, show cutI 0 = 0 by decide, show inI 0 = true by decide]
    go_enter Tryd.func19, Tryd.ntmps19
    go_wp2
    go_ret2
    exact ⟨rfl, rfl⟩
  have z2 : (b == 0) = false := by simpa using bz
  by_cases hi : inI (a * b) = true
  · rw [cutI_wrap hi, hi]
    have hn : ¬ inI (a * b) = false := by simp [hi]
    by_cases ha : a < 0
    · have k1 : ¬ 0 < a := by omega
      by_cases hb : b < 0
      · have k2 : ¬ 0 < b := by omega
        have h := Int.not_lt.1 fun h => hn ((ref_nn a b ha hb).1 h)
        have l1 : (a == -9223372036854775808) = false := by simp; exact fun e => hn (least_nn a b ha hb (.inl e))
        have l2 : (b == -9223372036854775808) = false := by simp; exact fun e => hn (least_nn a b ha hb (.inr e))
        have n1 : -9223372036854775807 ≤ a := by simp at l1; omega
        have n2 : -9223372036854775807 ≤ b := by simp at l2; omega
        clear hi hn
        go_enter Tryd.func19, Tryd.ntmps19
        go_wp2
        go_ret2
        exact ⟨rfl, rfl⟩
      · have k2 : 0 < b := by omega
        have h := Int.not_lt.1 fun h => hn ((ref_np a b ha k2).1 h)
        clear hi hn
        go_enter Tryd.func19, Tryd.ntmps19
        go_wp2
        go_ret2
        exact ⟨rfl, rfl⟩
    · have k1 : 0 < a := by omega
      by_cases hb : b < 0
      · have k2 : ¬ 0 < b := by omega
        have h := Int.not_lt.1 fun h => hn ((ref_pn a b k1 hb).1 h)
        clear hi hn
        go_enter Tryd.func19, Tryd.ntmps19
        go_wp2
        go_ret2
        exact ⟨rfl, rfl⟩
      · have k2 : 0 < b := by omega
        have h := Int.not_lt.1 fun h => hn ((ref_pp a b k1 k2).1 h)
        clear hi hn
        go_enter Tryd.func19, Tryd.ntmps19
        go_wp2
        go_ret2
        exact ⟨rfl, rfl⟩
  · have hn : inI (a * b) = false := by simpa using hi
    rw [cutI_out hn, hn]
    by_cases ha : a < 0
    · have k1 : ¬ 0 < a := by omega
      by_cases hb : b < 0
      · have k2 : ¬ 0 < b := by omega
        have h := (ref_nn a b ha hb).2 hn
        clear hi hn
        by_cases l1 : (a == -9223372036854775808) = true
        · go_enter Tryd.func19, Tryd.ntmps19
          go_wp2
          go_ret2
          exact ⟨rfl, rfl⟩
        have l1' : (a == -9223372036854775808) = false := by simpa using l1
        by_cases l2 : (b == -9223372036854775808) = true
        · go_enter Tryd.func19, Tryd.ntmps19
          go_wp2
          go_ret2
          exact ⟨rfl, rfl⟩
        have l2' : (b == -9223372036854775808) = false := by simpa using l2
        have n1 : -9223372036854775807 ≤ a := by simp at l1; omega
        have n2 : -9223372036854775807 ≤ b := by simp at l2; omega
        clear l1 l2
        go_enter Tryd.func19, Tryd.ntmps19
        go_wp2
        go_ret2
        exact ⟨rfl, rfl⟩
      · have k2 : 0 < b := by omega
        have h := (ref_np a b ha k2).2 hn
        clear hi hn
        go_enter Tryd.func19, Tryd.ntmps19
        go_wp2
        go_ret2
        exact ⟨rfl, rfl⟩
    · have k1 : 0 < a := by omega
      by_cases hb : b < 0
      · have k2 : ¬ 0 < b := by omega
        have h := (ref_pn a b k1 hb).2 hn
        clear hi hn
        go_enter Tryd.func19, Tryd.ntmps19
        go_wp2
        go_ret2
        exact ⟨rfl, rfl⟩
      · have k2 : 0 < b := by omega
        have h := (ref_pp a b k1 k2).2 hn
        clear hi hn
        go_enter Tryd.func19, Tryd.ntmps19
        go_wp2
        go_ret2
        exact ⟨rfl, rfl⟩

end Go.Proofs.YtamikhffclbbcaaDoor
