/-
  What Double of package num, and the document's, answer: for every three ints: base doubled n times, at most so much.
-/
import Derived.Test.YtamikhffclbbcaaDoorProg
import Derived.WalkKit
import Derived.WalkSpells
import Derived.WalkLawsBesides
import Derived.Test.YtamikhffclbbcaaDoorMath
namespace Go.Proofs.YtamikhffclbbcaaDoor
open Go.RowKit

theorem ret_int {k : IntKind} {a b : Int} (h : a = b) : Ending.returned (.int k a) = .returned (.int k b) := by rw [h]

set_option maxHeartbeats 1000000 in
theorem double_any (b n m : Int) (w : World) (hb0 : -9223372036854775808 ≤ b) (hb1 : b ≤ 9223372036854775807) (hn0 : -9223372036854775808 ≤ n) (hn1 : n ≤ 9223372036854775807) (hm0 : -9223372036854775808 ≤ m) (hm1 : m ≤ 9223372036854775807) :
    Calls Tryd.prog 24 #[.int .i64 b, .int .i64 n, .int .i64 m] w fun e w' => e = .returned (.int .i64 (dbl (max b 0) (max n 0).toNat (max m 0))) ∧ w' = w := by
  generalize HR0 : dbl (max b 0) (max n 0).toNat (max m 0) = R
  by_cases cb : b < 0
  · rw [show max b 0 = 0 by omega] at HR0
    by_cases cn : n < 0
    · rw [show (max n 0).toNat = 0 by omega] at HR0
      by_cases cm : m < 0
      · rw [show max m 0 = 0 by omega] at HR0
        have HR : Hid (dbl 0 0 0 = R) := HR0
        clear HR0
        go_enter Tryd.func24, Tryd.ntmps24
        go_wp2
        go_loop [0, 1] (fun s t => ∃ (x : Int) (k : Nat), s = .int .i64 x ∧ t = .int .i64 k ∧ 0 ≤ x ∧ x ≤ 9223372036854775807 ∧ (k : Int) ≤ 9223372036854775807 ∧ Hid (dbl x k 0 = R)) (fun _ t => (intOf t).toNat)
        case atStart => exact ⟨_, 0, rfl, rfl, by omega, by omega, by omega, HR⟩
        case round =>
          obtain ⟨x, k, rfl, rfl, hx0, hx1, hk1, hr⟩ := hrel
          by_cases hc : 0 < k ∧ 0 < x ∧ x < 0
          · exact absurd hc (by omega)
          · have hd : dbl x k 0 = min x 0 := end_stop x k 0 hx0 (by omega) hc
            have HD : Hid (min x 0 = R) := by rw [← hd]; exact hr
            clear hd hr
            by_cases c1 : 0 < k
            · by_cases c2 : 0 < x
              · have c3 : ¬ x < 0 := fun h => hc ⟨c1, c2, h⟩
                clear hc
                go_wp2
                all_goals go_ret
                all_goals exact ⟨ret_int (by rw [← HD.out]; omega), rfl⟩
              · clear hc
                go_wp2
                all_goals go_ret
                all_goals exact ⟨ret_int (by rw [← HD.out]; omega), rfl⟩
            · clear hc
              go_wp2
              all_goals go_ret
              all_goals exact ⟨ret_int (by rw [← HD.out]; omega), rfl⟩
      · rw [show max m 0 = m by omega] at HR0
        have HR : Hid (dbl 0 0 m = R) := HR0
        clear HR0
        go_enter Tryd.func24, Tryd.ntmps24
        go_wp2
        go_loop [0, 1] (fun s t => ∃ (x : Int) (k : Nat), s = .int .i64 x ∧ t = .int .i64 k ∧ 0 ≤ x ∧ x ≤ 9223372036854775807 ∧ (k : Int) ≤ 9223372036854775807 ∧ Hid (dbl x k m = R)) (fun _ t => (intOf t).toNat)
        case atStart => exact ⟨_, 0, rfl, rfl, by omega, by omega, by omega, HR⟩
        case round =>
          obtain ⟨x, k, rfl, rfl, hx0, hx1, hk1, hr⟩ := hrel
          by_cases hc : 0 < k ∧ 0 < x ∧ x < m
          · obtain ⟨c1, c2, c3⟩ := hc
            by_cases h2 : m - x < x
            · go_wp2
              go_ret
              exact ⟨ret_int (end_over x k m R hx0 c1 (by omega) hr), rfl⟩
            · go_wp2
              go_round
              case rel => exact ⟨x + x, k - 1, rfl, by rw [show ((k - 1 : Nat) : Int) = (k : Int) - 1 by omega], by omega, by omega, by omega, end_step x k m R c1 hr⟩
              case measure => simp [intOf]; omega
          · have hd : dbl x k m = min x m := end_stop x k m hx0 (by omega) hc
            have HD : Hid (min x m = R) := by rw [← hd]; exact hr
            clear hd hr
            by_cases c1 : 0 < k
            · by_cases c2 : 0 < x
              · have c3 : ¬ x < m := fun h => hc ⟨c1, c2, h⟩
                clear hc
                go_wp2
                all_goals go_ret
                all_goals exact ⟨ret_int (by rw [← HD.out]; omega), rfl⟩
              · clear hc
                go_wp2
                all_goals go_ret
                all_goals exact ⟨ret_int (by rw [← HD.out]; omega), rfl⟩
            · clear hc
              go_wp2
              all_goals go_ret
              all_goals exact ⟨ret_int (by rw [← HD.out]; omega), rfl⟩
    · rw [show (max n 0).toNat = n.toNat by omega] at HR0
      by_cases cm : m < 0
      · rw [show max m 0 = 0 by omega] at HR0
        have HR : Hid (dbl 0 n.toNat 0 = R) := HR0
        clear HR0
        go_enter Tryd.func24, Tryd.ntmps24
        go_wp2
        go_loop [0, 1] (fun s t => ∃ (x : Int) (k : Nat), s = .int .i64 x ∧ t = .int .i64 k ∧ 0 ≤ x ∧ x ≤ 9223372036854775807 ∧ (k : Int) ≤ 9223372036854775807 ∧ Hid (dbl x k 0 = R)) (fun _ t => (intOf t).toNat)
        case atStart => exact ⟨_, n.toNat, rfl, by rw [Int.toNat_of_nonneg (by omega)], by omega, by omega, by omega, HR⟩
        case round =>
          obtain ⟨x, k, rfl, rfl, hx0, hx1, hk1, hr⟩ := hrel
          by_cases hc : 0 < k ∧ 0 < x ∧ x < 0
          · exact absurd hc (by omega)
          · have hd : dbl x k 0 = min x 0 := end_stop x k 0 hx0 (by omega) hc
            have HD : Hid (min x 0 = R) := by rw [← hd]; exact hr
            clear hd hr
            by_cases c1 : 0 < k
            · by_cases c2 : 0 < x
              · have c3 : ¬ x < 0 := fun h => hc ⟨c1, c2, h⟩
                clear hc
                go_wp2
                all_goals go_ret
                all_goals exact ⟨ret_int (by rw [← HD.out]; omega), rfl⟩
              · clear hc
                go_wp2
                all_goals go_ret
                all_goals exact ⟨ret_int (by rw [← HD.out]; omega), rfl⟩
            · clear hc
              go_wp2
              all_goals go_ret
              all_goals exact ⟨ret_int (by rw [← HD.out]; omega), rfl⟩
      · rw [show max m 0 = m by omega] at HR0
        have HR : Hid (dbl 0 n.toNat m = R) := HR0
        clear HR0
        go_enter Tryd.func24, Tryd.ntmps24
        go_wp2
        go_loop [0, 1] (fun s t => ∃ (x : Int) (k : Nat), s = .int .i64 x ∧ t = .int .i64 k ∧ 0 ≤ x ∧ x ≤ 9223372036854775807 ∧ (k : Int) ≤ 9223372036854775807 ∧ Hid (dbl x k m = R)) (fun _ t => (intOf t).toNat)
        case atStart => exact ⟨_, n.toNat, rfl, by rw [Int.toNat_of_nonneg (by omega)], by omega, by omega, by omega, HR⟩
        case round =>
          obtain ⟨x, k, rfl, rfl, hx0, hx1, hk1, hr⟩ := hrel
          by_cases hc : 0 < k ∧ 0 < x ∧ x < m
          · obtain ⟨c1, c2, c3⟩ := hc
            by_cases h2 : m - x < x
            · go_wp2
              go_ret
              exact ⟨ret_int (end_over x k m R hx0 c1 (by omega) hr), rfl⟩
            · go_wp2
              go_round
              case rel => exact ⟨x + x, k - 1, rfl, by rw [show ((k - 1 : Nat) : Int) = (k : Int) - 1 by omega], by omega, by omega, by omega, end_step x k m R c1 hr⟩
              case measure => simp [intOf]; omega
          · have hd : dbl x k m = min x m := end_stop x k m hx0 (by omega) hc
            have HD : Hid (min x m = R) := by rw [← hd]; exact hr
            clear hd hr
            by_cases c1 : 0 < k
            · by_cases c2 : 0 < x
              · have c3 : ¬ x < m := fun h => hc ⟨c1, c2, h⟩
                clear hc
                go_wp2
                all_goals go_ret
                all_goals exact ⟨ret_int (by rw [← HD.out]; omega), rfl⟩
              · clear hc
                go_wp2
                all_goals go_ret
                all_goals exact ⟨ret_int (by rw [← HD.out]; omega), rfl⟩
            · clear hc
              go_wp2
              all_goals go_ret
              all_goals exact ⟨ret_int (by rw [← HD.out]; omega), rfl⟩
  · rw [show max b 0 = b by omega] at HR0
    by_cases cn : n < 0
    · rw [show (max n 0).toNat = 0 by omega] at HR0
      by_cases cm : m < 0
      · rw [show max m 0 = 0 by omega] at HR0
        have HR : Hid (dbl b 0 0 = R) := HR0
        clear HR0
        go_enter Tryd.func24, Tryd.ntmps24
        go_wp2
        go_loop [0, 1] (fun s t => ∃ (x : Int) (k : Nat), s = .int .i64 x ∧ t = .int .i64 k ∧ 0 ≤ x ∧ x ≤ 9223372036854775807 ∧ (k : Int) ≤ 9223372036854775807 ∧ Hid (dbl x k 0 = R)) (fun _ t => (intOf t).toNat)
        case atStart => exact ⟨_, 0, rfl, rfl, by omega, by omega, by omega, HR⟩
        case round =>
          obtain ⟨x, k, rfl, rfl, hx0, hx1, hk1, hr⟩ := hrel
          by_cases hc : 0 < k ∧ 0 < x ∧ x < 0
          · exact absurd hc (by omega)
          · have hd : dbl x k 0 = min x 0 := end_stop x k 0 hx0 (by omega) hc
            have HD : Hid (min x 0 = R) := by rw [← hd]; exact hr
            clear hd hr
            by_cases c1 : 0 < k
            · by_cases c2 : 0 < x
              · have c3 : ¬ x < 0 := fun h => hc ⟨c1, c2, h⟩
                clear hc
                go_wp2
                all_goals go_ret
                all_goals exact ⟨ret_int (by rw [← HD.out]; omega), rfl⟩
              · clear hc
                go_wp2
                all_goals go_ret
                all_goals exact ⟨ret_int (by rw [← HD.out]; omega), rfl⟩
            · clear hc
              go_wp2
              all_goals go_ret
              all_goals exact ⟨ret_int (by rw [← HD.out]; omega), rfl⟩
      · rw [show max m 0 = m by omega] at HR0
        have HR : Hid (dbl b 0 m = R) := HR0
        clear HR0
        go_enter Tryd.func24, Tryd.ntmps24
        go_wp2
        go_loop [0, 1] (fun s t => ∃ (x : Int) (k : Nat), s = .int .i64 x ∧ t = .int .i64 k ∧ 0 ≤ x ∧ x ≤ 9223372036854775807 ∧ (k : Int) ≤ 9223372036854775807 ∧ Hid (dbl x k m = R)) (fun _ t => (intOf t).toNat)
        case atStart => exact ⟨_, 0, rfl, rfl, by omega, by omega, by omega, HR⟩
        case round =>
          obtain ⟨x, k, rfl, rfl, hx0, hx1, hk1, hr⟩ := hrel
          by_cases hc : 0 < k ∧ 0 < x ∧ x < m
          · obtain ⟨c1, c2, c3⟩ := hc
            by_cases h2 : m - x < x
            · go_wp2
              go_ret
              exact ⟨ret_int (end_over x k m R hx0 c1 (by omega) hr), rfl⟩
            · go_wp2
              go_round
              case rel => exact ⟨x + x, k - 1, rfl, by rw [show ((k - 1 : Nat) : Int) = (k : Int) - 1 by omega], by omega, by omega, by omega, end_step x k m R c1 hr⟩
              case measure => simp [intOf]; omega
          · have hd : dbl x k m = min x m := end_stop x k m hx0 (by omega) hc
            have HD : Hid (min x m = R) := by rw [← hd]; exact hr
            clear hd hr
            by_cases c1 : 0 < k
            · by_cases c2 : 0 < x
              · have c3 : ¬ x < m := fun h => hc ⟨c1, c2, h⟩
                clear hc
                go_wp2
                all_goals go_ret
                all_goals exact ⟨ret_int (by rw [← HD.out]; omega), rfl⟩
              · clear hc
                go_wp2
                all_goals go_ret
                all_goals exact ⟨ret_int (by rw [← HD.out]; omega), rfl⟩
            · clear hc
              go_wp2
              all_goals go_ret
              all_goals exact ⟨ret_int (by rw [← HD.out]; omega), rfl⟩
    · rw [show (max n 0).toNat = n.toNat by omega] at HR0
      by_cases cm : m < 0
      · rw [show max m 0 = 0 by omega] at HR0
        have HR : Hid (dbl b n.toNat 0 = R) := HR0
        clear HR0
        go_enter Tryd.func24, Tryd.ntmps24
        go_wp2
        go_loop [0, 1] (fun s t => ∃ (x : Int) (k : Nat), s = .int .i64 x ∧ t = .int .i64 k ∧ 0 ≤ x ∧ x ≤ 9223372036854775807 ∧ (k : Int) ≤ 9223372036854775807 ∧ Hid (dbl x k 0 = R)) (fun _ t => (intOf t).toNat)
        case atStart => exact ⟨_, n.toNat, rfl, by rw [Int.toNat_of_nonneg (by omega)], by omega, by omega, by omega, HR⟩
        case round =>
          obtain ⟨x, k, rfl, rfl, hx0, hx1, hk1, hr⟩ := hrel
          by_cases hc : 0 < k ∧ 0 < x ∧ x < 0
          · exact absurd hc (by omega)
          · have hd : dbl x k 0 = min x 0 := end_stop x k 0 hx0 (by omega) hc
            have HD : Hid (min x 0 = R) := by rw [← hd]; exact hr
            clear hd hr
            by_cases c1 : 0 < k
            · by_cases c2 : 0 < x
              · have c3 : ¬ x < 0 := fun h => hc ⟨c1, c2, h⟩
                clear hc
                go_wp2
                all_goals go_ret
                all_goals exact ⟨ret_int (by rw [← HD.out]; omega), rfl⟩
              · clear hc
                go_wp2
                all_goals go_ret
                all_goals exact ⟨ret_int (by rw [← HD.out]; omega), rfl⟩
            · clear hc
              go_wp2
              all_goals go_ret
              all_goals exact ⟨ret_int (by rw [← HD.out]; omega), rfl⟩
      · rw [show max m 0 = m by omega] at HR0
        have HR : Hid (dbl b n.toNat m = R) := HR0
        clear HR0
        go_enter Tryd.func24, Tryd.ntmps24
        go_wp2
        go_loop [0, 1] (fun s t => ∃ (x : Int) (k : Nat), s = .int .i64 x ∧ t = .int .i64 k ∧ 0 ≤ x ∧ x ≤ 9223372036854775807 ∧ (k : Int) ≤ 9223372036854775807 ∧ Hid (dbl x k m = R)) (fun _ t => (intOf t).toNat)
        case atStart => exact ⟨_, n.toNat, rfl, by rw [Int.toNat_of_nonneg (by omega)], by omega, by omega, by omega, HR⟩
        case round =>
          obtain ⟨x, k, rfl, rfl, hx0, hx1, hk1, hr⟩ := hrel
          by_cases hc : 0 < k ∧ 0 < x ∧ x < m
          · obtain ⟨c1, c2, c3⟩ := hc
            by_cases h2 : m - x < x
            · go_wp2
              go_ret
              exact ⟨ret_int (end_over x k m R hx0 c1 (by omega) hr), rfl⟩
            · go_wp2
              go_round
              case rel => exact ⟨x + x, k - 1, rfl, by rw [show ((k - 1 : Nat) : Int) = (k : Int) - 1 by omega], by omega, by omega, by omega, end_step x k m R c1 hr⟩
              case measure => simp [intOf]; omega
          · have hd : dbl x k m = min x m := end_stop x k m hx0 (by omega) hc
            have HD : Hid (min x m = R) := by rw [← hd]; exact hr
            clear hd hr
            by_cases c1 : 0 < k
            · by_cases c2 : 0 < x
              · have c3 : ¬ x < m := fun h => hc ⟨c1, c2, h⟩
                clear hc
                go_wp2
                all_goals go_ret
                all_goals exact ⟨ret_int (by rw [← HD.out]; omega), rfl⟩
              · clear hc
                go_wp2
                all_goals go_ret
                all_goals exact ⟨ret_int (by rw [← HD.out]; omega), rfl⟩
            · clear hc
              go_wp2
              all_goals go_ret
              all_goals exact ⟨ret_int (by rw [← HD.out]; omega), rfl⟩

set_option maxHeartbeats 1000000 in
theorem refDouble_any (b n m : Int) (w : World) (hb0 : -9223372036854775808 ≤ b) (hb1 : b ≤ 9223372036854775807) (hn0 : -9223372036854775808 ≤ n) (hn1 : n ≤ 9223372036854775807) (hm0 : -9223372036854775808 ≤ m) (hm1 : m ≤ 9223372036854775807) :
    Calls Tryd.prog 25 #[.int .i64 b, .int .i64 n, .int .i64 m] w fun e w' => e = .returned (.int .i64 (dbl (max b 0) (max n 0).toNat (max m 0))) ∧ w' = w := by
  generalize HR0 : dbl (max b 0) (max n 0).toNat (max m 0) = R
  by_cases cb : b < 0
  · rw [show max b 0 = 0 by omega] at HR0
    by_cases cn : n < 0
    · rw [show (max n 0).toNat = 0 by omega] at HR0
      by_cases cm : m < 0
      · rw [show max m 0 = 0 by omega] at HR0
        have HR : Hid (dbl 0 0 0 = R) := HR0
        clear HR0
        go_enter Tryd.func25, Tryd.ntmps25
        go_wp2
        go_ret
        exact ⟨ret_int (by rw [← HR.out, dbl_nought _ _ (by omega)]), rfl⟩
      · rw [show max m 0 = m by omega] at HR0
        have HR : Hid (dbl 0 0 m = R) := HR0
        clear HR0
        go_enter Tryd.func25, Tryd.ntmps25
        go_wp2
        go_ret
        exact ⟨ret_int (by rw [← HR.out, dbl_nought _ _ (by omega)]), rfl⟩
    · rw [show (max n 0).toNat = n.toNat by omega] at HR0
      by_cases cm : m < 0
      · rw [show max m 0 = 0 by omega] at HR0
        have HR : Hid (dbl 0 n.toNat 0 = R) := HR0
        clear HR0
        go_enter Tryd.func25, Tryd.ntmps25
        go_wp2
        go_ret
        exact ⟨ret_int (by rw [← HR.out, dbl_nought _ _ (by omega)]), rfl⟩
      · rw [show max m 0 = m by omega] at HR0
        have HR : Hid (dbl 0 n.toNat m = R) := HR0
        clear HR0
        go_enter Tryd.func25, Tryd.ntmps25
        go_wp2
        go_ret
        exact ⟨ret_int (by rw [← HR.out, dbl_nought _ _ (by omega)]), rfl⟩
  · rw [show max b 0 = b by omega] at HR0
    by_cases cn : n < 0
    · rw [show (max n 0).toNat = 0 by omega] at HR0
      by_cases cm : m < 0
      · rw [show max m 0 = 0 by omega] at HR0
        have HR : Hid (dbl b 0 0 = R) := HR0
        clear HR0
        by_cases bz : b = 0
        · subst bz
          go_enter Tryd.func25, Tryd.ntmps25
          go_wp2
          go_ret
          exact ⟨ret_int (by rw [← HR.out, dbl_nought _ _ (by omega)]), rfl⟩
        have bz' : (b == 0) = false := by simpa using bz
        go_enter Tryd.func25, Tryd.ntmps25
        go_wp2
        go_loop [7, 9] (fun s t => ∃ (x : Int) (i : Nat), s = .int .i64 x ∧ t = .int .i64 i ∧ 0 < x ∧ x ≤ 9223372036854775807 ∧ i ≤ 0 ∧ Hid (dbl x (0 - i) 0 = R)) (fun _ t => (n - intOf t).toNat)
        case atStart => exact ⟨_, 0, rfl, rfl, by omega, by omega, by omega, HR⟩
        case round =>
          obtain ⟨x, i, rfl, rfl, hx0, hx1, hi, hr⟩ := hrel
          by_cases c1 : (i : Int) < n
          · exact absurd c1 (by omega)
          · have hd : dbl x (0 - i) 0 = min x 0 := end_stop x (0 - i) 0 (by omega) (by omega) (by omega)
            have HD : Hid (min x 0 = R) := by rw [← hd]; exact hr
            clear hd hr
            go_wp2
            all_goals go_ret
            all_goals exact ⟨ret_int (by rw [← HD.out]; omega), rfl⟩
      · rw [show max m 0 = m by omega] at HR0
        have HR : Hid (dbl b 0 m = R) := HR0
        clear HR0
        by_cases bz : b = 0
        · subst bz
          go_enter Tryd.func25, Tryd.ntmps25
          go_wp2
          go_ret
          exact ⟨ret_int (by rw [← HR.out, dbl_nought _ _ (by omega)]), rfl⟩
        have bz' : (b == 0) = false := by simpa using bz
        go_enter Tryd.func25, Tryd.ntmps25
        go_wp2
        go_loop [7, 9] (fun s t => ∃ (x : Int) (i : Nat), s = .int .i64 x ∧ t = .int .i64 i ∧ 0 < x ∧ x ≤ 9223372036854775807 ∧ i ≤ 0 ∧ Hid (dbl x (0 - i) m = R)) (fun _ t => (n - intOf t).toNat)
        case atStart => exact ⟨_, 0, rfl, rfl, by omega, by omega, by omega, HR⟩
        case round =>
          obtain ⟨x, i, rfl, rfl, hx0, hx1, hi, hr⟩ := hrel
          by_cases c1 : (i : Int) < n
          · exact absurd c1 (by omega)
          · have hd : dbl x (0 - i) m = min x m := end_stop x (0 - i) m (by omega) (by omega) (by omega)
            have HD : Hid (min x m = R) := by rw [← hd]; exact hr
            clear hd hr
            go_wp2
            all_goals go_ret
            all_goals exact ⟨ret_int (by rw [← HD.out]; omega), rfl⟩
    · rw [show (max n 0).toNat = n.toNat by omega] at HR0
      by_cases cm : m < 0
      · rw [show max m 0 = 0 by omega] at HR0
        have HR : Hid (dbl b n.toNat 0 = R) := HR0
        clear HR0
        by_cases bz : b = 0
        · subst bz
          go_enter Tryd.func25, Tryd.ntmps25
          go_wp2
          go_ret
          exact ⟨ret_int (by rw [← HR.out, dbl_nought _ _ (by omega)]), rfl⟩
        have bz' : (b == 0) = false := by simpa using bz
        go_enter Tryd.func25, Tryd.ntmps25
        go_wp2
        go_loop [7, 9] (fun s t => ∃ (x : Int) (i : Nat), s = .int .i64 x ∧ t = .int .i64 i ∧ 0 < x ∧ x ≤ 9223372036854775807 ∧ i ≤ n.toNat ∧ Hid (dbl x (n.toNat - i) 0 = R)) (fun _ t => (n - intOf t).toNat)
        case atStart => exact ⟨_, 0, rfl, rfl, by omega, by omega, by omega, HR⟩
        case round =>
          obtain ⟨x, i, rfl, rfl, hx0, hx1, hi, hr⟩ := hrel
          by_cases c1 : (i : Int) < n
          · by_cases c3 : x < 0
            · exact absurd c3 (by omega)
            · have hd : dbl x (n.toNat - i) 0 = min x 0 := end_stop x (n.toNat - i) 0 (by omega) (by omega) (by omega)
              have HD : Hid (min x 0 = R) := by rw [← hd]; exact hr
              clear hd hr
              go_wp2
              all_goals go_ret
              all_goals exact ⟨ret_int (by rw [← HD.out]; omega), rfl⟩
          · have hd : dbl x (n.toNat - i) 0 = min x 0 := end_stop x (n.toNat - i) 0 (by omega) (by omega) (by omega)
            have HD : Hid (min x 0 = R) := by rw [← hd]; exact hr
            clear hd hr
            go_wp2
            all_goals go_ret
            all_goals exact ⟨ret_int (by rw [← HD.out]; omega), rfl⟩
      · rw [show max m 0 = m by omega] at HR0
        have HR : Hid (dbl b n.toNat m = R) := HR0
        clear HR0
        by_cases bz : b = 0
        · subst bz
          go_enter Tryd.func25, Tryd.ntmps25
          go_wp2
          go_ret
          exact ⟨ret_int (by rw [← HR.out, dbl_nought _ _ (by omega)]), rfl⟩
        have bz' : (b == 0) = false := by simpa using bz
        go_enter Tryd.func25, Tryd.ntmps25
        go_wp2
        go_loop [7, 9] (fun s t => ∃ (x : Int) (i : Nat), s = .int .i64 x ∧ t = .int .i64 i ∧ 0 < x ∧ x ≤ 9223372036854775807 ∧ i ≤ n.toNat ∧ Hid (dbl x (n.toNat - i) m = R)) (fun _ t => (n - intOf t).toNat)
        case atStart => exact ⟨_, 0, rfl, rfl, by omega, by omega, by omega, HR⟩
        case round =>
          obtain ⟨x, i, rfl, rfl, hx0, hx1, hi, hr⟩ := hrel
          by_cases c1 : (i : Int) < n
          · by_cases c3 : x < m
            · by_cases h2 : m / 2 < x
              · go_wp2
                go_ret
                exact ⟨ret_int (end_over x (n.toNat - i) m R (by omega) (by omega) (by omega) hr), rfl⟩
              · go_wp2
                go_round
                case rel => exact ⟨x * 2, i + 1, rfl, by go_num, by omega, by omega, by omega, end_step2 x i n.toNat m R (by omega) hr⟩
                case measure => simp [intOf]; omega
            · have hd : dbl x (n.toNat - i) m = min x m := end_stop x (n.toNat - i) m (by omega) (by omega) (by omega)
              have HD : Hid (min x m = R) := by rw [← hd]; exact hr
              clear hd hr
              go_wp2
              all_goals go_ret
              all_goals exact ⟨ret_int (by rw [← HD.out]; omega), rfl⟩
          · have hd : dbl x (n.toNat - i) m = min x m := end_stop x (n.toNat - i) m (by omega) (by omega) (by omega)
            have HD : Hid (min x m = R) := by rw [← hd]; exact hr
            clear hd hr
            go_wp2
            all_goals go_ret
            all_goals exact ⟨ret_int (by rw [← HD.out]; omega), rfl⟩

end Go.Proofs.YtamikhffclbbcaaDoor
