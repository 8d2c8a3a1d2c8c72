/- The document's own steps. -/
import Derived.Test.YtjdgndbdoceifaaDoe
namespace Go.Proofs.Ytjdgndbdoceifaa
open Go.RowKit
open M
set_option linter.unusedVariables false
set_option linter.unusedSimpArgs false

abbrev agL (T P : Int) (x : Lf) : Value := .agg #[.int .i64 T, .int .i64 P, .int .i64 x.s, .int .i64 x.e, .int .i64 x.m, .int .i64 x.p]
set_option maxRecDepth 1000000 in
set_option maxHeartbeats 2000000 in
theorem from_any (k s : Nat) (hk : k ≤ 10) (w : World) : Calls Try.prog 31 #[.int .i64 k, .int .i64 s] w fun e w' => e = .returned (.bool (may k s)) ∧ w' = w := by
  rcases kinds hk with rfl | rfl | rfl | rfl | rfl | rfl | rfl | rfl | rfl | rfl | rfl
  · show Calls Try.prog 31 #[.int .i64 0, .int .i64 s] w _
    go_enter Try.func31, Try.ntmps31
    go_wp2
    go_ret
    exact ⟨ret_bool (by first | rfl | (simp only [may]; rw [Bool.eq_iff_iff]; simp <;> omega)), rfl⟩
  · show Calls Try.prog 31 #[.int .i64 1, .int .i64 s] w _
    go_enter Try.func31, Try.ntmps31
    go_wp2
    go_ret
    exact ⟨ret_bool (by first | rfl | (simp only [may]; rw [Bool.eq_iff_iff]; simp <;> omega)), rfl⟩
  · show Calls Try.prog 31 #[.int .i64 2, .int .i64 s] w _
    go_enter Try.func31, Try.ntmps31
    go_wp2
    go_ret
    exact ⟨ret_bool (by first | rfl | (simp only [may]; rw [Bool.eq_iff_iff]; simp <;> omega)), rfl⟩
  · show Calls Try.prog 31 #[.int .i64 3, .int .i64 s] w _
    go_enter Try.func31, Try.ntmps31
    go_wp2
    go_ret
    exact ⟨ret_bool (by first | rfl | (simp only [may]; rw [Bool.eq_iff_iff]; simp <;> omega)), rfl⟩
  · show Calls Try.prog 31 #[.int .i64 4, .int .i64 s] w _
    go_enter Try.func31, Try.ntmps31
    go_wp2
    go_ret
    exact ⟨ret_bool (by first | rfl | (simp only [may]; rw [Bool.eq_iff_iff]; simp <;> omega)), rfl⟩
  · show Calls Try.prog 31 #[.int .i64 5, .int .i64 s] w _
    go_enter Try.func31, Try.ntmps31
    go_wp2
    go_ret
    exact ⟨ret_bool (by first | rfl | (simp only [may]; rw [Bool.eq_iff_iff]; simp <;> omega)), rfl⟩
  · show Calls Try.prog 31 #[.int .i64 6, .int .i64 s] w _
    go_enter Try.func31, Try.ntmps31
    go_wp2
    go_ret
    exact ⟨ret_bool (by first | rfl | (simp only [may]; rw [Bool.eq_iff_iff]; simp <;> omega)), rfl⟩
  · show Calls Try.prog 31 #[.int .i64 7, .int .i64 s] w _
    go_enter Try.func31, Try.ntmps31
    go_wp2
    go_ret
    exact ⟨ret_bool (by first | rfl | (simp only [may]; rw [Bool.eq_iff_iff]; simp <;> omega)), rfl⟩
  · show Calls Try.prog 31 #[.int .i64 8, .int .i64 s] w _
    go_enter Try.func31, Try.ntmps31
    go_wp2
    go_ret
    exact ⟨ret_bool (by first | rfl | (simp only [may]; rw [Bool.eq_iff_iff]; simp <;> omega)), rfl⟩
  · by_cases h3 : s = 3
    · subst h3
      show Calls Try.prog 31 #[.int .i64 9, .int .i64 3] w _
      go_enter Try.func31, Try.ntmps31
      go_wp2
      go_ret
      exact ⟨rfl, rfl⟩
    · have h1 : ((s : Int) == 3) = false := by simp; omega
      have h2 : (s == 3) = false := by simp; omega
      have e : may 9 s = ((s : Int) == 0) := by simp only [may]; rw [Bool.eq_iff_iff]; simp [h3]; try omega
      rw [e]
      show Calls Try.prog 31 #[.int .i64 9, .int .i64 s] w _
      go_enter Try.func31, Try.ntmps31
      go_wp2
      go_ret
      exact ⟨rfl, rfl⟩
  · show Calls Try.prog 31 #[.int .i64 10, .int .i64 s] w _
    go_enter Try.func31, Try.ntmps31
    go_wp2
    go_ret
    exact ⟨ret_bool (by first | rfl | (simp only [may]; rw [Bool.eq_iff_iff]; simp <;> omega)), rfl⟩
set_option maxRecDepth 1000000 in
theorem rnew_any (w : World) (t p T P : Int) (ht : max t 1 = T) (hp : max p 0 = P) : Calls Try.prog 11 #[.int .i64 t, .int .i64 p] w fun e w' => e = .returned (agL T P ⟨0, 0, 0, 0⟩) ∧ Hid (Below w.heap.size w w') := by
  have k1 : ∀ ts u W, (Builtin.max_ ts u #[.int .i64 t, .int .i64 1]).run Try.prog W = .ok (.int .i64 T) W := fun ts u W => by rw [← ht]; exact max_num t 1 ts u W
  have k2 : ∀ ts u W, (Builtin.max_ ts u #[.int .i64 p, .int .i64 0]).run Try.prog W = .ok (.int .i64 P) W := fun ts u W => by rw [← hp]; exact max_num p 0 ts u W
  clear ht hp
  go_enter Try.func11, Try.ntmps11
  go_wp2
  exact bodyPost_ret (v := agL T P ⟨0, 0, 0, 0⟩) (by simp [results, Try.results11, go_sem]) rfl ⟨rfl, (Below.refl _ _).alloc (Nat.le_refl _) _⟩
set_option maxRecDepth 1000000 in
theorem do_no (T P : Int) (x : Lf) (w : World) (k : Nat) (hk : k ≤ 10) (hm : may k x.s = false) : Calls Try.prog 13 #[agL T P x, .int .i64 k] w fun e w' => e = .returned (.tuple #[agL T P x, .int .i64 8]) ∧ Hid (Below w.heap.size w w') := by
  have kk := fun W => from_any k x.s hk W
  rw [hm] at kk
  clear hm
  go_enter Try.func13, Try.ntmps13
  go_wp2_with (go_at_call 31; refine (kk _).mono ?_; rintro e w' ⟨rfl, rfl⟩)
  exact bodyPost_ret (v := .tuple #[agL T P x, .int .i64 8]) (by simp [results, Try.results13, go_sem]) rfl ⟨rfl, ((Below.refl _ _).alloc (Nat.le_refl _) _).alloc (by simp) _⟩
set_option maxRecDepth 1000000 in
theorem do_full (T P : Int) (x : Lf) (w : World) (hm : may 2 x.s = true) (hp : P ≤ x.p) : Calls Try.prog 13 #[agL T P x, .int .i64 2] w fun e w' => e = .returned (.tuple #[agL T P x, .int .i64 4]) ∧ Hid (Below w.heap.size w w') := by
  have kk := fun W => from_any 2 x.s (by omega) W
  have h1 : decide (P ≤ (x.p : Int)) = true := by simpa using hp
  rw [hm] at kk
  clear hm
  go_enter Try.func13, Try.ntmps13
  go_wp2_with (go_at_call 31; refine (kk _).mono ?_; rintro e w' ⟨rfl, rfl⟩)
  exact bodyPost_ret (v := .tuple #[agL T P x, .int .i64 4]) (by simp [results, Try.results13, go_sem]) rfl ⟨rfl, ((Below.refl _ _).alloc (Nat.le_refl _) _).alloc (by simp) _⟩
set_option maxRecDepth 1000000 in
set_option maxHeartbeats 4000000 in
theorem do_yes (T P : Int) (x : Lf) (w : World) (he : x.e ≤ 1000000) (hx : x.m ≤ 1000000) (hy : x.p ≤ 1000000) (k : Nat) (hk : k ≤ 10) (hm : may k x.s = true) (hp : ¬ (k = 2 ∧ P ≤ x.p)) : Calls Try.prog 13 #[agL T P x, .int .i64 k] w fun e w' => e = .returned (.tuple #[agL T P (nx T k x), .int .i64 0]) ∧ Hid (Below w.heap.size w w') := by
  have kk := fun W => from_any k x.s hk W
  rw [hm] at kk
  clear hm
  rcases kinds hk with rfl | rfl | rfl | rfl | rfl | rfl | rfl | rfl | rfl | rfl | rfl
  · clear hp
    show Calls Try.prog 13 #[agL T P x, .int .i64 0] w _
    go_enter Try.func13, Try.ntmps13
    go_wp2_with (go_at_call 31; refine (kk _).mono ?_; rintro e w' ⟨rfl, rfl⟩)
    exact bodyPost_ret (v := .tuple #[agL T P (nx T 0 x), .int .i64 0]) (by simp [results, Try.results13, go_sem, nx]) rfl ⟨rfl, ((Below.refl _ _).alloc (Nat.le_refl _) _).alloc (by simp) _⟩
  · clear hp
    show Calls Try.prog 13 #[agL T P x, .int .i64 1] w _
    go_enter Try.func13, Try.ntmps13
    go_wp2_with (go_at_call 31; refine (kk _).mono ?_; rintro e w' ⟨rfl, rfl⟩)
    exact bodyPost_ret (v := .tuple #[agL T P (nx T 1 x), .int .i64 0]) (by simp [results, Try.results13, go_sem, nx]) rfl ⟨rfl, ((Below.refl _ _).alloc (Nat.le_refl _) _).alloc (by simp) _⟩
  · have h1 : decide (P ≤ (x.p : Int)) = false := by simp at hp; simp; omega
    show Calls Try.prog 13 #[agL T P x, .int .i64 2] w _
    go_enter Try.func13, Try.ntmps13
    go_wp2_with (go_at_call 31; refine (kk _).mono ?_; rintro e w' ⟨rfl, rfl⟩)
    exact bodyPost_ret (v := .tuple #[agL T P (nx T 2 x), .int .i64 0]) (by simp [results, Try.results13, go_sem, nx]) rfl ⟨rfl, ((Below.refl _ _).alloc (Nat.le_refl _) _).alloc (by simp) _⟩
  · clear hp
    show Calls Try.prog 13 #[agL T P x, .int .i64 3] w _
    go_enter Try.func13, Try.ntmps13
    go_wp2_with (go_at_call 31; refine (kk _).mono ?_; rintro e w' ⟨rfl, rfl⟩)
    exact bodyPost_ret (v := .tuple #[agL T P (nx T 3 x), .int .i64 0]) (by simp [results, Try.results13, go_sem, nx]) rfl ⟨rfl, ((Below.refl _ _).alloc (Nat.le_refl _) _).alloc (by simp) _⟩
  · clear hp
    show Calls Try.prog 13 #[agL T P x, .int .i64 4] w _
    go_enter Try.func13, Try.ntmps13
    go_wp2_with (go_at_call 31; refine (kk _).mono ?_; rintro e w' ⟨rfl, rfl⟩)
    exact bodyPost_ret (v := .tuple #[agL T P (nx T 4 x), .int .i64 0]) (by simp [results, Try.results13, go_sem, nx]) rfl ⟨rfl, ((Below.refl _ _).alloc (Nat.le_refl _) _).alloc (by simp) _⟩
  · clear hp
    show Calls Try.prog 13 #[agL T P x, .int .i64 5] w _
    go_enter Try.func13, Try.ntmps13
    go_wp2_with (go_at_call 31; refine (kk _).mono ?_; rintro e w' ⟨rfl, rfl⟩)
    exact bodyPost_ret (v := .tuple #[agL T P (nx T 5 x), .int .i64 0]) (by simp [results, Try.results13, go_sem, nx]) rfl ⟨rfl, ((Below.refl _ _).alloc (Nat.le_refl _) _).alloc (by simp) _⟩
  · by_cases ht : T ≤ (x.m : Int) + 1
    · have h1 : decide (T ≤ (x.m : Int) + 1) = true := by simpa using ht
      show Calls Try.prog 13 #[agL T P x, .int .i64 6] w _
      go_enter Try.func13, Try.ntmps13
      go_wp2_with (go_at_call 31; refine (kk _).mono ?_; rintro e w' ⟨rfl, rfl⟩)
      exact bodyPost_ret (v := .tuple #[agL T P (nx T 6 x), .int .i64 0]) (by simp [results, Try.results13, go_sem, nx, ht]) rfl ⟨rfl, ((Below.refl _ _).alloc (Nat.le_refl _) _).alloc (by simp) _⟩
    · have h1 : decide (T ≤ (x.m : Int) + 1) = false := by simpa using ht
      have ht2 : Hid (¬ T ≤ (x.m : Int) + 1) := ht
      clear ht
      show Calls Try.prog 13 #[agL T P x, .int .i64 6] w _
      go_enter Try.func13, Try.ntmps13
      go_wp2_with (go_at_call 31; refine (kk _).mono ?_; rintro e w' ⟨rfl, rfl⟩)
      exact bodyPost_ret (v := .tuple #[agL T P (nx T 6 x), .int .i64 0]) (by simp [results, Try.results13, go_sem, nx, if_neg (Int.not_le.2 ht2.out)]) rfl ⟨rfl, ((Below.refl _ _).alloc (Nat.le_refl _) _).alloc (by simp) _⟩
  · clear hp
    show Calls Try.prog 13 #[agL T P x, .int .i64 7] w _
    go_enter Try.func13, Try.ntmps13
    go_wp2_with (go_at_call 31; refine (kk _).mono ?_; rintro e w' ⟨rfl, rfl⟩)
    exact bodyPost_ret (v := .tuple #[agL T P (nx T 7 x), .int .i64 0]) (by simp [results, Try.results13, go_sem, nx]) rfl ⟨rfl, ((Below.refl _ _).alloc (Nat.le_refl _) _).alloc (by simp) _⟩
  · clear hp
    show Calls Try.prog 13 #[agL T P x, .int .i64 8] w _
    go_enter Try.func13, Try.ntmps13
    go_wp2_with (go_at_call 31; refine (kk _).mono ?_; rintro e w' ⟨rfl, rfl⟩)
    exact bodyPost_ret (v := .tuple #[agL T P (nx T 8 x), .int .i64 0]) (by simp [results, Try.results13, go_sem, nx]) rfl ⟨rfl, ((Below.refl _ _).alloc (Nat.le_refl _) _).alloc (by simp) _⟩
  · clear hp
    show Calls Try.prog 13 #[agL T P x, .int .i64 9] w _
    go_enter Try.func13, Try.ntmps13
    go_wp2_with (go_at_call 31; refine (kk _).mono ?_; rintro e w' ⟨rfl, rfl⟩)
    exact bodyPost_ret (v := .tuple #[agL T P (nx T 9 x), .int .i64 0]) (by simp [results, Try.results13, go_sem, nx]) rfl ⟨rfl, ((Below.refl _ _).alloc (Nat.le_refl _) _).alloc (by simp) _⟩
  · clear hp
    show Calls Try.prog 13 #[agL T P x, .int .i64 10] w _
    go_enter Try.func13, Try.ntmps13
    go_wp2_with (go_at_call 31; refine (kk _).mono ?_; rintro e w' ⟨rfl, rfl⟩)
    exact bodyPost_ret (v := .tuple #[agL T P (nx T 10 x), .int .i64 0]) (by simp [results, Try.results13, go_sem, nx]) rfl ⟨rfl, ((Below.refl _ _).alloc (Nat.le_refl _) _).alloc (by simp) _⟩
theorem do_any {T P : Int} {x : Lf} (hi : Inv T P x) (w : World) (he : x.e ≤ 1000000) (k : Nat) (hk : k ≤ 10) : Calls Try.prog 13 #[agL T P x, .int .i64 k] w fun e w' => e = .returned (.tuple #[agL T P (st T P k x), .int .i64 (er P k x)]) ∧ Hid (Below w.heap.size w w') := by
  have := hi.sum
  cases hm : may k x.s with
  | false => rw [er_no hm, st_no hm]; exact do_no T P x w k hk hm
  | true =>
    by_cases hp : k = 2 ∧ P ≤ x.p
    · obtain ⟨rfl, hp⟩ := hp
      obtain ⟨e1, e2⟩ := st_full (T := T) (by simpa [may] using hm) hp
      rw [e1, e2]
      exact do_full T P x w hm hp
    · rw [er_yes hm hp, st_yes hm hp]
      exact do_yes T P x w he (by omega) (by omega) k hk hm hp
end Go.Proofs.Ytjdgndbdoceifaa
