/- The steps of a life. -/
import Derived.Test.YtjdgndbdoceifaaOps
namespace Go.Proofs.Ytjdgndbdoceifaa
open Go.RowKit
open M
set_option linter.unusedVariables false
set_option linter.unusedSimpArgs false

section
variable {B : Nat} {w0 w : World} {b : Nat} {T P : Int} {x : Lf} {R : List (Nat × Obj)}
theorem stepNew (h : LX B w0 w b T P x R) (k y n : Nat) (l : List Nat) (hl : l.length = n) (hn : n ≤ 64) (hk : k ≤ 10) (hk2 : k ≠ 2) (hm : may k x.s = decide (x.s ∈ l)) (hx : nx T k x = ⟨y, x.e, x.m, x.p⟩) :
    Calls Try.prog 33 #[ptr b, .int .i64 y, .slice (some ⟨w.heap.size, 0, none⟩) n n] (w.alloc (.cells (rowOf l) 3)) fun e w' => e = .returned (.int .i64 (er P k x)) ∧ Hid (LX B w0 w' b T P (st T P k x) R) := by
  refine (becomeNew h l n y hl hn).mono ?_
  rintro e w' ⟨rfl, rfl⟩
  have ha := (h.alloc (.cells (rowOf l) 3)).drop (R' := R) (fun p hp => List.mem_cons_of_mem _ hp)
  by_cases hs : x.s ∈ l
  · have h1 : may k x.s = true := by simpa [hs] using hm
    have h2 : ¬ (k = 2 ∧ P ≤ x.p) := fun q => hk2 q.1
    have hi := h.inv.st (k := k) hk
    rw [er_yes h1 h2, if_pos hs, if_pos hs]
    rw [st_yes h1 h2, hx] at hi ⊢
    exact ⟨rfl, ha.turn 0 _ hi rfl⟩
  · have h1 : may k x.s = false := by simpa [hs] using hm
    rw [er_no h1, st_no h1, if_neg hs, if_neg hs]
    exact ⟨rfl, ha⟩
set_option maxRecDepth 1000000 in
theorem want_any (h : LX B w0 w b T P x R) : Calls Try.prog 20 #[ptr b] w fun e w' => e = .returned (.int .i64 (er P 0 x)) ∧ Hid (LX B w0 w' b T P (st T P 0 x) R) := by
  have k : Calls Try.prog 33 #[ptr b, .int .i64 1, .slice (some ⟨w.heap.size, 0, none⟩) 1 1] (w.alloc (.cells #[.int .i64 0] 3)) fun e w' => e = .returned (.int .i64 (er P 0 x)) ∧ Hid (LX B w0 w' b T P (st T P 0 x) R) := stepNew h 0 1 1 [0] rfl (by omega) (by omega) (by omega) (decide_eq_decide.2 (by simp)) rfl
  clear h
  generalize er P 0 x = E at *
  generalize st T P 0 x = X at *
  go_enter Try.func20, Try.ntmps20
  go_wp2_with (go_at_call 33; refine k.mono ?_; rintro e w' ⟨rfl, s⟩)
  go_ret
  exact ⟨rfl, s⟩
set_option maxRecDepth 1000000 in
theorem wait_any (h : LX B w0 w b T P x R) : Calls Try.prog 26 #[ptr b] w fun e w' => e = .returned (.int .i64 (er P 3 x)) ∧ Hid (LX B w0 w' b T P (st T P 3 x) R) := by
  have k : Calls Try.prog 33 #[ptr b, .int .i64 3, .slice (some ⟨w.heap.size, 0, none⟩) 1 1] (w.alloc (.cells #[.int .i64 2] 3)) fun e w' => e = .returned (.int .i64 (er P 3 x)) ∧ Hid (LX B w0 w' b T P (st T P 3 x) R) := stepNew h 3 3 1 [2] rfl (by omega) (by omega) (by omega) (decide_eq_decide.2 (by simp)) rfl
  clear h
  generalize er P 3 x = E at *
  generalize st T P 3 x = X at *
  go_enter Try.func26, Try.ntmps26
  go_wp2_with (go_at_call 33; refine k.mono ?_; rintro e w' ⟨rfl, s⟩)
  go_ret
  exact ⟨rfl, s⟩
set_option maxRecDepth 1000000 in
theorem again_any (h : LX B w0 w b T P x R) : Calls Try.prog 27 #[ptr b] w fun e w' => e = .returned (.int .i64 (er P 4 x)) ∧ Hid (LX B w0 w' b T P (st T P 4 x) R) := by
  have k : Calls Try.prog 33 #[ptr b, .int .i64 1, .slice (some ⟨w.heap.size, 0, none⟩) 1 1] (w.alloc (.cells #[.int .i64 2] 3)) fun e w' => e = .returned (.int .i64 (er P 4 x)) ∧ Hid (LX B w0 w' b T P (st T P 4 x) R) := stepNew h 4 1 1 [2] rfl (by omega) (by omega) (by omega) (decide_eq_decide.2 (by simp)) rfl
  clear h
  generalize er P 4 x = E at *
  generalize st T P 4 x = X at *
  go_enter Try.func27, Try.ntmps27
  go_wp2_with (go_at_call 33; refine k.mono ?_; rintro e w' ⟨rfl, s⟩)
  go_ret
  exact ⟨rfl, s⟩
set_option maxRecDepth 1000000 in
theorem wake_any (h : LX B w0 w b T P x R) : Calls Try.prog 28 #[ptr b] w fun e w' => e = .returned (.int .i64 (er P 5 x)) ∧ Hid (LX B w0 w' b T P (st T P 5 x) R) := by
  have k : Calls Try.prog 33 #[ptr b, .int .i64 1, .slice (some ⟨w.heap.size, 0, none⟩) 1 1] (w.alloc (.cells #[.int .i64 3] 3)) fun e w' => e = .returned (.int .i64 (er P 5 x)) ∧ Hid (LX B w0 w' b T P (st T P 5 x) R) := stepNew h 5 1 1 [3] rfl (by omega) (by omega) (by omega) (decide_eq_decide.2 (by simp)) rfl
  clear h
  generalize er P 5 x = E at *
  generalize st T P 5 x = X at *
  go_enter Try.func28, Try.ntmps28
  go_wp2_with (go_at_call 33; refine k.mono ?_; rintro e w' ⟨rfl, s⟩)
  go_ret
  exact ⟨rfl, s⟩
set_option maxRecDepth 1000000 in
theorem rested_any (h : LX B w0 w b T P x R) : Calls Try.prog 24 #[ptr b] w fun e w' => e = .returned (.int .i64 (er P 7 x)) ∧ Hid (LX B w0 w' b T P (st T P 7 x) R) := by
  have k : Calls Try.prog 33 #[ptr b, .int .i64 1, .slice (some ⟨w.heap.size, 0, none⟩) 1 1] (w.alloc (.cells #[.int .i64 4] 3)) fun e w' => e = .returned (.int .i64 (er P 7 x)) ∧ Hid (LX B w0 w' b T P (st T P 7 x) R) := stepNew h 7 1 1 [4] rfl (by omega) (by omega) (by omega) (decide_eq_decide.2 (by simp)) rfl
  clear h
  generalize er P 7 x = E at *
  generalize st T P 7 x = X at *
  go_enter Try.func24, Try.ntmps24
  go_wp2_with (go_at_call 33; refine k.mono ?_; rintro e w' ⟨rfl, s⟩)
  go_ret
  exact ⟨rfl, s⟩
set_option maxRecDepth 1000000 in
theorem end__any (h : LX B w0 w b T P x R) : Calls Try.prog 29 #[ptr b] w fun e w' => e = .returned (.int .i64 (er P 8 x)) ∧ Hid (LX B w0 w' b T P (st T P 8 x) R) := by
  have k : Calls Try.prog 33 #[ptr b, .int .i64 5, .slice (some ⟨w.heap.size, 0, none⟩) 1 1] (w.alloc (.cells #[.int .i64 2] 3)) fun e w' => e = .returned (.int .i64 (er P 8 x)) ∧ Hid (LX B w0 w' b T P (st T P 8 x) R) := stepNew h 8 5 1 [2] rfl (by omega) (by omega) (by omega) (decide_eq_decide.2 (by simp)) rfl
  clear h
  generalize er P 8 x = E at *
  generalize st T P 8 x = X at *
  go_enter Try.func29, Try.ntmps29
  go_wp2_with (go_at_call 33; refine k.mono ?_; rintro e w' ⟨rfl, s⟩)
  go_ret
  exact ⟨rfl, s⟩
set_option maxRecDepth 1000000 in
theorem fall_any (h : LX B w0 w b T P x R) : Calls Try.prog 30 #[ptr b] w fun e w' => e = .returned (.int .i64 (er P 9 x)) ∧ Hid (LX B w0 w' b T P (st T P 9 x) R) := by
  have k : Calls Try.prog 33 #[ptr b, .int .i64 6, .slice (some ⟨w.heap.size, 0, none⟩) 2 2] (w.alloc (.cells #[.int .i64 3, .int .i64 0] 3)) fun e w' => e = .returned (.int .i64 (er P 9 x)) ∧ Hid (LX B w0 w' b T P (st T P 9 x) R) := stepNew h 9 6 2 [3, 0] rfl (by omega) (by omega) (by omega) (by simp [may]) rfl
  clear h
  generalize er P 9 x = E at *
  generalize st T P 9 x = X at *
  go_enter Try.func30, Try.ntmps30
  go_wp2_with (go_at_call 33; refine k.mono ?_; rintro e w' ⟨rfl, s⟩)
  go_ret
  exact ⟨rfl, s⟩
set_option maxRecDepth 1000000 in
theorem turn_any (h : LX B w0 w b T P x R) : Calls Try.prog 25 #[ptr b] w fun e w' => e = .returned (.int .i64 (er P 10 x)) ∧ Hid (LX B w0 w' b T P (st T P 10 x) R) := by
  have k : Calls Try.prog 33 #[ptr b, .int .i64 7, .slice (some ⟨w.heap.size, 0, none⟩) 5 5] (w.alloc (.cells #[.int .i64 0, .int .i64 1, .int .i64 2, .int .i64 3, .int .i64 4] 3)) fun e w' => e = .returned (.int .i64 (er P 10 x)) ∧ Hid (LX B w0 w' b T P (st T P 10 x) R) := stepNew h 10 7 5 [0, 1, 2, 3, 4] rfl (by omega) (by omega) (by omega) (decide_eq_decide.2 (by simp; omega)) rfl
  clear h
  generalize er P 10 x = E at *
  generalize st T P 10 x = X at *
  go_enter Try.func25, Try.ntmps25
  go_wp2_with (go_at_call 33; refine k.mono ?_; rintro e w' ⟨rfl, s⟩)
  go_ret
  exact ⟨rfl, s⟩
end
end Go.Proofs.Ytjdgndbdoceifaa
