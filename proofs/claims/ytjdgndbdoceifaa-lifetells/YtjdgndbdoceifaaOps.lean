/- What is asked of a life. -/
import Derived.Test.YtjdgndbdoceifaaMem
import Derived.Deep.RegionHeld3
import Derived.BigQuiet
namespace Go.Proofs.Ytjdgndbdoceifaa
open Go.RowKit
open M
set_option linter.unusedVariables false
set_option linter.unusedSimpArgs false

section
variable {B : Nat} {w0 w : World} {b : Nat} {T P : Int} {x : Lf} {R : List (Nat × Obj)}
set_option maxRecDepth 1000000 in
theorem state_any (h : LX B w0 w b T P x R) : Calls Try.prog 14 #[ptr b] w fun e w' => e = .returned (.int .i64 x.s) ∧ w' = w := by
  have c0 := h.cells.1
  clear h
  go_enter Try.func14, Try.ntmps14
  go_wp2
  go_ret
  exact ⟨rfl, rfl⟩
set_option maxRecDepth 1000000 in
theorem epoch_any (h : LX B w0 w b T P x R) : Calls Try.prog 15 #[ptr b] w fun e w' => e = .returned (.int .i64 x.e) ∧ w' = w := by
  have c0 := h.cells.2.1
  clear h
  go_enter Try.func15, Try.ntmps15
  go_wp2
  go_ret
  exact ⟨rfl, rfl⟩
set_option maxRecDepth 1000000 in
theorem missed_any (h : LX B w0 w b T P x R) : Calls Try.prog 16 #[ptr b] w fun e w' => e = .returned (.int .i64 x.m) ∧ w' = w := by
  have c0 := h.cells.2.2.1
  clear h
  go_enter Try.func16, Try.ntmps16
  go_wp2
  go_ret
  exact ⟨rfl, rfl⟩
set_option maxRecDepth 1000000 in
theorem stopped_any (h : LX B w0 w b T P x R) : Calls Try.prog 17 #[ptr b] w fun e w' => e = .returned (.int .i64 x.p) ∧ w' = w := by
  have c0 := h.cells.2.2.2.1
  clear h
  go_enter Try.func17, Try.ntmps17
  go_wp2
  go_ret
  exact ⟨rfl, rfl⟩

/-- A row of numbers that was made just now. -/
def rowOf (l : List Nat) : Array Value := (l.map fun (i : Nat) => Value.int .i64 i).toArray
theorem row_new (w : World) (l : List Nat) : ∀ i, i < l.length → (w.alloc (.cells (rowOf l) 3)).cell? ⟨w.heap.size, i, none⟩ = some (.int .i64 ((fun i => ((l.getD i 0 : Nat) : Int)) i)) := by
  intro i hi
  rw [cell_of_row _ _ i _ _ _ (heap_alloc_new w _)]
  simp [rowOf, hi]
theorem row_has (l : List Nat) (s : Nat) : (decide (s ∈ l)) = true ↔ ∃ i, i < l.length ∧ ((fun i => ((l.getD i 0 : Nat) : Int)) i) = s := by
  rw [decide_eq_true_iff, List.mem_iff_getElem]
  constructor
  · rintro ⟨i, hi, rfl⟩; exact ⟨i, hi, by simp [hi]⟩
  · rintro ⟨i, hi, h⟩; refine ⟨i, hi, ?_⟩; simp [hi] at h; omega
theorem isNew (h : LX B w0 w b T P x R) (l : List Nat) (n : Nat) (hl : l.length = n) (hn : n ≤ 64) : Calls Try.prog 32 #[ptr b, .slice (some ⟨w.heap.size, 0, none⟩) n n] (w.alloc (.cells (rowOf l) 3)) fun e w' => e = .returned (.bool (decide (x.s ∈ l))) ∧ w' = w.alloc (.cells (rowOf l) 3) := by
  subst hl
  exact is_any (h.alloc _) _ _ _ hn (row_new w l) _ (row_has l x.s)
theorem becomeNew (h : LX B w0 w b T P x R) (l : List Nat) (n y : Nat) (hl : l.length = n) (hn : n ≤ 64) : Calls Try.prog 33 #[ptr b, .int .i64 y, .slice (some ⟨w.heap.size, 0, none⟩) n n] (w.alloc (.cells (rowOf l) 3)) fun e w' => e = .returned (.int .i64 (if x.s ∈ l then 0 else 8)) ∧ w' = (if x.s ∈ l then (w.alloc (.cells (rowOf l) 3)).setCell ⟨b, 0, none⟩ (.int .i64 y) else w.alloc (.cells (rowOf l) 3)) := by
  subst hl
  have := become_any (h.alloc _) _ _ _ y hn (row_new w l) _ (row_has l x.s)
  simpa using this

set_option maxRecDepth 1000000 in
theorem final_any (h : LX B w0 w b T P x R) : Calls Try.prog 18 #[ptr b] w fun e w' => e = .returned (.bool (decide (5 ≤ x.s))) ∧ Hid (LX B w0 w' b T P x R) := by
  have k : Calls Try.prog 32 #[ptr b, .slice (some ⟨w.heap.size, 0, none⟩) 3 3] (w.alloc (.cells #[.int .i64 5, .int .i64 6, .int .i64 7] 3)) fun e w' => e = .returned (.bool (decide (5 ≤ x.s))) ∧ Hid (LX B w0 w' b T P x R) := (isNew h [5, 6, 7] 3 rfl (by omega)).mono (by
    rintro e w' ⟨rfl, rfl⟩
    have := h.inv.s7
    exact ⟨ret_bool (decide_eq_decide.2 (by simp; omega)), (h.alloc _).drop (fun p hp => List.mem_cons_of_mem _ hp)⟩)
  clear h
  go_enter Try.func18, Try.ntmps18
  go_wp2_with (go_at_call 32; refine k.mono ?_; rintro e w' ⟨rfl, s⟩)
  go_ret
  exact ⟨rfl, s⟩
set_option maxRecDepth 1000000 in
theorem right_any (h : LX B w0 w b T P x R) (y : Int) : Calls Try.prog 19 #[ptr b, .int .i64 y] w fun e w' => e = .returned (.int .i64 (if x.s = 2 ∧ y = x.e then 0 else 7)) ∧ Hid (LX B w0 w' b T P x R) := by
  obtain ⟨c, hc⟩ : ∃ c, decide (x.s = 2) = c := ⟨_, rfl⟩
  have k : Calls Try.prog 32 #[ptr b, .slice (some ⟨w.heap.size, 0, none⟩) 1 1] (w.alloc (.cells #[.int .i64 2] 3)) fun e w' => e = .returned (.bool c) ∧ Hid (LX B w0 w' b T P x R) := (isNew h [2] 1 rfl (by omega)).mono (by
    rintro e w' ⟨rfl, rfl⟩
    exact ⟨ret_bool (by rw [← hc]; simp), (h.alloc _).drop (fun p hp => List.mem_cons_of_mem _ hp)⟩)
  clear h
  cases c with
  | true =>
    have hs : x.s = 2 := by simpa using hc
    have HC : Hid (∀ W, LX B w0 W b T P x R → W.cell? ⟨b, 1, none⟩ = some (.int .i64 x.e)) := fun W h => h.cells.2.1
    clear hc
    by_cases hy : y = x.e
    · have h1 : (y != (x.e : Int)) = false := by simp [hy]
      have e1 : (if x.s = 2 ∧ y = x.e then 0 else 7 : Int) = 0 := by simp [hs, hy]
      rw [e1]
      clear hs hy e1
      go_enter Try.func19, Try.ntmps19
      go_wp2_with (go_at_call 32; refine k.mono ?_; rintro e w' ⟨rfl, s⟩; have c1 := HC.out _ s.out)
      go_ret
      exact ⟨rfl, s⟩
    · have h1 : (y != (x.e : Int)) = true := by simp [hy]
      have e1 : (if x.s = 2 ∧ y = x.e then 0 else 7 : Int) = 7 := by simp [hy]
      rw [e1]
      clear hs hy e1
      go_enter Try.func19, Try.ntmps19
      go_wp2_with (go_at_call 32; refine k.mono ?_; rintro e w' ⟨rfl, s⟩; have c1 := HC.out _ s.out)
      go_ret
      exact ⟨rfl, s⟩
  | false =>
    have hs : ¬ x.s = 2 := by simpa using hc
    have e1 : (if x.s = 2 ∧ y = x.e then 0 else 7 : Int) = 7 := by simp [hs]
    rw [e1]
    clear hs hc e1
    go_enter Try.func19, Try.ntmps19
    go_wp2_with (go_at_call 32; refine k.mono ?_; rintro e w' ⟨rfl, s⟩)
    go_ret
    exact ⟨rfl, s⟩
end
end Go.Proofs.Ytjdgndbdoceifaa
