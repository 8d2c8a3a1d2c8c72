/- Whether anybody wants anything. -/
import Derived.Test.YtlhkahincnchjaaCst
namespace Go.Proofs.Ytlhkahincnchjaa
open Go.RowKit
open M
set_option linter.unusedVariables false
set_option linter.unusedSimpArgs false

def anyB (cs : Nat → Int) (n : Nat) : Bool := (List.range n).any (fun j => !decide (cs j = 0))
theorem anyB_true {cs : Nat → Int} {n : Nat} (h : anyB cs n = true) : ∃ j, j < n ∧ cs j ≠ 0 := by
  unfold anyB at h
  rw [List.any_eq_true] at h
  obtain ⟨j, h1, h2⟩ := h
  exact ⟨j, List.mem_range.1 h1, by simpa using h2⟩
theorem anyB_false {cs : Nat → Int} {n : Nat} (h : anyB cs n = false) : ∀ j, j < n → cs j = 0 := by
  unfold anyB at h
  rw [List.any_eq_false] at h
  intro j hj
  have := h j (List.mem_range.2 hj)
  simpa using this
theorem anyB_yes {cs : Nat → Int} {n j : Nat} (hj : j < n) (hc : cs j ≠ 0) : anyB cs n = true := by
  cases h : anyB cs n with
  | true => rfl
  | false => exact absurd (anyB_false h j hj) hc
theorem anyB_no {cs : Nat → Int} {n : Nat} (h : ∀ j, j < n → cs j = 0) : anyB cs n = false := by
  cases e : anyB cs n with
  | false => rfl
  | true =>
    obtain ⟨j, h1, h2⟩ := anyB_true e
    exact absurd (h j h1) h2

set_option maxRecDepth 1000000 in
set_option maxHeartbeats 2000000 in
theorem findc_any {w : World} {cb n : Nat} {cs : Nat → Int} (h : w.heap[cb]? = some (.cells (iRow cs n) 3)) (hn : n ≤ 1000000) (hc : ∀ j, j < n → 0 ≤ cs j ∧ cs j ≤ 1048576) :
    Calls Try.prog 35 #[.slice (some ⟨cb, 0, none⟩) n n, .func (Fn.func 28) #[] #[]] w fun e w' => (∃ z, e = .returned (.int .i64 z) ∧ Hid (decide (0 ≤ z) = anyB cs n)) ∧ w' = w := by
  have HC := hide_it hc
  have HB := hide_it (block_lt h)
  have HR : Hid (∀ j, j < n → w.cell? ⟨cb, j, none⟩ = some (.int .i64 (cs j))) := fun j hj => by rw [cell_of_row w cb j _ _ _ h]; exact iRow_at cs n j hj
  clear h hc
  go_enter Try.func35, Try.ntmps35
  go_wp2
  go_loop [8] (fun i => ∃ k : Nat, k ≤ n ∧ i = .int .i64 k ∧ Hid (∀ j, j < k → cs j = 0)) (fun i => n - (intOf i).toNat)
  case atStart => exact ⟨0, Nat.zero_le _, rfl, fun j hj => by omega⟩
  case round =>
    obtain ⟨k, hk, rfl, HN⟩ := hrel
    by_cases hlt : k < n
    · have cc := HR.out k hlt
      have kI := isCost_any w (cs k)
      have hcc := HC.out k hlt
      by_cases hz : cs k = 0
      · rw [show decide (1 ≤ cs k ∧ cs k ≤ 1048576) = false by simp; omega] at kI
        have HN2 : Hid (∀ j, j < k + 1 → cs j = 0) := fun j hj => by
          by_cases q : j = k
          · subst q; exact hz
          · exact HN.out j (by omega)
        clear hz hcc HN HC
        generalize cs k = c at *
        go_wp2_with (go_at_call 28; refine kI.mono ?_; rintro e w1 ⟨rfl, e9⟩; have e8 := e9.symm; clear e9; subst e8)
        go_round
        case rel => exact ⟨k + 1, by omega, by go_num, HN2⟩
        case measure => simp [intOf]; omega
      · rw [show decide (1 ≤ cs k ∧ cs k ≤ 1048576) = true by simp; omega] at kI
        have HZ : Hid (decide (0 ≤ (k : Int)) = anyB cs n) := by rw [anyB_yes hlt hz]; exact decide_eq_true (by omega)
        clear hz hcc HN HC
        generalize cs k = c at *
        go_wp2_with (go_at_call 28; refine kI.mono ?_; rintro e w1 ⟨rfl, e9⟩; have e8 := e9.symm; clear e9; subst e8)
        go_ret
        exact ⟨⟨k, rfl, HZ⟩, rfl⟩
    · have HZ : Hid (decide (0 ≤ (-1 : Int)) = anyB cs n) := by rw [anyB_no (fun j hj => HN.out j (by omega))]; rfl
      clear HN HC HR
      go_wp2
      go_ret
      exact ⟨⟨-1, rfl, HZ⟩, rfl⟩

set_option maxRecDepth 1000000 in
set_option maxHeartbeats 2000000 in
theorem contains_any {w : World} {cb n : Nat} {cs : Nat → Int} (h : w.heap[cb]? = some (.cells (iRow cs n) 3)) (hn : n ≤ 1000000) (hc : ∀ j, j < n → 0 ≤ cs j ∧ cs j ≤ 1048576) :
    Calls Try.prog 27 #[.slice (some ⟨cb, 0, none⟩) n n, .func (Fn.func 28) #[] #[]] w fun e w' => e = .returned (.bool (anyB cs n)) ∧ w' = w := by
  have k1 := findc_any h hn hc
  clear h hc
  generalize anyB cs n = B at *
  go_enter Try.func27, Try.ntmps27
  go_wp2_with (go_at_call 35; refine k1.mono ?_; rintro e w1 ⟨⟨z, rfl, HZ⟩, rfl⟩)
  go_ret
  exact ⟨ret_bool HZ.out, rfl⟩
end Go.Proofs.Ytlhkahincnchjaa
