/- tasks, isTask; slices.Index of a row of numbers. -/
import Derived.Test.YtpbncoaonminoaaDoorRea
import Derived.Test.YtpbncoaonminoaaDoorCyM
namespace Go.Proofs.YtpbncoaonminoaaDoor
open Go.RowKit
open M
set_option linter.unusedVariables false
set_option linter.unusedSimpArgs false

set_option maxRecDepth 1000000 in
set_option maxHeartbeats 2000000 in
theorem tasks_any (g eb n : Nat) (w : World) (hn : n ≤ 64) (h1 : w.cell? ⟨g, 1, none⟩ = some (.slice (some ⟨eb, 0, none⟩) n n)) :
    Calls Tryd.prog 29 #[ptr g] w fun e w' => e = .returned (.int .i64 n) ∧ w' = w := by
  have k := n_any g eb n w hn h1
  go_enter Tryd.func29, Tryd.ntmps29
  go_wp2_with (go_at_call 23; refine k.mono ?_; rintro e w' ⟨rfl, rfl⟩)
  go_ret
  exact ⟨rfl, rfl⟩

set_option maxRecDepth 1000000 in
set_option maxHeartbeats 2000000 in
theorem isTask_any (g eb n : Nat) (x : Int) (w : World) (hn : n ≤ 64) (h1 : w.cell? ⟨g, 1, none⟩ = some (.slice (some ⟨eb, 0, none⟩) n n)) :
    Calls Tryd.prog 32 #[ptr g, .int .i64 x] w fun e w' => e = .returned (.bool (!offB n x)) ∧ w' = w := by
  have k := tasks_any g eb n w hn h1
  unfold offB
  by_cases h0 : 0 ≤ x
  · have h2 : decide (x < 0) = false := by simpa using h0
    go_enter Tryd.func32, Tryd.ntmps32
    go_wp2_with (go_at_call 29; refine k.mono ?_; rintro e w' ⟨rfl, rfl⟩)
    go_ret
    exact ⟨ret_bool (by rw [h2]; by_cases hx : x < n <;> simp [hx] <;> omega), rfl⟩
  · have h0' : decide (0 ≤ x) = false := by simpa using h0
    have h2 : decide (x < 0) = true := by simp; omega
    go_enter Tryd.func32, Tryd.ntmps32
    go_wp2
    go_ret
    exact ⟨rfl, rfl⟩

/-- A row of numbers. -/
def iRow (f : Nat → Int) (n : Nat) : Array Value := ((List.range n).map fun i => Value.int .i64 (f i)).toArray
theorem iRow_at (f : Nat → Int) (n i : Nat) (h : i < n) : (iRow f n)[i]? = some (.int .i64 (f i)) := by simp [iRow, h]
theorem iRow_size (f : Nat → Int) (n : Nat) : (iRow f n).size = n := by simp [iRow]
theorem iRow_set (f : Nat → Int) (n j : Nat) (x : Int) : (iRow f n).setIfInBounds j (.int .i64 x) = iRow (fun i => if i = j then x else f i) n := by
  apply Array.ext_getElem?
  intro i
  rw [Array.getElem?_setIfInBounds]
  by_cases hi : i < n
  · rw [iRow_at _ n i hi, iRow_at _ n i hi]
    by_cases hij : j = i
    · subst hij
      simp [iRow_size, hi]
    · have : ¬ i = j := fun e => hij e.symm
      simp [hij, this]
  · have h1 : (iRow f n)[i]? = none := Array.getElem?_eq_none (by rw [iRow_size]; omega)
    have h2 : (iRow (fun i => if i = j then x else f i) n)[i]? = none := Array.getElem?_eq_none (by rw [iRow_size]; omega)
    rw [h2]
    by_cases hij : j = i
    · subst hij
      simp [iRow_size, hi]
    · simp [hij, h1]
theorem iRow_new (n : Nat) : madeCells #[.int .i64 0] n = iRow (fun _ => 0) n := by
  rw [← Array.toList_inj, toList_madeCells_one]
  rw [iRow, List.toList_toArray]
  show List.replicate n (Value.int .i64 0) = (List.range n).map fun _ => Value.int .i64 0
  rw [List.map_const', List.length_range]

set_option maxRecDepth 1000000 in
set_option maxHeartbeats 2000000 in
/-- The first nought of a row. -/
theorem index_zero (ob n : Nat) (f : Nat → Int) (w : World) (hn : n ≤ 64) (ho : w.heap[ob]? = some (.cells (iRow f n) 3)) :
    Calls Tryd.prog 30 #[.slice (some ⟨ob, 0, none⟩) n n, .int .i64 0] w fun e w' => (∃ z : Int, e = .returned (.int .i64 z) ∧ Hid ((z = -1 ∧ ∀ i, i < n → f i ≠ 0) ∨ ∃ k : Nat, z = k ∧ k < n ∧ f k = 0 ∧ ∀ i, i < k → f i ≠ 0)) ∧ w' = w := by
  have hx : ∀ i, i < n → w.cell? ⟨ob, i, none⟩ = some (.int .i64 (f i)) := fun i hi => by rw [cell_of_row w ob i _ _ _ ho]; exact iRow_at f n i hi
  clear ho
  go_enter Tryd.func30, Tryd.ntmps30
  go_wp2
  go_loop [8] (fun i => ∃ k : Nat, k ≤ n ∧ i = .int .i64 k ∧ Hid (∀ i, i < k → f i ≠ 0)) (fun i => n - (intOf i).toNat)
  case atStart => exact ⟨0, Nat.zero_le _, rfl, fun i hi => by omega⟩
  case round =>
    obtain ⟨k, hk, rfl, HR⟩ := hrel
    by_cases hlt : k < n
    · have hcx := hx k hlt
      clear hx
      by_cases hz : f k = 0
      · have HZ : Hid ((( k : Int) = -1 ∧ ∀ i, i < n → f i ≠ 0) ∨ ∃ k' : Nat, (k : Int) = k' ∧ k' < n ∧ f k' = 0 ∧ ∀ i, i < k' → f i ≠ 0) := .inr ⟨k, rfl, hlt, hz, HR.out⟩
        rw [hz] at hcx
        clear hz HR
        go_wp2
        go_ret
        exact ⟨⟨_, rfl, HZ⟩, rfl⟩
      · have HZ : Hid (∀ i, i < k + 1 → f i ≠ 0) := fun i hi => by
          by_cases e : i = k
          · subst e; exact hz
          · exact HR.out i (by omega)
        have hz' : ((0 : Int) == f k) = false := by simp; omega
        generalize f k = y at *
        clear hz HR
        go_wp2
        go_round
        case rel => exact ⟨k + 1, by omega, by go_num, HZ⟩
        case measure => simp [intOf]; omega
    · clear hx
      go_wp2
      go_ret
      exact ⟨⟨_, rfl, .inl ⟨rfl, fun i hi => HR.out i (by omega)⟩⟩, rfl⟩
end Go.Proofs.YtpbncoaonminoaaDoor
