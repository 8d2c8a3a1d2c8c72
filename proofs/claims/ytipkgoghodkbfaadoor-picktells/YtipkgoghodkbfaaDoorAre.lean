/- New, N, Len; whether all are tasks. -/
import Derived.Test.YtipkgoghodkbfaaDoorMem
import Derived.Deep.OwnRows
namespace Go.Proofs.YtipkgoghodkbfaaDoor
open Go.RowKit
open M
set_option linter.unusedVariables false
set_option linter.unusedSimpArgs false

abbrev ptr (g : Nat) : Value := .pointer (some ⟨g, 0, none⟩)

set_option maxRecDepth 1000000 in
set_option maxHeartbeats 2000000 in
theorem n_any (g eb n : Nat) (w : World) (hn : n ≤ 64) (h1 : w.cell? ⟨g, 1, none⟩ = some (.slice (some ⟨eb, 0, none⟩) n n)) :
    Calls Tryd.prog 32 #[ptr g] w fun e w' => e = .returned (.int .i64 n) ∧ w' = w := by
  go_enter Tryd.func32, Tryd.ntmps32
  go_wp2
  go_ret
  exact ⟨rfl, rfl⟩

/-- Is this no task? -/
def offB (n : Nat) (x : Int) : Bool := decide (x < 0) || decide ((n : Int) ≤ x)

set_option maxRecDepth 1000000 in
set_option maxHeartbeats 2000000 in
theorem off_any (g eb n c : Nat) (x : Int) (w : World) (hn : n ≤ 64) (hc : w.cell? ⟨c, 0, none⟩ = some (ptr g)) (h1 : w.cell? ⟨g, 1, none⟩ = some (.slice (some ⟨eb, 0, none⟩) n n)) :
    Calls Tryd.prog 38 #[.int .i64 x, ptr c] w fun e w' => e = .returned (.bool (offB n x)) ∧ w' = w := by
  have k := n_any g eb n w hn h1
  unfold offB
  by_cases h0 : x < 0
  · go_enter Tryd.func38, Tryd.ntmps38
    go_wp2
    go_ret
    exact ⟨ret_bool (by simp [h0]), rfl⟩
  · have h0' : decide (x < 0) = false := by simpa using h0
    go_enter Tryd.func38, Tryd.ntmps38
    go_wp2_with (go_at_call 32; refine k.mono ?_; rintro e w' ⟨rfl, rfl⟩)
    go_ret
    exact ⟨ret_bool (by simp [h0']), rfl⟩

set_option maxRecDepth 1000000 in
set_option maxHeartbeats 2000000 in
theorem index_any (g eb n c b m : Nat) (xs : List Int) (w : World) (hn : n ≤ 64) (hm : m ≤ 10) (hl : xs.length = m) (hc : w.cell? ⟨c, 0, none⟩ = some (ptr g)) (h1 : w.cell? ⟨g, 1, none⟩ = some (.slice (some ⟨eb, 0, none⟩) n n))
    (hx : ∀ i (h : i < xs.length), w.cell? ⟨b, i, none⟩ = some (.int .i64 xs[i])) :
    Calls Tryd.prog 33 #[.slice (some ⟨b, 0, none⟩) m m, .func (.func 38) #[] #[ptr c]] w fun e w' => (∃ z : Int, e = .returned (.int .i64 z) ∧ Hid (decide (0 ≤ z) = xs.any (offB n))) ∧ w' = w := by
  have HX := hide_it hl
  clear hl
  go_enter Tryd.func33, Tryd.ntmps33
  go_wp2
  go_loop [8] (fun i => ∃ k : Nat, k ≤ m ∧ i = .int .i64 k ∧ Hid ((xs.take k).any (offB n) = false)) (fun i => m - (intOf i).toNat)
  case atStart => exact ⟨0, Nat.zero_le _, rfl, by simp [Hid]⟩
  case round =>
    obtain ⟨k, hk, rfl, HR⟩ := hrel
    by_cases hlt : k < m
    · have hlx : k < xs.length := by rw [HX.out]; exact hlt
      have hcx := hx k hlx
      have HT : Hid ((xs.take (k + 1)).any (offB n) = ((xs.take k).any (offB n) || offB n xs[k])) := by
        unfold Hid
        rw [List.take_succ_eq_append_getElem hlx, List.any_append]; simp
      have HB : Hid (offB n xs[k] = true → xs.any (offB n) = true) := fun hb => List.any_eq_true.2 ⟨_, List.getElem_mem hlx, hb⟩
      generalize xs[k] = z at *
      have kk := off_any g eb n c z w hn hc h1
      cases hz : offB n z with
      | true =>
        rw [hz] at kk
        have HB' := hide_it (HB.out hz)
        clear hx hz HB HT
        go_wp2_with (go_at_call 38; refine kk.mono ?_; rintro e w' ⟨rfl, rfl⟩)
        go_ret
        exact ⟨⟨_, rfl, by unfold Hid; rw [HB'.out]; simp⟩, rfl⟩
      | false =>
        rw [hz] at kk
        have HT' : Hid ((xs.take (k + 1)).any (offB n) = false) := by unfold Hid; rw [HT.out, HR.out, hz]; rfl
        clear hx hz HB HT
        go_wp2_with (go_at_call 38; refine kk.mono ?_; rintro e w' ⟨rfl, rfl⟩)
        go_round
        case rel => exact ⟨k + 1, by omega, by go_num, HT'⟩
        case measure => simp [intOf]; omega
    · clear hx
      go_wp2
      go_ret
      have e := HR.out
      rw [List.take_of_length_le (by rw [HX.out]; omega)] at e
      exact ⟨⟨_, rfl, by unfold Hid; rw [e]; rfl⟩, rfl⟩
set_option maxRecDepth 1000000 in
set_option maxHeartbeats 2000000 in
theorem are_any (g eb n b m : Nat) (xs : List Int) (w : World) (hn : n ≤ 64) (hm : m ≤ 10) (hl : xs.length = m) (h1 : w.cell? ⟨g, 1, none⟩ = some (.slice (some ⟨eb, 0, none⟩) n n))
    (hx : ∀ i (h : i < xs.length), w.cell? ⟨b, i, none⟩ = some (.int .i64 xs[i])) :
    Calls Tryd.prog 21 #[ptr g, .slice (some ⟨b, 0, none⟩) m m] w fun e w' => e = .returned (.bool (!xs.any (offB n))) ∧ Below w.heap.size w w' := by
  have hmf : ∀ (fn : Fn) (first cap : Array Value) (w : World), (Instr.makeFunc fn first cap).run Tryd.prog w = .ok (.func fn first cap) w := fun _ _ _ _ => rfl
  have hb : Below w.heap.size w (w.alloc (.cells #[ptr g] 26)) := (Below.refl _ _).alloc (Nat.le_refl _) _
  have k : Calls Tryd.prog 33 #[.slice (some ⟨b, 0, none⟩) m m, .func (.func 38) #[] #[ptr w.heap.size]] (w.alloc (.cells #[ptr g] 26)) fun e w' => (∃ z : Int, e = .returned (.int .i64 z) ∧ Hid (decide (0 ≤ z) = xs.any (offB n))) ∧ w' = (w.alloc (.cells #[ptr g] 26)) :=
    index_any g eb n w.heap.size b m xs _ hn hm hl (by simp) (by rw [hb.cell (p := ⟨g, 1, none⟩) (World.block_lt_of_cell? w _ h1)]; exact h1) (fun i h => by rw [hb.cell (p := ⟨b, i, none⟩) (World.block_lt_of_cell? w _ (hx i h))]; exact hx i h)
  have k2 : Calls Tryd.prog 37 #[.slice (some ⟨b, 0, none⟩) m m, .func (.func 38) #[] #[ptr w.heap.size]] (w.alloc (.cells #[ptr g] 26)) fun e w' => e = .returned (.bool (xs.any (offB n))) ∧ w' = (w.alloc (.cells #[ptr g] 26)) := by
    clear hx hl h1 hb
    generalize xs.any (offB n) = R at *
    generalize (w.alloc (.cells #[ptr g] 26)) = w1 at *
    generalize w.heap.size = c at *
    go_enter Tryd.func37, Tryd.ntmps37
    go_wp2_with (go_at_call 33; refine k.mono ?_; rintro e w' ⟨⟨z, rfl, HZ⟩, rfl⟩)
    go_ret
    exact ⟨ret_bool HZ.out, rfl⟩
  clear k hx hl
  generalize xs.any (offB n) = R at *
  go_enter Tryd.func21, Tryd.ntmps21
  go_wp2_with (go_at_call 37; refine k2.mono ?_; rintro e w' ⟨rfl, rfl⟩)
  go_ret
  exact ⟨rfl, hb⟩

/-- How many tasks a graph of n has. -/
def sz (n : Int) : Nat := (min (max n 0) 64).toNat
theorem sz_le (n : Int) : sz n ≤ 64 := by unfold sz; omega
theorem sz_in (n : Nat) (h : n ≤ 64) : sz n = n := by unfold sz; omega
theorem info65 : (Tryd.prog.info? 65).map (fun i => (i.zero, i.size, i.bytes)) = some (some (.int .u64 0), 1, 8) := by kernel_rfl
theorem ends_new (m : Nat) : madeCells #[.int .u64 0] m = endsRow [] m := by
  rw [← Array.toList_inj, toList_madeCells_one]
  rw [endsRow, List.toList_toArray]
  show List.replicate m (Value.int .u64 0) = (List.range m).map fun _ => Value.int .u64 0
  rw [List.map_const', List.length_range]
theorem max_run (n : Int) (ts : Array TypeId) (t : TypeId) (W : World) : (Builtin.max_ ts t #[.int .i64 n, .int .i64 0]).run Tryd.prog W = .ok (.int .i64 (max n 0)) W := by
  rw [run_max_int2]
  congr 2
  split <;> omega
theorem min_run (n : Int) (ts : Array TypeId) (t : TypeId) (W : World) : (Builtin.min_ ts t #[.int .i64 (max n 0), .int .i64 64]).run Tryd.prog W = .ok (.int .i64 (sz n)) W := by
  rw [run_min_int2]
  congr 2
  unfold sz
  split <;> omega

set_option maxRecDepth 1000000 in
set_option maxHeartbeats 2000000 in
theorem new_any (n : Int) (w : World) :
    Calls Tryd.prog 9 #[.int .i64 n] w fun e w' => e = .returned (ptr (w.heap.size + 1)) ∧ GM w' (w.heap.size + 1) w.heap.size (sz n) (.slice none 0 0) [] ∧ Below w.heap.size w w' := by
  have hM := max_run n
  have hm := min_run n
  have hle := sz_le n
  have hk : ∀ W : World, (Instr.makeSlice 56 (.int .i64 (sz n)) (.int .i64 (sz n))).run Tryd.prog W = .ok (.slice (some ⟨W.heap.size, 0, none⟩) (sz n) (sz n)) (W.alloc (.cells (madeCells #[.int .u64 0] (sz n)) 65)) := fun W =>
    run_make_row' 56 65 (.int .u64 0) 8 Tryd.underlying56 info65 rfl .i64 .i64 (sz n) (by omega) (by omega) W
  simp only [ends_new] at hk
  generalize max n 0 = X at *
  generalize sz n = m at *
  go_enter Tryd.func9, Tryd.ntmps9
  go_wp2
  go_ret
  refine ⟨rfl, ?_, ?_⟩
  · refine ⟨?_, ?_, World.ownsRow_nil _ _ _ _, by omega, by simp [Value.ownBlock], by simp [Value.ownBlock], hle, by simp, by simp⟩
    · rw [show w.heap.size + 1 = (w.alloc (.cells (endsRow [] m) 65)).heap.size by simp]
      exact heap_alloc_new _ _
    · rw [Below.heap_alloc _ _ _ (by simp)]
      exact heap_alloc_new _ _
  · exact ((Below.refl _ _).alloc (Nat.le_refl _) _).alloc (by simp) _
end Go.Proofs.YtipkgoghodkbfaaDoor
