/- What within, Config and Task of package check answer. -/
import Derived.Test.YtfllhgbpjpmakaaProg
import Derived.WalkKit
import Derived.WalkSpells
import Derived.WalkLawsBesides
import Derived.Test.YtfllhgbpjpmakaaMath
namespace Go.Proofs.Ytfllhgbpjpmakaa
open Go.RowKit
open M
set_option linter.unusedVariables false

theorem ret_bool {a b : Bool} (h : a = b) : Ending.returned (.bool a) = .returned (.bool b) := by rw [h]
theorem ret_int {k : IntKind} {a b : Int} (h : a = b) : Ending.returned (.int k a) = .returned (.int k b) := by rw [h]
theorem hide_it {p : Prop} (h : p) : Hid p := h

def Ints (w : World) (b : Nat) (xs : List Int) : Prop := ∀ i (h : i < xs.length), w.cell? ⟨b, i, none⟩ = some (.int .i64 xs[i])

set_option maxRecDepth 1000000 in
set_option maxHeartbeats 2000000 in
theorem within_any (lo hi : Int) (xs : List Int) (b n cap : Nat) (w : World) (hx : xs.length = n) (hn : n ≤ 100) (h : Ints w b xs) :
    Calls Try.prog 17 #[.int .i64 lo, .int .i64 hi, .slice (some ⟨b, 0, none⟩) n cap] w fun e w' => e = .returned (.bool (rowB lo hi xs)) ∧ w' = w := by
  have HX : Hid (xs.length = n) := hx
  clear hx
  go_enter Try.func17, Try.ntmps17
  go_wp2
  go_loop [11] (fun i => ∃ k : Nat, k ≤ n ∧ i = .int .i64 k ∧ rowB lo hi (xs.take k) = true) (fun i => n - (intOf i).toNat)
  case atStart => exact ⟨0, Nat.zero_le _, rfl, by simp [rowB]⟩
  case round =>
    obtain ⟨k, hk, rfl, hr⟩ := hrel
    have HR : Hid (rowB lo hi (xs.take k) = true) := hr
    clear hr
    by_cases hlt : k < n
    · have hlx : k < xs.length := by rw [HX.out]; exact hlt
      have hc := h k hlx
      have HT : Hid (rowB lo hi (xs.take (k + 1)) = (rowB lo hi (xs.take k) && inB lo hi xs[k])) := rowB_take hlx
      have HB : Hid (inB lo hi xs[k] = false → rowB lo hi xs = false) := fun hb => rowB_bad hlx hb
      generalize xs[k] = z at *
      clear h
      by_cases h1 : z < lo
      · go_wp2
        go_ret
        exact ⟨ret_bool (HB.out (inB_false.2 (Or.inl h1))).symm, rfl⟩
      · by_cases h2 : hi < z
        · go_wp2
          go_ret
          exact ⟨ret_bool (HB.out (inB_false.2 (Or.inr h2))).symm, rfl⟩
        · go_wp2
          go_round
          case rel => exact ⟨k + 1, by omega, by go_num, by rw [HT.out, HR.out, inB_true.2 ⟨by omega, by omega⟩]; rfl⟩
          case measure => simp [intOf]; omega
    · go_wp2
      go_ret
      have e := HR.out
      rw [List.take_of_length_le (by rw [HX.out]; omega)] at e
      exact ⟨ret_bool e.symm, rfl⟩

theorem ints_at (w : World) (b : Nat) (hb : w.heap.size = b) (xs : List Int) (arr : Array Value) (t : TypeId) (ha : arr = (xs.map (Value.int .i64)).toArray) : Ints (w.alloc (.cells arr t)) b xs := by
  subst hb ha
  intro i hi
  simp [hi]

set_option maxRecDepth 1000000 in
set_option maxHeartbeats 2000000 in
theorem task_any (t : Int × Int) (w : World) :
    Calls Try.prog 14 #[.agg #[.int .i64 t.1, .int .i64 t.2]] w fun e w' => e = .returned (.int .i64 (errN (taskB t))) ∧ Below w.heap.size w w' := by
  obtain ⟨x, y⟩ := t
  have ht : taskB (x, y) = rowB 1 1048576 [x, y] := by simp [taskB, rowB]
  rw [ht]
  have k : ∀ W : World, ∀ b, W.heap.size = b → Calls Try.prog 17 #[.int .i64 1, .int .i64 1048576, .slice (some ⟨b, 0, none⟩) 2 2] (W.alloc (.cells #[.int .i64 x, .int .i64 y] 3)) fun e w' => e = .returned (.bool (rowB 1 1048576 [x, y])) ∧ w' = (W.alloc (.cells #[.int .i64 x, .int .i64 y] 3)) := fun W b hb => within_any _ _ [x, y] b 2 2 _ rfl (by omega) (ints_at W b hb [x, y] _ 3 rfl)
  cases hr : rowB 1 1048576 [x, y] with
  | true =>
    rw [hr] at k
    go_enter Try.func14, Try.ntmps14
    go_wp2_with (go_at_call 17; refine (k _ _ (by simp)).mono ?_; rintro e w' ⟨rfl, rfl⟩)
    go_ret
    exact ⟨rfl, ((Below.refl _ _).alloc (Nat.le_refl _) _).alloc (by simp) _⟩
  | false =>
    rw [hr] at k
    go_enter Try.func14, Try.ntmps14
    go_wp2_with (go_at_call 17; refine (k _ _ (by simp)).mono ?_; rintro e w' ⟨rfl, rfl⟩)
    go_ret
    exact ⟨rfl, ((Below.refl _ _).alloc (Nat.le_refl _) _).alloc (by simp) _⟩
end Go.Proofs.Ytfllhgbpjpmakaa
