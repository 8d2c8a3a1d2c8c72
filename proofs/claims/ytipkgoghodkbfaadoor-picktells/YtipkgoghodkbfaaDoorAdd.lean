/- Add of package graph. -/
import Derived.Test.YtipkgoghodkbfaaDoorApp
import Derived.Test.YtipkgoghodkbfaaDoorAre
import Derived.Test.YtipkgoghodkbfaaDoorDrw
import Derived.Deep.RegionHeld3
namespace Go.Proofs.YtipkgoghodkbfaaDoor
open Go.RowKit
open M
set_option linter.unusedVariables false
set_option linter.unusedSimpArgs false

/-- A row of numbers that was just made. -/
theorem ints_new (w : World) (b : Nat) (hb : w.heap.size = b) (xs : List Int) (arr : Array Value) (t : TypeId) (ha : arr = (xs.map (Value.int .i64)).toArray) : ∀ i (h : i < xs.length), (w.alloc (.cells arr t)).cell? ⟨b, i, none⟩ = some (.int .i64 xs[i]) := by
  subst hb ha
  intro i hi
  simp [hi]

/-- areTasks of two, as the walk meets it. -/
theorem are_two {w : World} {g eb n : Nat} {v : Value} {es : List E} (h : GM w g eb n v es) (a b : Int) (R : Bool) (hR : (!([a, b].any (offB n))) = R) :
    Calls Tryd.prog 21 #[ptr g, .slice (some ⟨w.heap.size, 0, none⟩) 2 2] (w.alloc (.cells #[.int .i64 a, .int .i64 b] 3)) fun e w' => e = .returned (.bool R) ∧ Below w.heap.size w w' := by
  have hb : Below w.heap.size w (w.alloc (.cells #[.int .i64 a, .int .i64 b] 3)) := (Below.refl _ _).alloc (Nat.le_refl _) _
  refine (are_any g eb n w.heap.size 2 [a, b] _ h.hn (by omega) rfl (h.below hb).c1 (ints_new w _ rfl [a, b] _ 3 rfl)).mono ?_
  rintro e w' ⟨rfl, hw⟩
  exact ⟨by rw [hR], hb.trans (hw.mono hb.size)⟩

set_option maxRecDepth 1000000 in
set_option maxHeartbeats 2000000 in
theorem add_bad {w : World} {g eb n : Nat} {v : Value} {es : List E} (h : GM w g eb n v es) (a b : Int) (hR : (!([a, b].any (offB n))) = false) :
    Calls Tryd.prog 11 #[ptr g, .int .i64 a, .int .i64 b] w fun e w' => e = .returned (.tuple #[.bool false, .int .i64 1]) ∧ Below w.heap.size w w' := by
  have k := are_two h a b _ hR
  clear hR h
  go_enter Tryd.func11, Tryd.ntmps11
  go_wp2_with (go_at_call 21; refine k.mono ?_; rintro e w1 ⟨rfl, hb⟩)
  go_ret2
  exact ⟨rfl, hb⟩

set_option maxRecDepth 1000000 in
set_option maxHeartbeats 2000000 in
theorem add_old {w : World} {g eb n : Nat} {v : Value} {es : List E} (h : GM w g eb n v es) (a b : Nat) (ha : a < n) (hbn : b < n) (hin : (a, b) ∈ es) :
    Calls Tryd.prog 11 #[ptr g, .int .i64 a, .int .i64 b] w fun e w' => e = .returned (.tuple #[.bool false, .int .i64 0]) ∧ Below w.heap.size w w' := by
  have k := are_two h a b true (by simp [offB]; omega)
  have hn := h.hn
  have H := hide_it h
  have kh : ∀ W : World, Calls Tryd.prog 22 #[.int .u64 (mask es a : Nat), .int .i64 b] W fun e w' => e = .returned (.bool true) ∧ w' = W := fun W => by
    have := has_any (mask es a) b W (h.mlt a) (by omega)
    rw [mask_bit, decide_eq_true hin] at this
    exact this
  clear h hin
  go_enter Tryd.func11, Tryd.ntmps11
  go_wp2_with (first | (go_at_call 21; refine k.mono ?_; rintro e w1 ⟨rfl, hb⟩; have q1 := (H.out.below hb).c1; have q2 := (H.out.below hb).ce a ha; generalize mask es a = M at *) | (go_at_call 22; refine (kh _).mono ?_; rintro e w' ⟨rfl, rfl⟩))
  go_ret2
  exact ⟨rfl, hb⟩
end Go.Proofs.YtipkgoghodkbfaaDoor
