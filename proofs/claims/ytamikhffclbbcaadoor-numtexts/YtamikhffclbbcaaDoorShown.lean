/-
  What Text of package num answers, for every int: its decimal numeral; and what the statements' own look 'shown' answers: true. Where the table internal/strconv.uint64pow10 holds the powers of ten.
-/
import Derived.Test.YtamikhffclbbcaaDoorArith
import Derived.Test.YtamikhffclbbcaaDoorDouble
import Derived.Test.YtamikhffclbbcaaDoorParse
import Derived.Test.YtamikhffclbbcaaDoorShelf
import Derived.WalkSmall
namespace Go.Proofs.YtamikhffclbbcaaDoor
open Go.RowKit

abbrev Tab (w : World) : Prop := Lib.TabIs Tryd.prog w "internal/strconv.uint64pow10" .u64 Lib.pow10Tab

theorem gPow : Tryd.prog.globalNamed "internal/strconv.uint64pow10" = some 0 := by kernel_rfl

theorem tab_on {w w' : World} (h : Tab w) (hb : Below w.heap.size w w') : Tab w' := by
  have hlt : 0 < w.heap.size := by
    have h' := h
    unfold Tab Lib.TabIs World.var? at h'
    simp only [gPow, Option.bind_some] at h'
    by_cases hz : 0 < w.heap.size
    · exact hz
    · have : w.heap[0]? = none := Array.getElem?_eq_none (by omega)
      rw [this] at h'
      cases h'
  exact var?_below hb gPow hlt h

theorem below_grow (w : World) (k : Nat) (os : Array Obj) : Below w.heap.size w (Sort.grow (w.drewN k) os) := by
  refine ⟨rfl, rfl, rfl, ?_, fun i hi => ?_⟩
  · show w.heap.size ≤ (w.heap ++ os).size
    simp
  · show (w.heap ++ os)[i]? = _
    exact Array.getElem?_append_left hi

set_option maxHeartbeats 400000 in
theorem text_any (n : Int) (h0 : -9223372036854775808 ≤ n) (h1 : n ≤ 9223372036854775807) (w : World) (hT : Tab w) :
    Calls Tryd.prog 22 #[.int .i64 n] w fun e w' => e = .returned (.string ⟨(Lib.itoa n).toArray⟩) ∧ Below w.heap.size w w' := by
  go_enter Tryd.func22, Tryd.ntmps22
  go_wp2_with (go_at_call 28; refine (Tryd.strconv_Itoa n h0 h1 _ hT).mono ?_; rintro e w' ⟨rfl, k, os, rfl⟩)
  go_ret
  exact ⟨rfl, below_grow w k os⟩

theorem show_add (w : World) : Calls Tryd.prog 14 #[.int .i64 4611686018427387904, .int .i64 4611686018427387904] w fun e w' => e = .returned (.tuple #[.int .i64 0, .bool false]) ∧ w' = w := by
  have := add_any 4611686018427387904 4611686018427387904 w (by decide) (by decide) (by decide) (by decide)
  rw [show cutI (4611686018427387904 + 4611686018427387904) = 0 by decide, show inI (4611686018427387904 + 4611686018427387904) = false by decide] at this
  exact this
theorem show_mul (w : World) : Calls Tryd.prog 18 #[.int .i64 (-3), .int .i64 5] w fun e w' => e = .returned (.tuple #[.int .i64 (-15), .bool true]) ∧ w' = w := by
  have := mul_any (-3) 5 w (by decide) (by decide) (by decide) (by decide)
  rw [show cutI (-3 * 5) = -15 by decide, show inI (-3 * 5) = true by decide] at this
  exact this
theorem show_p1 (w : World) : Calls Tryd.prog 20 #[.string ⟨#[49, 48, 52, 56, 53, 55, 54]⟩] w fun e w' => e = .returned (.tuple #[.int .i64 1048576, .int .i64 0]) ∧ Below w.heap.size w w' := by
  have := parse_any ⟨#[49, 48, 52, 56, 53, 55, 54]⟩ (by decide) w
  rw [show pV (⟨#[49, 48, 52, 56, 53, 55, 54]⟩ : ByteArray).data.toList = 1048576 by decide, show pE (⟨#[49, 48, 52, 56, 53, 55, 54]⟩ : ByteArray).data.toList = 0 by decide] at this
  exact this
theorem show_p2 (w : World) : Calls Tryd.prog 20 #[.string ⟨#[49, 48, 52, 56, 53, 55, 55]⟩] w fun e w' => e = .returned (.tuple #[.int .i64 0, .int .i64 3]) ∧ Below w.heap.size w w' := by
  have := parse_any ⟨#[49, 48, 52, 56, 53, 55, 55]⟩ (by decide) w
  rw [show pV (⟨#[49, 48, 52, 56, 53, 55, 55]⟩ : ByteArray).data.toList = 0 by decide, show pE (⟨#[49, 48, 52, 56, 53, 55, 55]⟩ : ByteArray).data.toList = 3 by decide] at this
  exact this
theorem show_p3 (w : World) : Calls Tryd.prog 20 #[.string ⟨#[48, 48, 55]⟩] w fun e w' => e = .returned (.tuple #[.int .i64 0, .int .i64 2]) ∧ Below w.heap.size w w' := by
  have := parse_any ⟨#[48, 48, 55]⟩ (by decide) w
  rw [show pV (⟨#[48, 48, 55]⟩ : ByteArray).data.toList = 0 by decide, show pE (⟨#[48, 48, 55]⟩ : ByteArray).data.toList = 2 by decide] at this
  exact this
theorem show_text (w : World) (hT : Tab w) : Calls Tryd.prog 22 #[.int .i64 (-7)] w fun e w' => e = .returned (.string ⟨#[45, 55]⟩) ∧ Below w.heap.size w w' := by
  have := text_any (-7) (by decide) (by decide) w hT
  rw [show Lib.itoa (-7) = [45, 55] by rw [Lib.itoa, if_pos (by decide), show (-7 : Int).natAbs = 7 by decide, Lib.decDigits_one (by decide)]; rfl] at this
  exact this
theorem show_dbl (w : World) : Calls Tryd.prog 24 #[.int .i64 3, .int .i64 2, .int .i64 100] w fun e w' => e = .returned (.int .i64 12) ∧ w' = w := by
  have := double_any 3 2 100 w (by decide) (by decide) (by decide) (by decide) (by decide) (by decide)
  rw [show dbl (max 3 0) (max 2 0 : Int).toNat (max 100 0) = 12 by decide] at this
  exact this

set_option maxHeartbeats 1000000 in
theorem shown_any (w : World) (hT : Tab w) : Calls Tryd.prog 13 #[] w fun e w' => e = .returned (.bool true) ∧ Below w.heap.size w w' := by
  have hB : Below w.heap.size w w := Below.refl _ _
  go_enter Tryd.func13, Tryd.ntmps13
  go_wp2_with (go_at_call 14; refine (show_add _).mono ?_; rintro e W1 ⟨rfl, rfl⟩)
  go_wp2_with (go_at_call 18; refine (show_mul _).mono ?_; rintro e W1 ⟨rfl, rfl⟩)
  go_wp2_with (go_at_call 20; refine (show_p1 _).mono ?_; rintro e W1 ⟨rfl, hb1⟩; replace hT := tab_on hT hb1; replace hB := hB.trans (hb1.mono hB.size); clear hb1; refine Hid.out ?_)
  refine Lib.hid ?_
  go_wp2_with (go_at_call 20; refine (show_p2 _).mono ?_; rintro e W1 ⟨rfl, hb1⟩; replace hT := tab_on hT hb1; replace hB := hB.trans (hb1.mono hB.size); clear hb1; refine Hid.out ?_)
  refine Lib.hid ?_
  go_wp2_with (go_at_call 20; refine (show_p3 _).mono ?_; rintro e W1 ⟨rfl, hb1⟩; replace hT := tab_on hT hb1; replace hB := hB.trans (hb1.mono hB.size); clear hb1; refine Hid.out ?_)
  refine Lib.hid ?_
  go_wp2_with (go_at_call 22; refine (show_text _ hT).mono ?_; rintro e W1 ⟨rfl, hb1⟩; replace hB := hB.trans (hb1.mono hB.size); clear hb1)
  go_wp2_with (go_at_call 24; refine (show_dbl _).mono ?_; rintro e W1 ⟨rfl, rfl⟩)
  go_ret
  exact ⟨rfl, hB⟩

end Go.Proofs.YtamikhffclbbcaaDoor
