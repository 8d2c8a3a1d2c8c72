/- The small functions over sets of bits. -/
import Derived.Test.YtipkgoghodkbfaaDoorProg
import Derived.Test.YtipkgoghodkbfaaDoorMat
import Derived.WalkKit
import Derived.WalkSpells
import Derived.WalkLawsBesides
import Derived.Laws.BitsAllLaws
import Derived.Laws.Bits64b
import Derived.Lib.TrailingZeros
import Derived.Lib.LaidTab
import Derived.Below
namespace Go.Proofs.YtipkgoghodkbfaaDoor
open Go.RowKit
open M
set_option linter.unusedVariables false
set_option linter.unusedSimpArgs false

theorem ret_bool {a b : Bool} (h : a = b) : Ending.returned (.bool a) = .returned (.bool b) := by rw [h]
theorem ret_int {k : IntKind} {a b : Int} (h : a = b) : Ending.returned (.int k a) = .returned (.int k b) := by rw [h]
theorem hide_it {p : Prop} (h : p) : Hid p := h

theorem wrap_pow (b : Nat) (hb : b < 64) : IntKind.u64.wrap (2 ^ b) = ((2 ^ b : Nat) : Int) := by
  have h : (2 ^ b : Nat) < 2 ^ 64 := Nat.pow_lt_pow_right (by omega) hb
  rw [IntKind.wrap_u64]
  have e : ((2 : Int) ^ b) = ((2 ^ b : Nat) : Int) := by simp
  rw [e]
  generalize (2 ^ b : Nat) = p at *
  omega

set_option maxRecDepth 1000000 in
set_option maxHeartbeats 2000000 in
theorem only_any (b : Nat) (w : World) (hb : b < 64) :
    Calls Tryd.prog 23 #[.int .i64 b] w fun e w' => e = .returned (.int .u64 ((2 ^ b : Nat) : Int)) ∧ w' = w := by
  have H := hide_it (wrap_pow b hb)
  go_enter Tryd.func23, Tryd.ntmps23
  go_wp2
  go_ret
  exact ⟨ret_int H.out, rfl⟩

theorem has_bit (s b : Nat) (hs : s < 18446744073709551616) (hb : b < 64) : (bits .and .u64 (s : Int) ((2 ^ b : Nat) : Int) != 0) = s.testBit b := by
  have h : (2 ^ b : Nat) < 2 ^ 64 := Nat.pow_lt_pow_right (by omega) hb
  rw [bits_and_u64_nat s _ hs h, nat_bit, Nat.testBit_eq_decide_div_mod_eq]
  have hp : 0 < 2 ^ b := Nat.pow_pos (by omega)
  have h2 : s / 2 ^ b % 2 < 2 := Nat.mod_lt _ (by omega)
  rcases (by omega : s / 2 ^ b % 2 = 0 ∨ s / 2 ^ b % 2 = 1) with h3 | h3
  · rw [h3]; simp
  · rw [h3, Nat.one_mul]
    generalize (2 ^ b : Nat) = p at *
    simp
    omega

set_option maxRecDepth 1000000 in
set_option maxHeartbeats 2000000 in
theorem has_any (s b : Nat) (w : World) (hs : s < 18446744073709551616) (hb : b < 64) :
    Calls Tryd.prog 22 #[.int .u64 s, .int .i64 b] w fun e w' => e = .returned (.bool (s.testBit b)) ∧ w' = w := by
  have H := hide_it (has_bit s b hs hb)
  have k := only_any b w hb
  generalize ((2 ^ b : Nat) : Int) = p at *
  go_enter Tryd.func22, Tryd.ntmps22
  go_wp2_with (go_at_call 23; refine k.mono ?_; rintro e w' ⟨rfl, rfl⟩)
  go_ret
  exact ⟨ret_bool H.out, rfl⟩

theorem rest_num (s : Nat) (hs : s < 18446744073709551616) (h0 : 0 < s) : bits .and .u64 (s : Int) ((s : Int) - 1) = ((s &&& (s - 1) : Nat) : Int) := by
  have e : ((s : Int) - 1) = ((s - 1 : Nat) : Int) := by omega
  rw [e, bits_and_u64_nat s _ hs (by omega)]

set_option maxRecDepth 1000000 in
set_option maxHeartbeats 2000000 in
theorem rest_any (s : Nat) (w : World) (hb : s < 18446744073709551616) (h0 : 0 < s) :
    Calls Tryd.prog 42 #[.int .u64 s] w fun e w' => e = .returned (.int .u64 ((s &&& (s - 1) : Nat) : Int)) ∧ w' = w := by
  have H := hide_it (rest_num s hb h0)
  generalize ((s &&& (s - 1) : Nat) : Int) = R at *
  go_enter Tryd.func42, Tryd.ntmps42
  go_wp2
  go_ret
  exact ⟨ret_int H.out, rfl⟩

set_option maxRecDepth 1000000 in
set_option maxHeartbeats 2000000 in
theorem tz_core (x k idx : Nat) (w : World) (hx0 : ((x : Int) == 0) = false)
    (key : IntKind.u64.wrap (bits BinOp.and IntKind.u64 (x : Int) (IntKind.u64.wrap (-(x : Int))) * 285870213051353865) / 288230376151711744 = (idx : Int))
    (hi : idx < 64) (hk : k < 64) (hcell : w.cell? ⟨0, idx, none⟩ = some (.int .u8 k)) :
    Calls Tryd.prog 44 #[.int .u64 x] w fun e w' => e = .returned (.int .i64 k) ∧ w' = w := by
  go_enter Tryd.func44, Tryd.ntmps44
  go_wp2_with (simp only [key])
  go_ret
  exact ⟨rfl, rfl⟩
theorem tz_key (x a : Nat) (hx : x < 18446744073709551616) (hx0 : x ≠ 0) (hlow : x &&& (18446744073709551616 - x) = a) :
    IntKind.u64.wrap (bits BinOp.and IntKind.u64 (x : Int) (IntKind.u64.wrap (-(x : Int))) * 285870213051353865) / 288230376151711744 = ((a * 285870213051353865 % 18446744073709551616 / 288230376151711744 : Nat) : Int) := by
  have e1 : IntKind.u64.wrap (-(x : Int)) = ((18446744073709551616 - x : Nat) : Int) := by rw [IntKind.wrap_u64]; omega
  rw [e1, bits_and_u64_nat x _ hx (by omega), hlow, IntKind.wrap_u64]
  omega

/-- The table of package bits in its variable. -/
def Tab (w : World) : Prop := ∀ j, j < Lib.deBruijn64tab.length → w.cell? ⟨0, j, none⟩ = some (.int .u8 (Lib.deBruijn64tab.getD j 0))

theorem least_any (s l : Nat) (w : World) (hT : Tab w) (hs : s < 18446744073709551616) (h0 : s ≠ 0) (hl : Lib.ctz 64 s = l) :
    Calls Tryd.prog 41 #[.int .u64 s] w fun e w' => e = .returned (.int .i64 l) ∧ w' = w := by
  obtain ⟨hlow, hk⟩ := Lib.lowest_bit 64 s h0 hs
  obtain ⟨hi, htab⟩ := Lib.deBruijn64_at _ hk
  have hcell := hT _ hi
  rw [htab] at hcell
  have k := tz_core s _ _ w (by simp; omega) (tz_key s _ hs h0 hlow) hi hk hcell
  rw [hl] at k
  clear hcell htab hi hlow hk hl
  go_enter Tryd.func41, Tryd.ntmps41
  go_wp2_with (go_at_call 44; refine k.mono ?_; rintro e w' ⟨rfl, rfl⟩)
  go_ret
  exact ⟨rfl, rfl⟩
end Go.Proofs.YtipkgoghodkbfaaDoor
