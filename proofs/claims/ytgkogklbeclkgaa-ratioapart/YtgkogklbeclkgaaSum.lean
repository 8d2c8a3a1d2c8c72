/- Sum of two shares, and of none; what must be in any case. -/
import Derived.Test.YtgkogklbeclkgaaCmp
namespace Go.Proofs.Ytgkogklbeclkgaa
open Go.RowKit Go.Lib
open M
set_option linter.unusedVariables false
set_option linter.unusedSimpArgs false

theorem sum_none (w : World) : Calls Try.prog 17 #[.slice none 0 0] w fun e w' => e = .returned (.complex .f64 0 0) ∧ w' = w := by
  go_enter Try.func17, Try.ntmps17
  go_wp2
  go_loop [3, 8] (fun s i => i = .int .i64 0 ∧ s = .complex .f64 0 0) (fun _ _ => 0)
  case atStart => exact ⟨rfl, rfl⟩
  case round =>
    obtain ⟨rfl, rfl⟩ := hrel
    go_wp2
    go_ret
    exact ⟨rfl, rfl⟩

/-- Two words' sum. -/
theorem csum_is {x y u v : Nat} {a b c d : Int} (hx : Is x a) (hy : Is y b) (hu : Is u c) (hv : Is v d) (h1 : (a + c).natAbs < 2 ^ 53) (h2 : (b + d).natAbs < 2 ^ 53) : ∃ re im, cSumBits .add .f64 x y u v = some (re, im) ∧ Is re (a + c) ∧ Is im (b + d) := by
  obtain ⟨r1, e1, i1⟩ := is_add hx hu h1
  obtain ⟨r2, e2, i2⟩ := is_add hy hv h2
  exact ⟨r1, r2, by simp [cSumBits, e1, e2], i1, i2⟩

set_option maxHeartbeats 1000000 in
theorem sum_two (x y u v : Nat) (a b c d : Int) (g : Nat) (w : World) (hx : Is x a) (hy : Is y b) (hu : Is u c) (hv : Is v d) (ha : Sml a) (hb : Sml b) (hc : Sml c) (hd : Sml d)
    (c0 : w.cell? ⟨g, 0, none⟩ = some (.complex .f64 x y)) (c1 : w.cell? ⟨g, 1, none⟩ = some (.complex .f64 u v)) :
    Calls Try.prog 17 #[.slice (some ⟨g, 0, none⟩) 2 2] w fun e w' => ∃ re im, e = .returned (.complex .f64 re im) ∧ Is re (a + c) ∧ Is im (b + d) ∧ w' = w := by
  obtain ⟨r1, i1, e1, k1, k2⟩ := csum_is is_0 is_0 hx hy (by have := ha.2; have := ha.1; omega) (by have := hb.2; have := hb.1; omega)
  rw [Int.zero_add] at k1 k2
  obtain ⟨r2, i2, e2, k3, k4⟩ := csum_is k1 k2 hu hv (by have := ha.2; have := ha.1; have := hc.2; have := hc.1; omega) (by have := hb.2; have := hb.1; have := hd.2; have := hd.1; omega)
  have hop1 := fun t w => run_complex_sum (P := Try.prog) w .add (Or.inl rfl) t .f64 0 0 x y r1 i1 e1
  have hop2 := fun t w => run_complex_sum (P := Try.prog) w .add (Or.inl rfl) t .f64 r1 i1 u v r2 i2 e2
  have K3 : Hid (Is r2 (a + c)) := k3
  have K4 : Hid (Is i2 (b + d)) := k4
  clear hx hy hu hv ha hb hc hd e1 e2 k1 k2 k3 k4
  go_enter Try.func17, Try.ntmps17
  go_wp2
  go_loop [3, 8] (fun s i => (i = .int .i64 0 ∧ s = .complex .f64 0 0) ∨ (i = .int .i64 1 ∧ s = .complex .f64 r1 i1) ∨ (i = .int .i64 2 ∧ s = .complex .f64 r2 i2)) (fun _ i => 2 - (intOf i).toNat)
  case atStart => exact .inl ⟨rfl, rfl⟩
  case round =>
    rcases hrel with ⟨rfl, rfl⟩ | ⟨rfl, rfl⟩ | ⟨rfl, rfl⟩
    · go_wp2_with (simp only [hop1])
      go_round
      case rel => exact .inr (.inl ⟨rfl, rfl⟩)
      case measure => simp [intOf]
    · go_wp2_with (simp only [hop2])
      go_round
      case rel => exact .inr (.inr ⟨rfl, rfl⟩)
      case measure => simp [intOf]
    · go_wp2
      go_ret
      exact ⟨_, _, rfl, K3.out, K4.out, rfl⟩
end Go.Proofs.Ytgkogklbeclkgaa
