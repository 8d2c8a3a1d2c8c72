/- LifeStops, walked. -/
import Derived.Test.YtjdgndbdoceifaaSho
import Derived.Test.YtjdgndbdoceifaaArg
import Derived.Deep.RegionHeld3
import Derived.Deep.CutRange
import Derived.Deep.CutBlock
import Derived.BigQuiet
namespace Go.Proofs.Ytjdgndbdoceifaa
open Go.RowKit
open M
set_option linter.unusedVariables false
set_option linter.unusedSimpArgs false

theorem st_stop {T P : Int} {e m p : Nat} (h : (p : Int) < P) : er P 2 ⟨2, e, m, p⟩ = 0 ∧ st T P 2 ⟨2, e, m, p⟩ = ⟨1, e, m, p + 1⟩ := by
  have h2 : ¬ (2 = 2 ∧ P ≤ (p : Int)) := by omega
  exact ⟨er_yes rfl h2, st_yes rfl h2⟩
set_option maxRecDepth 1000000 in
set_option maxHeartbeats 4000000 in
theorem lifeStops_walk (n : Int) (w : World) : Calls Try.prog 7 #[.int .i64 n] w fun e w' => e = .returned (.bool true) ∧ Below w.heap.size w w' := by
  obtain ⟨B, hB⟩ : ∃ B, w.heap.size = B := ⟨_, rfl⟩
  have ks : Calls Try.prog 9 #[] w fun e w' => e = .returned (.bool true) ∧ Hid (Below B w w') := by
    have := shown_any w
    rw [hB] at this
    exact this
  have hlo : B ≤ w.heap.size := by omega
  obtain ⟨u, hu, hu2⟩ := and16 n
  obtain ⟨d, hN⟩ : ∃ d, u % 51 = d := ⟨_, rfl⟩
  have hd : d < 51 := by omega
  have q1 : (u : Int).tmod 51 = (d : Int) := by rw [Int.tmod_eq_emod_of_nonneg (by omega)]; omega
  have q2 : (u : Int) % 51 = (d : Int) := by omega
  have kn : ∀ W, Below B w W → Calls Try.prog 10 #[.int .i64 1, .int .i64 d] W fun e w' => ∃ b, e = .returned (ptr b) ∧ Hid (LX B w w' b 1 d ⟨0, 0, 0, 0⟩ []) := fun W hb => new_any hb hlo 1 d 1 d (by decide) (by omega)
  have kw : ∀ W b, LX B w W b 1 d ⟨0, 0, 0, 0⟩ [] → Calls Try.prog 20 #[ptr b] W fun e w' => e = .returned (.int .i64 0) ∧ Hid (LX B w w' b 1 d ⟨1, 0, 0, 0⟩ []) := fun W b h => want_any h
  rw [hB]
  clear hB hN hlo
  go_enter Try.func7, Try.ntmps7
  go_wp2_with (first | (go_at_call 9; refine ks.mono ?_; rintro e w1 ⟨rfl, s1⟩; clear ks) | (go_at_call 10; refine (kn _ s1.out).mono ?_; rintro e w2 ⟨b, rfl, s2⟩; clear kn s1) | (go_at_call 20; refine (kw _ _ s2.out).mono ?_; rintro e w3 ⟨rfl, s⟩; clear kw s2))
  go_loopw [5] (fun iv W => ∃ (i : Nat), iv = .int .i64 i ∧ i ≤ d ∧ Hid (LX B w W b 1 d ⟨1, i, 0, i⟩ [])) (fun iv _ => d - (intOf iv).toNat)
  case atStart => exact ⟨0, rfl, Nat.zero_le _, s⟩
  case round =>
    clear s
    obtain ⟨i, rfl, hi, s⟩ := hrel
    have k1 : Calls Try.prog 21 #[ptr b] wr fun e w' => e = .returned (.int .i64 0) ∧ Hid (LX B w w' b 1 d ⟨2, i + 1, 0, i⟩ []) := start_any s.out (show i ≤ 1000000 by omega)
    by_cases hlt : i < d
    · have k2 : ∀ W, LX B w W b 1 d ⟨2, i + 1, 0, i⟩ [] → Calls Try.prog 22 #[ptr b] W fun e w' => e = .returned (.int .i64 0) ∧ Hid (LX B w w' b 1 d ⟨1, i + 1, 0, i + 1⟩ []) := fun W h => by
        have := stop_any h (show i + 1 ≤ 1000000 by omega)
        obtain ⟨e1, e2⟩ := st_stop (T := 1) (P := d) (e := i + 1) (m := 0) (p := i) (by omega)
        rw [e1, e2] at this
        exact this
      have k3 : ∀ W, LX B w W b 1 d ⟨1, i + 1, 0, i + 1⟩ [] → Calls Try.prog 14 #[ptr b] W fun e w' => e = .returned (.int .i64 1) ∧ w' = W := fun W h => state_any h
      have k4 : ∀ W, LX B w W b 1 d ⟨1, i + 1, 0, i + 1⟩ [] → Calls Try.prog 17 #[ptr b] W fun e w' => e = .returned (.int .i64 ((i : Int) + 1)) ∧ w' = W := fun W h => stopped_any h
      have d1 : decide ((i : Int) < d) = true := decide_eq_true (by omega)
      have d2 : decide (i < d) = true := decide_eq_true (by omega)
      clear s
      go_wp2_with (first | (go_at_call 21; refine k1.mono ?_; rintro e w4 ⟨rfl, s4⟩) | (go_at_call 22; refine (k2 _ s4.out).mono ?_; rintro e w5 ⟨rfl, s5⟩) | (go_at_call 14; refine (k3 _ s5.out).mono ?_; rintro e w6 ⟨rfl, rfl⟩) | (go_at_call 17; refine (k4 _ s5.out).mono ?_; rintro e w7 ⟨rfl, rfl⟩))
      go_roundw
      case rel => exact ⟨i + 1, by go_num, by omega, s5⟩
      case measure => simp [intOf]; omega
    · have d1 : decide ((i : Int) < d) = false := by simp; omega
      have d2 : decide (i < d) = false := by simp; omega
      obtain rfl : i = d := by omega
      have k2 : ∀ W, LX B w W b 1 i ⟨2, i + 1, 0, i⟩ [] → Calls Try.prog 22 #[ptr b] W fun e w' => e = .returned (.int .i64 4) ∧ Hid (LX B w w' b 1 i ⟨2, i + 1, 0, i⟩ []) := fun W h => by
        have := stop_any h (show i + 1 ≤ 1000000 by omega)
        obtain ⟨e1, e2⟩ := st_full (T := 1) (P := i) (x := ⟨2, i + 1, 0, i⟩) rfl (by simp)
        rw [e1, e2] at this
        exact this
      have k3 : ∀ W, LX B w W b 1 i ⟨2, i + 1, 0, i⟩ [] → Calls Try.prog 14 #[ptr b] W fun e w' => e = .returned (.int .i64 2) ∧ w' = W := fun W h => state_any h
      have k4 : ∀ W, LX B w W b 1 i ⟨2, i + 1, 0, i⟩ [] → Calls Try.prog 17 #[ptr b] W fun e w' => e = .returned (.int .i64 i) ∧ w' = W := fun W h => stopped_any h
      have k5 : ∀ W, LX B w W b 1 i ⟨2, i + 1, 0, i⟩ [] → Calls Try.prog 16 #[ptr b] W fun e w' => e = .returned (.int .i64 0) ∧ w' = W := fun W h => missed_any h
      have k6 : ∀ W, LX B w W b 1 i ⟨2, i + 1, 0, i⟩ [] → Calls Try.prog 15 #[ptr b] W fun e w' => e = .returned (.int .i64 ((i : Int) + 1)) ∧ w' = W := fun W h => epoch_any h
      clear s hlt hi
      go_wp2_with (first | (go_at_call 21; refine k1.mono ?_; rintro e w4 ⟨rfl, s4⟩) | (go_at_call 22; refine (k2 _ s4.out).mono ?_; rintro e w5 ⟨rfl, s5⟩) | (go_at_call 14; refine (k3 _ s5.out).mono ?_; rintro e w6 ⟨rfl, rfl⟩) | (go_at_call 17; refine (k4 _ s5.out).mono ?_; rintro e w7 ⟨rfl, rfl⟩) | (go_at_call 16; refine (k5 _ s5.out).mono ?_; rintro e w8 ⟨rfl, rfl⟩) | (go_at_call 15; refine (k6 _ s5.out).mono ?_; rintro e w9 ⟨rfl, rfl⟩))
      go_ret
      exact ⟨rfl, s5.out.bel⟩
end Go.Proofs.Ytjdgndbdoceifaa
