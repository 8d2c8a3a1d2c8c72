/- What must be in any case. -/
import Derived.Test.YtjdgndbdoceifaaDoe
namespace Go.Proofs.Ytjdgndbdoceifaa
open Go.RowKit
open M
set_option linter.unusedVariables false
set_option linter.unusedSimpArgs false

set_option maxRecDepth 1000000 in
set_option maxHeartbeats 4000000 in
theorem shown_any (w : World) : Calls Try.prog 9 #[] w fun e w' => e = .returned (.bool true) ∧ Below w.heap.size w w' := by
  obtain ⟨B, hB⟩ : ∃ B, w.heap.size = B := ⟨_, rfl⟩
  have k0 : Calls Try.prog 10 #[.int .i64 2, .int .i64 1] w fun e w' => ∃ b, e = .returned (ptr b) ∧ Hid (LX B w w' b 2 1 ⟨0, 0, 0, 0⟩ []) := new_any (hB ▸ Below.refl _ _) (by omega) 2 1 2 1 (by decide) (by decide)
  have k1 : ∀ W b, LX B w W b 2 1 ⟨0, 0, 0, 0⟩ [] → Calls Try.prog 21 #[ptr b] W fun e w' => e = .returned (.int .i64 8) ∧ Hid (LX B w w' b 2 1 ⟨0, 0, 0, 0⟩ []) := fun W b h => start_any h (by decide)
  have k2 : ∀ W b, LX B w W b 2 1 ⟨0, 0, 0, 0⟩ [] → Calls Try.prog 20 #[ptr b] W fun e w' => e = .returned (.int .i64 0) ∧ Hid (LX B w w' b 2 1 ⟨1, 0, 0, 0⟩ []) := fun W b h => want_any h
  have k3 : ∀ W b, LX B w W b 2 1 ⟨1, 0, 0, 0⟩ [] → Calls Try.prog 21 #[ptr b] W fun e w' => e = .returned (.int .i64 0) ∧ Hid (LX B w w' b 2 1 ⟨2, 1, 0, 0⟩ []) := fun W b h => start_any h (by decide)
  have k4 : ∀ W b, LX B w W b 2 1 ⟨2, 1, 0, 0⟩ [] → Calls Try.prog 22 #[ptr b] W fun e w' => e = .returned (.int .i64 0) ∧ Hid (LX B w w' b 2 1 ⟨1, 1, 0, 1⟩ []) := fun W b h => stop_any h (by decide)
  have k5 : ∀ W b, LX B w W b 2 1 ⟨1, 1, 0, 1⟩ [] → Calls Try.prog 21 #[ptr b] W fun e w' => e = .returned (.int .i64 0) ∧ Hid (LX B w w' b 2 1 ⟨2, 2, 0, 1⟩ []) := fun W b h => start_any h (by decide)
  have k6 : ∀ W b, LX B w W b 2 1 ⟨2, 2, 0, 1⟩ [] → Calls Try.prog 22 #[ptr b] W fun e w' => e = .returned (.int .i64 4) ∧ Hid (LX B w w' b 2 1 ⟨2, 2, 0, 1⟩ []) := fun W b h => stop_any h (by decide)
  have k7 : ∀ W b, LX B w W b 2 1 ⟨2, 2, 0, 1⟩ [] → Calls Try.prog 23 #[ptr b] W fun e w' => e = .returned (.int .i64 0) ∧ Hid (LX B w w' b 2 1 ⟨4, 2, 1, 1⟩ []) := fun W b h => miss_any h (by decide)
  have k8 : ∀ W b, LX B w W b 2 1 ⟨4, 2, 1, 1⟩ [] → Calls Try.prog 24 #[ptr b] W fun e w' => e = .returned (.int .i64 0) ∧ Hid (LX B w w' b 2 1 ⟨1, 2, 1, 1⟩ []) := fun W b h => rested_any h
  have k9 : ∀ W b, LX B w W b 2 1 ⟨1, 2, 1, 1⟩ [] → Calls Try.prog 21 #[ptr b] W fun e w' => e = .returned (.int .i64 0) ∧ Hid (LX B w w' b 2 1 ⟨2, 3, 1, 1⟩ []) := fun W b h => start_any h (by decide)
  have k10 : ∀ W b, LX B w W b 2 1 ⟨2, 3, 1, 1⟩ [] → Calls Try.prog 23 #[ptr b] W fun e w' => e = .returned (.int .i64 0) ∧ Hid (LX B w w' b 2 1 ⟨6, 3, 2, 1⟩ []) := fun W b h => miss_any h (by decide)
  have kr : ∀ W b y, LX B w W b 2 1 ⟨2, 2, 0, 1⟩ [] → Calls Try.prog 19 #[ptr b, .int .i64 y] W fun e w' => e = .returned (.int .i64 (if (2 : Nat) = 2 ∧ y = (2 : Nat) then 0 else 7)) ∧ Hid (LX B w w' b 2 1 ⟨2, 2, 0, 1⟩ []) := fun W b y h => right_any h y
  have kr2 : ∀ W b, LX B w W b 2 1 ⟨2, 2, 0, 1⟩ [] → Calls Try.prog 19 #[ptr b, .int .i64 2] W fun e w' => e = .returned (.int .i64 0) ∧ Hid (LX B w w' b 2 1 ⟨2, 2, 0, 1⟩ []) := fun W b h => kr W b 2 h
  have kr1 : ∀ W b, LX B w W b 2 1 ⟨2, 2, 0, 1⟩ [] → Calls Try.prog 19 #[ptr b, .int .i64 1] W fun e w' => e = .returned (.int .i64 7) ∧ Hid (LX B w w' b 2 1 ⟨2, 2, 0, 1⟩ []) := fun W b h => kr W b 1 h
  have ks4 : ∀ W b, LX B w W b 2 1 ⟨4, 2, 1, 1⟩ [] → Calls Try.prog 14 #[ptr b] W fun e w' => e = .returned (.int .i64 4) ∧ w' = W := fun W b h => state_any h
  have ks6 : ∀ W b, LX B w W b 2 1 ⟨6, 3, 2, 1⟩ [] → Calls Try.prog 14 #[ptr b] W fun e w' => e = .returned (.int .i64 6) ∧ w' = W := fun W b h => state_any h
  have kf : ∀ W b, LX B w W b 2 1 ⟨6, 3, 2, 1⟩ [] → Calls Try.prog 18 #[ptr b] W fun e w' => e = .returned (.bool true) ∧ Hid (LX B w w' b 2 1 ⟨6, 3, 2, 1⟩ []) := fun W b h => final_any h
  have ke : ∀ W b, LX B w W b 2 1 ⟨6, 3, 2, 1⟩ [] → Calls Try.prog 15 #[ptr b] W fun e w' => e = .returned (.int .i64 3) ∧ w' = W := fun W b h => epoch_any h
  have kp : ∀ W b, LX B w W b 2 1 ⟨6, 3, 2, 1⟩ [] → Calls Try.prog 17 #[ptr b] W fun e w' => e = .returned (.int .i64 1) ∧ w' = W := fun W b h => stopped_any h
  have km : ∀ W b, LX B w W b 2 1 ⟨6, 3, 2, 1⟩ [] → Calls Try.prog 16 #[ptr b] W fun e w' => e = .returned (.int .i64 2) ∧ w' = W := fun W b h => missed_any h
  rw [hB]
  clear hB kr
  go_enter Try.func9, Try.ntmps9
  go_wp2_with (go_at_call 10; refine k0.mono ?_; rintro e w0 ⟨b, rfl, s⟩; clear k0; refine Hid.out ?_)
  refine hide_it ?_
  go_wp2_with (go_at_call 21; refine (k1 _ _ s.out).mono ?_; rintro e w1 ⟨rfl, s1⟩; clear k1 s; have s := s1; clear s1; refine Hid.out ?_)
  refine hide_it ?_
  go_wp2_with (go_at_call 20; refine (k2 _ _ s.out).mono ?_; rintro e w1 ⟨rfl, s1⟩; clear k2 s; have s := s1; clear s1; refine Hid.out ?_)
  refine hide_it ?_
  go_wp2_with (go_at_call 21; refine (k3 _ _ s.out).mono ?_; rintro e w1 ⟨rfl, s1⟩; clear k3 s; have s := s1; clear s1; refine Hid.out ?_)
  refine hide_it ?_
  go_wp2_with (go_at_call 22; refine (k4 _ _ s.out).mono ?_; rintro e w1 ⟨rfl, s1⟩; clear k4 s; have s := s1; clear s1; refine Hid.out ?_)
  refine hide_it ?_
  go_wp2_with (go_at_call 21; refine (k5 _ _ s.out).mono ?_; rintro e w1 ⟨rfl, s1⟩; clear k5 s; have s := s1; clear s1; refine Hid.out ?_)
  refine hide_it ?_
  go_wp2_with (go_at_call 22; refine (k6 _ _ s.out).mono ?_; rintro e w1 ⟨rfl, s1⟩; clear k6 s; have s := s1; clear s1; refine Hid.out ?_)
  refine hide_it ?_
  go_wp2_with (go_at_call 19; refine (kr2 _ _ s.out).mono ?_; rintro e w1 ⟨rfl, s1⟩; clear kr2 s; have s := s1; clear s1; refine Hid.out ?_)
  refine hide_it ?_
  go_wp2_with (go_at_call 19; refine (kr1 _ _ s.out).mono ?_; rintro e w1 ⟨rfl, s1⟩; clear kr1 s; have s := s1; clear s1; refine Hid.out ?_)
  refine hide_it ?_
  go_wp2_with (go_at_call 23; refine (k7 _ _ s.out).mono ?_; rintro e w1 ⟨rfl, s1⟩; clear k7 s; have s := s1; clear s1; refine Hid.out ?_)
  refine hide_it ?_
  go_wp2_with (go_at_call 14; refine (ks4 _ _ s.out).mono ?_; rintro e w1 ⟨rfl, rfl⟩; clear ks4; refine Hid.out ?_)
  refine hide_it ?_
  go_wp2_with (go_at_call 24; refine (k8 _ _ s.out).mono ?_; rintro e w1 ⟨rfl, s1⟩; clear k8 s; have s := s1; clear s1; refine Hid.out ?_)
  refine hide_it ?_
  go_wp2_with (go_at_call 21; refine (k9 _ _ s.out).mono ?_; rintro e w1 ⟨rfl, s1⟩; clear k9 s; have s := s1; clear s1; refine Hid.out ?_)
  refine hide_it ?_
  go_wp2_with (go_at_call 23; refine (k10 _ _ s.out).mono ?_; rintro e w1 ⟨rfl, s1⟩; clear k10 s; have s := s1; clear s1; refine Hid.out ?_)
  refine hide_it ?_
  go_wp2_with (first | (go_at_call 14; refine (ks6 _ _ s.out).mono ?_; rintro e w1 ⟨rfl, rfl⟩) | (go_at_call 18; refine (kf _ _ s.out).mono ?_; rintro e w2 ⟨rfl, s2⟩) | (go_at_call 15; refine (ke _ _ s2.out).mono ?_; rintro e w3 ⟨rfl, rfl⟩) | (go_at_call 17; refine (kp _ _ s2.out).mono ?_; rintro e w4 ⟨rfl, rfl⟩) | (go_at_call 16; refine (km _ _ s2.out).mono ?_; rintro e w5 ⟨rfl, rfl⟩))
  go_ret
  exact ⟨rfl, s2.out.bel⟩
end Go.Proofs.Ytjdgndbdoceifaa
