/- What must be in any case. -/
import Derived.Test.YtpcjaleogeoabaaOne
namespace Go.Proofs.Ytpcjaleogeoabaa
open Go.RowKit
open M
set_option linter.unusedVariables false
set_option linter.unusedSimpArgs false

set_option maxRecDepth 1000000 in
set_option maxHeartbeats 4000000 in
theorem shown_any (w : World) : Calls Try.prog 11 #[] w fun e w' => e = .returned (.bool true) ∧ Below w.heap.size w w' := by
  obtain ⟨B, hB⟩ : ∃ B, w.heap.size = B := ⟨_, rfl⟩
  have k0 : Calls Try.prog 12 #[.int .i64 4] w fun e w' => ∃ g, e = .returned (ptr g) ∧ Hid (One B w w' g 4 (fun _ => none)) := one_new (hB ▸ Below.refl _ _) (by omega) 4
  obtain ⟨S0, h0⟩ : ∃ S0 : Nat → Option Int, S0 = (fun _ => none) := ⟨_, rfl⟩
  obtain ⟨S1, h1⟩ : ∃ S1, S1 = pushS 4 S0 3 5 := ⟨_, rfl⟩
  obtain ⟨S2, h2⟩ : ∃ S2, S2 = pushS 4 S1 1 5 := ⟨_, rfl⟩
  obtain ⟨S3, h3⟩ : ∃ S3, S3 = pushS 4 S2 2 9 := ⟨_, rfl⟩
  obtain ⟨S4, h4⟩ : ∃ S4, S4 = pushS 4 S3 1 0 := ⟨_, rfl⟩
  obtain ⟨S5, h5⟩ : ∃ S5, S5 = lowS 4 S4 2 10 := ⟨_, rfl⟩
  obtain ⟨S6, h6⟩ : ∃ S6, S6 = lowS 4 S5 2 6 := ⟨_, rfl⟩
  obtain ⟨S7, h7⟩ : ∃ S7, S7 = pushS 4 S6 4 0 := ⟨_, rfl⟩
  obtain ⟨S8, h8⟩ : ∃ S8, S8 = upS S7 1 none := ⟨_, rfl⟩
  obtain ⟨S9, h9⟩ : ∃ S9, S9 = remS 4 S8 3 := ⟨_, rfl⟩
  obtain ⟨Sa, ha⟩ : ∃ Sa, Sa = remS 4 S9 3 := ⟨_, rfl⟩
  obtain ⟨Sb, hb⟩ : ∃ Sb, Sb = upS Sa 2 none := ⟨_, rfl⟩
  have k1 : ∀ W g, One B w W g 4 S0 → Calls Try.prog 13 #[ptr g, .int .i64 3, .int .i64 5] W fun e w' => e = .returned (.int .i64 0) ∧ Hid (One B w w' g 4 S1) := fun W g h => by
    have := h.push 3 5; rw [show pushE 4 S0 3 = 0 by subst h0; decide, ← h1] at this; exact this
  have k2 : ∀ W g, One B w W g 4 S1 → Calls Try.prog 13 #[ptr g, .int .i64 1, .int .i64 5] W fun e w' => e = .returned (.int .i64 0) ∧ Hid (One B w w' g 4 S2) := fun W g h => by
    have := h.push 1 5; rw [show pushE 4 S1 1 = 0 by subst h1 h0; decide, ← h2] at this; exact this
  have k3 : ∀ W g, One B w W g 4 S2 → Calls Try.prog 13 #[ptr g, .int .i64 2, .int .i64 9] W fun e w' => e = .returned (.int .i64 0) ∧ Hid (One B w w' g 4 S3) := fun W g h => by
    have := h.push 2 9; rw [show pushE 4 S2 2 = 0 by subst h2 h1 h0; decide, ← h3] at this; exact this
  have k4 : ∀ W g, One B w W g 4 S3 → Calls Try.prog 13 #[ptr g, .int .i64 1, .int .i64 0] W fun e w' => e = .returned (.int .i64 8) ∧ Hid (One B w w' g 4 S4) := fun W g h => by
    have := h.push 1 0; rw [show pushE 4 S3 1 = 8 by subst h3 h2 h1 h0; decide, ← h4] at this; exact this
  have k5 : ∀ W g, One B w W g 4 S4 → Calls Try.prog 15 #[ptr g, .int .i64 2, .int .i64 10] W fun e w' => e = .returned (.int .i64 3) ∧ Hid (One B w w' g 4 S5) := fun W g h => by
    have := h.lower 2 10; rw [show lowE 4 S4 2 10 = 3 by subst h4 h3 h2 h1 h0; decide, ← h5] at this; exact this
  have k6 : ∀ W g, One B w W g 4 S5 → Calls Try.prog 15 #[ptr g, .int .i64 2, .int .i64 6] W fun e w' => e = .returned (.int .i64 0) ∧ Hid (One B w w' g 4 S6) := fun W g h => by
    have := h.lower 2 6; rw [show lowE 4 S5 2 6 = 0 by subst h5 h4 h3 h2 h1 h0; decide, ← h6] at this; exact this
  have k7 : ∀ W g, One B w W g 4 S6 → Calls Try.prog 13 #[ptr g, .int .i64 4, .int .i64 0] W fun e w' => e = .returned (.int .i64 1) ∧ Hid (One B w w' g 4 S7) := fun W g h => by
    have := h.push 4 0; rw [show pushE 4 S6 4 = 1 by subst h6 h5 h4 h3 h2 h1 h0; decide, ← h7] at this; exact this
  have k8 : ∀ W g, One B w W g 4 S7 → Calls Try.prog 19 #[ptr g] W fun e w' => e = .returned (.tuple #[.int .i64 1, .int .i64 5, .bool true]) ∧ Hid (One B w w' g 4 S8) := fun W g h => by
    have := h.pop (x := 1) (y := 5) (fst_of (by subst h7 h6 h5 h4 h3 h2 h1 h0; decide)); rw [← h8] at this; exact this
  have k9 : ∀ W g, One B w W g 4 S8 → Calls Try.prog 21 #[ptr g] W fun e w' => e = .returned (.tuple #[.int .i64 3, .int .i64 5, .bool true]) ∧ Hid (One B w w' g 4 S8) := fun W g h =>
    h.first (x := 3) (y := 5) (fst_of (by subst h8 h7 h6 h5 h4 h3 h2 h1 h0; decide))
  have ka : ∀ W g, One B w W g 4 S8 → Calls Try.prog 17 #[ptr g, .int .i64 3] W fun e w' => e = .returned (.tuple #[.int .i64 5, .int .i64 0]) ∧ Hid (One B w w' g 4 S9) := fun W g h => by
    have := h.remove 3; rw [show keyV 4 S8 3 = 5 by subst h8 h7 h6 h5 h4 h3 h2 h1 h0; decide, show remE 4 S8 3 = 0 by subst h8 h7 h6 h5 h4 h3 h2 h1 h0; decide, ← h9] at this; exact this
  have kb : ∀ W g, One B w W g 4 S9 → Calls Try.prog 17 #[ptr g, .int .i64 3] W fun e w' => e = .returned (.tuple #[.int .i64 0, .int .i64 6]) ∧ Hid (One B w w' g 4 Sa) := fun W g h => by
    have := h.remove 3; rw [show keyV 4 S9 3 = 0 by subst h9 h8 h7 h6 h5 h4 h3 h2 h1 h0; decide, show remE 4 S9 3 = 6 by subst h9 h8 h7 h6 h5 h4 h3 h2 h1 h0; decide, ← ha] at this; exact this
  have kc : ∀ W g, One B w W g 4 Sa → Calls Try.prog 19 #[ptr g] W fun e w' => e = .returned (.tuple #[.int .i64 2, .int .i64 6, .bool true]) ∧ Hid (One B w w' g 4 Sb) := fun W g h => by
    have := h.pop (x := 2) (y := 6) (fst_of (by subst ha h9 h8 h7 h6 h5 h4 h3 h2 h1 h0; decide)); rw [← hb] at this; exact this
  have hE : Emp 4 Sb := by
    subst hb ha h9 h8 h7 h6 h5 h4 h3 h2 h1 h0
    intro x hx
    rcases (by omega : x = 0 ∨ x = 1 ∨ x = 2 ∨ x = 3) with rfl | rfl | rfl | rfl <;> decide
  have kd : ∀ W g, One B w W g 4 Sb → Calls Try.prog 19 #[ptr g] W fun e w' => e = .returned (.tuple #[.int .i64 0, .int .i64 0, .bool false]) ∧ Hid (One B w w' g 4 Sb) := fun W g h => h.pop0 hE
  have ke : ∀ W g, One B w W g 4 Sb → Calls Try.prog 26 #[ptr g] W fun e w' => e = .returned (.int .i64 0) ∧ Hid (One B w w' g 4 Sb) := fun W g h => by
    have := h.len; rw [cnt_zero.2 (fun x hx => by rw [hE x hx]; rfl)] at this; exact this
  rw [← h0] at k0
  clear h0 h1 h2 h3 h4 h5 h6 h7 h8 h9 ha hb hE
  rw [hB]
  clear hB
  go_enter Try.func11, Try.ntmps11
  go_wp2_with (go_at_call 12; refine k0.mono ?_; rintro e w0 ⟨g, rfl, s⟩; clear k0; refine Hid.out ?_)
  refine hide_it ?_
  go_wp2_with (go_at_call 13; refine (k1 _ _ s.out).mono ?_; rintro e w1 ⟨rfl, s1⟩; clear k1 s; have s := s1; clear s1; refine Hid.out ?_)
  refine hide_it ?_
  go_wp2_with (go_at_call 13; refine (k2 _ _ s.out).mono ?_; rintro e w2 ⟨rfl, s2⟩; clear k2 s; have s := s2; clear s2; refine Hid.out ?_)
  refine hide_it ?_
  go_wp2_with (go_at_call 13; refine (k3 _ _ s.out).mono ?_; rintro e w3 ⟨rfl, s3⟩; clear k3 s; have s := s3; clear s3; refine Hid.out ?_)
  refine hide_it ?_
  go_wp2_with (go_at_call 13; refine (k4 _ _ s.out).mono ?_; rintro e w4 ⟨rfl, s4⟩; clear k4 s; have s := s4; clear s4; refine Hid.out ?_)
  refine hide_it ?_
  go_wp2_with (go_at_call 15; refine (k5 _ _ s.out).mono ?_; rintro e w5 ⟨rfl, s5⟩; clear k5 s; have s := s5; clear s5; refine Hid.out ?_)
  refine hide_it ?_
  go_wp2_with (go_at_call 15; refine (k6 _ _ s.out).mono ?_; rintro e w6 ⟨rfl, s6⟩; clear k6 s; have s := s6; clear s6; refine Hid.out ?_)
  refine hide_it ?_
  go_wp2_with (go_at_call 13; refine (k7 _ _ s.out).mono ?_; rintro e w7 ⟨rfl, s7⟩; clear k7 s; have s := s7; clear s7; refine Hid.out ?_)
  refine hide_it ?_
  go_wp2_with (go_at_call 19; refine (k8 _ _ s.out).mono ?_; rintro e w8 ⟨rfl, s8⟩; clear k8 s; have s := s8; clear s8; refine Hid.out ?_)
  refine hide_it ?_
  go_wp2_with (go_at_call 21; refine (k9 _ _ s.out).mono ?_; rintro e w9 ⟨rfl, s9⟩; clear k9 s; have s := s9; clear s9; refine Hid.out ?_)
  refine hide_it ?_
  go_wp2_with (go_at_call 17; refine (ka _ _ s.out).mono ?_; rintro e w10 ⟨rfl, s10⟩; clear ka s; have s := s10; clear s10; refine Hid.out ?_)
  refine hide_it ?_
  go_wp2_with (go_at_call 17; refine (kb _ _ s.out).mono ?_; rintro e w11 ⟨rfl, s11⟩; clear kb s; have s := s11; clear s11; refine Hid.out ?_)
  refine hide_it ?_
  go_wp2_with (go_at_call 19; refine (kc _ _ s.out).mono ?_; rintro e w12 ⟨rfl, s12⟩; clear kc s; have s := s12; clear s12; refine Hid.out ?_)
  refine hide_it ?_
  go_wp2_with (go_at_call 19; refine (kd _ _ s.out).mono ?_; rintro e w13 ⟨rfl, s13⟩; clear kd s; have s := s13; clear s13; refine Hid.out ?_)
  refine hide_it ?_
  go_wp2_with (go_at_call 26; refine (ke _ _ s.out).mono ?_; rintro e w99 ⟨rfl, s99⟩)
  go_ret
  exact ⟨rfl, s99.out.bel⟩
end Go.Proofs.Ytpcjaleogeoabaa
