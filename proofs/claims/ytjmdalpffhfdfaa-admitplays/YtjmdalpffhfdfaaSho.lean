/- What must be in any case. -/
import Derived.Test.YtjmdalpffhfdfaaMul
namespace Go.Proofs.Ytjmdalpffhfdfaa
open Go.RowKit
open M
set_option linter.unusedVariables false
set_option linter.unusedSimpArgs false
section
variable {B : Nat} {w0 w : World} {t : Nat} {x y : Ad}
theorem add_at (id v e : Int) (h1 : ts x id = v) (h2 : te x id = e) (h3 : tx x id = y) (hs : siz x < 1000000) (h : MX B w0 w [(t, x)] []) : Calls Try.prog 12 #[ptr t, .int .i64 id] w fun r w' => r = .returned (.tuple #[.int .i64 v, .int .i64 e]) ∧ Hid (MX B w0 w' [(t, y)] []) := by
  subst h1 h2 h3; exact h.add 0 rfl hs id
theorem end_at (id v e : Int) (h1 : es x id = v) (h2 : ee x id = e) (h3 : ex x id = y) (hs : siz x < 1000000) (h : MX B w0 w [(t, x)] []) : Calls Try.prog 14 #[ptr t, .int .i64 id] w fun r w' => r = .returned (.tuple #[.int .i64 v, .int .i64 e]) ∧ Hid (MX B w0 w' [(t, y)] []) := by
  subst h1 h2 h3; exact h.end_ 0 rfl (by omega) id
theorem sta_at (id v : Int) (e : Bool) (h1 : sI x id = v) (h2 : sB x id = e) (hs : siz x < 1000000) (h : MX B w0 w [(t, x)] []) : Calls Try.prog 18 #[ptr t, .int .i64 id] w fun r w' => r = .returned (.tuple #[.int .i64 v, .bool e]) ∧ Hid (MX B w0 w' [(t, x)] []) := by
  subst h1 h2; exact h.sta 0 rfl (by omega) id
end

set_option maxRecDepth 1000000 in
set_option maxHeartbeats 4000000 in
theorem shown_any (w : World) : Calls Try.prog 10 #[] w fun e w' => e = .returned (.bool true) ∧ Below w.heap.size w w' := by
  obtain ⟨B, hB⟩ : ∃ B, w.heap.size = B := ⟨_, rfl⟩
  have k0 : Calls Try.prog 11 #[.int .i64 1, .int .i64 1] w fun e w' => ∃ t, e = .returned (ptr t) ∧ Hid (MX B w w' [(t, ⟨1, 1, [], []⟩)] []) := (mx_start (hB ▸ Below.refl _ _) (by omega)).new 1 1 (by omega) (by omega)
  have k1 : ∀ W t, MX B w W [(t, ⟨1, 1, [], []⟩)] [] → Calls Try.prog 12 #[ptr t, .int .i64 5] W fun e w' => e = .returned (.tuple #[.int .i64 (1), .int .i64 0]) ∧ Hid (MX B w w' [(t, ⟨1, 1, [5], []⟩)] []) := fun W t h => add_at 5 (1) 0 (by decide) (by decide) (by rfl) (by decide) h
  have k2 : ∀ W t, MX B w W [(t, ⟨1, 1, [5], []⟩)] [] → Calls Try.prog 12 #[ptr t, .int .i64 6] W fun e w' => e = .returned (.tuple #[.int .i64 (0), .int .i64 0]) ∧ Hid (MX B w w' [(t, ⟨1, 1, [5], [6]⟩)] []) := fun W t h => add_at 6 (0) 0 (by decide) (by decide) (by rfl) (by decide) h
  have k3 : ∀ W t, MX B w W [(t, ⟨1, 1, [5], [6]⟩)] [] → Calls Try.prog 12 #[ptr t, .int .i64 7] W fun e w' => e = .returned (.tuple #[.int .i64 (0), .int .i64 4]) ∧ Hid (MX B w w' [(t, ⟨1, 1, [5], [6]⟩)] []) := fun W t h => add_at 7 (0) 4 (by decide) (by decide) (by rfl) (by decide) h
  have k4 : ∀ W t, MX B w W [(t, ⟨1, 1, [5], [6]⟩)] [] → Calls Try.prog 12 #[ptr t, .int .i64 6] W fun e w' => e = .returned (.tuple #[.int .i64 (0), .int .i64 8]) ∧ Hid (MX B w w' [(t, ⟨1, 1, [5], [6]⟩)] []) := fun W t h => add_at 6 (0) 8 (by decide) (by decide) (by rfl) (by decide) h
  have k5 : ∀ W t, MX B w W [(t, ⟨1, 1, [5], [6]⟩)] [] → Calls Try.prog 14 #[ptr t, .int .i64 5] W fun e w' => e = .returned (.tuple #[.int .i64 (6), .int .i64 0]) ∧ Hid (MX B w w' [(t, ⟨1, 1, [6], []⟩)] []) := fun W t h => end_at 5 (6) 0 (by decide) (by decide) (by rfl) (by decide) h
  have k6 : ∀ W t, MX B w W [(t, ⟨1, 1, [6], []⟩)] [] → Calls Try.prog 18 #[ptr t, .int .i64 6] W fun e w' => e = .returned (.tuple #[.int .i64 1, .bool true]) ∧ Hid (MX B w w' [(t, ⟨1, 1, [6], []⟩)] []) := fun W t h => sta_at 6 (1) true (by decide) (by decide) (by decide) h
  have k7 : ∀ W t, MX B w W [(t, ⟨1, 1, [6], []⟩)] [] → Calls Try.prog 14 #[ptr t, .int .i64 6] W fun e w' => e = .returned (.tuple #[.int .i64 (-1), .int .i64 0]) ∧ Hid (MX B w w' [(t, ⟨1, 1, [], []⟩)] []) := fun W t h => end_at 6 (-1) 0 (by decide) (by decide) (by rfl) (by decide) h
  have k8 : ∀ W t, MX B w W [(t, ⟨1, 1, [], []⟩)] [] → Calls Try.prog 14 #[ptr t, .int .i64 6] W fun e w' => e = .returned (.tuple #[.int .i64 (0), .int .i64 6]) ∧ Hid (MX B w w' [(t, ⟨1, 1, [], []⟩)] []) := fun W t h => end_at 6 (0) 6 (by decide) (by decide) (by rfl) (by decide) h
  have ka : ∀ W t, MX B w W [(t, ⟨1, 1, [], []⟩)] [] → Calls Try.prog 16 #[ptr t] W fun e w' => ∃ a c, e = .returned (.slice a 0 c) ∧ Hid (Below B w w') := fun W t h => (h.act 0 rfl (by decide)).mono (by rintro e w' ⟨a, c, rfl, s⟩; exact ⟨a, c, rfl, s.out.1.bel⟩)
  rw [hB]
  clear hB
  go_enter Try.func10, Try.ntmps10
  go_wp2_with (go_at_call 11; refine k0.mono ?_; rintro e w0 ⟨b, rfl, s⟩; clear k0; refine Hid.out ?_)
  refine hide_it ?_
  go_wp2_with (go_at_call 12; refine (k1 _ _ s.out).mono ?_; rintro e w1 ⟨rfl, s1⟩; clear k1 s; have s := s1; clear s1; refine Hid.out ?_)
  refine hide_it ?_
  go_wp2_with (go_at_call 12; refine (k2 _ _ s.out).mono ?_; rintro e w1 ⟨rfl, s1⟩; clear k2 s; have s := s1; clear s1; refine Hid.out ?_)
  refine hide_it ?_
  go_wp2_with (go_at_call 12; refine (k3 _ _ s.out).mono ?_; rintro e w1 ⟨rfl, s1⟩; clear k3 s; have s := s1; clear s1; refine Hid.out ?_)
  refine hide_it ?_
  go_wp2_with (go_at_call 12; refine (k4 _ _ s.out).mono ?_; rintro e w1 ⟨rfl, s1⟩; clear k4 s; have s := s1; clear s1; refine Hid.out ?_)
  refine hide_it ?_
  go_wp2_with (go_at_call 14; refine (k5 _ _ s.out).mono ?_; rintro e w1 ⟨rfl, s1⟩; clear k5 s; have s := s1; clear s1; refine Hid.out ?_)
  refine hide_it ?_
  go_wp2_with (go_at_call 18; refine (k6 _ _ s.out).mono ?_; rintro e w1 ⟨rfl, s1⟩; clear k6 s; have s := s1; clear s1; refine Hid.out ?_)
  refine hide_it ?_
  go_wp2_with (go_at_call 14; refine (k7 _ _ s.out).mono ?_; rintro e w1 ⟨rfl, s1⟩; clear k7 s; have s := s1; clear s1; refine Hid.out ?_)
  refine hide_it ?_
  go_wp2_with (go_at_call 14; refine (k8 _ _ s.out).mono ?_; rintro e w1 ⟨rfl, s1⟩; clear k8 s; have s := s1; clear s1; refine Hid.out ?_)
  refine hide_it ?_
  go_wp2_with (go_at_call 16; refine (ka _ _ s.out).mono ?_; rintro e w1 ⟨a, c, rfl, s1⟩)
  go_ret
  exact ⟨rfl, s1.out⟩
end Go.Proofs.Ytjmdalpffhfdfaa
