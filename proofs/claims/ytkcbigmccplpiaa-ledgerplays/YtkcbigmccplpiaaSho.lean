/- What must be in any case. -/
import Derived.Test.YtkcbigmccplpiaaObj
namespace Go.Proofs.Ytkcbigmccplpiaa
open Go.RowKit
open M
set_option linter.unusedVariables false
set_option linter.unusedSimpArgs false

/-- Two places. -/
def pp (p q : Pl) : Nat → Pl := fun k => if k = 0 then p else if k = 1 then q else no
theorem pp0 (p q r : Pl) : setP (pp p q) 0 r = pp r q := by funext k; unfold setP pp; split <;> rfl
theorem pp1 (p q r : Pl) : setP (pp p q) 1 r = pp p r := by
  funext k; unfold setP pp
  by_cases h : k = 0
  · subst h; rfl
  · by_cases h1 : k = 1
    · subst h1; rfl
    · simp [h, h1]
theorem pp_new : (fun _ => no) = pp no no := by funext k; unfold pp; split <;> (try split) <;> rfl
section
variable {B : Nat} {w0 w : World} {b : Nat} {x y : Lg} {R : List (Nat × Obj)}
theorem take_at (id mem : Int) (v e : Nat) (h1 : ts x id mem = v) (h2 : te x id mem = e) (h3 : tx x id mem = y) (h : LX B w0 w b x R) : Calls Try.prog 12 #[ptr b, .int .i64 id, .int .i64 mem] w fun r w' => r = .returned (.tuple #[.int .i64 v, .int .i64 e]) ∧ Hid (LX B w0 w' b y R) := by
  subst h1 h2 h3; exact take_any h id mem
theorem free_at (id : Int) (e : Nat) (h2 : fe x id = e) (h3 : fx x id = y) (h : LX B w0 w b x R) : Calls Try.prog 14 #[ptr b, .int .i64 id] w fun r w' => r = .returned (.int .i64 e) ∧ Hid (LX B w0 w' b y R) := by
  subst h2 h3; exact free_any h id
theorem room_at (z : Int) (h2 : room x = z) (h : LX B w0 w b x R) : Calls Try.prog 20 #[ptr b] w fun r w' => r = .returned (.int .i64 z) ∧ Hid (LX B w0 w' b x R) := by
  subst h2; exact room_any h
theorem used_at (z : Int) (h2 : us x.P 16 = z) (h : LX B w0 w b x R) : Calls Try.prog 18 #[ptr b] w fun r w' => r = .returned (.int .i64 z) ∧ Hid (LX B w0 w' b x R) := by
  subst h2; exact used_any h
theorem slots_at (z : Int) (h2 : M.free x = z) (h : LX B w0 w b x R) : Calls Try.prog 21 #[ptr b] w fun r w' => r = .returned (.int .i64 z) ∧ Hid (LX B w0 w' b x R) := by
  subst h2; exact slots_any h
theorem at_at (s z : Int) (c : Bool) (h1 : atI x s = z) (h2 : atB x s = c) (h : LX B w0 w b x R) : Calls Try.prog 23 #[ptr b, .int .i64 s] w fun r w' => r = .returned (.tuple #[.int .i64 z, .bool c]) ∧ Hid (LX B w0 w' b x R) := by
  subst h1 h2; exact at_any h s
end

set_option maxRecDepth 1000000 in
set_option maxHeartbeats 4000000 in
theorem shown_any (w : World) : Calls Try.prog 10 #[] w fun e w' => e = .returned (.bool true) ∧ Below w.heap.size w w' := by
  obtain ⟨B, hB⟩ : ∃ B, w.heap.size = B := ⟨_, rfl⟩
  have k0 : Calls Try.prog 11 #[.int .i64 10, .int .i64 2] w fun e w' => ∃ b, e = .returned (ptr b) ∧ Hid (LX B w w' b ⟨10, 2, pp no no⟩ []) := by
    have := new_any (B := B) (w0 := w) (w := w) (hB ▸ Below.refl _ _) (by omega) 10 2 (by omega) 10 2 (by decide) (by decide)
    rw [pp_new] at this
    exact this
  have k1 : ∀ W b, LX B w W b ⟨10, 2, pp (no) (no)⟩ [] → Calls Try.prog 12 #[ptr b, .int .i64 7, .int .i64 6] W fun e w' => e = .returned (.tuple #[.int .i64 0, .int .i64 0]) ∧ Hid (LX B w w' b ⟨10, 2, pp (⟨true, 7, 6⟩) (no)⟩ []) := fun W b h => take_at 7 6 0 0 (by decide) (by decide) (by first | rfl | (simp only [tx]; rw [if_pos (by decide)]; first | exact congrArg _ (pp0 _ _ _) | exact congrArg _ (pp1 _ _ _)) | (simp only [tx]; rw [if_neg (by decide)])) h
  have k2 : ∀ W b, LX B w W b ⟨10, 2, pp (⟨true, 7, 6⟩) (no)⟩ [] → Calls Try.prog 12 #[ptr b, .int .i64 8, .int .i64 5] W fun e w' => e = .returned (.tuple #[.int .i64 0, .int .i64 4]) ∧ Hid (LX B w w' b ⟨10, 2, pp (⟨true, 7, 6⟩) (no)⟩ []) := fun W b h => take_at 8 5 0 4 (by decide) (by decide) (by first | rfl | (simp only [tx]; rw [if_pos (by decide)]; first | exact congrArg _ (pp0 _ _ _) | exact congrArg _ (pp1 _ _ _)) | (simp only [tx]; rw [if_neg (by decide)])) h
  have k3 : ∀ W b, LX B w W b ⟨10, 2, pp (⟨true, 7, 6⟩) (no)⟩ [] → Calls Try.prog 12 #[ptr b, .int .i64 8, .int .i64 4] W fun e w' => e = .returned (.tuple #[.int .i64 1, .int .i64 0]) ∧ Hid (LX B w w' b ⟨10, 2, pp (⟨true, 7, 6⟩) (⟨true, 8, 4⟩)⟩ []) := fun W b h => take_at 8 4 1 0 (by decide) (by decide) (by first | rfl | (simp only [tx]; rw [if_pos (by decide)]; first | exact congrArg _ (pp0 _ _ _) | exact congrArg _ (pp1 _ _ _)) | (simp only [tx]; rw [if_neg (by decide)])) h
  have k4 : ∀ W b, LX B w W b ⟨10, 2, pp (⟨true, 7, 6⟩) (⟨true, 8, 4⟩)⟩ [] → Calls Try.prog 12 #[ptr b, .int .i64 9, .int .i64 0] W fun e w' => e = .returned (.tuple #[.int .i64 0, .int .i64 4]) ∧ Hid (LX B w w' b ⟨10, 2, pp (⟨true, 7, 6⟩) (⟨true, 8, 4⟩)⟩ []) := fun W b h => take_at 9 0 0 4 (by decide) (by decide) (by first | rfl | (simp only [tx]; rw [if_pos (by decide)]; first | exact congrArg _ (pp0 _ _ _) | exact congrArg _ (pp1 _ _ _)) | (simp only [tx]; rw [if_neg (by decide)])) h
  have k5 : ∀ W b, LX B w W b ⟨10, 2, pp (⟨true, 7, 6⟩) (⟨true, 8, 4⟩)⟩ [] → Calls Try.prog 12 #[ptr b, .int .i64 7, .int .i64 1] W fun e w' => e = .returned (.tuple #[.int .i64 0, .int .i64 8]) ∧ Hid (LX B w w' b ⟨10, 2, pp (⟨true, 7, 6⟩) (⟨true, 8, 4⟩)⟩ []) := fun W b h => take_at 7 1 0 8 (by decide) (by decide) (by first | rfl | (simp only [tx]; rw [if_pos (by decide)]; first | exact congrArg _ (pp0 _ _ _) | exact congrArg _ (pp1 _ _ _)) | (simp only [tx]; rw [if_neg (by decide)])) h
  have k6 : ∀ W b, LX B w W b ⟨10, 2, pp (⟨true, 7, 6⟩) (⟨true, 8, 4⟩)⟩ [] → Calls Try.prog 12 #[ptr b, .int .i64 7, .int .i64 11] W fun e w' => e = .returned (.tuple #[.int .i64 0, .int .i64 5]) ∧ Hid (LX B w w' b ⟨10, 2, pp (⟨true, 7, 6⟩) (⟨true, 8, 4⟩)⟩ []) := fun W b h => take_at 7 11 0 5 (by decide) (by decide) (by first | rfl | (simp only [tx]; rw [if_pos (by decide)]; first | exact congrArg _ (pp0 _ _ _) | exact congrArg _ (pp1 _ _ _)) | (simp only [tx]; rw [if_neg (by decide)])) h
  have k7 : ∀ W b, LX B w W b ⟨10, 2, pp (⟨true, 7, 6⟩) (⟨true, 8, 4⟩)⟩ [] → Calls Try.prog 20 #[ptr b] W fun e w' => e = .returned (.int .i64 0) ∧ Hid (LX B w w' b ⟨10, 2, pp (⟨true, 7, 6⟩) (⟨true, 8, 4⟩)⟩ []) := fun W b h => room_at 0 (by decide) h
  have k8 : ∀ W b, LX B w W b ⟨10, 2, pp (⟨true, 7, 6⟩) (⟨true, 8, 4⟩)⟩ [] → Calls Try.prog 14 #[ptr b, .int .i64 7] W fun e w' => e = .returned (.int .i64 0) ∧ Hid (LX B w w' b ⟨10, 2, pp (no) (⟨true, 8, 4⟩)⟩ []) := fun W b h => free_at 7 0 (by decide) (by first | rfl | (simp only [fx]; rw [if_pos (by decide)]; first | exact congrArg _ (pp0 _ _ _) | exact congrArg _ (pp1 _ _ _)) | (simp only [fx]; rw [if_neg (by decide)])) h
  have k9 : ∀ W b, LX B w W b ⟨10, 2, pp (no) (⟨true, 8, 4⟩)⟩ [] → Calls Try.prog 14 #[ptr b, .int .i64 7] W fun e w' => e = .returned (.int .i64 6) ∧ Hid (LX B w w' b ⟨10, 2, pp (no) (⟨true, 8, 4⟩)⟩ []) := fun W b h => free_at 7 6 (by decide) (by first | rfl | (simp only [fx]; rw [if_pos (by decide)]; first | exact congrArg _ (pp0 _ _ _) | exact congrArg _ (pp1 _ _ _)) | (simp only [fx]; rw [if_neg (by decide)])) h
  have k10 : ∀ W b, LX B w W b ⟨10, 2, pp (no) (⟨true, 8, 4⟩)⟩ [] → Calls Try.prog 12 #[ptr b, .int .i64 9, .int .i64 6] W fun e w' => e = .returned (.tuple #[.int .i64 0, .int .i64 0]) ∧ Hid (LX B w w' b ⟨10, 2, pp (⟨true, 9, 6⟩) (⟨true, 8, 4⟩)⟩ []) := fun W b h => take_at 9 6 0 0 (by decide) (by decide) (by first | rfl | (simp only [tx]; rw [if_pos (by decide)]; first | exact congrArg _ (pp0 _ _ _) | exact congrArg _ (pp1 _ _ _)) | (simp only [tx]; rw [if_neg (by decide)])) h
  have ka : ∀ W b, LX B w W b ⟨10, 2, pp (⟨true, 9, 6⟩) (⟨true, 8, 4⟩)⟩ [] → Calls Try.prog 23 #[ptr b, .int .i64 0] W fun e w' => e = .returned (.tuple #[.int .i64 9, .bool true]) ∧ Hid (LX B w w' b ⟨10, 2, pp (⟨true, 9, 6⟩) (⟨true, 8, 4⟩)⟩ []) := fun W b h => at_at 0 9 true (by decide) (by decide) h
  have ku : ∀ W b, LX B w W b ⟨10, 2, pp (⟨true, 9, 6⟩) (⟨true, 8, 4⟩)⟩ [] → Calls Try.prog 18 #[ptr b] W fun e w' => e = .returned (.int .i64 10) ∧ Hid (LX B w w' b ⟨10, 2, pp (⟨true, 9, 6⟩) (⟨true, 8, 4⟩)⟩ []) := fun W b h => used_at 10 (by decide) h
  have ks : ∀ W b, LX B w W b ⟨10, 2, pp (⟨true, 9, 6⟩) (⟨true, 8, 4⟩)⟩ [] → Calls Try.prog 21 #[ptr b] W fun e w' => e = .returned (.int .i64 0) ∧ Hid (LX B w w' b ⟨10, 2, pp (⟨true, 9, 6⟩) (⟨true, 8, 4⟩)⟩ []) := fun W b h => slots_at 0 (by decide) h
  rw [hB]
  clear hB
  go_enter Try.func10, Try.ntmps10
  go_wp2_with (go_at_call 11; refine k0.mono ?_; rintro e w0 ⟨b, rfl, s⟩; clear k0; refine Hid.out ?_)
  refine hide_it ?_
  go_wp2_with (go_at_call 12; refine (k1 _ _ s.out).mono ?_; rintro e w1 ⟨rfl, s1⟩; clear k1 s; have s := s1; clear s1; refine Hid.out ?_)
  refine hide_it ?_
  go_wp2_with (go_at_call 12; refine (k2 _ _ s.out).mono ?_; rintro e w1 ⟨rfl, s1⟩; clear k2 s; have s := s1; clear s1; refine Hid.out ?_)
  refine hide_it ?_
  go_wp2_with (go_at_call 12; refine (k3 _ _ s.out).mono ?_; rintro e w1 ⟨rfl, s1⟩; clear k3 s; have s := s1; clear s1; refine Hid.out ?_)
  refine hide_it ?_
  go_wp2_with (go_at_call 12; refine (k4 _ _ s.out).mono ?_; rintro e w1 ⟨rfl, s1⟩; clear k4 s; have s := s1; clear s1; refine Hid.out ?_)
  refine hide_it ?_
  go_wp2_with (go_at_call 12; refine (k5 _ _ s.out).mono ?_; rintro e w1 ⟨rfl, s1⟩; clear k5 s; have s := s1; clear s1; refine Hid.out ?_)
  refine hide_it ?_
  go_wp2_with (go_at_call 12; refine (k6 _ _ s.out).mono ?_; rintro e w1 ⟨rfl, s1⟩; clear k6 s; have s := s1; clear s1; refine Hid.out ?_)
  refine hide_it ?_
  go_wp2_with (go_at_call 20; refine (k7 _ _ s.out).mono ?_; rintro e w1 ⟨rfl, s1⟩; clear k7 s; have s := s1; clear s1; refine Hid.out ?_)
  refine hide_it ?_
  go_wp2_with (go_at_call 14; refine (k8 _ _ s.out).mono ?_; rintro e w1 ⟨rfl, s1⟩; clear k8 s; have s := s1; clear s1; refine Hid.out ?_)
  refine hide_it ?_
  go_wp2_with (go_at_call 14; refine (k9 _ _ s.out).mono ?_; rintro e w1 ⟨rfl, s1⟩; clear k9 s; have s := s1; clear s1; refine Hid.out ?_)
  refine hide_it ?_
  go_wp2_with (go_at_call 12; refine (k10 _ _ s.out).mono ?_; rintro e w1 ⟨rfl, s1⟩; clear k10 s; have s := s1; clear s1; refine Hid.out ?_)
  refine hide_it ?_
  go_wp2_with (first | (go_at_call 23; refine (ka _ _ s.out).mono ?_; rintro e w1 ⟨rfl, s1⟩) | (go_at_call 18; refine (ku _ _ s1.out).mono ?_; rintro e w2 ⟨rfl, s2⟩) | (go_at_call 21; refine (ks _ _ s2.out).mono ?_; rintro e w3 ⟨rfl, s3⟩))
  go_ret
  exact ⟨rfl, s3.out.bel⟩
end Go.Proofs.Ytkcbigmccplpiaa
