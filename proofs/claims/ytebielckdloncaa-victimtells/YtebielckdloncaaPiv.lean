/- The pivot. -/
import Derived.Test.YtebielckdloncaaMed
namespace Go.Proofs.Ytebielckdloncaa
open Go.Shelf Go.RowKit Go.Lib Go.Sort
set_option linter.unusedVariables false
set_option linter.unusedSimpArgs false
section
variable {α : Type} [Inhabited α] {enc : α → Value} {cf : α → α → Int} {C : Value} {w0 W : World} {blk off cap : Nat} {dk d0 : Array α}
set_option maxHeartbeats 8000000 in
set_option maxRecDepth 1000000 in
theorem choose_any (hC : CmpM C enc cf blk off d0.size w0) (R : Row1 enc w0 blk off d0) (a b : Nat) (d : Array α) (w : World) (hs : d0.size = d.size) (S : SW enc w0 blk off d w) (hab : a + 12 < b) (hb : b ≤ d.size) (hsz : d.size < 50) :
    Calls Try.prog 29 #[.slice (some ⟨blk, off, none⟩) d.size cap, .int .i64 a, .int .i64 b, .func (.func 21) #[C] #[]] w fun e w' => ∃ x : Nat, ∃ h : Int, e = .returned (.tuple #[.int .i64 x, .int .i64 h]) ∧ Hid (a ≤ x ∧ x < b) ∧ Hid (SW enc w0 blk off d w') := by
  obtain ⟨L, hL⟩ : ∃ L, b = a + L := ⟨b - a, by omega⟩
  subst hL
  obtain ⟨q, hq⟩ : ∃ q : Nat, q = L / 4 := ⟨_, rfl⟩
  have hq1 : 3 ≤ q := by omega
  have hq2 : 4 * q ≤ L := by omega
  have zq : (L : Int) / 4 = (q : Int) := by omega
  have zL : (a : Int) + (L : Int) - (a : Int) = (L : Int) := by omega
  have hL8 : (8 : Int) ≤ (L : Int) := by omega
  have hL50 : ¬ ((50 : Int) ≤ (L : Int)) := by omega
  have k : ∀ (W : World) (c : Nat), W.heap.size = c + 1 → Cn enc w0 blk off d c W → Calls Try.prog 41 #[.slice (some ⟨blk, off, none⟩) d.size cap, .int .i64 ((a : Int) + (q : Int)), .int .i64 ((a : Int) + (q : Int) * 2), .int .i64 ((a : Int) + (q : Int) * 3), .pointer (some ⟨c, 0, none⟩), .func (.func 21) #[C] #[]] W fun r w' => ∃ x : Nat, r = .returned (.int .i64 x) ∧ Hid (a ≤ x ∧ x < a + L) ∧ Hid (Cn enc w0 blk off d c w') := fun W c _ hc => by
    have := median_any (cap := cap) hC R (a + q) (a + q * 2) (a + q * 3) c d W hs hc (by omega) (by omega) (by omega) hsz
    simp only [Int.natCast_add, Int.natCast_mul] at this
    refine this.mono ?_
    rintro r w' ⟨x, h1, h2, h3⟩
    have h4 := h2.out
    exact ⟨x, h1, (show a ≤ x ∧ x < a + L from by omega), h3⟩
  have S0 : Cn enc w0 blk off d w.heap.size (w.alloc (.cells #[.int .i64 0] 3)) := ⟨S.alloc _, ⟨0, by simp⟩, by simp, S.le, by simp⟩
  have k1 := k _ w.heap.size (by simp) S0
  clear k S0 hC hs hq S
  go_enter Try.func29, Try.ntmps29
  go_wp2_with (go_at_call 41; refine k1.mono ?_; rintro r w1 ⟨x, rfl, h1, s1⟩; obtain ⟨_, ⟨s, c1⟩, _⟩ := s1.out)
  all_goals
    go_ret2
    exact ⟨x, _, rfl, h1, s1.out.1⟩
end
end Go.Proofs.Ytebielckdloncaa
