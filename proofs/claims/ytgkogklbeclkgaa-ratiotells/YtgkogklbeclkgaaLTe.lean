/- RatioTells, walked. -/
import Derived.Test.YtgkogklbeclkgaaBox
import Derived.BigQuiet
import Derived.Deep.QuietTactic
import Derived.Deep.RegionHeld3
namespace Go.Proofs.Ytgkogklbeclkgaa
open Go.RowKit Go.Lib
open M
set_option linter.unusedVariables false
set_option linter.unusedSimpArgs false

set_option maxHeartbeats 2000000 in
theorem ratioTells_walk (a b c d : Int) (w : World) : Calls Try.prog 3 #[.agg #[.int .i64 a, .int .i64 b], .agg #[.int .i64 c, .int .i64 d]] w fun e w' => e = .returned (.bool true) ∧ Below w.heap.size w w' := by
  have H0 := hide_it (Bd.box2 w (.int .i64 a) (.int .i64 b) (.int .i64 c) (.int .i64 d) 23)
  go_enter Try.func3, Try.ntmps3
  go_wp2_with (go_at_call 9; refine (shown_any _).mono ?_; rintro e w1 ⟨rfl, hb1⟩; have H1 := hide_it (H0.out.below hb1); clear hb1; refine Hid.out ?_)
  clear H0
  generalize hn : w.heap.size = n at *
  generalize hn1 : n + 1 = n1 at *
  obtain ⟨l0, p0, p1⟩ := H1.out.at n (x := .int .i64 a) (y := .int .i64 b) (by simp)
  obtain ⟨l1, q0, q1⟩ := H1.out.at n1 (x := .int .i64 c) (y := .int .i64 d) (by simp)
  have A0 := prt_cut a
  have A1 := prt_wei a
  have B0 := prt_cut b
  have C1 := prt_wei c
  have D0 := prt_cut d
  refine hide_it ?_
  go_wp2_with (go_at_call 10; refine (pair_any _ _ _).mono ?_; rintro e w2 ⟨rfl, hb2⟩; have H2 := hide_it (H1.out.below hb2); clear hb2; refine Hid.out ?_)
  clear H1 l0 p0 p1 l1 q0 q1
  obtain ⟨l0, p0, p1⟩ := H2.out.at n (x := .int .i64 a) (y := .int .i64 b) (by simp)
  obtain ⟨l1, q0, q1⟩ := H2.out.at n1 (x := .int .i64 c) (y := .int .i64 d) (by simp)
  refine hide_it ?_
  go_wp2_with (go_at_call 10; refine (pair_any _ _ _).mono ?_; rintro e w3 ⟨rfl, hb3⟩; have H3 := hide_it ((H2.out.alloc (.int .i64 (wei a)) (.int .i64 (cut b)) 26 rfl).below hb3); clear hb3; refine Hid.out ?_)
  clear H2 l0 p0 p1 l1 q0 q1
  generalize hn2 : w2.heap.size = n2 at *
  obtain ⟨l0, p0, p1⟩ := H3.out.at n (x := .int .i64 a) (y := .int .i64 b) (by simp)
  refine hide_it ?_
  go_wp2_with (go_at_call 11; refine (share_any _ _ _).mono ?_; rintro e w4 ⟨rfl, rfl⟩; refine Hid.out ?_)
  have H4 := hide_it (H3.out.alloc (.int .i64 (wei c)) (.int .i64 (cut d)) 26 rfl)
  clear H3 l0 p0 p1
  generalize w3.alloc (.cells #[.int .i64 (wei c), .int .i64 (cut d)] 26) = w4 at *
  generalize hn3 : w3.heap.size = n3 at *
  obtain ⟨l0, p0, p1⟩ := H4.out.at n (x := .int .i64 a) (y := .int .i64 b) (by simp)
  obtain ⟨l2, x0, x1⟩ := H4.out.at n2 (x := .int .i64 (wei a)) (y := .int .i64 (cut b)) (by simp)
  obtain ⟨l3, y0, y1⟩ := H4.out.at n3 (x := .int .i64 (wei c)) (y := .int .i64 (cut d)) (by simp)
  have kr := fun W => rcompare_any _ _ _ _ W A1.sml B0.sml C1.sml D0.sml
  have kc := fun W => compare_F W A1 B0 C1 D0
  have kt := fun W => cutr_any a W
  have ku := fun W => cutr_any b W
  generalize wei a = P at *
  generalize wei c = R at *
  generalize cut a = P0 at *
  generalize cut b = Q at *
  generalize cut d = S at *
  refine hide_it ?_
  go_wp2
  go_quiet ((first | (go_at_call 12; exact Calls.quiet_of_same (weight_F _ _ A0)) | (go_at_call 12; exact Calls.quiet_of_same (weight_F _ _ A1)) | (go_at_call 14; exact Calls.quiet_of_same (cost_F _ _ B0)) | (go_at_call 13; exact Calls.quiet_of_same (kt _)) | (go_at_call 13; exact Calls.quiet_of_same (ku _))))
  go_wp2
  have T := (H4.out.drewN nq).two (n := n2) (m := n3) (x := .int .i64 P) (y := .int .i64 Q) (u := .int .i64 R) (v := .int .i64 S) (by simp) (by simp)
  generalize w4.drewN nq = w5 at *
  have kr' : ∀ W, Two w n2 n3 (.int .i64 P) (.int .i64 Q) (.int .i64 R) (.int .i64 S) W → Calls Try.prog 16 #[.agg #[.int .i64 P, .int .i64 Q], .agg #[.int .i64 R, .int .i64 S]] W fun e w' => e = .returned (.int .i64 (cmB P Q R S)) ∧ Two w n2 n3 (.int .i64 P) (.int .i64 Q) (.int .i64 R) (.int .i64 S) w' := fun W h => (kr W).mono fun e w' h' => ⟨h'.1, h.below h'.2⟩
  clear kr kt ku H4 l0 l2 l3 p0 p1 x0 x1 y0 y1
  have T0 : Two w n2 n3 (.int .i64 P) (.int .i64 Q) (.int .i64 R) (.int .i64 S) w5.drew := T.drew
  generalize cmB P Q R S = z at *
  go_region_held3 (fun W => (Below w.heap.size w W ∧ w.heap.size ≤ W.heap.size ∧ n2 < W.heap.size ∧ n3 < W.heap.size) ∧ W.cell? ⟨n2, 0, none⟩ = some (.int .i64 P) ∧ W.cell? ⟨n2, 1, none⟩ = some (.int .i64 Q) ∧ W.cell? ⟨n3, 0, none⟩ = some (.int .i64 R) ∧ W.cell? ⟨n3, 1, none⟩ = some (.int .i64 S)) (first | exact T0 | exact T1) (first | (go_at_call 15; refine (kc _).mono ?_; rintro e w6 ⟨rfl, rfl⟩) | (go_at_call 16; refine (kr' _ (by assumption)).mono ?_; rintro e w6 ⟨rfl, T1⟩))
  all_goals
    go_wp2
    go_ret
    exact ⟨rfl, T1.1.1⟩
end Go.Proofs.Ytgkogklbeclkgaa
