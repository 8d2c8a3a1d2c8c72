/- RatioSum, walked. -/
import Derived.Test.YtgkogklbeclkgaaLOr
import Derived.BigQuiet
import Derived.Deep.QuietTactic
namespace Go.Proofs.Ytgkogklbeclkgaa
open Go.RowKit Go.Lib
open M
set_option linter.unusedVariables false
set_option linter.unusedSimpArgs false
theorem i64_and23 (n : Int) : bits .and .i64 n 8388607 = n % 8388608 := by
  have h : (BitVec.ofInt 64 8388607).toNat = 2 ^ 23 - 1 := by decide
  have key : (BitVec.ofInt 64 n &&& BitVec.ofInt 64 8388607).toNat = (n % ((2 ^ 64 : Nat) : Int)).toNat % 2 ^ 23 := by
    rw [BitVec.toNat_and, BitVec.toNat_ofInt, h, Nat.and_two_pow_sub_one_eq_mod]
  show IntKind.i64.wrap ((BitVec.ofInt 64 n &&& BitVec.ofInt 64 8388607).toNat : Nat) = n % 8388608
  rw [key, IntKind.wrap_i64]
  omega
theorem and23 (n : Int) : ∃ u : Int, bits .and .i64 n 8388607 = u ∧ 0 ≤ u ∧ u < 8388608 := ⟨n % 8388608, i64_and23 n, by omega, by omega⟩

/-- Blocks of two cells that may be written. -/
def Fz (n : Nat) (w : World) : Prop := w.frozen? ⟨n, 0, none⟩ = false ∧ w.frozen? ⟨n, 1, none⟩ = false
theorem Bd.put {w0 w : World} {L : List (Nat × Value × Value)} (h : Bd w0 L w) (n : Nat) {x y : Value} (hm : (n, x, y) ∈ L) (u v : Value) : Bd w0 ((n, u, v) :: L.filter (fun t => decide (t.1 ≠ n))) ((w.setCell ⟨n, 0, none⟩ u).setCell ⟨n, 1, none⟩ v) := by
  obtain ⟨k1, k2, k3, k4⟩ := h.cell _ hm
  have q1 : (w.setCell ⟨n, 0, none⟩ u).cell? ⟨n, 1, none⟩ = some y := by
    rw [World.cell?_setCell_other _ _ _ _ (by simp)]; exact k4
  refine ⟨(h.bel.setCell (p := ⟨n, 0, none⟩) k2 u).setCell (p := ⟨n, 1, none⟩) k2 v, by simpa using h.size, fun t ht => ?_⟩
  rcases List.mem_cons.1 ht with rfl | ht
  · refine ⟨by simpa using k1, k2, ?_, World.cell?_setCell_same _ _ _ q1⟩
    rw [World.cell?_setCell_other _ _ _ _ (by simp)]
    exact World.cell?_setCell_same _ _ _ k3
  · obtain ⟨m1, m2⟩ := List.mem_filter.1 ht
    have m3 : t.1 ≠ n := by simpa using m2
    obtain ⟨j1, j2, j3, j4⟩ := h.cell _ m1
    refine ⟨by simpa using j1, j2, ?_, ?_⟩
    · rw [World.cell?_setCell_other _ _ _ _ (by first | (simp; done) | (simp; omega)), World.cell?_setCell_other _ _ _ _ (by first | (simp; done) | (simp; omega))]; exact j3
    · rw [World.cell?_setCell_other _ _ _ _ (by first | (simp; done) | (simp; omega)), World.cell?_setCell_other _ _ _ _ (by first | (simp; done) | (simp; omega))]; exact j4
theorem Bd.sub {w0 w : World} {L L' : List (Nat × Value × Value)} (h : Bd w0 L w) (hs : ∀ t ∈ L', t ∈ L) : Bd w0 L' w := ⟨h.bel, h.size, fun t ht => h.cell t (hs t ht)⟩
theorem add_sml {a b : Int} (ha : Prt a) (hb : Prt b) : Sml (a + b) := ⟨by have := ha.1; have := hb.1; omega, by have := ha.2; have := hb.2; omega⟩
namespace M
theorem cmB_low {a b c d : Int} (h : cmB a b c d ≤ 0) : cmB a b (a + c) (b + d) ≤ 0 ∧ cmB (a + c) (b + d) c d ≤ 0 := by
  rw [cmB_le] at *
  rw [cmB_le]
  have e1 : b * (a + c) = b * a + b * c := Int.mul_add ..
  have e2 : (b + d) * a = b * a + d * a := Int.add_mul ..
  have e3 : (b + d) * c = b * c + d * c := Int.add_mul ..
  have e4 : d * (a + c) = d * a + d * c := Int.mul_add ..
  omega
end M
set_option maxHeartbeats 2000000 in
theorem ratioSum_walk (a b c d : Int) (w : World) (wa : -9223372036854775808 ≤ a ∧ a ≤ 9223372036854775807) (wb : -9223372036854775808 ≤ b ∧ b ≤ 9223372036854775807) (wc : -9223372036854775808 ≤ c ∧ c ≤ 9223372036854775807) (wd : -9223372036854775808 ≤ d ∧ d ≤ 9223372036854775807) :
    Calls Try.prog 5 #[.agg #[.int .i64 a, .int .i64 b], .agg #[.int .i64 c, .int .i64 d]] w fun e w' => e = .returned (.bool true) ∧ Below w.heap.size w w' := by
  have H0 := hide_it (Bd.box2 w (.int .i64 a) (.int .i64 b) (.int .i64 c) (.int .i64 d) 23)
  obtain ⟨a', ha, a0, a1⟩ := and23 a
  obtain ⟨b', hb, b0, b1⟩ := and23 b
  obtain ⟨c', hc, c0, c1⟩ := and23 c
  obtain ⟨d', hd, d0, d1⟩ := and23 d
  clear wa wb wc wd
  go_enter Try.func5, Try.ntmps5
  go_wp2_with (go_at_call 9; refine (shown_any _).mono ?_; rintro e w1 ⟨rfl, hb1⟩; have H1 := hide_it (H0.out.below hb1); have f0 := (hb1.frozen (p := ⟨w.heap.size, 0, none⟩) (by simp; omega)).trans (b := _) (c := false) (by simp); have f1 := (hb1.frozen (p := ⟨w.heap.size, 1, none⟩) (by simp; omega)).trans (b := _) (c := false) (by simp); have f2 := (hb1.frozen (p := ⟨w.heap.size + 1, 0, none⟩) (by simp)).trans (b := _) (c := false) (by simp); have f3 := (hb1.frozen (p := ⟨w.heap.size + 1, 1, none⟩) (by simp)).trans (b := _) (c := false) (by simp); clear hb1; refine Hid.out ?_)
  clear H0
  generalize hn : w.heap.size = n at *
  generalize hn1 : n + 1 = n1 at *
  have hne : ¬ n = n1 := by omega
  have hne' : ¬ n1 = n := by omega
  obtain ⟨l0, p0, p1⟩ := H1.out.at n (x := .int .i64 a) (y := .int .i64 b) (by simp)
  obtain ⟨l1, q0, q1⟩ := H1.out.at n1 (x := .int .i64 c) (y := .int .i64 d) (by simp)
  have H2 := hide_it (((H1.out.put n (x := .int .i64 a) (y := .int .i64 b) (by simp) (.int .i64 a') (.int .i64 b')).put n1 (x := .int .i64 c) (y := .int .i64 d) (by simp [hne']) (.int .i64 c') (.int .i64 d')).sub (L' := [(n, .int .i64 a', .int .i64 b'), (n1, .int .i64 c', .int .i64 d')]) (by simp [hne]))
  refine hide_it ?_
  go_wp2_with (go_at_call 10; refine (pair_any _ _ _).mono ?_; rintro e w2 ⟨rfl, hb2⟩; have H3 := hide_it (H2.out.below hb2); clear hb2; refine Hid.out ?_)
  clear H1 H2 l0 p0 p1 l1 q0 q1 f0 f1 f2 f3
  obtain ⟨l1, q0, q1⟩ := H3.out.at n1 (x := .int .i64 c') (y := .int .i64 d') (by simp)
  refine hide_it ?_
  go_wp2_with (go_at_call 10; refine (pair_any _ _ _).mono ?_; rintro e w3 ⟨rfl, hb3⟩; have H4 := hide_it ((H3.out.alloc (.int .i64 (wei a')) (.int .i64 (cut b')) 26 rfl).below hb3); clear hb3; refine Hid.out ?_)
  clear H3 l1 q0 q1
  generalize hn2 : w2.heap.size = n2 at *
  have A1 := prt_wei a'
  have B0 := prt_cut b'
  have C1 := prt_wei c'
  have D0 := prt_cut d'
  clear ha hb hc hd a0 a1 b0 b1 c0 c1 d0 d1
  generalize wei a' = P at *
  generalize wei c' = R at *
  generalize cut b' = Q at *
  generalize cut d' = S at *
  have H5 := hide_it (((H4.out.alloc (.int .i64 R) (.int .i64 S) 26 rfl).alloc (.complex .f64 (F P) (F Q)) (.complex .f64 (F R) (F S)) 25 rfl).sub (L' := [(n2, .int .i64 P, .int .i64 Q), (w3.heap.size, .int .i64 R, .int .i64 S), (w3.heap.size + 1, .complex .f64 (F P) (F Q), .complex .f64 (F R) (F S))]) (by simp))
  clear H4
  refine hide_it ?_
  go_wp2_with (go_at_call 17; refine (sum_two _ _ _ _ _ _ _ _ _ _ A1.is B0.is C1.is D0.is A1.sml B0.sml C1.sml D0.sml (by simp) (by simp)).mono ?_; rintro e w4 ⟨re, im, rfl, hr, hi, hw4⟩; refine Hid.out ?_)
  clear hw4
  generalize hn3 : w3.heap.size = n3 at *
  generalize ((w3.alloc (.cells #[.int .i64 R, .int .i64 S] 26)).alloc (.cells #[.complex .f64 (F P) (F Q), .complex .f64 (F R) (F S)] 25)) = w5 at *
  obtain ⟨l0, p0, p1⟩ := H5.out.at n2 (x := .int .i64 P) (y := .int .i64 Q) (by simp)
  obtain ⟨l1, q0, q1⟩ := H5.out.at n3 (x := .int .i64 R) (y := .int .i64 S) (by simp)
  have sw := add_sml A1 C1
  have sc := add_sml B0 D0
  have kw := fun W => weight_is re im (P + R) W hr sw.1 (by have := sw.2; omega)
  have kc := fun W => cost_is re im (Q + S) W hi sc.1 (by have := sc.2; omega)
  have k0 := fun W => compare_F W A1 B0 C1 D0
  have k1 := fun W => compare_is _ _ _ _ P Q (P + R) (Q + S) W A1.is B0.is hr hi A1.sml B0.sml sw sc
  have k2 := fun W => compare_is _ _ _ _ (P + R) (Q + S) R S W hr hi C1.is D0.is sw sc C1.sml D0.sml
  have k3 := fun W => compare_is _ _ _ _ R S (P + R) (Q + S) W C1.is D0.is hr hi C1.sml D0.sml sw sc
  have k4 := fun W => compare_is _ _ _ _ (P + R) (Q + S) P Q W hr hi A1.is B0.is sw sc A1.sml B0.sml
  have v1 : cmB P Q R S ≤ 0 → cmB P Q (P + R) (Q + S) ≤ 0 ∧ cmB (P + R) (Q + S) R S ≤ 0 := cmB_low
  have v2 : 0 < cmB P Q R S → cmB R S (P + R) (Q + S) ≤ 0 ∧ cmB (P + R) (Q + S) P Q ≤ 0 := fun h => by
    have := cmB_low (a := R) (b := S) (c := P) (d := Q) (by rw [cmB_turn]; omega)
    rw [Int.add_comm R P, Int.add_comm S Q] at this
    exact this
  generalize cmB P Q R S = X at *
  generalize cmB P Q (P + R) (Q + S) = X1 at *
  generalize cmB (P + R) (Q + S) R S = X2 at *
  generalize cmB R S (P + R) (Q + S) = X3 at *
  generalize cmB (P + R) (Q + S) P Q = X4 at *
  obtain ⟨b1, b2⟩ := A1
  obtain ⟨b3, b4⟩ := B0
  obtain ⟨b5, b6⟩ := C1
  obtain ⟨b7, b8⟩ := D0
  clear hr hi sw sc
  have e0 : (FloatKind.f64.format.order 0 0 == some Ordering.eq) = true := by rw [is_eq is_0 is_0]; rfl
  refine hide_it ?_
  go_wp2
  go_quiet ((first | (go_at_call 12; exact Calls.quiet_of_same (kw _)) | (go_at_call 14; exact Calls.quiet_of_same (kc _))))
  clear kw kc p0 p1 q0 q1
  have H6 := hide_it (H5.out.drewN nq)
  generalize w5.drewN nq = w6 at *
  clear H5
  by_cases hX : X ≤ 0
  · obtain ⟨x1, x2⟩ := v1 hX
    have g1 : decide (X1 ≤ 0) = true := by simpa using x1
    have g2 : decide (X2 ≤ 0) = true := by simpa using x2
    have g3 : ¬ 0 < X := by omega
    clear v1 v2 k3 k4 x1 x2 hX
    go_wp2_with (go_at_call 15; refine (k0 _).mono ?_; rintro e w' ⟨rfl, rfl⟩; refine Hid.out ?_)
    refine hide_it ?_
    go_wp2_with (go_at_call 15; refine (k1 _).mono ?_; rintro e w' ⟨rfl, rfl⟩; refine Hid.out ?_)
    refine hide_it ?_
    go_wp2_with (go_at_call 15; refine (k2 _).mono ?_; rintro e w' ⟨rfl, rfl⟩; refine Hid.out ?_)
    refine hide_it ?_
    go_wp2_with (go_at_call 17; refine (sum_none _).mono ?_; rintro e w' ⟨rfl, rfl⟩)
    go_ret
    exact ⟨rfl, H6.out.bel⟩
  · obtain ⟨x1, x2⟩ := v2 (by omega)
    have g1 : decide (X3 ≤ 0) = true := by simpa using x1
    have g2 : decide (X4 ≤ 0) = true := by simpa using x2
    have g3 : 0 < X := by omega
    clear v1 v2 k1 k2 x1 x2 hX
    go_wp2_with (go_at_call 15; refine (k0 _).mono ?_; rintro e w' ⟨rfl, rfl⟩; refine Hid.out ?_)
    refine hide_it ?_
    go_wp2_with (go_at_call 15; refine (k3 _).mono ?_; rintro e w' ⟨rfl, rfl⟩; refine Hid.out ?_)
    refine hide_it ?_
    go_wp2_with (go_at_call 15; refine (k4 _).mono ?_; rintro e w' ⟨rfl, rfl⟩; refine Hid.out ?_)
    refine hide_it ?_
    go_wp2_with (go_at_call 17; refine (sum_none _).mono ?_; rintro e w' ⟨rfl, rfl⟩)
    go_ret
    exact ⟨rfl, H6.out.bel⟩
end Go.Proofs.Ytgkogklbeclkgaa
