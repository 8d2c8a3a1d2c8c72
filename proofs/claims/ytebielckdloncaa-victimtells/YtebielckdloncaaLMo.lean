/- VictimMore, walked. -/
import Derived.Test.YtebielckdloncaaSho
namespace Go.Proofs.Ytebielckdloncaa
open Go.RowKit
open M
set_option linter.unusedVariables false
set_option linter.unusedSimpArgs false

theorem choose_b {l : List R} {la : Option Addr} {n cap : Nat} {prio mem free slots most : Int} {w : World} (hl : l.length = n) (hn : n ≤ 1000000) (hR : RunsIn w la l) (h49 : (vics l prio most).length < 50) :
    Calls Try.prog 10 #[.slice la n cap, .int .i64 prio, .int .i64 mem, .int .i64 free, .int .i64 slots, .int .i64 most] w fun e w' => ∃ ao m c, e = .returned (.tuple #[.slice ao m c, .bool (ansB l prio mem free slots most)]) ∧ Hid (Below w.heap.size w w') := by
  refine (choose_vic l la n cap prio mem free slots most w hl hn hR h49).mono ?_
  rintro e w' ⟨ao, m', c, rfl, h⟩
  exact ⟨ao, m', c, rfl, h.out.2.bel⟩
theorem max_is (a b : Int) (ts : Array TypeId) (t : TypeId) (W : World) : (Builtin.max_ ts t #[.int .i64 a, .int .i64 b]).run Try.prog W = .ok (.int .i64 (max a b)) W := by
  by_cases h : a < b
  · simp [Builtin.max_, Builtin.max2, h]; omega
  · simp [Builtin.max_, Builtin.max2, h]; omega
theorem min_is (a b : Int) (ts : Array TypeId) (t : TypeId) (W : World) : (Builtin.min_ ts t #[.int .i64 a, .int .i64 b]).run Try.prog W = .ok (.int .i64 (min a b)) W := by
  by_cases h : a < b
  · simp [Builtin.min_, Builtin.min2, h]; omega
  · simp [Builtin.min_, Builtin.min2, h]; omega

set_option maxRecDepth 1000000 in
set_option maxHeartbeats 8000000 in
theorem victimMore_walk (l : List R) (la : Option Addr) (cap : Nat) (prio mem free slots most by' : Int) (w : World) (hR : RunsIn w la l) (hc : l.length ≤ cap) (hm : cap ≤ maxLen) (hn : la = none → l.length = 0 ∧ cap = 0)
    (b1 : -9223372036854775808 ≤ prio ∧ prio ≤ 9223372036854775807) (b2 : -9223372036854775808 ≤ mem ∧ mem ≤ 9223372036854775807) (b3 : -9223372036854775808 ≤ free ∧ free ≤ 9223372036854775807) (b4 : -9223372036854775808 ≤ slots ∧ slots ≤ 9223372036854775807) (b5 : -9223372036854775808 ≤ most ∧ most ≤ 9223372036854775807) (b6 : 0 ≤ by' ∧ by' ≤ 255) :
    Calls Try.prog 4 #[.slice la l.length cap, .int .i64 prio, .int .i64 mem, .int .i64 free, .int .i64 slots, .int .i64 most, .int .u8 by'] w fun e w' => e = .returned (.bool true) ∧ Below w.heap.size w w' := by
  have kS := shown_any w
  have kF := fun W (h : Below w.heap.size w W) => few_any l la l.length cap W rfl hc hm (hR.below h) hn
  have KF := hide_it kF
  obtain ⟨q1, e1⟩ : ∃ q, wrap64 (prio + by') = q := ⟨_, rfl⟩
  obtain ⟨q2, e2⟩ : ∃ q, wrap64 (mem - by') = q := ⟨_, rfl⟩
  obtain ⟨q3, e3⟩ : ∃ q, wrap64 (free + by') = q := ⟨_, rfl⟩
  obtain ⟨q4, e4⟩ : ∃ q, wrap64 (most + by') = q := ⟨_, rfl⟩
  obtain ⟨p1, d1⟩ : ∃ p, p = max prio q1 := ⟨_, rfl⟩
  obtain ⟨p2, d2⟩ : ∃ p, p = min mem q2 := ⟨_, rfl⟩
  obtain ⟨p3, d3⟩ : ∃ p, p = max free q3 := ⟨_, rfl⟩
  obtain ⟨p4, d4⟩ : ∃ p, p = max most q4 := ⟨_, rfl⟩
  have m1 := max_is prio q1
  have m2 := min_is mem q2
  have m3 := max_is free q3
  have m4 := max_is most q4
  rw [← d1] at m1
  rw [← d2] at m2
  rw [← d3] at m3
  rw [← d4] at m4
  have HD : Hid (prio ≤ p1 ∧ p2 ≤ mem ∧ free ≤ p3 ∧ most ≤ p4) := ⟨by omega, by omega, by omega, by omega⟩
  clear d1 d2 d3 d4 kF hR hc hm hn
  obtain ⟨n0, hn0⟩ : ∃ n, l.length = n := ⟨_, rfl⟩
  rw [hn0] at KF ⊢
  go_enter Try.func4, Try.ntmps4
  go_wp2_with (first | (go_at_call 8; refine kS.mono ?_; rintro e w1 ⟨rfl, hb⟩; have H1 := hide_it hb; clear hb) | (go_at_call 9; refine (KF.out _ H1.out).mono ?_; rintro e w2 ⟨fa, fc, fm, rfl, HF⟩; refine Hid.out ?_))
  have hl30 : (l.take 30).length ≤ 30 := by rw [List.length_take]; omega
  have HL : Hid ((l.take 30).length = fm) := HF.out.1.symm
  have HR : Hid (RunsIn w2 fa (l.take 30)) := runs_own HF.out.2.2 HF.out.1
  have HB : Hid (Below w.heap.size w w2) := H1.out.trans (HF.out.2.1.mono H1.out.size)
  have HM : Hid (fm ≤ 30) := by have := HF.out.1; exact (show fm ≤ 30 from by omega)
  have kC : ∀ W p m f s q, Below w2.heap.size w2 W → Calls Try.prog 10 #[.slice fa fm fc, .int .i64 p, .int .i64 m, .int .i64 f, .int .i64 s, .int .i64 q] W fun e w' => ∃ ao m' c, e = .returned (.tuple #[.slice ao m' c, .bool (ansB (l.take 30) p m f s q)]) ∧ Hid (Below W.heap.size W w') := fun W p m f s q h => choose_b HL.out (by have := HM.out; omega) (HR.out.below h) (by have := vics_len (l.take 30) p q; have := HL.out; have := HM.out; omega)
  have KC := hide_it kC
  have kE : ∀ W, Below w2.heap.size w2 W → Calls Try.prog 10 #[.slice fa fm fc, .int .i64 prio, .int .i64 mem, .int .i64 mem, .int .i64 1, .int .i64 most] W fun e w' => ∃ ao c, e = .returned (.tuple #[.slice ao 0 c, .bool true]) ∧ Hid (Below W.heap.size W w' ∧ Rd w' ao [] c) := fun W h => choose_at HL.out (by have := HM.out; omega) (HR.out.below h) (by have := vics_len (l.take 30) prio most; have := HL.out; have := HM.out; omega) (by simp [ansL, ans]) (by simp [ansB, ans]) rfl
  have KE := hide_it kE
  have HA1 : Hid (ansB (l.take 30) prio mem free slots most = true → ansB (l.take 30) p1 mem free slots most = true) := fun h => ansB_more _ HD.out.1 (Int.le_refl _) (Int.le_refl _) (Int.le_refl _) h
  have HA2 : Hid (ansB (l.take 30) prio mem free slots most = true → ansB (l.take 30) prio p2 free slots most = true) := fun h => ansB_more _ (Int.le_refl _) HD.out.2.1 (Int.le_refl _) (Int.le_refl _) h
  have HA3 : Hid (ansB (l.take 30) prio mem free slots most = true → ansB (l.take 30) prio mem p3 slots most = true) := fun h => ansB_more _ (Int.le_refl _) (Int.le_refl _) HD.out.2.2.1 (Int.le_refl _) h
  have HA4 : Hid (ansB (l.take 30) prio mem free slots most = true → ansB (l.take 30) prio mem free slots p4 = true) := fun h => ansB_more _ (Int.le_refl _) (Int.le_refl _) (Int.le_refl _) HD.out.2.2.2 h
  have k0 := KC.out w2 prio mem free slots most (Below.refl _ _)
  have k1 := fun W h => KC.out W p1 mem free slots most h
  have k2 := fun W h => KC.out W prio p2 free slots most h
  have k3 := fun W h => KC.out W prio mem p3 slots most h
  have k4 := fun W h => KC.out W prio mem free slots p4 h
  generalize ansB (l.take 30) prio mem free slots most = B0 at *
  generalize ansB (l.take 30) p1 mem free slots most = B1 at *
  generalize ansB (l.take 30) prio p2 free slots most = B2 at *
  generalize ansB (l.take 30) prio mem p3 slots most = B3 at *
  generalize ansB (l.take 30) prio mem free slots p4 = B4 at *
  have K1 := hide_it k1
  have K2 := hide_it k2
  have K3 := hide_it k3
  have K4 := hide_it k4
  clear HF KF kC KC kE k1 k2 k3 k4 hl30 HL HR HM
  refine hide_it ?_
  go_wp2_with (go_at_call 10; refine k0.mono ?_; rintro e w3 ⟨a0, n0', c0, rfl, s3⟩; clear k0; refine Hid.out ?_)
  refine hide_it ?_
  go_wp2_with (go_at_call 10; refine (K1.out _ s3.out).mono ?_; rintro e w4 ⟨a1, m1', c1, rfl, r1⟩; have t2 := hide_it (s3.out.trans (r1.out.mono (s3.out.size))); clear K1 r1 s3; refine Hid.out ?_)
  refine hide_it ?_
  go_wp2_with (go_at_call 10; refine (K2.out _ t2.out).mono ?_; rintro e w5 ⟨a2, m2', c2, rfl, r2⟩; have t3 := hide_it (t2.out.trans (r2.out.mono (t2.out.size))); clear K2 r2 t2; refine Hid.out ?_)
  refine hide_it ?_
  go_wp2_with (go_at_call 10; refine (K3.out _ t3.out).mono ?_; rintro e w6 ⟨a3, m3', c3, rfl, r3⟩; have t4 := hide_it (t3.out.trans (r3.out.mono (t3.out.size))); clear K3 r3 t3; refine Hid.out ?_)
  refine hide_it ?_
  go_wp2_with (go_at_call 10; refine (K4.out _ t4.out).mono ?_; rintro e w7 ⟨a4, m4', c4, rfl, r4⟩; have t5 := hide_it (t4.out.trans (r4.out.mono (t4.out.size))); clear K4 r4 t4; refine Hid.out ?_)
  refine hide_it ?_
  go_wp2_with (go_at_call 10; refine (KE.out _ t5.out).mono ?_; rintro e w8 ⟨a5, c5, rfl, r5⟩; have t6 := hide_it (t5.out.trans (r5.out.1.mono t5.out.size)); clear KE t5; refine Hid.out ?_)
  refine hide_it ?_
  cases B0 with
  | true =>
    obtain rfl : B1 = true := HA1.out rfl
    obtain rfl : B2 = true := HA2.out rfl
    obtain rfl : B3 = true := HA3.out rfl
    obtain rfl : B4 = true := HA4.out rfl
    go_wp2
    go_ret
    exact ⟨rfl, HB.out.trans (t6.out.mono HB.out.size)⟩
  | false =>
    go_wp2
    go_ret
    exact ⟨rfl, HB.out.trans (t6.out.mono HB.out.size)⟩
end Go.Proofs.Ytebielckdloncaa
