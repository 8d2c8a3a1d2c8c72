/- AdmitAgain, walked. -/
import Derived.Test.YtjmdalpffhfdfaaSho
import Derived.Test.YtjmdalpffhfdfaaArg
import Derived.Deep.RegionHeld3
import Derived.Deep.CutRange
import Derived.Deep.CutBlock
import Derived.BigQuiet
import Derived.Test.YtjmdalpffhfdfaaSam
namespace Go.Proofs.Ytjmdalpffhfdfaa
open Go.RowKit
open M
set_option linter.unusedVariables false
set_option linter.unusedSimpArgs false

set_option maxRecDepth 1000000 in
set_option maxHeartbeats 4000000 in
theorem admitAgain_walk (ac qu : Int) (l : List (Int × Int)) (a : Option Addr) (cap : Nat) (w : World) (hac : -9223372036854775808 ≤ ac ∧ ac ≤ 9223372036854775807) (hqu : -9223372036854775808 ≤ qu ∧ qu ≤ 9223372036854775807) (hI : StepsIn w a l) (hl : l.length ≤ cap) (hc : cap ≤ maxLen) (hb : ∀ t ∈ l, i64B t.1 ∧ i64B t.2) :
    Calls Try.prog 9 #[.int .i64 ac, .int .i64 qu, .slice a l.length cap] w fun e w' => e = .returned (.bool true) ∧ Below w.heap.size w w' := by
  obtain ⟨B, hB⟩ : ∃ B, w.heap.size = B := ⟨_, rfl⟩
  have ks : Calls Try.prog 10 #[] w fun e w' => e = .returned (.bool true) ∧ Hid (Below B w w') := by
    have := shown_any w
    rw [hB] at this
    exact this
  have hlo : B ≤ w.heap.size := by omega
  have kn : ∀ W, Below B w W → Calls Try.prog 11 #[.int .i64 ac, .int .i64 qu] W fun e w' => ∃ t, e = .returned (ptr t) ∧ Hid (MX B w w' [(t, mk0 ac qu)] []) := fun W hb => (mx_start hb hlo).new ac qu hac.2 hqu.2
  have kn2 : ∀ W t, MX B w W [(t, mk0 ac qu)] [] → Calls Try.prog 11 #[.int .i64 ac, .int .i64 qu] W fun e w' => ∃ t2, e = .returned (ptr t2) ∧ Hid (MX B w w' [(t, mk0 ac qu), (t2, mk0 ac qu)] []) := fun W t h => h.new ac qu hac.2 hqu.2
  have hcm : cap ≤ 9223372036854775807 := by unfold maxLen at hc; omega
  obtain ⟨m, hm⟩ : ∃ m, l.length = m := ⟨_, rfl⟩
  have HI : Hid (∀ (i : Nat), i < m → ∃ x y b o, a = some ⟨b, o, none⟩ ∧ ∀ W, Below B w W → W.cell? ⟨b, o + i * 2, none⟩ = some (.int .i64 x) ∧ W.cell? ⟨b, o + i * 2 + 1, none⟩ = some (.int .i64 y)) := fun i hi => by
    have := hI.get (i := i) (by omega)
    rw [hB] at this
    exact this
  rw [hm] at hl ⊢
  rw [hB]
  have k0 : siz (mk0 ac qu) ≤ 0 := Nat.le_refl _
  generalize mk0 ac qu = x0 at *
  clear hB hI hc hm hlo hb hac hqu
  go_enter Try.func9, Try.ntmps9
  go_wp2_with (first | (go_at_call 10; refine ks.mono ?_; rintro e w1 ⟨rfl, s1⟩; clear ks) | (go_at_call 11; first | (refine (kn2 _ _ s2.out).mono ?_; rintro e w3 ⟨t2, rfl, s⟩; clear kn2 s2) | (refine (kn _ s1.out).mono ?_; rintro e w2 ⟨t1, rfl, s2⟩; clear kn s1)))
  go_loopw [10] (fun iv W => ∃ (i : Nat) (x : Ad), iv = .int .i64 i ∧ i ≤ m ∧ i ≤ 100 ∧ Hid (MX B w W [(t1, x), (t2, x)] []) ∧ Hid (siz x ≤ i)) (fun iv _ => m - (intOf iv).toNat)
  case atStart => exact ⟨0, _, rfl, Nat.zero_le _, by omega, s, k0⟩
  case round =>
    clear s k0
    obtain ⟨i, x, rfl, hi, hi2, s, HS⟩ := hrel
    by_cases hgo : i < m ∧ i < 100
    · obtain ⟨hlt, hlt2⟩ := hgo
      have h16 : decide ((i : Int) < 100) = true := decide_eq_true (by omega)
      have h16' : decide (i < 100) = true := decide_eq_true (by omega)
      obtain ⟨kd, y, c, o, rfl, HX⟩ := HI.out i hlt
      obtain ⟨c0, c1⟩ := HX _ s.out.bel
      have HX2 : Hid (∀ W hs, MX B w W hs [] → W.cell? ⟨c, o + i * 2, none⟩ = some (.int .i64 kd) ∧ W.cell? ⟨c, o + i * 2 + 1, none⟩ = some (.int .i64 y)) := fun W hs h => HX _ h.bel
      have hsz : siz x ≤ 100 := by have := HS.out; omega
      have hin := s.out.inv 0 rfl
      have FIN : Hid (∀ X : Ad, siz X ≤ 101 → ∃ N1 N2,
            (∀ W, MX B w W [(t1, X), (t2, X)] [] → Calls Try.prog 16 #[ptr t1] W fun e w' => ∃ a c, e = .returned (.slice a N1 c) ∧ Hid (MX B w w' [(t1, X), (t2, X)] [] ∧ Rd w' a X.A c))
          ∧ (∀ W a c, MX B w W [(t1, X), (t2, X)] [] ∧ Rd W a X.A c → Calls Try.prog 16 #[ptr t2] W fun e w' => ∃ a2 c2, e = .returned (.slice a2 N1 c2) ∧ Hid (MX B w w' [(t1, X), (t2, X)] [] ∧ Rd w' a X.A c ∧ Rd w' a2 X.A c2))
          ∧ (∀ W a c a2 c2, MX B w W [(t1, X), (t2, X)] [] ∧ Rd W a X.A c ∧ Rd W a2 X.A c2 → Calls Try.prog 21 #[.slice a N1 c, .slice a2 N1 c2] W fun e w' => e = .returned (.bool true) ∧ Hid (MX B w w' [(t1, X), (t2, X)] []))
          ∧ (∀ W, MX B w W [(t1, X), (t2, X)] [] → Calls Try.prog 17 #[ptr t1] W fun e w' => ∃ a c, e = .returned (.slice a N2 c) ∧ Hid (MX B w w' [(t1, X), (t2, X)] [] ∧ Rd w' a X.Q c))
          ∧ (∀ W a c, MX B w W [(t1, X), (t2, X)] [] ∧ Rd W a X.Q c → Calls Try.prog 17 #[ptr t2] W fun e w' => ∃ a2 c2, e = .returned (.slice a2 N2 c2) ∧ Hid (MX B w w' [(t1, X), (t2, X)] [] ∧ Rd w' a X.Q c ∧ Rd w' a2 X.Q c2))
          ∧ (∀ W a c a2 c2, MX B w W [(t1, X), (t2, X)] [] ∧ Rd W a X.Q c ∧ Rd W a2 X.Q c2 → Calls Try.prog 21 #[.slice a N2 c, .slice a2 N2 c2] W fun e w' => e = .returned (.bool true) ∧ Hid (MX B w w' [(t1, X), (t2, X)] []))) := fun X hX => by
        have hX2 := hX
        unfold siz at hX2
        refine ⟨X.A.length, X.Q.length, fun W h => (h.act 0 rfl (by omega)).mono ?_, fun W a c h => (h.1.act 1 rfl (by omega)).mono ?_, fun W a c a2 c2 h => (same_any h.2.1 h.2.2 (by omega) (by omega)).mono ?_, fun W h => (h.wai 0 rfl (by omega)).mono ?_, fun W a c h => (h.1.wai 1 rfl (by omega)).mono ?_, fun W a c a2 c2 h => (same_any h.2.1 h.2.2 (by omega) (by omega)).mono ?_⟩
        · rintro e w' ⟨a, c, rfl, s⟩; exact ⟨a, c, rfl, s.out.1, s.out.2.1⟩
        · rintro e w' ⟨a2, c2, rfl, s⟩; exact ⟨a2, c2, rfl, s.out.1, h.2.below s.out.2.2, s.out.2.1⟩
        · rintro e w' ⟨rfl, s⟩; exact ⟨by rw [decide_eq_true rfl], h.1.below s⟩
        · rintro e w' ⟨a, c, rfl, s⟩; exact ⟨a, c, rfl, s.out.1, s.out.2.1⟩
        · rintro e w' ⟨a2, c2, rfl, s⟩; exact ⟨a2, c2, rfl, s.out.1, h.2.below s.out.2.2, s.out.2.1⟩
        · rintro e w' ⟨rfl, s⟩; exact ⟨by rw [decide_eq_true rfl], h.1.below s⟩
      clear HX HI
      by_cases hk3 : kd = 3
      · have d3 : (kd == 3) = true := by simp [hk3]
        have k1 : Calls Try.prog 14 #[ptr t1, .int .i64 y] wr fun e w' => e = .returned (.tuple #[.int .i64 (es x y), .int .i64 (ee x y)]) ∧ Hid (MX B w w' [(t1, ex x y), (t2, x)] []) := s.out.end_ 0 rfl (by omega) y
        have k2 : ∀ W, MX B w W [(t1, ex x y), (t2, x)] [] → Calls Try.prog 14 #[ptr t2, .int .i64 y] W fun e w' => e = .returned (.tuple #[.int .i64 (es x y), .int .i64 (ee x y)]) ∧ Hid (MX B w w' [(t1, ex x y), (t2, ex x y)] []) := fun W h => h.end_ 1 rfl (by omega) y
        have HS2 : Hid (siz (ex x y) ≤ i + 1) := by have := (siz_ex hin y); have := HS.out; show _ ≤ _; omega
        obtain ⟨N1, N2, g1, g2, g3, g4, g5, g6⟩ := FIN.out (ex x y) (by have := HS2.out; omega)
        by_cases he : ee x y = 0
        · generalize ex x y = X at *
          rw [he] at k1 k2
          generalize es x y = V at *
          have z4 : (V != V) = false := by simp
          clear hk3 FIN HS he hin hsz
          go_wp2_with (go_at_call 14; refine k1.mono ?_; rintro e w3 ⟨rfl, s3⟩; obtain ⟨c0, c1⟩ := HX2.out _ _ s3.out; refine Hid.out ?_)
          refine hide_it ?_
          go_wp2_with (go_at_call 14; refine (k2 _ s3.out).mono ?_; rintro e w4 ⟨rfl, s4⟩; refine Hid.out ?_)
          refine hide_it ?_
          go_wp2_with (go_at_call 16; refine (g1 _ s4.out).mono ?_; rintro e w5 ⟨a5, n5, rfl, s5⟩; refine Hid.out ?_)
          refine hide_it ?_
          go_wp2_with (go_at_call 16; refine (g2 _ _ _ s5.out).mono ?_; rintro e w6 ⟨a6, n6, rfl, s6⟩; refine Hid.out ?_)
          refine hide_it ?_
          go_wp2_with (go_at_call 21; refine (g3 _ _ _ _ _ s6.out).mono ?_; rintro e w7 ⟨rfl, s7⟩; refine Hid.out ?_)
          refine hide_it ?_
          go_wp2_with (go_at_call 17; refine (g4 _ s7.out).mono ?_; rintro e w8 ⟨a8, n8, rfl, s8⟩; refine Hid.out ?_)
          refine hide_it ?_
          go_wp2_with (go_at_call 17; refine (g5 _ _ _ s8.out).mono ?_; rintro e w9 ⟨a9, n9, rfl, s9⟩; refine Hid.out ?_)
          refine hide_it ?_
          go_wp2_with (go_at_call 21; refine (g6 _ _ _ _ _ s9.out).mono ?_; rintro e w10 ⟨rfl, s10⟩)
          go_roundw
          case rel => exact ⟨i + 1, X, by go_num, by omega, by omega, s10, HS2⟩
          case measure => simp [intOf]; omega
        · have hX : ex x y = x := ex_ne he
          rw [hX] at k1
          rw [hX] at g1 g2 g3 g4 g5 g6 HS2
          obtain ⟨X, rfl⟩ : ∃ X, X = x := ⟨_, rfl⟩
          have hz : (ee X y == 0) = false := by simp [he]
          generalize ee X y = E at *
          generalize es X y = V at *
          clear hk3 FIN HS k2 hin hsz hX
          go_wp2_with (go_at_call 14; refine k1.mono ?_; rintro e w3 ⟨rfl, s3⟩; refine Hid.out ?_)
          refine hide_it ?_
          go_wp2_with (go_at_call 16; refine (g1 _ s3.out).mono ?_; rintro e w5 ⟨a5, n5, rfl, s5⟩; refine Hid.out ?_)
          refine hide_it ?_
          go_wp2_with (go_at_call 16; refine (g2 _ _ _ s5.out).mono ?_; rintro e w6 ⟨a6, n6, rfl, s6⟩; refine Hid.out ?_)
          refine hide_it ?_
          go_wp2_with (go_at_call 21; refine (g3 _ _ _ _ _ s6.out).mono ?_; rintro e w7 ⟨rfl, s7⟩; refine Hid.out ?_)
          refine hide_it ?_
          go_wp2_with (go_at_call 17; refine (g4 _ s7.out).mono ?_; rintro e w8 ⟨a8, n8, rfl, s8⟩; refine Hid.out ?_)
          refine hide_it ?_
          go_wp2_with (go_at_call 17; refine (g5 _ _ _ s8.out).mono ?_; rintro e w9 ⟨a9, n9, rfl, s9⟩; refine Hid.out ?_)
          refine hide_it ?_
          go_wp2_with (go_at_call 21; refine (g6 _ _ _ _ _ s9.out).mono ?_; rintro e w10 ⟨rfl, s10⟩)
          go_roundw
          case rel => exact ⟨i + 1, X, by go_num, by omega, by omega, s10, HS2⟩
          case measure => simp [intOf]; omega
      · have d3 : (kd == 3) = false := by simp [hk3]
        have k1 : Calls Try.prog 12 #[ptr t1, .int .i64 y] wr fun e w' => e = .returned (.tuple #[.int .i64 (ts x y), .int .i64 (te x y)]) ∧ Hid (MX B w w' [(t1, tx x y), (t2, x)] []) := s.out.add 0 rfl (by omega) y
        have k2 : ∀ W, MX B w W [(t1, tx x y), (t2, x)] [] → Calls Try.prog 12 #[ptr t2, .int .i64 y] W fun e w' => e = .returned (.tuple #[.int .i64 (ts x y), .int .i64 (te x y)]) ∧ Hid (MX B w w' [(t1, tx x y), (t2, tx x y)] []) := fun W h => h.add 1 rfl (by omega) y
        have HS2 : Hid (siz (tx x y) ≤ i + 1) := by have := (siz_tx hin y); have := HS.out; show _ ≤ _; omega
        obtain ⟨N1, N2, g1, g2, g3, g4, g5, g6⟩ := FIN.out (tx x y) (by have := HS2.out; omega)
        by_cases he : te x y = 0
        · generalize tx x y = X at *
          rw [he] at k1 k2
          generalize ts x y = V at *
          have z4 : (V != V) = false := by simp
          clear hk3 FIN HS he hin hsz
          go_wp2_with (go_at_call 12; refine k1.mono ?_; rintro e w3 ⟨rfl, s3⟩; obtain ⟨c0, c1⟩ := HX2.out _ _ s3.out; refine Hid.out ?_)
          refine hide_it ?_
          go_wp2_with (go_at_call 12; refine (k2 _ s3.out).mono ?_; rintro e w4 ⟨rfl, s4⟩; refine Hid.out ?_)
          refine hide_it ?_
          go_wp2_with (go_at_call 16; refine (g1 _ s4.out).mono ?_; rintro e w5 ⟨a5, n5, rfl, s5⟩; refine Hid.out ?_)
          refine hide_it ?_
          go_wp2_with (go_at_call 16; refine (g2 _ _ _ s5.out).mono ?_; rintro e w6 ⟨a6, n6, rfl, s6⟩; refine Hid.out ?_)
          refine hide_it ?_
          go_wp2_with (go_at_call 21; refine (g3 _ _ _ _ _ s6.out).mono ?_; rintro e w7 ⟨rfl, s7⟩; refine Hid.out ?_)
          refine hide_it ?_
          go_wp2_with (go_at_call 17; refine (g4 _ s7.out).mono ?_; rintro e w8 ⟨a8, n8, rfl, s8⟩; refine Hid.out ?_)
          refine hide_it ?_
          go_wp2_with (go_at_call 17; refine (g5 _ _ _ s8.out).mono ?_; rintro e w9 ⟨a9, n9, rfl, s9⟩; refine Hid.out ?_)
          refine hide_it ?_
          go_wp2_with (go_at_call 21; refine (g6 _ _ _ _ _ s9.out).mono ?_; rintro e w10 ⟨rfl, s10⟩)
          go_roundw
          case rel => exact ⟨i + 1, X, by go_num, by omega, by omega, s10, HS2⟩
          case measure => simp [intOf]; omega
        · have hX : tx x y = x := tx_ne he
          rw [hX] at k1
          rw [hX] at g1 g2 g3 g4 g5 g6 HS2
          obtain ⟨X, rfl⟩ : ∃ X, X = x := ⟨_, rfl⟩
          have hz : (te X y == 0) = false := by simp [he]
          generalize te X y = E at *
          generalize ts X y = V at *
          clear hk3 FIN HS k2 hin hsz hX
          go_wp2_with (go_at_call 12; refine k1.mono ?_; rintro e w3 ⟨rfl, s3⟩; refine Hid.out ?_)
          refine hide_it ?_
          go_wp2_with (go_at_call 16; refine (g1 _ s3.out).mono ?_; rintro e w5 ⟨a5, n5, rfl, s5⟩; refine Hid.out ?_)
          refine hide_it ?_
          go_wp2_with (go_at_call 16; refine (g2 _ _ _ s5.out).mono ?_; rintro e w6 ⟨a6, n6, rfl, s6⟩; refine Hid.out ?_)
          refine hide_it ?_
          go_wp2_with (go_at_call 21; refine (g3 _ _ _ _ _ s6.out).mono ?_; rintro e w7 ⟨rfl, s7⟩; refine Hid.out ?_)
          refine hide_it ?_
          go_wp2_with (go_at_call 17; refine (g4 _ s7.out).mono ?_; rintro e w8 ⟨a8, n8, rfl, s8⟩; refine Hid.out ?_)
          refine hide_it ?_
          go_wp2_with (go_at_call 17; refine (g5 _ _ _ s8.out).mono ?_; rintro e w9 ⟨a9, n9, rfl, s9⟩; refine Hid.out ?_)
          refine hide_it ?_
          go_wp2_with (go_at_call 21; refine (g6 _ _ _ _ _ s9.out).mono ?_; rintro e w10 ⟨rfl, s10⟩)
          go_roundw
          case rel => exact ⟨i + 1, X, by go_num, by omega, by omega, s10, HS2⟩
          case measure => simp [intOf]; omega
    · by_cases hlt : i < m
      · have d1 : decide ((i : Int) < 100) = false := by simp; omega
        have d2 : decide (i < 100) = false := by simp; omega
        clear HI HS
        go_wp2
        go_ret
        exact ⟨rfl, s.out.bel⟩
      · have d1 : decide ((i : Int) < m) = false := by simp; omega
        have d2 : decide (i < m) = false := by simp; omega
        clear HI HS
        go_wp2
        go_ret
        exact ⟨rfl, s.out.bel⟩
end Go.Proofs.Ytjmdalpffhfdfaa
