/- LifeFails, walked. -/
import Derived.Test.YtjdgndbdoceifaaSho
import Derived.Test.YtjdgndbdoceifaaArg
import Derived.Deep.RegionHeld3
import Derived.Deep.CutRange
import Derived.Deep.CutBlock
import Derived.BigQuiet
namespace Go.Proofs.Ytjdgndbdoceifaa
open Go.RowKit
open M
set_option linter.unusedVariables false
set_option linter.unusedSimpArgs false

theorem st_stop2 {T P : Int} {e m p : Nat} (h : (p : Int) < P) : er P 2 ⟨2, e, m, p⟩ = 0 ∧ st T P 2 ⟨2, e, m, p⟩ = ⟨1, e, m, p + 1⟩ := by
  have h2 : ¬ (2 = 2 ∧ P ≤ (p : Int)) := by omega
  exact ⟨er_yes rfl h2, st_yes rfl h2⟩
theorem st_miss {T P : Int} {e m p : Nat} (s : Nat) (h : (if T ≤ (m : Int) + 1 then 6 else 4) = s) : er P 6 ⟨2, e, m, p⟩ = 0 ∧ st T P 6 ⟨2, e, m, p⟩ = ⟨s, e, m + 1, p⟩ := by
  have h2 : ¬ (6 = 2 ∧ P ≤ (p : Int)) := by omega
  refine ⟨er_yes rfl h2, ?_⟩
  rw [st_yes rfl h2, ← h]
  rfl
set_option maxRecDepth 1000000 in
set_option maxHeartbeats 8000000 in
theorem lifeFails_walk (n : Int) (l : List Bool) (a : Option Addr) (cap : Nat) (w : World) (hI : BoolsIn w a l) (hl : l.length ≤ cap) (hc : cap ≤ maxLen) :
    Calls Try.prog 6 #[.int .i64 n, .slice a l.length cap] w fun e w' => e = .returned (.bool true) ∧ Below w.heap.size w w' := by
  obtain ⟨B, hB⟩ : ∃ B, w.heap.size = B := ⟨_, rfl⟩
  have ks : Calls Try.prog 9 #[] w fun e w' => e = .returned (.bool true) ∧ Hid (Below B w w') := by
    have := shown_any w
    rw [hB] at this
    exact this
  have hlo : B ≤ w.heap.size := by omega
  obtain ⟨u, hu, hu2⟩ := and16 n
  obtain ⟨d, hd⟩ : ∃ d, u % 100 = d := ⟨_, rfl⟩
  have hd1 : d < 100 := by omega
  have q1 : (u : Int).tmod 100 = (d : Int) := by rw [Int.tmod_eq_emod_of_nonneg (by omega)]; omega
  have q2 : (u : Int) % 100 = (d : Int) := by omega
  obtain ⟨D, hD⟩ : ∃ D, 1 + d = D := ⟨_, rfl⟩
  have hD1 : 1 ≤ D ∧ D ≤ 100 := by omega
  have q3 : 1 + (d : Int) = (D : Int) := by omega
  have kn : ∀ W, Below B w W → Calls Try.prog 10 #[.int .i64 D, .int .i64 100] W fun e w' => ∃ b, e = .returned (ptr b) ∧ Hid (LX B w w' b D 100 ⟨0, 0, 0, 0⟩ []) := fun W hb => new_any hb hlo D 100 D 100 (by omega) (by decide)
  have kw : ∀ W b, LX B w W b D 100 ⟨0, 0, 0, 0⟩ [] → Calls Try.prog 20 #[ptr b] W fun e w' => e = .returned (.int .i64 0) ∧ Hid (LX B w w' b D 100 ⟨1, 0, 0, 0⟩ []) := fun W b h => want_any h
  have hcm : cap ≤ 9223372036854775807 := by unfold maxLen at hc; omega
  obtain ⟨m, hm⟩ : ∃ m, l.length = m := ⟨_, rfl⟩
  have HJ : Hid (∀ (i : Nat), i < m → ∃ (v : Bool) (c : Nat) (o : Nat), a = some ⟨c, o, none⟩ ∧ ∀ W, Below B w W → W.cell? ⟨c, o + i, none⟩ = some (.bool v)) := fun i hi => by
    have hil : i < l.length := by omega
    obtain ⟨c, o, h1, h2, h3⟩ := hI i hil
    exact ⟨l[i], c, o, h1, fun W q => by rw [(hB ▸ q : Below w.heap.size w W).cell (p := ⟨c, _, none⟩) h2]; exact h3⟩
  rw [hm] at hl ⊢
  rw [hB]
  clear hB hlo hd hD hI hc hm hd1
  go_enter Try.func6, Try.ntmps6
  go_wp2_with (first | (go_at_call 9; refine ks.mono ?_; rintro e w1 ⟨rfl, s1⟩; clear ks) | (go_at_call 10; refine (kn _ s1.out).mono ?_; rintro e w2 ⟨b, rfl, s2⟩; clear kn s1) | (go_at_call 20; refine (kw _ _ s2.out).mono ?_; rintro e w3 ⟨rfl, s⟩; clear kw s2))
  go_loopw [7, 8] (fun qv jv W => ∃ (q j : Nat), qv = .int .i64 q ∧ jv = .int .i64 (j + 1 : Nat) ∧ j ≤ D ∧ q ≤ j ∧ ∃ s, Hid (LX B w W b D 100 ⟨s, j + q, j, q⟩ []) ∧ Hid ((j < D ∧ s = 1) ∨ (j = D ∧ s = 6))) (fun _ jv _ => D + 1 - (intOf jv).toNat)
  case atStart => exact ⟨0, 0, rfl, rfl, Nat.zero_le _, Nat.le_refl _, 1, s, .inl ⟨by omega, rfl⟩⟩
  case round =>
    clear s
    obtain ⟨q, j, rfl, rfl, hj, hq, z, s, HZ⟩ := hrel
    obtain ⟨n1, hn1⟩ : ∃ n1, j + 1 = n1 := ⟨_, rfl⟩
    have hnj : (n1 : Int) - 1 = (j : Int) := by omega
    rw [hn1]
    rcases HZ.out with ⟨hlt, rfl⟩ | ⟨rfl, rfl⟩
    · have d1 : decide ((n1 : Int) ≤ D) = true := decide_eq_true (by omega)
      have d2 : decide (n1 ≤ D) = true := decide_eq_true (by omega)
      have hn2 : n1 ≤ 100 := by omega
      have k1 : Calls Try.prog 21 #[ptr b] wr fun e w' => e = .returned (.int .i64 0) ∧ Hid (LX B w w' b D 100 ⟨2, j + q + 1, j, q⟩ []) := start_any s.out (show j + q ≤ 1000000 by omega)
      have KM : Hid (∀ e p, e ≤ 1000000 → ∀ W, LX B w W b D 100 ⟨2, e, j, p⟩ [] → ∀ z : Nat, (if (D : Int) ≤ (j : Int) + 1 then 6 else 4) = z → Calls Try.prog 23 #[ptr b] W fun e' w' => e' = .returned (.int .i64 0) ∧ Hid (LX B w w' b D 100 ⟨z, e, j + 1, p⟩ [])) := fun e p he W h z hz => by
        have := miss_any h he
        obtain ⟨e1, e2⟩ := st_miss (T := D) (P := 100) (e := e) (p := p) z hz
        rw [e1, e2] at this
        exact this
      have KR : Hid (∀ W z e p, LX B w W b D 100 ⟨z, e, j + 1, p⟩ [] → Calls Try.prog 14 #[ptr b] W fun e w' => e = .returned (.int .i64 z) ∧ w' = W) := fun W z e p h => state_any h
      have KE : Hid (∀ W e p, LX B w W b D 100 ⟨4, e, j + 1, p⟩ [] → Calls Try.prog 24 #[ptr b] W fun e' w' => e' = .returned (.int .i64 0) ∧ Hid (LX B w w' b D 100 ⟨1, e, j + 1, p⟩ [])) := fun W e p h => rested_any h
      have kp : ∀ W, LX B w W b D 100 ⟨2, j + q + 1, j, q⟩ [] → Calls Try.prog 22 #[ptr b] W fun e w' => e = .returned (.int .i64 0) ∧ Hid (LX B w w' b D 100 ⟨1, j + q + 1, j, q + 1⟩ []) := fun W h => by
        have := stop_any h (show j + q + 1 ≤ 1000000 by omega)
        obtain ⟨e1, e2⟩ := st_stop2 (T := D) (P := 100) (e := j + q + 1) (m := j) (p := q) (by omega)
        rw [e1, e2] at this
        exact this
      have kt : ∀ W, LX B w W b D 100 ⟨1, j + q + 1, j, q + 1⟩ [] → Calls Try.prog 21 #[ptr b] W fun e w' => e = .returned (.int .i64 0) ∧ Hid (LX B w w' b D 100 ⟨2, j + q + 1 + 1, j, q + 1⟩ []) := fun W h => start_any h (show j + q + 1 ≤ 1000000 by omega)
      by_cases hlast : n1 = D
      · have g1 : ((n1 : Int) == (D : Int)) = true := by simp [hlast]
        have g2 : (n1 == D) = true := by simp [hlast]
        have g3 : decide ((n1 : Int) < (D : Int)) = false := by simp [hlast]
        have g4 : decide (n1 < D) = false := by simp [hlast]
        have hz6 : (if (D : Int) ≤ (j : Int) + 1 then 6 else 4) = 6 := if_pos (by omega)
        have k3 : ∀ W, LX B w W b D 100 ⟨2, j + q + 1, j, q⟩ [] → Calls Try.prog 23 #[ptr b] W fun e' w' => e' = .returned (.int .i64 0) ∧ Hid (LX B w w' b D 100 ⟨6, j + q + 1, j + 1, q⟩ []) := fun W h => KM.out _ _ (by omega) W h 6 hz6
        have k4 : ∀ W, LX B w W b D 100 ⟨2, j + q + 1 + 1, j, q + 1⟩ [] → Calls Try.prog 23 #[ptr b] W fun e' w' => e' = .returned (.int .i64 0) ∧ Hid (LX B w w' b D 100 ⟨6, j + q + 1 + 1, j + 1, q + 1⟩ []) := fun W h => KM.out _ _ (by omega) W h 6 hz6
        have HF : Hid (∀ W, LX B w W b D 100 ⟨6, j + q + 1, j + 1, q⟩ [] → LX B w W b D 100 ⟨6, n1 + q, n1, q⟩ []) := fun W h => by
          rw [show j + q + 1 = n1 + q by omega, hn1] at h; exact h
        have HF2 : Hid (∀ W, LX B w W b D 100 ⟨6, j + q + 1 + 1, j + 1, q + 1⟩ [] → LX B w W b D 100 ⟨6, n1 + (q + 1), n1, q + 1⟩ []) := fun W h => by
          rw [show j + q + 1 + 1 = n1 + (q + 1) by omega, hn1] at h; exact h
        have HL : Hid (n1 = D) := hlast
        clear hz6 hlast
        by_cases hin : j < m
        · have f1 : decide ((j : Int) < m) = true := decide_eq_true (by omega)
          have f2 : decide (j < m) = true := decide_eq_true (by omega)
          obtain ⟨v, c, o, rfl, HX⟩ := HJ.out j hin
          have HX := hide_it HX
          clear s HZ
          cases v with
          | true =>
            go_wp2_with (go_at_call 21; refine k1.mono ?_; rintro e w4 ⟨rfl, t1⟩; have c1 := HX.out _ t1.out.bel; refine Hid.out ?_)
            refine hide_it ?_
            go_wp2_with (go_at_call 22; refine (kp _ t1.out).mono ?_; rintro e w5 ⟨rfl, t2⟩; refine Hid.out ?_)
            refine hide_it ?_
            go_wp2_with (first | (go_at_call 21; refine (kt _ t2.out).mono ?_; rintro e w5 ⟨rfl, t3⟩) | (go_at_call 23; refine (k4 _ t3.out).mono ?_; rintro e w6 ⟨rfl, t4⟩) | (go_at_call 14; refine (KR.out _ _ _ _ t4.out).mono ?_; rintro e w7 ⟨rfl, rfl⟩))
            go_roundw
            case rel => exact ⟨q + 1, n1, by go_num, by go_num, by have := HL.out; omega, by omega, 6, HF2.out _ t4.out, .inr ⟨HL.out, rfl⟩⟩
            case measure => simp [intOf]; omega
          | false =>
            go_wp2_with (first | (go_at_call 21; refine k1.mono ?_; rintro e w4 ⟨rfl, t1⟩; have c1 := HX.out _ t1.out.bel) | (go_at_call 23; refine (k3 _ t1.out).mono ?_; rintro e w6 ⟨rfl, t4⟩) | (go_at_call 14; refine (KR.out _ _ _ _ t4.out).mono ?_; rintro e w7 ⟨rfl, rfl⟩))
            go_roundw
            case rel => exact ⟨q, n1, rfl, by go_num, by have := HL.out; omega, by omega, 6, HF.out _ t4.out, .inr ⟨HL.out, rfl⟩⟩
            case measure => simp [intOf]; omega
        · have f1 : decide ((j : Int) < m) = false := by simp; omega
          have f2 : decide (j < m) = false := by simp; omega
          clear s HZ
          go_wp2_with (first | (go_at_call 21; refine k1.mono ?_; rintro e w4 ⟨rfl, t1⟩) | (go_at_call 23; refine (k3 _ t1.out).mono ?_; rintro e w6 ⟨rfl, t4⟩) | (go_at_call 14; refine (KR.out _ _ _ _ t4.out).mono ?_; rintro e w7 ⟨rfl, rfl⟩))
          go_roundw
          case rel => exact ⟨q, n1, rfl, by go_num, by have := HL.out; omega, by omega, 6, HF.out _ t4.out, .inr ⟨HL.out, rfl⟩⟩
          case measure => simp [intOf]; omega
      · have g1 : ((n1 : Int) == (D : Int)) = false := by simp; omega
        have g2 : (n1 == D) = false := by simp; omega
        have g3 : decide ((n1 : Int) < (D : Int)) = true := by simp; omega
        have g4 : decide (n1 < D) = true := by simp; omega
        have hz4 : (if (D : Int) ≤ (j : Int) + 1 then 6 else 4) = 4 := if_neg (by omega)
        have k3 : ∀ W, LX B w W b D 100 ⟨2, j + q + 1, j, q⟩ [] → Calls Try.prog 23 #[ptr b] W fun e' w' => e' = .returned (.int .i64 0) ∧ Hid (LX B w w' b D 100 ⟨4, j + q + 1, j + 1, q⟩ []) := fun W h => KM.out _ _ (by omega) W h 4 hz4
        have k4 : ∀ W, LX B w W b D 100 ⟨2, j + q + 1 + 1, j, q + 1⟩ [] → Calls Try.prog 23 #[ptr b] W fun e' w' => e' = .returned (.int .i64 0) ∧ Hid (LX B w w' b D 100 ⟨4, j + q + 1 + 1, j + 1, q + 1⟩ []) := fun W h => KM.out _ _ (by omega) W h 4 hz4
        have HF : Hid (∀ W, LX B w W b D 100 ⟨1, j + q + 1, j + 1, q⟩ [] → LX B w W b D 100 ⟨1, n1 + q, n1, q⟩ []) := fun W h => by
          rw [show j + q + 1 = n1 + q by omega, hn1] at h; exact h
        have HF2 : Hid (∀ W, LX B w W b D 100 ⟨1, j + q + 1 + 1, j + 1, q + 1⟩ [] → LX B w W b D 100 ⟨1, n1 + (q + 1), n1, q + 1⟩ []) := fun W h => by
          rw [show j + q + 1 + 1 = n1 + (q + 1) by omega, hn1] at h; exact h
        have HL : Hid (¬ n1 = D) := hlast
        clear hz4 hlast
        by_cases hin : j < m
        · have f1 : decide ((j : Int) < m) = true := decide_eq_true (by omega)
          have f2 : decide (j < m) = true := decide_eq_true (by omega)
          obtain ⟨v, c, o, rfl, HX⟩ := HJ.out j hin
          have HX := hide_it HX
          clear s HZ
          cases v with
          | true =>
            go_wp2_with (go_at_call 21; refine k1.mono ?_; rintro e w4 ⟨rfl, t1⟩; have c1 := HX.out _ t1.out.bel; refine Hid.out ?_)
            refine hide_it ?_
            go_wp2_with (go_at_call 22; refine (kp _ t1.out).mono ?_; rintro e w5 ⟨rfl, t2⟩; refine Hid.out ?_)
            refine hide_it ?_
            go_wp2_with (first | (go_at_call 21; refine (kt _ t2.out).mono ?_; rintro e w5 ⟨rfl, t3⟩) | (go_at_call 23; refine (k4 _ t3.out).mono ?_; rintro e w6 ⟨rfl, t4⟩) | (go_at_call 14; refine (KR.out _ _ _ _ t4.out).mono ?_; rintro e w7 ⟨rfl, rfl⟩) | (go_at_call 24; refine (KE.out _ _ _ t4.out).mono ?_; rintro e w8 ⟨rfl, t5⟩))
            go_roundw
            case rel => exact ⟨q + 1, n1, by go_num, by go_num, by omega, by omega, 1, HF2.out _ t5.out, .inl ⟨by have := HL.out; omega, rfl⟩⟩
            case measure => simp [intOf]; omega
          | false =>
            go_wp2_with (first | (go_at_call 21; refine k1.mono ?_; rintro e w4 ⟨rfl, t1⟩; have c1 := HX.out _ t1.out.bel) | (go_at_call 23; refine (k3 _ t1.out).mono ?_; rintro e w6 ⟨rfl, t4⟩) | (go_at_call 14; refine (KR.out _ _ _ _ t4.out).mono ?_; rintro e w7 ⟨rfl, rfl⟩) | (go_at_call 24; refine (KE.out _ _ _ t4.out).mono ?_; rintro e w8 ⟨rfl, t5⟩))
            go_roundw
            case rel => exact ⟨q, n1, rfl, by go_num, by omega, by omega, 1, HF.out _ t5.out, .inl ⟨by have := HL.out; omega, rfl⟩⟩
            case measure => simp [intOf]; omega
        · have f1 : decide ((j : Int) < m) = false := by simp; omega
          have f2 : decide (j < m) = false := by simp; omega
          clear s HZ
          go_wp2_with (first | (go_at_call 21; refine k1.mono ?_; rintro e w4 ⟨rfl, t1⟩) | (go_at_call 23; refine (k3 _ t1.out).mono ?_; rintro e w6 ⟨rfl, t4⟩) | (go_at_call 14; refine (KR.out _ _ _ _ t4.out).mono ?_; rintro e w7 ⟨rfl, rfl⟩) | (go_at_call 24; refine (KE.out _ _ _ t4.out).mono ?_; rintro e w8 ⟨rfl, t5⟩))
          go_roundw
          case rel => exact ⟨q, n1, rfl, by go_num, by omega, by omega, 1, HF.out _ t5.out, .inl ⟨by have := HL.out; omega, rfl⟩⟩
          case measure => simp [intOf]; omega
    · have d1 : decide ((n1 : Int) ≤ j) = false := by simp; omega
      have d2 : decide (n1 ≤ j) = false := by simp; omega
      have k1 : Calls Try.prog 16 #[ptr b] wr fun e w' => e = .returned (.int .i64 j) ∧ w' = wr := missed_any s.out
      have k2 : Calls Try.prog 17 #[ptr b] wr fun e w' => e = .returned (.int .i64 q) ∧ w' = wr := stopped_any s.out
      have k3 : Calls Try.prog 15 #[ptr b] wr fun e w' => e = .returned (.int .i64 ((j : Int) + q)) ∧ w' = wr := epoch_any s.out
      have k4 : Calls Try.prog 18 #[ptr b] wr fun e w' => e = .returned (.bool true) ∧ Hid (LX B w w' b j 100 ⟨6, j + q, j, q⟩ []) := final_any s.out
      clear s HZ hnj hn1
      go_wp2_with (first | (go_at_call 16; refine k1.mono ?_; rintro e w4 ⟨rfl, rfl⟩) | (go_at_call 17; refine k2.mono ?_; rintro e w5 ⟨rfl, rfl⟩) | (go_at_call 15; refine k3.mono ?_; rintro e w6 ⟨rfl, rfl⟩) | (go_at_call 18; refine k4.mono ?_; rintro e w7 ⟨rfl, s7⟩))
      go_ret
      exact ⟨rfl, s7.out.bel⟩
end Go.Proofs.Ytjdgndbdoceifaa
