/- GraphApart, walked. -/
import Derived.Test.YtcbgjdlkihepcaaDoorApM
namespace Go.Proofs.YtcbgjdlkihepcaaDoor
open Go.RowKit
open M
set_option linter.unusedVariables false
set_option linter.unusedSimpArgs false

set_option maxRecDepth 1000000 in
set_option maxHeartbeats 4000000 in
theorem apart_core (n a b : Int) (ls : List (Int × Int)) (la : Option Addr) (lc : Nat) (w : World) (hT : Tab w) (h0 : 0 < w.heap.size) (hl : LIn w la ls) (hm : ls.length ≤ maxLen) :
    Calls Tryd.prog 9 #[.int .i64 n, .slice la ls.length lc, .int .i64 a, .int .i64 b] w fun e w' => e = .returned (.bool true) ∧ Below w.heap.size w w' := by
  unfold maxLen at hm
  have kS := shown_b hT h0 (Below.refl _ w)
  obtain ⟨un, hun, hun2⟩ := and16 n
  obtain ⟨N, hN⟩ : ∃ N : Nat, N = 2 + un % 63 := ⟨_, rfl⟩
  have hN1 : (2 : Int) + (un : Int) % 63 = (N : Int) := by omega
  have hN2 : (2 : Int) + (un : Int).tmod 63 = (N : Int) := by rw [Int.tmod_eq_emod_of_nonneg (by omega)]; omega
  have hNb : 2 ≤ N ∧ N ≤ 64 := by omega
  obtain ⟨hNlo, hNhi⟩ := hNb
  obtain ⟨low, hlow⟩ : ∃ low : Nat, low = N / 2 := ⟨_, rfl⟩
  have hlow1 : (N : Int) / 2 = (low : Int) := by omega
  have hlow2 : (N : Int).tdiv 2 = (low : Int) := by rw [Int.tdiv_eq_ediv_of_nonneg (by omega)]; omega
  have hlb : 1 ≤ low ∧ low + low ≤ N := by omega
  obtain ⟨hlp, hll⟩ := hlb
  have kN1 : ∀ w1 : World, Below w.heap.size w w1 → Calls Tryd.prog 11 #[.int .i64 N] w1 fun e w' => e = .returned (ptr (w1.heap.size + 1)) ∧ Hid (Below w.heap.size w w' ∧ GM w' (w1.heap.size + 1) w1.heap.size N (.slice none 0 0) [] ∧ w1.heap.size ≤ w'.heap.size) := fun w1 hb => by
    refine (new_any N w1).mono ?_
    rintro e w' ⟨rfl, h1, h2⟩
    rw [sz_in N hNhi] at h1
    exact ⟨rfl, hb.trans (h2.mono hb.size), h1, h2.size⟩
  have kN2 : ∀ w1 w2 : World, w.heap.size ≤ w1.heap.size → Below w.heap.size w w2 → GM w2 (w1.heap.size + 1) w1.heap.size N (.slice none 0 0) [] → Calls Tryd.prog 11 #[.int .i64 N] w2 fun e w' => e = .returned (ptr (w2.heap.size + 1)) ∧ Hid (GX w.heap.size w w' (w1.heap.size + 1) w1.heap.size N [] (w2.heap.size + 1) w2.heap.size N (sh low [])) := fun w1 w2 hw1 hb hg => by
    refine (new_any N w2).mono ?_
    rintro e w' ⟨rfl, h1, h2⟩
    rw [sz_in N hNhi] at h1
    have h3 := hb.trans (h2.mono hb.size)
    have hgs := hg.lt (w1.heap.size + 1) (.inl rfl)
    refine ⟨rfl, _, _, h3, hg.below h2, h1, ?_, ?_, ?_, tab_below hT h0 h3, h0, h3.size⟩
    · rintro k (rfl | rfl | hk)
      · omega
      · exact hw1
      · simp [Value.ownBlock] at hk
    · have := hb.size
      rintro k (rfl | rfl | hk)
      · omega
      · omega
      · simp [Value.ownBlock] at hk
    · rintro k (rfl | rfl | hk) (h | h | h)
      · omega
      · omega
      · simp [Value.ownBlock] at h
      · omega
      · omega
      · simp [Value.ownBlock] at h
      · simp [Value.ownBlock] at hk
      · simp [Value.ownBlock] at hk
      · simp [Value.ownBlock] at hk
  obtain ⟨ua, hua, hua2⟩ := and16 a
  obtain ⟨ub, hub, hub2⟩ := and16 b
  obtain ⟨A, hA⟩ : ∃ A : Nat, A = ua % low := ⟨_, rfl⟩
  obtain ⟨Bb, hBb⟩ : ∃ Bb : Nat, Bb = ub % low := ⟨_, rfl⟩
  have hAl : A < low := by rw [hA]; exact Nat.mod_lt _ (by omega)
  have hBl : Bb < low := by rw [hBb]; exact Nat.mod_lt _ (by omega)
  have hA1 : (ua : Int) % (low : Int) = (A : Int) := by rw [hA]; simp
  have hA2 : (ua : Int).tmod (low : Int) = (A : Int) := by rw [Int.tmod_eq_emod_of_nonneg (by omega)]; exact hA1
  have hB1 : (ub : Int) % (low : Int) = (Bb : Int) := by rw [hBb]; simp
  have hB2 : (ub : Int).tmod (low : Int) = (Bb : Int) := by rw [Int.tmod_eq_emod_of_nonneg (by omega)]; exact hB1
  have hz : ((low : Int) == 0) = false := by simp; omega
  have hz2 : ¬ ((low : Int) = 0) := by omega
  have HL := hide_it hl
  obtain ⟨m, hmm⟩ : ∃ m, ls.length = m := ⟨_, rfl⟩
  have HM := hide_it hmm
  rw [hmm] at hm ⊢
  clear hl hmm hT hA hBb hlow hN
  go_enter Tryd.func9, Tryd.ntmps9
  go_wp2_with (first | (go_at_call 10; refine kS.mono ?_; rintro e w1 ⟨rfl, hb1⟩) | (go_at_call 11; refine (kN1 _ hb1.out).mono ?_; rintro e w2 ⟨rfl, s⟩; refine Hid.out ?_))
  refine hide_it ?_
  go_wp2_with (go_at_call 11; refine (kN2 w1 w2 hb1.out.size s.out.1 s.out.2.1).mono ?_; rintro e w3 ⟨rfl, t⟩)
  obtain ⟨g, hg⟩ : ∃ g, w1.heap.size + 1 = g := ⟨_, rfl⟩
  obtain ⟨h, hh⟩ : ∃ h, w2.heap.size + 1 = h := ⟨_, rfl⟩
  rw [hg, hh] at t
  simp only [hg, hh]
  generalize w1.heap.size = eb at *
  generalize w2.heap.size = eb2 at *
  clear s kN1 kN2 kS hb1 hg hh
  go_loopw [13] (fun i W => ∃ (k : Nat) (es : List E), k ≤ m ∧ k ≤ 200 ∧ es.length ≤ k ∧ i = .int .i64 k ∧ Hid (∀ e ∈ es, e.1 < low ∧ e.2 < low) ∧ Hid (GX w.heap.size w W g eb N es h eb2 N (sh low es))) (fun i _ => m - (intOf i).toNat)
  case atStart => exact ⟨0, [], Nat.zero_le _, by omega, by simp, rfl, (by intro e he; simp at he : ∀ e ∈ ([] : List E), e.1 < low ∧ e.2 < low), t⟩
  case round =>
    obtain ⟨k, es, hk, hk2, hel, rfl, HE, t⟩ := hrel
    obtain ⟨w5, rfl⟩ : ∃ W, W = wr := ⟨_, rfl⟩
    by_cases hlt : k < m
    · by_cases hlt2 : k < 200
      · have hlx : k < ls.length := by rw [HM.out]; exact hlt
        obtain ⟨lb, lo, rfl, hlb, c1, c2⟩ := (HL.out.below t.out.bel (Nat.le_refl _)) k hlx
        generalize ls[k] = pq at *
        obtain ⟨p, q⟩ := pq
        simp only at c1 c2
        obtain ⟨up, hup, hup2⟩ := and16 p
        obtain ⟨uq, huq, huq2⟩ := and16 q
        obtain ⟨X, hX⟩ : ∃ X : Nat, X = up % low := ⟨_, rfl⟩
        obtain ⟨Y, hY⟩ : ∃ Y : Nat, Y = uq % low := ⟨_, rfl⟩
        have hXl : X < low := by rw [hX]; exact Nat.mod_lt _ (by omega)
        have hYl : Y < low := by rw [hY]; exact Nat.mod_lt _ (by omega)
        have hX1 : (up : Int) % (low : Int) = (X : Int) := by rw [hX]; simp
        have hX2 : (up : Int).tmod (low : Int) = (X : Int) := by rw [Int.tmod_eq_emod_of_nonneg (by omega)]; exact hX1
        have hY1 : (uq : Int) % (low : Int) = (Y : Int) := by rw [hY]; simp
        have hY2 : (uq : Int).tmod (low : Int) = (Y : Int) := by rw [Int.tmod_eq_emod_of_nonneg (by omega)]; exact hY1
        obtain ⟨e1, e2⟩ := add_low N low es X Y hXl hYl hll
        have HE2 := hide_it (add_lt HE.out hXl hYl)
        rw [← e1] at HE2
        have hl2 := addE_len N es X Y
        have ka := t.out.add (by omega) X Y _ _ _ rfl rfl rfl
        have kb : ∀ W, GX w.heap.size w W g eb N (addE N es X Y) h eb2 N (sh low es) → Calls Tryd.prog 13 #[ptr h, .int .i64 ((low : Int) + X), .int .i64 ((low : Int) + Y)] W fun e w' => (∃ R er, e = .returned (.tuple #[.bool R, .int .i64 er])) ∧ Hid (GX w.heap.size w w' g eb N (addE N es X Y) h eb2 N (sh low (addE N es X Y))) := fun W hW => by
          refine (hW.swap.add (by simp [sh]; omega) _ _ _ _ _ rfl rfl e2).mono ?_
          rintro e w' ⟨rfl, h'⟩
          exact ⟨⟨_, _, rfl⟩, h'.out.swap⟩
        clear e1 e2 hX hY t
        generalize addE N es X Y = es2 at *
        generalize newB N es X Y = R1 at *
        generalize errN N X Y = E1 at *
        go_wp2_with (go_at_call 13; refine ka.mono ?_; rintro e w6 ⟨rfl, t6⟩; refine Hid.out ?_)
        refine hide_it ?_
        go_wp2_with (go_at_call 13; refine (kb _ t6.out).mono ?_; rintro e w7 ⟨⟨R2, E2, rfl⟩, t7⟩)
        go_roundw
        case rel => exact ⟨k + 1, es2, by omega, by omega, by omega, by go_num, HE2, t7⟩
        case measure => simp [intOf]; omega
      · have heq := apart_eq (es := es) hll hAl hBl
        obtain ⟨R, hR⟩ : ∃ R, reachB N es A Bb = R := ⟨_, rfl⟩
        rw [hR] at heq
        have k1 : ∀ W, GX w.heap.size w W g eb N es h eb2 N (sh low es) → Calls Tryd.prog 26 #[ptr g, .int .i64 A, .int .i64 Bb] W fun e w' => e = .returned (.bool R) ∧ Hid (GX w.heap.size w w' g eb N es h eb2 N (sh low es)) := fun W hW => hW.reaches _ _ _ hR
        have k2 : ∀ W, GX w.heap.size w W g eb N es h eb2 N (sh low es) → Calls Tryd.prog 26 #[ptr h, .int .i64 ((low : Int) + A), .int .i64 ((low : Int) + Bb)] W fun e w' => e = .returned (.bool R) ∧ Hid (GX w.heap.size w w' g eb N es h eb2 N (sh low es)) := fun W hW => by
          refine (hW.swap.reaches _ _ _ heq).mono ?_
          rintro e w' ⟨rfl, h'⟩
          exact ⟨rfl, h'.out.swap⟩
        have k3 : ∀ W, GX w.heap.size w W g eb N es h eb2 N (sh low es) → Calls Tryd.prog 26 #[ptr g, .int .i64 A, .int .i64 ((low : Int) + Bb)] W fun e w' => e = .returned (.bool false) ∧ Hid (GX w.heap.size w w' g eb N es h eb2 N (sh low es)) := fun W hW => hW.reaches _ _ _ (apart_1 HE.out hAl)
        have k4 : ∀ W, GX w.heap.size w W g eb N es h eb2 N (sh low es) → Calls Tryd.prog 26 #[ptr g, .int .i64 ((low : Int) + A), .int .i64 Bb] W fun e w' => e = .returned (.bool false) ∧ Hid (GX w.heap.size w w' g eb N es h eb2 N (sh low es)) := fun W hW => hW.reaches _ _ _ (apart_2 HE.out hBl)
        have k5 : ∀ W, GX w.heap.size w W g eb N es h eb2 N (sh low es) → Calls Tryd.prog 26 #[ptr h, .int .i64 A, .int .i64 ((low : Int) + Bb)] W fun e w' => e = .returned (.bool false) ∧ Hid (GX w.heap.size w w' g eb N es h eb2 N (sh low es)) := fun W hW => by
          refine (hW.swap.reaches _ _ _ (apart_3 hAl)).mono ?_
          rintro e w' ⟨rfl, h'⟩
          exact ⟨rfl, h'.out.swap⟩
        have k6 : ∀ W, GX w.heap.size w W g eb N es h eb2 N (sh low es) → Calls Tryd.prog 15 #[ptr g] W fun e w' => e = .returned (.int .i64 es.length) ∧ w' = W := fun W hW => hW.len
        have k7 : ∀ W, GX w.heap.size w W g eb N es h eb2 N (sh low es) → Calls Tryd.prog 15 #[ptr h] W fun e w' => e = .returned (.int .i64 es.length) ∧ w' = W := fun W hW => by
          have := hW.swap.len
          rw [show (sh low es).length = es.length by simp [sh]] at this
          exact this
        have k8 : ∀ W, GX w.heap.size w W g eb N es h eb2 N (sh low es) → Calls Tryd.prog 24 #[ptr g, .int .i64 ((low : Int) + A)] W fun e w' => ∃ ao cap, e = .returned (.slice ao 1 cap) ∧ Hid (GX w.heap.size w w' g eb N es h eb2 N (sh low es)) := fun W hW => hW.reach _ _ _ (apart_4 HE.out hAl hll hNhi) rfl
        have h2 : decide ((k : Int) < 200) = false := by simp; omega
        have h3 : decide (k < 200) = false := by simp; omega
        clear hR heq
        generalize es.length = len at *
        cases R
        all_goals
          go_wp2_with (go_at_call 26; refine (k1 _ t.out).mono ?_; rintro e w6 ⟨rfl, t⟩; refine Hid.out ?_)
          refine hide_it ?_
          go_wp2_with (go_at_call 26; refine (k2 _ t.out).mono ?_; rintro e w7 ⟨rfl, t⟩; refine Hid.out ?_)
          refine hide_it ?_
          go_wp2_with (go_at_call 26; refine (k3 _ t.out).mono ?_; rintro e w8 ⟨rfl, t⟩; refine Hid.out ?_)
          refine hide_it ?_
          go_wp2_with (go_at_call 26; refine (k4 _ t.out).mono ?_; rintro e w9 ⟨rfl, t⟩; refine Hid.out ?_)
          refine hide_it ?_
          go_wp2_with (go_at_call 26; refine (k5 _ t.out).mono ?_; rintro e w10 ⟨rfl, t⟩; refine Hid.out ?_)
          refine hide_it ?_
          go_wp2_with (go_at_call 15; refine (k6 _ t.out).mono ?_; rintro e w11 ⟨rfl, rfl⟩; refine Hid.out ?_)
          refine hide_it ?_
          go_wp2_with (first | (go_at_call 15; refine (k7 _ t.out).mono ?_; rintro e w12 ⟨rfl, rfl⟩) | (go_at_call 24; refine (k8 _ t.out).mono ?_; rintro e w13 ⟨ao, cap, rfl, t⟩))
          go_ret
          exact ⟨rfl, t.out.bel⟩
    · have heq := apart_eq (es := es) hll hAl hBl
      obtain ⟨R, hR⟩ : ∃ R, reachB N es A Bb = R := ⟨_, rfl⟩
      rw [hR] at heq
      have k1 : ∀ W, GX w.heap.size w W g eb N es h eb2 N (sh low es) → Calls Tryd.prog 26 #[ptr g, .int .i64 A, .int .i64 Bb] W fun e w' => e = .returned (.bool R) ∧ Hid (GX w.heap.size w w' g eb N es h eb2 N (sh low es)) := fun W hW => hW.reaches _ _ _ hR
      have k2 : ∀ W, GX w.heap.size w W g eb N es h eb2 N (sh low es) → Calls Tryd.prog 26 #[ptr h, .int .i64 ((low : Int) + A), .int .i64 ((low : Int) + Bb)] W fun e w' => e = .returned (.bool R) ∧ Hid (GX w.heap.size w w' g eb N es h eb2 N (sh low es)) := fun W hW => by
        refine (hW.swap.reaches _ _ _ heq).mono ?_
        rintro e w' ⟨rfl, h'⟩
        exact ⟨rfl, h'.out.swap⟩
      have k3 : ∀ W, GX w.heap.size w W g eb N es h eb2 N (sh low es) → Calls Tryd.prog 26 #[ptr g, .int .i64 A, .int .i64 ((low : Int) + Bb)] W fun e w' => e = .returned (.bool false) ∧ Hid (GX w.heap.size w w' g eb N es h eb2 N (sh low es)) := fun W hW => hW.reaches _ _ _ (apart_1 HE.out hAl)
      have k4 : ∀ W, GX w.heap.size w W g eb N es h eb2 N (sh low es) → Calls Tryd.prog 26 #[ptr g, .int .i64 ((low : Int) + A), .int .i64 Bb] W fun e w' => e = .returned (.bool false) ∧ Hid (GX w.heap.size w w' g eb N es h eb2 N (sh low es)) := fun W hW => hW.reaches _ _ _ (apart_2 HE.out hBl)
      have k5 : ∀ W, GX w.heap.size w W g eb N es h eb2 N (sh low es) → Calls Tryd.prog 26 #[ptr h, .int .i64 A, .int .i64 ((low : Int) + Bb)] W fun e w' => e = .returned (.bool false) ∧ Hid (GX w.heap.size w w' g eb N es h eb2 N (sh low es)) := fun W hW => by
        refine (hW.swap.reaches _ _ _ (apart_3 hAl)).mono ?_
        rintro e w' ⟨rfl, h'⟩
        exact ⟨rfl, h'.out.swap⟩
      have k6 : ∀ W, GX w.heap.size w W g eb N es h eb2 N (sh low es) → Calls Tryd.prog 15 #[ptr g] W fun e w' => e = .returned (.int .i64 es.length) ∧ w' = W := fun W hW => hW.len
      have k7 : ∀ W, GX w.heap.size w W g eb N es h eb2 N (sh low es) → Calls Tryd.prog 15 #[ptr h] W fun e w' => e = .returned (.int .i64 es.length) ∧ w' = W := fun W hW => by
        have := hW.swap.len
        rw [show (sh low es).length = es.length by simp [sh]] at this
        exact this
      have k8 : ∀ W, GX w.heap.size w W g eb N es h eb2 N (sh low es) → Calls Tryd.prog 24 #[ptr g, .int .i64 ((low : Int) + A)] W fun e w' => ∃ ao cap, e = .returned (.slice ao 1 cap) ∧ Hid (GX w.heap.size w w' g eb N es h eb2 N (sh low es)) := fun W hW => hW.reach _ _ _ (apart_4 HE.out hAl hll hNhi) rfl
      have h2 : decide ((k : Int) < m) = false := by simp; omega
      have h3 : decide (k < m) = false := by simp; omega
      clear hR heq
      generalize es.length = len at *
      cases R
      all_goals
        go_wp2_with (go_at_call 26; refine (k1 _ t.out).mono ?_; rintro e w6 ⟨rfl, t⟩; refine Hid.out ?_)
        refine hide_it ?_
        go_wp2_with (go_at_call 26; refine (k2 _ t.out).mono ?_; rintro e w7 ⟨rfl, t⟩; refine Hid.out ?_)
        refine hide_it ?_
        go_wp2_with (go_at_call 26; refine (k3 _ t.out).mono ?_; rintro e w8 ⟨rfl, t⟩; refine Hid.out ?_)
        refine hide_it ?_
        go_wp2_with (go_at_call 26; refine (k4 _ t.out).mono ?_; rintro e w9 ⟨rfl, t⟩; refine Hid.out ?_)
        refine hide_it ?_
        go_wp2_with (go_at_call 26; refine (k5 _ t.out).mono ?_; rintro e w10 ⟨rfl, t⟩; refine Hid.out ?_)
        refine hide_it ?_
        go_wp2_with (go_at_call 15; refine (k6 _ t.out).mono ?_; rintro e w11 ⟨rfl, rfl⟩; refine Hid.out ?_)
        refine hide_it ?_
        go_wp2_with (first | (go_at_call 15; refine (k7 _ t.out).mono ?_; rintro e w12 ⟨rfl, rfl⟩) | (go_at_call 24; refine (k8 _ t.out).mono ?_; rintro e w13 ⟨ao, cap, rfl, t⟩))
        go_ret
        exact ⟨rfl, t.out.bel⟩
end Go.Proofs.YtcbgjdlkihepcaaDoor
