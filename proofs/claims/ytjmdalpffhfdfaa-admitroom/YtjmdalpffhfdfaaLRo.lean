/- AdmitRoom, walked. -/
import Derived.Test.YtjmdalpffhfdfaaSho
import Derived.Test.YtjmdalpffhfdfaaArg
import Derived.Deep.RegionHeld3
import Derived.Deep.CutRange
import Derived.Deep.CutBlock
import Derived.BigQuiet
namespace Go.Proofs.Ytjmdalpffhfdfaa
open Go.RowKit
open M
set_option linter.unusedVariables false
set_option linter.unusedSimpArgs false

abbrev rs (n : Nat) (A : List Int) : Ad := ⟨n, 0, A, []⟩
theorem ro_end {n : Nat} {A : List Int} {z : Int} (h : z ∈ A) : es (rs n A) z = -1 ∧ ee (rs n A) z = 0 ∧ ex (rs n A) z = rs n (A.erase z) := by
  unfold es ee ex
  simp [h]
theorem ro_yes {n : Nat} {A : List Int} {z : Int} (h : ¬ z ∈ A) (hl : A.length < n) : ts (rs n A) z = 1 ∧ te (rs n A) z = 0 ∧ tx (rs n A) z = rs n (A ++ [z]) := by
  unfold ts te tx
  simp [h, hl]
theorem ro_no {n : Nat} {A : List Int} {z : Int} (h : ¬ z ∈ A) (hl : ¬ A.length < n) : ts (rs n A) z = 0 ∧ te (rs n A) z = 4 ∧ tx (rs n A) z = rs n A := by
  unfold ts te tx
  simp [h, hl]

set_option maxRecDepth 1000000 in
set_option maxHeartbeats 4000000 in
theorem admitRoom_walk (ac : Int) (l : List Bool) (a : Option Addr) (cap : Nat) (w : World) (hI : BoolsIn w a l) (hl : l.length ≤ cap) (hc : cap ≤ maxLen) :
    Calls Try.prog 8 #[.int .i64 ac, .slice a l.length cap] w fun e w' => e = .returned (.bool true) ∧ Below w.heap.size w w' := by
  obtain ⟨B, hB⟩ : ∃ B, w.heap.size = B := ⟨_, rfl⟩
  have ks : Calls Try.prog 10 #[] w fun e w' => e = .returned (.bool true) ∧ Hid (Below B w w') := by
    have := shown_any w
    rw [hB] at this
    exact this
  have hlo : B ≤ w.heap.size := by omega
  obtain ⟨u0, e16, hu0⟩ := and16 ac
  obtain ⟨v0, hv0⟩ : ∃ v, u0 % 20 = v := ⟨_, rfl⟩
  have r16 : (u0 : Int).tmod 20 = (v0 : Int) := by rw [Int.tmod_eq_emod_of_nonneg (by omega)]; omega
  have r16' : (u0 : Int) % 20 = (v0 : Int) := by omega
  have hv20 : v0 < 20 := by omega
  obtain ⟨n0, hn0⟩ : ∃ n, 1 + v0 = n := ⟨_, rfl⟩
  have s16 : (1 : Int) + (v0 : Int) = (n0 : Int) := by omega
  have hn20 : n0 ≤ 20 := by omega
  have kn : ∀ W, Below B w W → Calls Try.prog 11 #[.int .i64 n0, .int .i64 0] W fun e w' => ∃ b, e = .returned (ptr b) ∧ Hid (MX B w w' [(b, rs n0 [])] []) := fun W hb => by
    have := (mx_start hb hlo).new n0 0 (by omega) (by omega)
    have e : mk0 (n0 : Int) 0 = rs n0 [] := by unfold mk0; rw [show max (n0 : Int) 1 = n0 by omega]; rfl
    rw [e] at this
    exact this
  have hcm : cap ≤ 9223372036854775807 := by unfold maxLen at hc; omega
  obtain ⟨m, hm⟩ : ∃ m, l.length = m := ⟨_, rfl⟩
  have HI : Hid (∀ (i : Nat), i < m → ∃ x b o, a = some ⟨b, o, none⟩ ∧ ∀ W, Below B w W → W.cell? ⟨b, o + i, none⟩ = some (.bool x)) := fun i hi => by
    have := hI.get (i := i) (by omega)
    rw [hB] at this
    exact this
  have HL : Hid (∀ b W A, MX B w W [(b, rs n0 A)] [] → A.length ≤ n0) := fun b W A h => by
    have := (h.inv 0 rfl).la
    simp only at this
    omega
  have kA : ∀ b W A, A.length ≤ 20 → MX B w W [(b, rs n0 A)] [] → Calls Try.prog 16 #[ptr b] W fun e w' => ∃ a c, e = .returned (.slice a A.length c) ∧ Hid (MX B w w' [(b, rs n0 A)] [] ∧ Rd w' a A c) := fun b W A hz h => (h.act 0 rfl (by unfold siz; simp only [List.length_nil]; omega)).mono (by
    rintro e w' ⟨a, c, rfl, s⟩
    exact ⟨a, c, rfl, s.out.1, s.out.2.1⟩)
  have kW : ∀ b W A, A.length ≤ 20 → MX B w W [(b, rs n0 A)] [] → Calls Try.prog 17 #[ptr b] W fun e w' => ∃ a c, e = .returned (.slice a 0 c) ∧ Hid (MX B w w' [(b, rs n0 A)] []) := fun b W A hz h => (h.wai 0 rfl (by unfold siz; simp only [List.length_nil]; omega)).mono (by
    rintro e w' ⟨a, c, rfl, s⟩
    exact ⟨a, c, rfl, s.out.1⟩)
  have kE : ∀ b W A z, A.length ≤ 20 → z ∈ A → MX B w W [(b, rs n0 A)] [] → Calls Try.prog 14 #[ptr b, .int .i64 z] W fun e w' => e = .returned (.tuple #[.int .i64 (-1), .int .i64 0]) ∧ Hid (MX B w w' [(b, rs n0 (A.erase z))] []) := fun b W A z hz hm h => by
    have := h.end_ 0 rfl (by unfold siz; simp only [List.length_nil]; omega) z
    obtain ⟨e1, e2, e3⟩ := ro_end (n := n0) hm
    rw [e1, e2, e3] at this
    exact this
  have kY : ∀ b W A (z : Int), A.length ≤ 20 → ¬ z ∈ A → A.length < n0 → MX B w W [(b, rs n0 A)] [] → Calls Try.prog 12 #[ptr b, .int .i64 z] W fun e w' => e = .returned (.tuple #[.int .i64 1, .int .i64 0]) ∧ Hid (MX B w w' [(b, rs n0 (A ++ [z]))] []) := fun b W A z hz hm hl h => by
    have := h.add 0 rfl (by unfold siz; simp only [List.length_nil]; omega) z
    obtain ⟨e1, e2, e3⟩ := ro_yes hm hl
    rw [e1, e2, e3] at this
    exact this
  have kN : ∀ b W A (z : Int), A.length ≤ 20 → ¬ z ∈ A → ¬ A.length < n0 → MX B w W [(b, rs n0 A)] [] → Calls Try.prog 12 #[ptr b, .int .i64 z] W fun e w' => e = .returned (.tuple #[.int .i64 0, .int .i64 4]) ∧ Hid (MX B w w' [(b, rs n0 A)] []) := fun b W A z hz hm hl h => by
    have := h.add 0 rfl (by unfold siz; simp only [List.length_nil]; omega) z
    obtain ⟨e1, e2, e3⟩ := ro_no hm hl
    rw [e1, e2, e3] at this
    exact this
  have HK := hide_it (And.intro kA (And.intro kW (And.intro kE (And.intro kY kN))))
  clear kA kW kE kY kN
  rw [hm] at hl ⊢
  rw [hB]
  clear hB hI hc hm hlo hu0 hn0 hv0
  go_enter Try.func8, Try.ntmps8
  go_wp2_with (first | (go_at_call 10; refine ks.mono ?_; rintro e w1 ⟨rfl, s1⟩; clear ks) | (go_at_call 11; refine (kn _ s1.out).mono ?_; rintro e w2 ⟨b, rfl, s⟩; clear kn s1))
  go_loopw [7] (fun iv W => ∃ (i : Nat) (A : List Int), iv = .int .i64 i ∧ i ≤ m ∧ i ≤ 40 ∧ Hid (MX B w W [(b, rs n0 A)] []) ∧ Hid (∀ z ∈ A, z < i)) (fun iv _ => m - (intOf iv).toNat)
  case atStart => exact ⟨0, [], rfl, Nat.zero_le _, by omega, s, fun z hz => by simp at hz⟩
  case round =>
    clear s r16 r16' e16 s16 hv20
    obtain ⟨i, A, rfl, hi, hi2, s, HA⟩ := hrel
    by_cases hgo : i < m ∧ i < 40
    · obtain ⟨hlt, hlt2⟩ := hgo
      have h16 : decide ((i : Int) < 40) = true := decide_eq_true (by omega)
      have h16' : decide (i < 40) = true := decide_eq_true (by omega)
      obtain ⟨go, c, oo, rfl, HX⟩ := HI.out i hlt
      obtain ⟨kA, kW, kE, kY, kN⟩ := HK.out
      have hA := HL.out _ _ _ s.out
      have hA2 : A.length ≤ 20 := by omega
      have k1 := kA b wr A hA2 s.out
      have HX2 : Hid (∀ W A, MX B w W [(b, rs n0 A)] [] → W.cell? ⟨c, oo + i, none⟩ = some (.bool go)) := fun W A h => HX _ h.bel
      have PART2 : Hid (∀ A1 : List Int, A1.length ≤ 20 → (∀ z ∈ A1, z < (i : Int)) → ∃ N1 N2 v e A2, (∀ z ∈ A2, z < ((i + 1 : Nat) : Int)) ∧ ((N1 < n0 ∧ v = 1 ∧ e = 0 ∧ N2 = N1 + 1) ∨ (¬ N1 < n0 ∧ v = 0 ∧ e = 4 ∧ N1 = N2)) ∧ N1 ≤ 20
          ∧ (∀ W, MX B w W [(b, rs n0 A1)] [] → Calls Try.prog 16 #[ptr b] W fun e w' => ∃ a c, e = .returned (.slice a N1 c) ∧ Hid (MX B w w' [(b, rs n0 A1)] []))
          ∧ (∀ W, MX B w W [(b, rs n0 A1)] [] → Calls Try.prog 12 #[ptr b, .int .i64 i] W fun r w' => r = .returned (.tuple #[.int .i64 v, .int .i64 e]) ∧ Hid (MX B w w' [(b, rs n0 A2)] []))
          ∧ (∀ W, MX B w W [(b, rs n0 A2)] [] → Calls Try.prog 16 #[ptr b] W fun e w' => ∃ a c, e = .returned (.slice a N2 c) ∧ Hid (MX B w w' [(b, rs n0 A2)] []))
          ∧ (∀ W, MX B w W [(b, rs n0 A2)] [] → Calls Try.prog 17 #[ptr b] W fun e w' => ∃ a c, e = .returned (.slice a 0 c) ∧ Hid (MX B w w' [(b, rs n0 A2)] []))) := fun A1 h1 hz => by
        have hni : ¬ (i : Int) ∈ A1 := fun e => by have := hz _ e; omega
        by_cases hlt : A1.length < n0
        · refine ⟨A1.length, A1.length + 1, 1, 0, A1 ++ [(i : Int)], fun z hz' => ?_, .inl ⟨hlt, rfl, rfl, rfl⟩, h1, fun W h => ?_, fun W h => kY b W A1 i h1 hni hlt h, fun W h => ?_, fun W h => kW b W _ (by simp; omega) h⟩
          · rcases List.mem_append.1 hz' with q | q
            · have := hz z q; omega
            · rw [List.mem_singleton.1 q]; omega
          · exact (kA b W A1 h1 h).mono (by rintro e w' ⟨a, c, rfl, s⟩; exact ⟨a, c, rfl, s.out.1⟩)
          · exact (kA b W _ (by simp; omega) h).mono (by rintro e w' ⟨a, c, rfl, s⟩; exact ⟨a, c, by simp, s.out.1⟩)
        · refine ⟨A1.length, A1.length, 0, 4, A1, fun z hz' => by have := hz z hz'; omega, .inr ⟨hlt, rfl, rfl, rfl⟩, h1, fun W h => ?_, fun W h => kN b W A1 i h1 hni hlt h, fun W h => ?_, fun W h => kW b W _ h1 h⟩
          · exact (kA b W A1 h1 h).mono (by rintro e w' ⟨a, c, rfl, s⟩; exact ⟨a, c, rfl, s.out.1⟩)
          · exact (kA b W A1 h1 h).mono (by rintro e w' ⟨a, c, rfl, s⟩; exact ⟨a, c, rfl, s.out.1⟩)
      clear HX HI HL
      cases go with
      | false =>
        have e0 : A.length = A.length := rfl
        obtain ⟨N1, N2, v, ev, A2, hA2b, hcase, hN1, g1, g2, g3, g4⟩ := PART2.out A hA2 HA.out
        have HA2 := hide_it hA2b
        clear hA2b PART2 kA kW kE kY kN HK
        rcases hcase with ⟨q1, rfl, rfl, rfl⟩ | ⟨q1, rfl, rfl, e12⟩
        · have d1 : decide ((N1 : Int) < (n0 : Int)) = true := by simp; omega
          have d2 : decide ((n0 : Int) ≤ (N1 : Int)) = false := by simp; omega
          have d3 : decide (N1 < n0) = true := by simp; omega
          have d4 : decide (n0 ≤ N1) = false := by simp; omega
          generalize A.length = NA at *
          go_wp2_with (go_at_call 16; refine k1.mono ?_; rintro e w3 ⟨a3, c3, rfl, s3⟩; have SS := hide_it s3.out.1; have c0 := HX2.out _ _ s3.out.1; clear k1; refine Hid.out ?_)
          refine hide_it ?_
          go_wp2_with (go_at_call 16; refine (g1 _ SS.out).mono ?_; rintro e w4 ⟨a4, c4, rfl, s4⟩; refine Hid.out ?_)
          refine hide_it ?_
          go_wp2_with (go_at_call 12; refine (g2 _ s4.out).mono ?_; rintro e w5 ⟨rfl, s5⟩; refine Hid.out ?_)
          refine hide_it ?_
          go_wp2_with (go_at_call 16; refine (g3 _ s5.out).mono ?_; rintro e w6 ⟨a6, c6, rfl, s6⟩; refine Hid.out ?_)
          refine hide_it ?_
          go_wp2_with (go_at_call 17; refine (g4 _ s6.out).mono ?_; rintro e w7 ⟨a7, c7, rfl, s7⟩)
          go_roundw
          case rel => exact ⟨i + 1, A2, by go_num, by omega, by omega, s7, HA2⟩
          case measure => simp [intOf]; omega
        · subst e12
          have d1 : decide ((N1 : Int) < (n0 : Int)) = false := by simp; omega
          have d2 : decide ((n0 : Int) ≤ (N1 : Int)) = true := by simp; omega
          have d3 : decide (N1 < n0) = false := by simp; omega
          have d4 : decide (n0 ≤ N1) = true := by simp; omega
          generalize A.length = NA at *
          go_wp2_with (go_at_call 16; refine k1.mono ?_; rintro e w3 ⟨a3, c3, rfl, s3⟩; have SS := hide_it s3.out.1; have c0 := HX2.out _ _ s3.out.1; clear k1; refine Hid.out ?_)
          refine hide_it ?_
          go_wp2_with (go_at_call 16; refine (g1 _ SS.out).mono ?_; rintro e w4 ⟨a4, c4, rfl, s4⟩; refine Hid.out ?_)
          refine hide_it ?_
          go_wp2_with (go_at_call 12; refine (g2 _ s4.out).mono ?_; rintro e w5 ⟨rfl, s5⟩; refine Hid.out ?_)
          refine hide_it ?_
          go_wp2_with (go_at_call 16; refine (g3 _ s5.out).mono ?_; rintro e w6 ⟨a6, c6, rfl, s6⟩; refine Hid.out ?_)
          refine hide_it ?_
          go_wp2_with (go_at_call 17; refine (g4 _ s6.out).mono ?_; rintro e w7 ⟨a7, c7, rfl, s7⟩)
          go_roundw
          case rel => exact ⟨i + 1, A2, by go_num, by omega, by omega, s7, HA2⟩
          case measure => simp [intOf]; omega
      | true =>
        by_cases h0 : A.length = 0
        · have dz : decide ((0 : Int) < (A.length : Int)) = false := decide_eq_false (by omega)
          have dz2 : decide (0 < A.length) = false := decide_eq_false (by omega)
          obtain ⟨N1, N2, v, ev, A2, hA2b, hcase, hN1, g1, g2, g3, g4⟩ := PART2.out A hA2 HA.out
          have HA2 := hide_it hA2b
          clear hA2b PART2 kA kW kE kY kN HK
          rcases hcase with ⟨q1, rfl, rfl, rfl⟩ | ⟨q1, rfl, rfl, e12⟩
          · have d1 : decide ((N1 : Int) < (n0 : Int)) = true := by simp; omega
            have d2 : decide ((n0 : Int) ≤ (N1 : Int)) = false := by simp; omega
            have d3 : decide (N1 < n0) = true := by simp; omega
            have d4 : decide (n0 ≤ N1) = false := by simp; omega
            rw [h0] at k1
            clear h0 dz dz2 hA hA2
            go_wp2_with (go_at_call 16; refine k1.mono ?_; rintro e w3 ⟨a3, c3, rfl, s3⟩; have SS := hide_it s3.out.1; have c0 := HX2.out _ _ s3.out.1; clear k1; refine Hid.out ?_)
            refine hide_it ?_
            go_wp2_with (go_at_call 16; refine (g1 _ SS.out).mono ?_; rintro e w4 ⟨a4, c4, rfl, s4⟩; refine Hid.out ?_)
            refine hide_it ?_
            go_wp2_with (go_at_call 12; refine (g2 _ s4.out).mono ?_; rintro e w5 ⟨rfl, s5⟩; refine Hid.out ?_)
            refine hide_it ?_
            go_wp2_with (go_at_call 16; refine (g3 _ s5.out).mono ?_; rintro e w6 ⟨a6, c6, rfl, s6⟩; refine Hid.out ?_)
            refine hide_it ?_
            go_wp2_with (go_at_call 17; refine (g4 _ s6.out).mono ?_; rintro e w7 ⟨a7, c7, rfl, s7⟩)
            go_roundw
            case rel => exact ⟨i + 1, A2, by go_num, by omega, by omega, s7, HA2⟩
            case measure => simp [intOf]; omega
          · subst e12
            have d1 : decide ((N1 : Int) < (n0 : Int)) = false := by simp; omega
            have d2 : decide ((n0 : Int) ≤ (N1 : Int)) = true := by simp; omega
            have d3 : decide (N1 < n0) = false := by simp; omega
            have d4 : decide (n0 ≤ N1) = true := by simp; omega
            rw [h0] at k1
            clear h0 dz dz2 hA hA2
            go_wp2_with (go_at_call 16; refine k1.mono ?_; rintro e w3 ⟨a3, c3, rfl, s3⟩; have SS := hide_it s3.out.1; have c0 := HX2.out _ _ s3.out.1; clear k1; refine Hid.out ?_)
            refine hide_it ?_
            go_wp2_with (go_at_call 16; refine (g1 _ SS.out).mono ?_; rintro e w4 ⟨a4, c4, rfl, s4⟩; refine Hid.out ?_)
            refine hide_it ?_
            go_wp2_with (go_at_call 12; refine (g2 _ s4.out).mono ?_; rintro e w5 ⟨rfl, s5⟩; refine Hid.out ?_)
            refine hide_it ?_
            go_wp2_with (go_at_call 16; refine (g3 _ s5.out).mono ?_; rintro e w6 ⟨a6, c6, rfl, s6⟩; refine Hid.out ?_)
            refine hide_it ?_
            go_wp2_with (go_at_call 17; refine (g4 _ s6.out).mono ?_; rintro e w7 ⟨a7, c7, rfl, s7⟩)
            go_roundw
            case rel => exact ⟨i + 1, A2, by go_num, by omega, by omega, s7, HA2⟩
            case measure => simp [intOf]; omega
        · have dz : decide ((0 : Int) < (A.length : Int)) = true := decide_eq_true (by omega)
          have dz2 : decide (0 < A.length) = true := decide_eq_true (by omega)
          have hk : A.length / 2 < A.length := by omega
          have ez := List.getElem?_eq_getElem hk
          have hmz := List.getElem_mem hk
          generalize A[A.length / 2] = z at *
          have kE9 := fun W h => kE b W A z hA2 hmz h
          have GETZ : Hid (∀ W a c, Rd W a A c → ∃ b o, a = some ⟨b, o, none⟩ ∧ W.cell? ⟨b, o + A.length / 2, none⟩ = some (.int .i64 z)) := fun W a c h => by
            obtain ⟨b, o, z', e1, e2, e3⟩ := h.get hk
            have e9 := e2.symm.trans ez
            cases e9
            exact ⟨b, o, e1, e3⟩
          have t1 : (A.length : Int).tdiv 2 = ((A.length / 2 : Nat) : Int) := by rw [Int.tdiv_eq_ediv_of_nonneg (by omega)]; omega
          have t2 : (A.length : Int) / 2 = ((A.length / 2 : Nat) : Int) := by omega
          have hle := List.length_erase_le (a := z) (l := A)
          obtain ⟨N1, N2, v, ev, A2, hA2b, hcase, hN1, g1, g2, g3, g4⟩ := PART2.out (A.erase z) (by omega) (fun y hy => HA.out y (List.mem_of_mem_erase hy))
          have HA2 := hide_it hA2b
          clear hA2b PART2 kA kW kE kY kN HK
          rcases hcase with ⟨q1, rfl, rfl, rfl⟩ | ⟨q1, rfl, rfl, e12⟩
          · have d1 : decide ((N1 : Int) < (n0 : Int)) = true := by simp; omega
            have d2 : decide ((n0 : Int) ≤ (N1 : Int)) = false := by simp; omega
            have d3 : decide (N1 < n0) = true := by simp; omega
            have d4 : decide (n0 ≤ N1) = false := by simp; omega
            clear hmz hle ez
            generalize A.length / 2 = kk at *
            generalize A.length = NA at *
            go_wp2_with (go_at_call 16; refine k1.mono ?_; rintro e w3 ⟨a3, c3, rfl, s3⟩; have c0 := HX2.out _ _ s3.out.1; obtain ⟨ba, oa, rfl, cz⟩ := GETZ.out _ _ _ s3.out.2; clear k1 GETZ; refine Hid.out ?_)
            refine hide_it ?_
            go_wp2_with (go_at_call 14; refine (kE9 _ s3.out.1).mono ?_; rintro e w4 ⟨rfl, SS⟩; clear kE9 s3; refine Hid.out ?_)
            refine hide_it ?_
            go_wp2_with (go_at_call 16; refine (g1 _ SS.out).mono ?_; rintro e w4 ⟨a4, c4, rfl, s4⟩; refine Hid.out ?_)
            refine hide_it ?_
            go_wp2_with (go_at_call 12; refine (g2 _ s4.out).mono ?_; rintro e w5 ⟨rfl, s5⟩; refine Hid.out ?_)
            refine hide_it ?_
            go_wp2_with (go_at_call 16; refine (g3 _ s5.out).mono ?_; rintro e w6 ⟨a6, c6, rfl, s6⟩; refine Hid.out ?_)
            refine hide_it ?_
            go_wp2_with (go_at_call 17; refine (g4 _ s6.out).mono ?_; rintro e w7 ⟨a7, c7, rfl, s7⟩)
            go_roundw
            case rel => exact ⟨i + 1, A2, by go_num, by omega, by omega, s7, HA2⟩
            case measure => simp [intOf]; omega
          · subst e12
            have d1 : decide ((N1 : Int) < (n0 : Int)) = false := by simp; omega
            have d2 : decide ((n0 : Int) ≤ (N1 : Int)) = true := by simp; omega
            have d3 : decide (N1 < n0) = false := by simp; omega
            have d4 : decide (n0 ≤ N1) = true := by simp; omega
            clear hmz hle ez
            generalize A.length / 2 = kk at *
            generalize A.length = NA at *
            go_wp2_with (go_at_call 16; refine k1.mono ?_; rintro e w3 ⟨a3, c3, rfl, s3⟩; have c0 := HX2.out _ _ s3.out.1; obtain ⟨ba, oa, rfl, cz⟩ := GETZ.out _ _ _ s3.out.2; clear k1 GETZ; refine Hid.out ?_)
            refine hide_it ?_
            go_wp2_with (go_at_call 14; refine (kE9 _ s3.out.1).mono ?_; rintro e w4 ⟨rfl, SS⟩; clear kE9 s3; refine Hid.out ?_)
            refine hide_it ?_
            go_wp2_with (go_at_call 16; refine (g1 _ SS.out).mono ?_; rintro e w4 ⟨a4, c4, rfl, s4⟩; refine Hid.out ?_)
            refine hide_it ?_
            go_wp2_with (go_at_call 12; refine (g2 _ s4.out).mono ?_; rintro e w5 ⟨rfl, s5⟩; refine Hid.out ?_)
            refine hide_it ?_
            go_wp2_with (go_at_call 16; refine (g3 _ s5.out).mono ?_; rintro e w6 ⟨a6, c6, rfl, s6⟩; refine Hid.out ?_)
            refine hide_it ?_
            go_wp2_with (go_at_call 17; refine (g4 _ s6.out).mono ?_; rintro e w7 ⟨a7, c7, rfl, s7⟩)
            go_roundw
            case rel => exact ⟨i + 1, A2, by go_num, by omega, by omega, s7, HA2⟩
            case measure => simp [intOf]; omega
    · by_cases hlt : i < m
      · have d1 : decide ((i : Int) < 40) = false := by simp; omega
        have d2 : decide (i < 40) = false := by simp; omega
        clear HI HA HK
        go_wp2
        go_ret
        exact ⟨rfl, s.out.bel⟩
      · have d1 : decide ((i : Int) < m) = false := by simp; omega
        have d2 : decide (i < m) = false := by simp; omega
        clear HI HA HK
        go_wp2
        go_ret
        exact ⟨rfl, s.out.bel⟩
end Go.Proofs.Ytjmdalpffhfdfaa
