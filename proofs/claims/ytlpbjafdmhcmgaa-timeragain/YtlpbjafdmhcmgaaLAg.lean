/- TimerAgain, walked. -/
import Derived.Test.YtlpbjafdmhcmgaaOvr
import Derived.Deep.RegionHeld3
import Derived.Deep.CutRange
import Derived.Deep.CutBlock
import Derived.BigQuiet
namespace Go.Proofs.Ytlpbjafdmhcmgaa
open Go.RowKit
open M
set_option linter.unusedVariables false
set_option linter.unusedSimpArgs false

set_option maxRecDepth 1000000 in
set_option maxHeartbeats 8000000 in
theorem timerAgain_walk (n : Int) (l : List (Int × Int × Int)) (a : Option Addr) (cap : Nat) (w : World) (hI : StepsIn w a l) (hl : l.length ≤ cap) (hc : cap ≤ maxLen) :
    Calls Try.prog 9 #[.int .i64 n, .slice a l.length cap] w fun e w' => e = .returned (.bool true) ∧ Below w.heap.size w w' := by
  obtain ⟨B, hB⟩ : ∃ B, w.heap.size = B := ⟨_, rfl⟩
  have ks : Calls Try.prog 10 #[] w fun e w' => e = .returned (.bool true) ∧ Hid (Below B w w') := by
    have := shown_any w
    rw [hB] at this
    exact this
  have hle : B ≤ w.heap.size := by omega
  obtain ⟨u, hu, hu2⟩ := and16 n
  obtain ⟨N, hN⟩ : ∃ N, u % 50 = N := ⟨_, rfl⟩
  have hN1 : N < 50 := by omega
  have q1 : (u : Int).tmod 50 = (N : Int) := by rw [Int.tmod_eq_emod_of_nonneg (by omega)]; omega
  have q2 : (u : Int) % 50 = (N : Int) := by omega
  have kn : ∀ W, Below B w W → Calls Try.prog 11 #[.int .i64 N] W fun e w' => ∃ t g, e = .returned (ptr t) ∧ Hid (MX B w w' [(t, g, N, fun _ => none)] []) := fun W hb => mx_new hb hle N (by omega)
  have kn2 : ∀ W t0 g0, MX B w W [(t0, g0, N, fun _ => none)] [] → Calls Try.prog 11 #[.int .i64 N] W fun e w' => ∃ t g, e = .returned (ptr t) ∧ Hid (MX B w w' [(t0, g0, N, fun _ => none), (t, g, N, fun _ => none)] []) := fun W t0 g0 h => by
    have := h.new (N : Int)
    rw [hsz_in N (by omega)] at this
    exact this
  have hcm : cap ≤ 9223372036854775807 := by unfold maxLen at hc; omega
  obtain ⟨m, hm⟩ : ∃ m, l.length = m := ⟨_, rfl⟩
  rw [hm] at hl ⊢
  have HI : Hid (∀ (i : Nat), i < m → ∃ x y z b o, a = some ⟨b, o, none⟩ ∧ ∀ W, Below B w W → W.cell? ⟨b, o + i * 3, none⟩ = some (.int .i64 x) ∧ W.cell? ⟨b, o + i * 3 + 1, none⟩ = some (.int .i64 y) ∧ W.cell? ⟨b, o + i * 3 + 2, none⟩ = some (.int .i64 z)) := fun i hi => by
    have := hI.get (i := i) (by omega)
    rw [hB] at this
    exact this
  rw [hB]
  clear hI hc hB hm hN
  go_enter Try.func9, Try.ntmps9
  go_wp2_with (first | (go_at_call 10; refine ks.mono ?_; rintro e w1 ⟨rfl, s1⟩; clear ks; refine Hid.out ?_))
  refine hide_it ?_
  go_wp2_with (go_at_call 11; refine (kn _ s1.out).mono ?_; rintro e w2 ⟨t0, g0, rfl, s2⟩; clear kn s1; refine Hid.out ?_)
  refine hide_it ?_
  go_wp2_with (go_at_call 11; refine (kn2 _ _ _ s2.out).mono ?_; rintro e w3 ⟨t1, g1, rfl, s⟩; clear kn2 s2)
  go_loopw [8] (fun iv W => ∃ (i : Nat) (S : Nat → Option Int), iv = .int .i64 i ∧ i ≤ m ∧ i ≤ 100 ∧ Hid (MX B w W [(t0, g0, N, S), (t1, g1, N, S)] [])) (fun iv _ => m - (intOf iv).toNat)
  case atStart => exact ⟨0, _, rfl, Nat.zero_le _, by omega, s⟩
  case round =>
    clear s
    obtain ⟨i, S, rfl, hi, hi2, s⟩ := hrel
    by_cases hlt : i < m
    · by_cases hlt2 : i < 100
      · have h200 : decide ((i : Int) < 100) = true := decide_eq_true (by omega)
        have h200' : decide (i < 100) = true := decide_eq_true (by omega)
        obtain ⟨x, y, z, b1, o1, rfl, HX⟩ := HI.out i hlt
        have HX := hide_it HX
        obtain ⟨c0, c1, c2⟩ := HX.out _ s.out.bel
        have sB := hide_it (s.out.alloc (.cells #[.int .i64 x, .int .i64 y, .int .i64 z] 31))
        clear s
        go_upto_block 2 with fail
        obtain ⟨sb, hsb⟩ : ∃ r, wr.heap.size = r := ⟨_, rfl⟩
        rw [hsb] at sB
        simp only [hsb]
        clear hsb c0 c1 c2
        generalize wr.alloc (.cells #[.int .i64 x, .int .i64 y, .int .i64 z] 31) = w5 at *
        have HC : Hid (∀ W hs, MX B w W hs [(sb, .cells #[.int .i64 x, .int .i64 y, .int .i64 z] 31)] → W.cell? ⟨sb, 1, none⟩ = some (.int .i64 y) ∧ W.cell? ⟨sb, 2, none⟩ = some (.int .i64 z)) := fun W hs h => by
          have hr := h.row (List.mem_singleton.2 rfl)
          exact ⟨by rw [cell_of_row W sb 1 _ _ _ hr]; rfl, by rw [cell_of_row W sb 2 _ _ _ hr]; rfl⟩
        have d0 : w5.cell? ⟨sb, 0, none⟩ = some (.int .i64 x) := by
          have hr := sB.out.row (List.mem_singleton.2 rfl)
          rw [cell_of_row w5 sb 0 _ _ _ hr]; rfl
        obtain ⟨d1, d2⟩ := HC.out _ _ sB.out
        go_cut [10, 11, 12] from 41 to 90 (fun s10 _ _ wx => s10 = .bool true ∧ ∃ (S' : Nat → Option Int), Hid (MX B w wx [(t0, g0, N, S'), (t1, g1, N, S')] [(sb, .cells #[.int .i64 x, .int .i64 y, .int .i64 z] 31)]))
        case first =>
          have sD := hide_it (sB.out.below (w' := w5.drew) ((Below.refl _ _).drew))
          rcases kindsT x with hx | hx | hx | hx | ⟨k1, k2, k3, k4⟩
          ·
            have k1 : (x == 1) = true := by simp [hx]
            obtain ⟨E, hE⟩ : ∃ E, setE N y = E := ⟨_, rfl⟩
            obtain ⟨S1, hS1⟩ : ∃ S1, setS N S y z = S1 := ⟨_, rfl⟩
            have kp : Calls Try.prog 12 #[ptr t0, .int .i64 y, .int .i64 z] w5.drew fun e w' => e = .returned (.int .i64 E) ∧ Hid (MX B w w' [(t0, g0, N, S1), (t1, g1, N, S)] [(sb, .cells #[.int .i64 x, .int .i64 y, .int .i64 z] 31)]) := by
              rw [← hE, ← hS1]
              exact sD.out.set_ 0 rfl y z
            have kr : ∀ W, MX B w W [(t0, g0, N, S1), (t1, g1, N, S)] [(sb, .cells #[.int .i64 x, .int .i64 y, .int .i64 z] 31)] → Calls Try.prog 12 #[ptr t1, .int .i64 y, .int .i64 z] W fun e w' => e = .returned (.int .i64 E) ∧ Hid (MX B w w' [(t0, g0, N, S1), (t1, g1, N, S1)] [(sb, .cells #[.int .i64 x, .int .i64 y, .int .i64 z] 31)]) := fun W h => by
              rw [← hE]
              have := h.set_ 1 rfl y z
              rw [hS1] at this
              exact this
            have eE : (E == E) = true := by simp
            clear hx hE hS1 sB
            go_upto_region 15 with fail
            (go_region_held3 (fun V => V.cell? ⟨sb, 1, none⟩ = some (.int .i64 y) ∧ V.cell? ⟨sb, 2, none⟩ = some (.int .i64 z)) (first | exact HC.out _ _ t7.out | exact HC.out _ _ t6.out | exact HC.out _ _ sD.out | go_keep) (first | (go_at_call_of 12 (ptr t0); refine kp.mono ?_; rintro e w6 ⟨rfl, t6⟩) | (go_at_call_of 12 (ptr t1); refine (kr _ t6.out).mono ?_; rintro e w7 ⟨rfl, t7⟩)))
            all_goals
              go_wp2
              go_meet
              exact ⟨rfl, S1, t7.out.below ⟨rfl, rfl, rfl, Nat.le_refl _, fun _ _ => rfl⟩⟩
          ·
            have k1 : (x == 1) = false := by simp [hx]
            have k2 : (x == 2) = true := by simp [hx]
            obtain ⟨E, hE⟩ : ∃ E, setE N y = E := ⟨_, rfl⟩
            obtain ⟨S1, hS1⟩ : ∃ S1, setS N S y z = S1 := ⟨_, rfl⟩
            have kp : Calls Try.prog 12 #[ptr t0, .int .i64 y, .int .i64 z] w5.drew fun e w' => e = .returned (.int .i64 E) ∧ Hid (MX B w w' [(t0, g0, N, S1), (t1, g1, N, S)] [(sb, .cells #[.int .i64 x, .int .i64 y, .int .i64 z] 31)]) := by
              rw [← hE, ← hS1]
              exact sD.out.set_ 0 rfl y z
            have kr : ∀ W, MX B w W [(t0, g0, N, S1), (t1, g1, N, S)] [(sb, .cells #[.int .i64 x, .int .i64 y, .int .i64 z] 31)] → Calls Try.prog 12 #[ptr t1, .int .i64 y, .int .i64 z] W fun e w' => e = .returned (.int .i64 E) ∧ Hid (MX B w w' [(t0, g0, N, S1), (t1, g1, N, S1)] [(sb, .cells #[.int .i64 x, .int .i64 y, .int .i64 z] 31)]) := fun W h => by
              rw [← hE]
              have := h.set_ 1 rfl y z
              rw [hS1] at this
              exact this
            have eE : (E == E) = true := by simp
            clear hx hE hS1 sB
            go_upto_region 15 with fail
            (go_region_held3 (fun V => V.cell? ⟨sb, 1, none⟩ = some (.int .i64 y) ∧ V.cell? ⟨sb, 2, none⟩ = some (.int .i64 z)) (first | exact HC.out _ _ t7.out | exact HC.out _ _ t6.out | exact HC.out _ _ sD.out | go_keep) (first | (go_at_call_of 12 (ptr t0); refine kp.mono ?_; rintro e w6 ⟨rfl, t6⟩) | (go_at_call_of 12 (ptr t1); refine (kr _ t6.out).mono ?_; rintro e w7 ⟨rfl, t7⟩)))
            all_goals
              go_wp2
              go_meet
              exact ⟨rfl, S1, t7.out.below ⟨rfl, rfl, rfl, Nat.le_refl _, fun _ _ => rfl⟩⟩
          ·
            have k1 : (x == 1) = false := by simp [hx]
            have k2 : (x == 2) = false := by simp [hx]
            have k3 : (x == 3) = true := by simp [hx]
            obtain ⟨E, hE⟩ : ∃ E, hasB N S y = E := ⟨_, rfl⟩
            obtain ⟨S1, hS1⟩ : ∃ S1, remS N S y = S1 := ⟨_, rfl⟩
            have kp : Calls Try.prog 14 #[ptr t0, .int .i64 y] w5.drew fun e w' => e = .returned (.bool E) ∧ Hid (MX B w w' [(t0, g0, N, S1), (t1, g1, N, S)] [(sb, .cells #[.int .i64 x, .int .i64 y, .int .i64 z] 31)]) := by
              rw [← hE, ← hS1]
              exact sD.out.stop 0 rfl y
            have kr : ∀ W, MX B w W [(t0, g0, N, S1), (t1, g1, N, S)] [(sb, .cells #[.int .i64 x, .int .i64 y, .int .i64 z] 31)] → Calls Try.prog 14 #[ptr t1, .int .i64 y] W fun e w' => e = .returned (.bool E) ∧ Hid (MX B w w' [(t0, g0, N, S1), (t1, g1, N, S1)] [(sb, .cells #[.int .i64 x, .int .i64 y, .int .i64 z] 31)]) := fun W h => by
              rw [← hE]
              have := h.stop 1 rfl y
              rw [hS1] at this
              exact this
            have eE : (E == E) = true := by simp
            clear hx hE hS1 sB
            go_upto_region 17 with fail
            (go_region_held3 (fun V => V.cell? ⟨sb, 1, none⟩ = some (.int .i64 y) ∧ V.cell? ⟨sb, 2, none⟩ = some (.int .i64 z)) (first | exact HC.out _ _ t7.out | exact HC.out _ _ t6.out | exact HC.out _ _ sD.out | go_keep) (first | (go_at_call_of 14 (ptr t0); refine kp.mono ?_; rintro e w6 ⟨rfl, t6⟩) | (go_at_call_of 14 (ptr t1); refine (kr _ t6.out).mono ?_; rintro e w7 ⟨rfl, t7⟩)))
            all_goals
              go_wp2
              go_meet
              exact ⟨rfl, S1, t7.out.below ⟨rfl, rfl, rfl, Nat.le_refl _, fun _ _ => rfl⟩⟩
          ·
            have k1 : (x == 1) = false := by simp [hx]
            have k2 : (x == 2) = false := by simp [hx]
            have k3 : (x == 3) = false := by simp [hx]
            have k4 : (x == 4) = true := by simp [hx]
            obtain ⟨S1, hS1⟩ : ∃ S1, dueS S z = S1 := ⟨_, rfl⟩
            have hO : Oth [(sb, .cells #[.int .i64 x, .int .i64 y, .int .i64 z] 31)] := fun q hq => by rw [List.mem_singleton.1 hq]; exact ⟨_, _, rfl, by decide⟩
            have kp : Calls Try.prog 16 #[ptr t0, .int .i64 z] w5 fun e w' => ∃ (ax : Option Addr) (L : List Nat) (cx : Nat), e = .returned (.slice ax L.length cx) ∧ L.length ≤ 65536 ∧ Hid (PX B w w' [(t0, g0, N, S1), (t1, g1, N, S)] ax L.length [(sb, .cells #[.int .i64 x, .int .i64 y, .int .i64 z] 31)] ∧ Rd w' ax (L.map fun (x : Nat) => (x : Int)) ∧ Due N S z L) := (sB.out.due 0 rfl z).mono (by
              rintro e w' ⟨ax, L, cx, R', rfl, hd, hr, hm⟩
              rw [hS1] at hm
              have := hd.len_le
              exact ⟨ax, L, cx, rfl, by omega, px_of hO hr hm.out, rd_row hm.out hr, hd⟩)
            have kr : ∀ W ax (L : List Nat) cx, L.length ≤ 65536 → PX B w W [(t0, g0, N, S1), (t1, g1, N, S)] ax L.length [(sb, .cells #[.int .i64 x, .int .i64 y, .int .i64 z] 31)] ∧ Rd W ax (L.map fun (x : Nat) => (x : Int)) ∧ Due N S z L → Calls Try.prog 16 #[ptr t1, .int .i64 z] W fun e w' => ∃ ay cy, e = .returned (.slice ay L.length cy) ∧ Hid (PX B w w' [(t0, g0, N, S1), (t1, g1, N, S1)] ax L.length [(sb, .cells #[.int .i64 x, .int .i64 y, .int .i64 z] 31)] ∧ Calls Try.prog 17 #[.slice ax L.length cx, .slice ay L.length cy] w' fun e w2 => e = .returned (.bool true) ∧ Hid (PX B w w2 [(t0, g0, N, S1), (t1, g1, N, S1)] ax L.length [(sb, .cells #[.int .i64 x, .int .i64 y, .int .i64 z] 31)])) := fun W ax L cx hL ⟨h, hrd, hd⟩ => (h.due1 hrd (by simp) z).mono (by
              rintro e w' ⟨ay, L2, cy, rfl, hd2, hp, hr1, hr2⟩
              have := hd2.uniq hd
              subst this
              rw [hS1] at hp
              refine ⟨ay, cy, rfl, hp, ?_⟩
              have := same_any hr1 hr2 (by simp; omega) (by simp; omega) cx cy
              rw [List.length_map] at this
              refine this.mono ?_
              rintro e w2 ⟨rfl, hb⟩
              exact ⟨by simp, hp.below hb⟩)
            clear hx hS1
            go_wp2_with (go_at_call 16; refine kp.mono ?_; rintro e w6 ⟨ax, L, cx, rfl, hL, t6⟩; clear kp; obtain ⟨d3, d4⟩ := HC.out _ _ t6.out.1.mx; refine Hid.out ?_)
            refine hide_it ?_
            go_wp2_with (first | (go_at_call 16; refine (kr _ _ _ cx hL t6.out).mono ?_; rintro e w7 ⟨ay, cy, rfl, t7⟩; have kS := t7.out.2) | (go_at_call 17; refine kS.mono ?_; rintro e w8 ⟨rfl, t8⟩))
            clear kr kS t7 t6 d3 d4 d1 d2 d0 sB sD
            obtain ⟨p, hp⟩ : ∃ p, L.length = p := ⟨_, rfl⟩
            rw [hp] at t8 hL
            simp only [hp]
            clear hp
            go_loopw [12] (fun kv W => ∃ k : Nat, kv = .int .i64 k ∧ k ≤ p ∧ Hid (PX B w W [(t0, g0, N, S1), (t1, g1, N, S1)] ax p [(sb, .cells #[.int .i64 x, .int .i64 y, .int .i64 z] 31)])) (fun kv _ => p - (intOf kv).toNat)
            case atStart => exact ⟨0, rfl, Nat.zero_le _, t8⟩
            case round =>
              clear t8
              obtain ⟨k, rfl, hk, t8⟩ := hrel
              by_cases hkl : k < p
              · obtain ⟨bx, vx, rfl, c1, f1, hput⟩ := t8.out.put hkl
                have HP := hide_it (hput (.int .i64 99))
                clear hput
                go_wp2
                go_roundw
                case rel => exact ⟨k + 1, by go_num, by omega, HP⟩
                case measure => simp [intOf]; omega
              · have d3 : decide ((k : Int) < p) = false := by simp; omega
                have d4 : decide (k < p) = false := by simp; omega
                go_wp2
                go_meet
                exact ⟨rfl, S1, t8.out.mx⟩
          · go_wp2
            go_meet
            exact ⟨rfl, S, sB.out⟩
        case rest =>
          clear sB d0 d1 d2
          obtain ⟨hs10, S2, s6⟩ := hcut
          subst hs10
          obtain ⟨c, hc⟩ : ∃ c, cntS N S2 = c := ⟨_, rfl⟩
          have hcN : c ≤ N := by rw [← hc]; exact cntS_le _ _
          have k0 : ∀ W, MX B w W [(t0, g0, N, S2), (t1, g1, N, S2)] [(sb, .cells #[.int .i64 x, .int .i64 y, .int .i64 z] 31)] → Calls Try.prog 22 #[ptr g0] W fun e w' => e = .returned (.int .i64 c) ∧ w' = W := fun W h => by
            rw [← hc]; exact h.len 0 rfl
          have k1 : ∀ W, MX B w W [(t0, g0, N, S2), (t1, g1, N, S2)] [(sb, .cells #[.int .i64 x, .int .i64 y, .int .i64 z] 31)] → Calls Try.prog 22 #[ptr g1] W fun e w' => e = .returned (.int .i64 c) ∧ w' = W := fun W h => by
            rw [← hc]; exact h.len 1 rfl
          have q0 := s6.out.c0 0 rfl
          have q1 := s6.out.c0 1 rfl
          have HQ : Hid (∀ W, MX B w W [(t0, g0, N, S2), (t1, g1, N, S2)] [(sb, .cells #[.int .i64 x, .int .i64 y, .int .i64 z] 31)] → W.cell? ⟨t0, 0, none⟩ = some (ptr g0) ∧ W.cell? ⟨t1, 0, none⟩ = some (ptr g1)) := fun W h => ⟨h.c0 0 rfl, h.c0 1 rfl⟩
          have k0' := fun j => k0 (wc.drewN j) (s6.out.below ⟨rfl, rfl, rfl, Nat.le_refl _, fun _ _ => rfl⟩)
          have k1' := fun j => k1 (wc.drewN j) (s6.out.below ⟨rfl, rfl, rfl, Nat.le_refl _, fun _ _ => rfl⟩)
          have TE : Hid (∀ j, MX B w (wc.drewN j) [(t0, g0, N, S2), (t1, g1, N, S2)] []) := fun j => (s6.out.drop (R' := []) (fun p hp => by simp at hp)).below ⟨rfl, rfl, rfl, Nat.le_refl _, fun _ _ => rfl⟩
          have ec : ((c : Int) != (c : Int)) = false := by simp
          clear hc k0 k1
          go_upto_region 25 with fail
          go_big_quiet ((first | (go_at_call_of 22 (ptr g0); exact Calls.quiet_of_same (k0' _)) | (go_at_call_of 22 (ptr g1); exact Calls.quiet_of_same (k1' _))))
          go_wp2
          go_roundw
          case rel => exact ⟨i + 1, S2, by go_num, by omega, by omega, TE.out _⟩
          case measure => simp [intOf]; omega
      · have h2 : decide ((i : Int) < 100) = false := decide_eq_false (by omega)
        have h3 : decide (i < 100) = false := decide_eq_false (by omega)
        go_wp2
        go_ret
        exact ⟨rfl, s.out.bel⟩
    · have h2 : decide ((i : Int) < m) = false := decide_eq_false (by omega)
      have h3 : decide (i < m) = false := decide_eq_false (by omega)
      go_wp2
      go_ret
      exact ⟨rfl, s.out.bel⟩
end Go.Proofs.Ytlpbjafdmhcmgaa
