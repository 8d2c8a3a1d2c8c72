/- LedgerLowest, walked. -/
import Derived.Test.YtkcbigmccplpiaaSho
import Derived.Test.YtkcbigmccplpiaaArg
import Derived.Deep.RegionHeld3
import Derived.Deep.CutRange
import Derived.Deep.CutBlock
import Derived.BigQuiet
namespace Go.Proofs.Ytkcbigmccplpiaa
open Go.RowKit
open M
set_option linter.unusedVariables false
set_option linter.unusedSimpArgs false

section
variable {x : Lg}
theorem lo_had (h : Inv x) (h0 : x.bu = 0) {u : Nat} (hs : (slo x u).isSome = true) : te x u 0 = 8 ∧ ts x u 0 = 0 ∧ tx x u 0 = x := by
  have e : te x u 0 = 8 := te_state (by omega) (by omega) hs
  exact ⟨e, by unfold ts; rw [if_neg (by omega)], by unfold tx; rw [if_neg (by omega)]⟩
theorem lo_full (h : Inv x) (h0 : x.bu = 0) {u : Nat} (hs : (slo x u).isSome = false) (hl : low x = none) : te x u 0 = 4 ∧ ts x u 0 = 0 ∧ tx x u 0 = x := by
  have e : te x u 0 = 4 := te_full (by omega) (by omega) hs (.inl (by rw [hl]; rfl))
  exact ⟨e, by unfold ts; rw [if_neg (by omega)], by unfold tx; rw [if_neg (by omega)]⟩
theorem lo_good (h : Inv x) (h0 : x.bu = 0) {u k : Nat} (hs : (slo x u).isSome = false) (hl : low x = some k) : te x u 0 = 0 ∧ ts x u 0 = k ∧ k < x.n ∧ (tx x u 0).bu = 0 ∧ ∀ j, j ≤ k → atB (tx x u 0) j = true := by
  have hr : ¬ room x < 0 := by have := h.le; unfold room; omega
  have e : te x u 0 = 0 := te_good (by omega) (by omega) hs (by rw [hl]; simpa using hr)
  have e2 : tx x u 0 = ⟨x.bu, x.n, setP x.P k ⟨true, u, 0⟩⟩ := by unfold tx; rw [if_pos e, hl]; rfl
  obtain ⟨a, b, c⟩ := low_lt hl
  refine ⟨e, by unfold ts; rw [if_pos e, hl]; rfl, a, by rw [e2]; exact h0, fun j hj => ?_⟩
  rw [e2]
  unfold atB
  simp only
  rw [show decide (0 ≤ (j : Int) ∧ (j : Int) < (x.n : Int)) = true by simp; omega]
  simp only [Int.toNat_natCast, Bool.true_and]
  by_cases q : j = k
  · subst q; rw [setP_same]
  · rw [setP_other _ _ q]; exact c j (by omega)
theorem lo_free0 (h : Inv x) (hl : low x = none) : M.free x = 0 := by have := h.full.1 hl; unfold M.free; omega
theorem lo_free1 (h : Inv x) {k : Nat} (hl : low x = some k) : 1 ≤ M.free x := by
  have h1 := h.tkn
  have : tk x.P 16 ≠ x.n := fun e => by rw [h.full.2 e] at hl; cases hl
  unfold M.free; omega
end

set_option maxRecDepth 1000000 in
set_option maxHeartbeats 8000000 in
theorem ledgerLowest_walk (sl : Int) (l : List (Int × Int × Int)) (a : Option Addr) (cap : Nat) (w : World) (hI : StepsIn w a l) (hl : l.length ≤ cap) (hc : cap ≤ maxLen) (hb : ∀ t ∈ l, i64B t.1 ∧ i64B t.2.1 ∧ i64B t.2.2) :
    Calls Try.prog 6 #[.int .i64 sl, .slice a l.length cap] w fun e w' => e = .returned (.bool true) ∧ Below w.heap.size w w' := by
  obtain ⟨B, hB⟩ : ∃ B, w.heap.size = B := ⟨_, rfl⟩
  have ks : Calls Try.prog 10 #[] w fun e w' => e = .returned (.bool true) ∧ Hid (Below B w w') := by
    have := shown_any w
    rw [hB] at this
    exact this
  have hlo : B ≤ w.heap.size := by omega
  obtain ⟨u0, e16, hu0⟩ := and16 sl
  obtain ⟨n0, hn0⟩ : ∃ n : Nat, 1 + u0 % 16 = n := ⟨_, rfl⟩
  have r16 : (u0 : Int).tmod 16 = ((u0 % 16 : Nat) : Int) := by rw [Int.tmod_eq_emod_of_nonneg (by omega)]; omega
  have r16' : (u0 : Int) % 16 = ((u0 % 16 : Nat) : Int) := by omega
  have kn : ∀ W, Below B w W → Calls Try.prog 11 #[.int .i64 0, .int .i64 n0] W fun e w' => ∃ b, e = .returned (ptr b) ∧ Hid (LX B w w' b ⟨0, n0, fun _ => no⟩ []) := fun W hb => new_any hb hlo 0 n0 (by omega) 0 n0 (by decide) (by omega)
  have s16 : (1 : Int) + ((u0 % 16 : Nat) : Int) = (n0 : Int) := by omega
  obtain ⟨v0, hv0⟩ : ∃ v, u0 % 16 = v := ⟨_, rfl⟩
  rw [hv0] at r16 r16' s16
  have hv16 : v0 < 16 := by omega
  have s16' : 1 + v0 = n0 := by omega
  have hcm : cap ≤ 9223372036854775807 := by unfold maxLen at hc; omega
  obtain ⟨m, hm⟩ : ∃ m, l.length = m := ⟨_, rfl⟩
  have HI : Hid (∀ (i : Nat), i < m → ∃ x y z b o, a = some ⟨b, o, none⟩ ∧ ∀ W, Below B w W → W.cell? ⟨b, o + i * 3, none⟩ = some (.int .i64 x) ∧ W.cell? ⟨b, o + i * 3 + 1, none⟩ = some (.int .i64 y) ∧ W.cell? ⟨b, o + i * 3 + 2, none⟩ = some (.int .i64 z)) := fun i hi => by
    have := hI.get (i := i) (by omega)
    rw [hB] at this
    exact this
  rw [hm] at hl ⊢
  rw [hB]
  clear hB hI hc hm hlo hb hv0 hn0 hu0
  go_enter Try.func6, Try.ntmps6
  go_wp2_with (first | (go_at_call 10; refine ks.mono ?_; rintro e w1 ⟨rfl, s1⟩; clear ks) | (go_at_call 11; refine (kn _ s1.out).mono ?_; rintro e w2 ⟨b, rfl, s⟩; clear kn s1))
  go_loopw [7] (fun iv W => ∃ (i : Nat) (x : Lg), iv = .int .i64 i ∧ i ≤ m ∧ i ≤ 100 ∧ Hid (LX B w W b x []) ∧ Hid (x.bu = 0)) (fun iv _ => m - (intOf iv).toNat)
  case atStart => exact ⟨0, _, rfl, Nat.zero_le _, by omega, s, rfl⟩
  case round =>
    clear s r16 r16' e16 s16 s16' hv16
    obtain ⟨i, x, rfl, hi, hi2, s, HB⟩ := hrel
    by_cases hgo : i < m ∧ i < 100
    · obtain ⟨hlt, hlt2⟩ := hgo
      have h16 : decide ((i : Int) < 100) = true := decide_eq_true (by omega)
      have h16' : decide (i < 100) = true := decide_eq_true (by omega)
      obtain ⟨kd, y, z, c, o, rfl, HX⟩ := HI.out i hlt
      obtain ⟨c0, c1, c2⟩ := HX _ s.out.bel
      obtain ⟨u, e8, hu⟩ := and8 y
      by_cases hk3 : kd = 3
      · have d3 : (kd == 3) = true := by simp [hk3]
        have k14 := free_any s.out (u : Int)
        have HB2 : Hid ((fx x u).bu = 0) := by unfold fx; split <;> exact HB.out
        generalize fx x u = X at *
        generalize ((fe x u : Nat) : Int) = E at *
        clear hk3 HX HI
        go_wp2_with (go_at_call 14; refine k14.mono ?_; rintro e w3 ⟨rfl, s3⟩)
        go_roundw
        case rel => exact ⟨i + 1, X, by go_num, by omega, by omega, s3, HB2⟩
        case measure => simp [intOf]; omega
      · have d3 : (kd == 3) = false := by simp [hk3]
        have hin := s.out.inv
        have k21 : ∀ W, LX B w W b x [] → Calls Try.prog 21 #[ptr b] W fun e w' => e = .returned (.int .i64 (M.free x)) ∧ Hid (LX B w w' b x []) := fun W h => slots_any h
        have k16 : ∀ W, LX B w W b x [] → Calls Try.prog 16 #[ptr b, .int .i64 u] W fun e w' => e = .returned (.tuple #[.int .i64 ((slo x u).getD 0 : Nat), .bool (slo x u).isSome]) ∧ Hid (LX B w w' b x []) := fun W h => slot_any h u
        have k12 : ∀ W, LX B w W b x [] → Calls Try.prog 12 #[ptr b, .int .i64 u, .int .i64 0] W fun e w' => e = .returned (.tuple #[.int .i64 (ts x u 0 : Nat), .int .i64 (te x u 0 : Nat)]) ∧ Hid (LX B w w' b (tx x u 0) []) := fun W h => take_any h u 0
        generalize (((slo x u).getD 0 : Nat) : Int) = q at *
        cases hs : (slo x u).isSome with
        | true =>
          obtain ⟨f1, f2, f3⟩ := lo_had hin HB.out hs
          rw [f1, f2, f3] at k12
          rw [hs] at k16
          cases hl : low x with
          | none =>
            rw [lo_free0 hin hl] at k21
            clear f1 f2 f3 hs hl hk3 HX HI hin
            go_wp2_with (first | (go_at_call 21; refine (k21 _ s.out).mono ?_; rintro e w3 ⟨rfl, s3⟩) | (go_at_call 16; refine (k16 _ s3.out).mono ?_; rintro e w4 ⟨rfl, s4⟩) | (go_at_call 12; refine (k12 _ s4.out).mono ?_; rintro e w5 ⟨rfl, s5⟩))
            go_roundw
            case rel => exact ⟨i + 1, x, by go_num, by omega, by omega, s5, HB⟩
            case measure => simp [intOf]; omega
          | some k =>
            have hF := lo_free1 hin hl
            generalize M.free x = F at *
            have d4 : decide (0 < F) = true := by simp; omega
            clear f1 f2 f3 hs hl hk3 HX HI hin hF
            go_wp2_with (first | (go_at_call 21; refine (k21 _ s.out).mono ?_; rintro e w3 ⟨rfl, s3⟩) | (go_at_call 16; refine (k16 _ s3.out).mono ?_; rintro e w4 ⟨rfl, s4⟩) | (go_at_call 12; refine (k12 _ s4.out).mono ?_; rintro e w5 ⟨rfl, s5⟩))
            go_roundw
            case rel => exact ⟨i + 1, x, by go_num, by omega, by omega, s5, HB⟩
            case measure => simp [intOf]; omega
        | false =>
          rw [hs] at k16
          cases hl : low x with
          | none =>
            obtain ⟨f1, f2, f3⟩ := lo_full hin HB.out hs hl
            rw [f1, f2, f3] at k12
            rw [lo_free0 hin hl] at k21
            clear f1 f2 f3 hs hl hk3 HX HI hin
            go_wp2_with (first | (go_at_call 21; refine (k21 _ s.out).mono ?_; rintro e w3 ⟨rfl, s3⟩) | (go_at_call 16; refine (k16 _ s3.out).mono ?_; rintro e w4 ⟨rfl, s4⟩) | (go_at_call 12; refine (k12 _ s4.out).mono ?_; rintro e w5 ⟨rfl, s5⟩))
            go_roundw
            case rel => exact ⟨i + 1, x, by go_num, by omega, by omega, s5, HB⟩
            case measure => simp [intOf]; omega
          | some k =>
            obtain ⟨f1, f2, f3, f4, f5⟩ := lo_good hin HB.out hs hl
            rw [f1, f2] at k12
            have hF := lo_free1 hin hl
            have hk16 : k < 16 := by have := hin.n16; omega
            generalize M.free x = F at *
            have d4 : decide (0 < F) = true := by simp; omega
            have HAT := hide_it f5
            have HB2 := hide_it f4
            generalize tx x u 0 = X at *
            clear f1 f2 f3 f4 f5 hs hl hk3 HX HI hin hF
            go_wp2_with (first | (go_at_call 21; refine (k21 _ s.out).mono ?_; rintro e w3 ⟨rfl, s3⟩) | (go_at_call 16; refine (k16 _ s3.out).mono ?_; rintro e w4 ⟨rfl, s4⟩) | (go_at_call 12; refine (k12 _ s4.out).mono ?_; rintro e w5 ⟨rfl, s5⟩))
            go_loopw [14] (fun jv W => ∃ (j : Nat), jv = .int .i64 j ∧ j ≤ k + 1 ∧ Hid (LX B w W b X [])) (fun jv _ => k + 1 - (intOf jv).toNat)
            case atStart => exact ⟨0, rfl, by omega, s5⟩
            case round =>
              obtain ⟨j, rfl, hj, sj⟩ := hrel
              by_cases hjk : j ≤ k
              · have k23 := at_any sj.out (j : Int)
                rw [HAT.out j hjk] at k23
                generalize atI X j = Z at *
                have g1 : decide ((j : Int) ≤ k) = true := by simp; omega
                have g2 : decide (j ≤ k) = true := by simp; omega
                clear HAT
                go_wp2_with (go_at_call 23; refine k23.mono ?_; rintro e w6 ⟨rfl, s6⟩)
                go_roundw
                case rel => exact ⟨j + 1, by go_num, by omega, s6⟩
                case measure => simp [intOf]; omega
              · have g1 : decide ((j : Int) ≤ k) = false := by simp; omega
                have g2 : decide (j ≤ k) = false := by simp; omega
                clear HAT
                go_wp2
                go_roundw
                case rel => exact ⟨i + 1, X, by go_num, by omega, by omega, sj, HB2⟩
                case measure => simp [intOf]; omega
    · by_cases hlt : i < m
      · have d1 : decide ((i : Int) < 100) = false := by simp; omega
        have d2 : decide (i < 100) = false := by simp; omega
        clear HB HI
        go_wp2
        go_ret
        exact ⟨rfl, s.out.bel⟩
      · have d1 : decide ((i : Int) < m) = false := by simp; omega
        have d2 : decide (i < m) = false := by simp; omega
        clear HB HI
        go_wp2
        go_ret
        exact ⟨rfl, s.out.bel⟩
end Go.Proofs.Ytkcbigmccplpiaa
