/- LifeOnce, walked. -/
import Derived.Test.YtjdgndbdoceifaaSho
import Derived.Test.YtjdgndbdoceifaaArg
import Derived.Deep.RegionHeld3
import Derived.Deep.CutRange
import Derived.Deep.CutBlock
import Derived.BigQuiet
namespace Go.Proofs.Ytjdgndbdoceifaa
open Go.RowKit
open M
set_option linter.unusedVariables false
set_option linter.unusedSimpArgs false

/-- Until when it is over. -/
def Ov (o : Nat) (x : Lf) : Prop := (x.s = 2 → o < x.e) ∧ (x.s ≠ 2 → o = x.e)
theorem ov0 : Ov 0 ⟨0, 0, 0, 0⟩ := ⟨fun q => absurd q (by decide), fun _ => rfl⟩
theorem Ov.st {T P : Int} {o k : Nat} {x : Lf} (h : Ov o x) (hk : k ≤ 10) (hs : (st T P k x).s = 2) : o < (st T P k x).e := by
  by_cases h0 : er P k x = 0
  · have hm := may_of h0
    have hp : ¬ (k = 2 ∧ P ≤ x.p) := fun q => by unfold er at h0; rw [hm, if_neg (by simp), if_pos q] at h0; cases h0
    rw [st_yes hm hp] at hs ⊢
    rcases kinds hk with rfl | rfl | rfl | rfl | rfl | rfl | rfl | rfl | rfl | rfl | rfl <;> simp [nx] at hs ⊢
    · simp [may] at hm
      have := h.2 (by omega)
      omega
    all_goals (split at hs <;> omega)
  · rw [st_kept h0] at hs ⊢
    exact h.1 hs
set_option maxRecDepth 1000000 in
set_option maxHeartbeats 4000000 in
theorem lifeOnce_walk (t p : Int) (l : List Int) (a : Option Addr) (cap : Nat) (w : World) (hI : NumsIn .u8 w a l) (hl : l.length ≤ cap) (hc : cap ≤ maxLen) (hb : ∀ y ∈ l, (Lit.int .u8 y).wf = true) :
    Calls Try.prog 5 #[.int .i64 t, .int .i64 p, .slice a l.length cap] w fun e w' => e = .returned (.bool true) ∧ Below w.heap.size w w' := by
  obtain ⟨B, hB⟩ : ∃ B, w.heap.size = B := ⟨_, rfl⟩
  have ks : Calls Try.prog 9 #[] w fun e w' => e = .returned (.bool true) ∧ Hid (Below B w w') := by
    have := shown_any w
    rw [hB] at this
    exact this
  have hlo : B ≤ w.heap.size := by omega
  obtain ⟨T, hT⟩ : ∃ T, max t 1 = T := ⟨_, rfl⟩
  obtain ⟨P, hP⟩ : ∃ P, max p 0 = P := ⟨_, rfl⟩
  have kn : ∀ W, Below B w W → Calls Try.prog 10 #[.int .i64 t, .int .i64 p] W fun e w' => ∃ b, e = .returned (ptr b) ∧ Hid (LX B w w' b T P ⟨0, 0, 0, 0⟩ []) := fun W hb => new_any hb hlo t p T P hT hP
  have hcm : cap ≤ 9223372036854775807 := by unfold maxLen at hc; omega
  obtain ⟨m, hm⟩ : ∃ m, l.length = m := ⟨_, rfl⟩
  have HJ : Hid (∀ (i : Nat), i < m → ∃ (u : Nat) (c : Nat) (o : Nat), a = some ⟨c, o, none⟩ ∧ u ≤ 255 ∧ ∀ W, Below B w W → W.cell? ⟨c, o + i, none⟩ = some (.int .u8 u)) := fun i hi => by
    have hil : i < l.length := by omega
    obtain ⟨c, o, h1, h2, h3⟩ := hI i hil
    have h4 := bounds_u8 (hb _ (List.getElem_mem hil))
    have h5 : ((l[i].toNat : Nat) : Int) = l[i] := by omega
    exact ⟨l[i].toNat, c, o, h1, by omega, fun W q => by rw [(hB ▸ q : Below w.heap.size w W).cell (p := ⟨c, _, none⟩) h2, h5]; exact h3⟩
  rw [hm] at hl ⊢
  rw [hB]
  clear hB hI hc hm hb hlo
  go_enter Try.func5, Try.ntmps5
  go_wp2_with (first | (go_at_call 9; refine ks.mono ?_; rintro e w1 ⟨rfl, s1⟩; clear ks) | (go_at_call 10; refine (kn _ s1.out).mono ?_; rintro e w2 ⟨b, rfl, s⟩; clear kn s1))
  go_loopw [9, 10] (fun ov iv W => ∃ (o i : Nat) (x : Lf), ov = .int .i64 o ∧ iv = .int .i64 i ∧ i ≤ m ∧ i ≤ 300 ∧ Hid (LX B w W b T P x []) ∧ Hid (x.e ≤ i) ∧ Hid (Ov o x)) (fun _ iv _ => m - (intOf iv).toNat)
  case atStart => exact ⟨0, 0, _, rfl, rfl, Nat.zero_le _, by omega, s, Nat.le_refl _, ov0⟩
  case round =>
    clear s
    obtain ⟨o, i, x, rfl, rfl, hi, hi2, s, HE, HO⟩ := hrel
    by_cases hlt : i < m
    · by_cases hlt2 : i < 300
      · have h100 : decide ((i : Int) < 300) = true := decide_eq_true (by omega)
        have h100' : decide (i < 300) = true := decide_eq_true (by omega)
        obtain ⟨u, c, o1, rfl, hu, HX⟩ := HJ.out i hlt
        have c0 := HX _ s.out.bel
        obtain ⟨k, hk⟩ : ∃ k, u % 11 = k := ⟨_, rfl⟩
        have hk10 : k ≤ 10 := by omega
        have q1 : (u : Int).tmod 11 = (k : Int) := by rw [Int.tmod_eq_emod_of_nonneg (by omega)]; omega
        have q2 : (u : Int) % 11 = (k : Int) := by omega
        have kd := does_any s.out (by have := HE.out; omega) k hk10
        have HE2 : Hid ((st T P k x).e ≤ i + 1) := by have := HE.out; have := (st_e (T := T) (P := P) k x).2; show _ ≤ _; omega
        have HO2 : Hid ((st T P k x).s = 2 → o < (st T P k x).e) := fun hs => HO.out.st hk10 hs
        generalize er P k x = E at *
        generalize st T P k x = X at *
        clear HX hk s HE HO
        obtain ⟨n, hn⟩ : ∃ n, X.e = n := ⟨_, rfl⟩
        have hn3 : n ≤ 301 := by have := HE2.out; omega
        have ke : ∀ W, LX B w W b T P X [] → Calls Try.prog 15 #[ptr b] W fun e w' => e = .returned (.int .i64 n) ∧ w' = W := fun W h => by
          have := epoch_any h
          rw [hn] at this
          exact this
        have kst : ∀ W, LX B w W b T P X [] → Calls Try.prog 14 #[ptr b] W fun e w' => e = .returned (.int .i64 X.s) ∧ w' = W := fun W h => state_any h
        have f3 : decide ((301 : Int) < n) = false := by simp; omega
        by_cases hs2 : X.s = 2
        · have c2 : ((X.s : Int) == 2) = true := by simp [hs2]
          have ho : o < n := by have := HO2.out hs2; omega
          have f4 : decide ((n : Int) ≤ o) = false := by simp; omega
          have f5 : decide (n ≤ o) = false := by simp; omega
          have kr : ∀ W (z : Int), LX B w W b T P X [] → Calls Try.prog 19 #[ptr b, .int .i64 z] W fun e w' => e = .returned (.int .i64 (if z = n then 0 else 7)) ∧ Hid (LX B w w' b T P X []) := fun W z h => by
            have := right_any h z
            rw [hn, show (if X.s = 2 ∧ z = (n : Int) then 0 else 7 : Int) = (if z = n then 0 else 7) by simp [hs2]] at this
            exact this
          have HV : Hid (Ov o X) := ⟨fun _ => by rw [hn]; exact ho, fun q => absurd hs2 q⟩
          clear HO2 hs2 hn
          go_wp2_with (first | (go_at_call 12; refine kd.mono ?_; rintro e w3 ⟨rfl, s3⟩) | (go_at_call 15; refine (ke _ s3.out).mono ?_; rintro e w4 ⟨rfl, rfl⟩) | (go_at_call 14; refine (kst _ s3.out).mono ?_; rintro e w5 ⟨rfl, rfl⟩))
          clear kd
          go_loopw [13] (fun zv W => ∃ (z : Int), zv = .int .i64 z ∧ -1 ≤ z ∧ z ≤ (n : Int) + 2 ∧ Hid (LX B w W b T P X [])) (fun zv _ => ((n : Int) + 2 - intOf zv).toNat)
          case atStart => exact ⟨-1, rfl, by omega, by omega, s3⟩
          case round =>
            clear s3
            obtain ⟨z, rfl, hz1, hz2, s⟩ := hrel
            by_cases hz : z ≤ (n : Int) + 1
            · have g1 : decide (z ≤ (n : Int) + 1) = true := by simpa using hz
              have k9 := kr _ z s.out
              by_cases hzn : z = n
              · rw [if_pos hzn] at k9
                have g2 : (z == (n : Int)) = true := by simp [hzn]
                clear hzn
                go_wp2_with (go_at_call 19; refine k9.mono ?_; rintro e w6 ⟨rfl, s6⟩)
                go_roundw
                case rel => exact ⟨z + 1, by go_num, by omega, by omega, s6⟩
                case measure => simp [intOf]; omega
              · rw [if_neg hzn] at k9
                have g2 : (z == (n : Int)) = false := by simpa using hzn
                clear hzn
                go_wp2_with (go_at_call 19; refine k9.mono ?_; rintro e w6 ⟨rfl, s6⟩)
                go_roundw
                case rel => exact ⟨z + 1, by go_num, by omega, by omega, s6⟩
                case measure => simp [intOf]; omega
            · have g1 : decide (z ≤ (n : Int) + 1) = false := by simp; omega
              go_wp2
              go_roundw
              case rel => exact ⟨o, i + 1, X, rfl, by go_num, by omega, by omega, s, HE2, HV⟩
              case measure => simp [intOf]; omega
        · have c2 : ((X.s : Int) == 2) = false := by simp; omega
          have kr : ∀ W (z : Int), LX B w W b T P X [] → Calls Try.prog 19 #[ptr b, .int .i64 z] W fun e w' => e = .returned (.int .i64 7) ∧ Hid (LX B w w' b T P X []) := fun W z h => by
            have := right_any h z
            rw [show (if X.s = 2 ∧ z = (X.e : Int) then 0 else 7 : Int) = 7 by simp [hs2]] at this
            exact this
          have HV : Hid (Ov n X) := ⟨fun q => absurd q hs2, fun _ => hn.symm⟩
          clear HO2 hs2 hn
          go_wp2_with (first | (go_at_call 12; refine kd.mono ?_; rintro e w3 ⟨rfl, s3⟩) | (go_at_call 15; refine (ke _ s3.out).mono ?_; rintro e w4 ⟨rfl, rfl⟩) | (go_at_call 14; refine (kst _ s3.out).mono ?_; rintro e w5 ⟨rfl, rfl⟩))
          clear kd
          go_loopw [13] (fun zv W => ∃ (z : Int), zv = .int .i64 z ∧ -1 ≤ z ∧ z ≤ (n : Int) + 2 ∧ Hid (LX B w W b T P X [])) (fun zv _ => ((n : Int) + 2 - intOf zv).toNat)
          case atStart => exact ⟨-1, rfl, by omega, by omega, s3⟩
          case round =>
            clear s3
            obtain ⟨z, rfl, hz1, hz2, s⟩ := hrel
            by_cases hz : z ≤ (n : Int) + 1
            · have g1 : decide (z ≤ (n : Int) + 1) = true := by simpa using hz
              have k9 := kr _ z s.out
              go_wp2_with (go_at_call 19; refine k9.mono ?_; rintro e w6 ⟨rfl, s6⟩)
              go_roundw
              case rel => exact ⟨z + 1, by go_num, by omega, by omega, s6⟩
              case measure => simp [intOf]; omega
            · have g1 : decide (z ≤ (n : Int) + 1) = false := by simp; omega
              go_wp2
              go_roundw
              case rel => exact ⟨n, i + 1, X, rfl, by go_num, by omega, by omega, s, HE2, HV⟩
              case measure => simp [intOf]; omega
      · have d1 : decide ((i : Int) < 300) = false := by simp; omega
        have d2 : decide (i < 300) = false := by simp; omega
        go_wp2
        go_ret
        exact ⟨rfl, s.out.bel⟩
    · have d1 : decide ((i : Int) < m) = false := by simp; omega
      have d2 : decide (i < m) = false := by simp; omega
      go_wp2
      go_ret
      exact ⟨rfl, s.out.bel⟩
end Go.Proofs.Ytjdgndbdoceifaa
