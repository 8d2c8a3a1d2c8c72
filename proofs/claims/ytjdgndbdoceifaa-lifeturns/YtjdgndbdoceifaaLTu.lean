/- LifeTurns, walked. -/
import Derived.Test.YtjdgndbdoceifaaSho
import Derived.Test.YtjdgndbdoceifaaArg
import Derived.Deep.RegionHeld3
import Derived.Deep.CutRange
import Derived.Deep.CutBlock
import Derived.BigQuiet
namespace Go.Proofs.Ytjdgndbdoceifaa
open Go.RowKit
open M
set_option linter.unusedVariables false
set_option linter.unusedSimpArgs false

theorem may_turn {s : Nat} (h : ¬ 5 ≤ s) : may 10 s = true := by simp [may]; omega
theorem turn_yes {T P : Int} {x : Lf} (h : ¬ 5 ≤ x.s) : er P 10 x = 0 ∧ st T P 10 x = ⟨7, x.e, x.m, x.p⟩ := by
  have h2 : ¬ (10 = 2 ∧ P ≤ (x.p : Int)) := by omega
  exact ⟨er_yes (may_turn h) h2, st_yes (may_turn h) h2⟩
theorem does_final {B : Nat} {w0 W : World} {b : Nat} {T P : Int} {x : Lf} {R : List (Nat × Obj)} (h : LX B w0 W b T P x R) (he : x.e ≤ 1000000) (hf : 5 ≤ x.s) (k : Nat) (hk : k ≤ 10) : Calls Try.prog 12 #[ptr b, .int .i64 k] W fun e w' => e = .returned (.int .i64 8) ∧ Hid (LX B w0 w' b T P x R) := by
  have := does_any h he k hk
  rw [er_final hk hf, st_kept (by rw [er_final hk hf]; omega)] at this
  exact this
set_option maxRecDepth 1000000 in
set_option maxHeartbeats 4000000 in
theorem lifeTurns_walk (t p : Int) (l : List Int) (a : Option Addr) (cap : Nat) (w : World) (hI : NumsIn .u8 w a l) (hl : l.length ≤ cap) (hc : cap ≤ maxLen) (hb : ∀ y ∈ l, (Lit.int .u8 y).wf = true) :
    Calls Try.prog 8 #[.int .i64 t, .int .i64 p, .slice a l.length cap] w fun e w' => e = .returned (.bool true) ∧ Below w.heap.size w w' := by
  obtain ⟨B, hB⟩ : ∃ B, w.heap.size = B := ⟨_, rfl⟩
  have ks : Calls Try.prog 9 #[] w fun e w' => e = .returned (.bool true) ∧ Hid (Below B w w') := by
    have := shown_any w
    rw [hB] at this
    exact this
  have hlo : B ≤ w.heap.size := by omega
  obtain ⟨T, hT⟩ : ∃ T, max t 1 = T := ⟨_, rfl⟩
  obtain ⟨P, hP⟩ : ∃ P, max p 0 = P := ⟨_, rfl⟩
  have kn : ∀ W, Below B w W → Calls Try.prog 10 #[.int .i64 t, .int .i64 p] W fun e w' => ∃ b, e = .returned (ptr b) ∧ Hid (LX B w w' b T P ⟨0, 0, 0, 0⟩ []) := fun W hb => new_any hb hlo t p T P hT hP
  have hcm : cap ≤ 9223372036854775807 := by unfold maxLen at hc; omega
  obtain ⟨m, hm⟩ : ∃ m, l.length = m := ⟨_, rfl⟩
  have HJ : Hid (∀ (i : Nat), i < m → ∃ (u : Nat) (c : Nat) (o : Nat), a = some ⟨c, o, none⟩ ∧ u ≤ 255 ∧ ∀ W, Below B w W → W.cell? ⟨c, o + i, none⟩ = some (.int .u8 u)) := fun i hi => by
    have hil : i < l.length := by omega
    obtain ⟨c, o, h1, h2, h3⟩ := hI i hil
    have h4 := bounds_u8 (hb _ (List.getElem_mem hil))
    have h5 : ((l[i].toNat : Nat) : Int) = l[i] := by omega
    exact ⟨l[i].toNat, c, o, h1, by omega, fun W q => by rw [(hB ▸ q : Below w.heap.size w W).cell (p := ⟨c, _, none⟩) h2, h5]; exact h3⟩
  rw [hm] at hl ⊢
  rw [hB]
  clear hB hI hc hm hb hlo
  go_enter Try.func8, Try.ntmps8
  go_wp2_with (first | (go_at_call 9; refine ks.mono ?_; rintro e w1 ⟨rfl, s1⟩; clear ks) | (go_at_call 10; refine (kn _ s1.out).mono ?_; rintro e w2 ⟨b, rfl, s⟩; clear kn s1))
  go_loopw [9] (fun iv W => ∃ (i : Nat) (x : Lf), iv = .int .i64 i ∧ i ≤ m ∧ i ≤ 100 ∧ Hid (LX B w W b T P x []) ∧ Hid (x.e ≤ i)) (fun iv _ => m - (intOf iv).toNat)
  case atStart => exact ⟨0, _, rfl, Nat.zero_le _, by omega, s, Nat.le_refl _⟩
  case round =>
    clear s
    obtain ⟨i, x, rfl, hi, hi2, s, HE⟩ := hrel
    by_cases hgo : i < m ∧ i < 100
    · obtain ⟨hlt, hlt2⟩ := hgo
      have h100 : decide ((i : Int) < 100) = true := decide_eq_true (by omega)
      have h100' : decide (i < 100) = true := decide_eq_true (by omega)
      obtain ⟨u, c, o, rfl, hu, HX⟩ := HJ.out i hlt
      have c0 := HX _ s.out.bel
      obtain ⟨k, hk⟩ : ∃ k, u % 10 = k := ⟨_, rfl⟩
      have hk10 : k ≤ 10 := by omega
      have q1 : (u : Int).tmod 10 = (k : Int) := by rw [Int.tmod_eq_emod_of_nonneg (by omega)]; omega
      have q2 : (u : Int) % 10 = (k : Int) := by omega
      have kd := does_any s.out (by have := HE.out; omega) k hk10
      have HE2 : Hid ((st T P k x).e ≤ i + 1) := by have := HE.out; have := (st_e (T := T) (P := P) k x).2; show _ ≤ _; omega
      generalize er P k x = E at *
      generalize st T P k x = X at *
      clear HX hk s HE
      go_wp2_with (go_at_call 12; refine kd.mono ?_; rintro e w3 ⟨rfl, s3⟩)
      go_roundw
      case rel => exact ⟨i + 1, X, by go_num, by omega, by omega, s3, HE2⟩
      case measure => simp [intOf]; omega
    · have hx7 := hide_it s.out.inv.s7
      have he : Hid (x.e ≤ 1000000) := by have := HE.out; show _ ≤ _; omega
      have kf := final_any s.out
      have kst : ∀ W, LX B w W b T P x [] → Calls Try.prog 14 #[ptr b] W fun e w' => e = .returned (.int .i64 x.s) ∧ w' = W := fun W h => state_any h
      by_cases hfin : 5 ≤ x.s
      · rw [show decide (5 ≤ x.s) = true by simpa using hfin] at kf
        have kt : ∀ W, LX B w W b T P x [] → Calls Try.prog 25 #[ptr b] W fun e w' => e = .returned (.int .i64 8) ∧ Hid (LX B w w' b T P x []) := fun W h => by
          have := turn_any h
          rw [er_final (by omega) hfin, st_kept (by rw [er_final (by omega) hfin]; omega)] at this
          exact this
        clear HE HJ s hfin
        by_cases hlt : i < m
        · have hn : ¬ i < 100 := fun q => hgo ⟨hlt, q⟩
          have d1 : decide ((i : Int) < 100) = false := by simp; omega
          have d2 : decide (i < 100) = false := by simp; omega
          clear hgo
          go_wp2_with (first | (go_at_call 18; refine kf.mono ?_; rintro e w3 ⟨rfl, s3⟩) | (go_at_call 25; refine (kt _ s3.out).mono ?_; rintro e w4 ⟨rfl, s4⟩) | (go_at_call 14; first | (refine (kst _ s4.out).mono ?_; rintro e w5 ⟨rfl, rfl⟩) | (refine (kst _ s3.out).mono ?_; rintro e w6 ⟨rfl, rfl⟩)))
          go_ret
          exact ⟨rfl, s4.out.bel⟩
        · have d1 : decide ((i : Int) < m) = false := by simp; omega
          have d2 : decide (i < m) = false := by simp; omega
          clear hgo
          go_wp2_with (first | (go_at_call 18; refine kf.mono ?_; rintro e w3 ⟨rfl, s3⟩) | (go_at_call 25; refine (kt _ s3.out).mono ?_; rintro e w4 ⟨rfl, s4⟩) | (go_at_call 14; first | (refine (kst _ s4.out).mono ?_; rintro e w5 ⟨rfl, rfl⟩) | (refine (kst _ s3.out).mono ?_; rintro e w6 ⟨rfl, rfl⟩)))
          go_ret
          exact ⟨rfl, s4.out.bel⟩
      · rw [show decide (5 ≤ x.s) = false by simpa using hfin] at kf
        obtain ⟨X, hX⟩ : ∃ X : Lf, X = ⟨7, x.e, x.m, x.p⟩ := ⟨_, rfl⟩
        have kt : ∀ W, LX B w W b T P x [] → Calls Try.prog 25 #[ptr b] W fun e w' => e = .returned (.int .i64 0) ∧ Hid (LX B w w' b T P X []) := fun W h => by
          have := turn_any h
          rw [(turn_yes (T := T) hfin).1, (turn_yes (T := T) hfin).2, ← hX] at this
          exact this
        have kd : ∀ W (k : Nat), k ≤ 10 → LX B w W b T P X [] → Calls Try.prog 12 #[ptr b, .int .i64 k] W fun e w' => e = .returned (.int .i64 8) ∧ Hid (LX B w w' b T P X []) := fun W k hk h => does_final h (by rw [hX]; exact he.out) (by rw [hX]; simp) k hk
        have ks7 : ∀ W, LX B w W b T P X [] → Calls Try.prog 14 #[ptr b] W fun e w' => e = .returned (.int .i64 7) ∧ w' = W := fun W h => by
          have := state_any h
          rw [show (X.s : Int) = 7 by rw [hX]; rfl] at this
          exact this
        have kf7 : ∀ W, LX B w W b T P X [] → Calls Try.prog 18 #[ptr b] W fun e w' => e = .returned (.bool true) ∧ Hid (LX B w w' b T P X []) := fun W h => by
          have := final_any h
          rw [show decide (5 ≤ X.s) = true by rw [hX]; rfl] at this
          exact this
        clear HE HJ s hfin he hX
        by_cases hlt : i < m
        · have hn : ¬ i < 100 := fun q => hgo ⟨hlt, q⟩
          have d1 : decide ((i : Int) < 100) = false := by simp; omega
          have d2 : decide (i < 100) = false := by simp; omega
          clear hgo
          go_wp2_with (first | (go_at_call 18; refine kf.mono ?_; rintro e w3 ⟨rfl, s3⟩) | (go_at_call 25; refine (kt _ s3.out).mono ?_; rintro e w4 ⟨rfl, s4⟩; refine Hid.out ?_) | (go_at_call 14; refine (kst _ s3.out).mono ?_; rintro e w6 ⟨rfl, rfl⟩))
          refine hide_it ?_
          clear kst kt kf s3
          go_wp2_with (go_at_call 14; refine (ks7 _ s4.out).mono ?_; rintro e w6 ⟨rfl, rfl⟩)
          clear d1 d2
          go_loopw [13] (fun jv W => ∃ (j : Nat), jv = .int .i64 j ∧ j ≤ 11 ∧ Hid (LX B w W b T P X [])) (fun jv _ => 11 - (intOf jv).toNat)
          case atStart => exact ⟨0, rfl, Nat.zero_le _, s4⟩
          case round =>
            clear s4
            obtain ⟨j, rfl, hj, s⟩ := hrel
            by_cases hj2 : j < 11
            · have d3 : decide ((j : Int) < 11) = true := decide_eq_true (by omega)
              have d4 : decide (j < 11) = true := decide_eq_true (by omega)
              have kk := kd _ j (by omega) s.out
              go_wp2_with (first | (go_at_call 12; refine kk.mono ?_; rintro e w7 ⟨rfl, s7⟩) | (go_at_call 14; refine (ks7 _ s7.out).mono ?_; rintro e w8 ⟨rfl, rfl⟩))
              go_roundw
              case rel => exact ⟨j + 1, by go_num, by omega, s7⟩
              case measure => simp [intOf]; omega
            · have d3 : decide ((j : Int) < 11) = false := by simp; omega
              have d4 : decide (j < 11) = false := by simp; omega
              go_wp2_with (go_at_call 18; refine (kf7 _ s.out).mono ?_; rintro e w7 ⟨rfl, s7⟩)
              go_ret
              exact ⟨rfl, s7.out.bel⟩
        · have d1 : decide ((i : Int) < m) = false := by simp; omega
          have d2 : decide (i < m) = false := by simp; omega
          clear hgo
          go_wp2_with (first | (go_at_call 18; refine kf.mono ?_; rintro e w3 ⟨rfl, s3⟩) | (go_at_call 25; refine (kt _ s3.out).mono ?_; rintro e w4 ⟨rfl, s4⟩; refine Hid.out ?_) | (go_at_call 14; refine (kst _ s3.out).mono ?_; rintro e w6 ⟨rfl, rfl⟩))
          refine hide_it ?_
          clear kst kt kf s3
          go_wp2_with (go_at_call 14; refine (ks7 _ s4.out).mono ?_; rintro e w6 ⟨rfl, rfl⟩)
          clear d1 d2
          go_loopw [13] (fun jv W => ∃ (j : Nat), jv = .int .i64 j ∧ j ≤ 11 ∧ Hid (LX B w W b T P X [])) (fun jv _ => 11 - (intOf jv).toNat)
          case atStart => exact ⟨0, rfl, Nat.zero_le _, s4⟩
          case round =>
            clear s4
            obtain ⟨j, rfl, hj, s⟩ := hrel
            by_cases hj2 : j < 11
            · have d3 : decide ((j : Int) < 11) = true := decide_eq_true (by omega)
              have d4 : decide (j < 11) = true := decide_eq_true (by omega)
              have kk := kd _ j (by omega) s.out
              go_wp2_with (first | (go_at_call 12; refine kk.mono ?_; rintro e w7 ⟨rfl, s7⟩) | (go_at_call 14; refine (ks7 _ s7.out).mono ?_; rintro e w8 ⟨rfl, rfl⟩))
              go_roundw
              case rel => exact ⟨j + 1, by go_num, by omega, s7⟩
              case measure => simp [intOf]; omega
            · have d3 : decide ((j : Int) < 11) = false := by simp; omega
              have d4 : decide (j < 11) = false := by simp; omega
              go_wp2_with (go_at_call 18; refine (kf7 _ s.out).mono ?_; rintro e w7 ⟨rfl, s7⟩)
              go_ret
              exact ⟨rfl, s7.out.bel⟩
end Go.Proofs.Ytjdgndbdoceifaa
