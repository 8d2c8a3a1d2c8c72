/-
  The statement NumSteps of package millwrightlaw01 is proved, as the tied card that is given: for every input the call returns true, and each argument reads afterwards as it read before. Conditions: the three tables of the library that the row lists start as their own initialisers lay them (the card ties them to the program).
-/
import Derived.Test.YtamikhffclbbcaaDoorFrame
import Derived.Test.YtamikhffclbbcaaDoorTie
import Derived.Test.YtamikhffclbbcaaDoorCards
import Derived.SevenTiedAt
import Derived.Laws.BitsLemmas
namespace Go.Proofs.YtamikhffclbbcaaDoor
namespace NumSteps
open Go Go.ChangeShapes Go.WideShapes Go.ChangeAt Go.WideMaps Go.WideElems Go.RowKit
open Go.ChangeMaps (open_string shut_string)
set_option linter.unusedVariables false

theorem i64_and255 (n : Int) : bits .and .i64 n 255 = n % 256 := by
  have h : (BitVec.ofInt 64 255).toNat = 2 ^ 8 - 1 := by decide
  have key : (BitVec.ofInt 64 n &&& BitVec.ofInt 64 255).toNat = (n % ((2 ^ 64 : Nat) : Int)).toNat % 2 ^ 8 := by
    rw [BitVec.toNat_and, BitVec.toNat_ofInt, h, Nat.and_two_pow_sub_one_eq_mod]
  show IntKind.i64.wrap ((BitVec.ofInt 64 n &&& BitVec.ofInt 64 255).toNat : Nat) = n % 256
  rw [key, IntKind.wrap_i64]
  omega

set_option maxHeartbeats 4000000 in
theorem walk (b : Int) (n : Int) (m : Int) (r : Int) (w : World) (b0 : -9223372036854775808 ≤ b) (b1 : b ≤ 9223372036854775807) (n0 : -9223372036854775808 ≤ n) (n1 : n ≤ 9223372036854775807) (m0 : -9223372036854775808 ≤ m) (m1 : m ≤ 9223372036854775807) (r0 : 0 ≤ r) (r1 : r ≤ 255) (hT : Tab w) :
    Calls Tryd.prog 10 #[.int .i64 b, .int .i64 n, .int .i64 m, .int .u8 r] w fun e w' => e = .returned (.bool true) ∧ Below w.heap.size w w' := by
  obtain ⟨N, hN⟩ : ∃ N, N = bits .and .i64 n 255 := ⟨_, rfl⟩
  have hN0 : 0 ≤ N ∧ N ≤ 255 := by rw [hN, i64_and255]; omega
  obtain ⟨hN0, hN1⟩ := hN0
  obtain ⟨j, hj⟩ : ∃ j : Nat, N = (j : Int) := ⟨N.toNat, by omega⟩
  obtain ⟨M2, hM2⟩ : ∃ M2, M2 = max m (wrap64 (m + r)) := ⟨_, rfl⟩
  have hM20 : m ≤ M2 := by omega
  have hM21 : M2 ≤ 9223372036854775807 := by have := wrap64_bd (m + r); omega
  have k1 : ∀ W, Calls Tryd.prog 24 #[.int .i64 b, .int .i64 N, .int .i64 m] W fun e w' => e = .returned (.int .i64 (dbl (max b 0) j (max m 0))) ∧ w' = W := fun W => by
    have := double_any b N m W b0 b1 (by omega) (by omega) m0 m1
    rwa [show (max N 0).toNat = j by omega] at this
  have k2 : ∀ W, Calls Tryd.prog 24 #[.int .i64 b, .int .i64 (N + 1), .int .i64 m] W fun e w' => e = .returned (.int .i64 (dbl (max b 0) (j + 1) (max m 0))) ∧ w' = W := fun W => by
    have := double_any b (N + 1) m W b0 b1 (by omega) (by omega) m0 m1
    rwa [show (max (N + 1) 0).toNat = j + 1 by omega] at this
  have k3 : ∀ W, Calls Tryd.prog 24 #[.int .i64 b, .int .i64 N, .int .i64 M2] W fun e w' => e = .returned (.int .i64 (dbl (max b 0) j (max M2 0))) ∧ w' = W := fun W => by
    have := double_any b N M2 W b0 b1 (by omega) (by omega) (by omega) hM21
    rwa [show (max N 0).toNat = j by omega] at this
  have hX := dbl_bd (max b 0) j (max m 0) (by omega) (by omega)
  have k5 : ∀ W, Calls Tryd.prog 24 #[.int .i64 (dbl (max b 0) j (max m 0)), .int .i64 1, .int .i64 m] W fun e w' => e = .returned (.int .i64 (dbl (max b 0) (j + 1) (max m 0))) ∧ w' = W := fun W => by
    have := double_any (dbl (max b 0) j (max m 0)) 1 m W (by omega) (by omega) (by decide) (by decide) m0 m1
    rwa [show (max 1 0 : Int).toNat = 1 by decide, show max (dbl (max b 0) j (max m 0)) 0 = dbl (max b 0) j (max m 0) by omega, ← dbl_once _ _ _ (by omega) (by omega)] at this
  have k6 : ∀ W, Calls Tryd.prog 24 #[.int .i64 b, .int .i64 (-1), .int .i64 m] W fun e w' => e = .returned (.int .i64 (dbl (max b 0) 0 (max m 0))) ∧ w' = W := fun W => double_any b (-1) m W b0 b1 (by decide) (by decide) m0 m1
  have k7 : ∀ W, Calls Tryd.prog 24 #[.int .i64 b, .int .i64 0, .int .i64 m] W fun e w' => e = .returned (.int .i64 (dbl (max b 0) 0 (max m 0))) ∧ w' = W := fun W => double_any b 0 m W b0 b1 (by decide) (by decide) m0 m1
  have f1 := dbl_rises (max b 0) j (max m 0) (by omega)
  have f2 := dbl_more (max b 0) j (max m 0) (max M2 0) (by omega)
  have f3 := dbl_twice (max b 0) j (max m 0) (by omega)
  have hY := dbl_bd (max b 0) (j + 1) (max m 0) (by omega) (by omega)
  generalize dbl (max b 0) j (max m 0) = X at *
  generalize dbl (max b 0) (j + 1) (max m 0) = Y at *
  generalize dbl (max b 0) j (max M2 0) = Z at *
  generalize dbl (max b 0) 0 (max m 0) = V at *
  have hX2 : X ≤ 9223372036854775807 := by omega
  have hY2 : Y ≤ 9223372036854775807 := by omega
  obtain ⟨hX0, -⟩ := hX
  have g : (X == max m 0) = true ∨ ((X == max m 0) = false ∧ (Y == max m 0) = true) ∨ ((X == max m 0) = false ∧ (Y == max m 0) = false ∧ (Y == 2 * X) = true ∧ 2 * X ≤ 9223372036854775807) := by
    by_cases c1 : X = max m 0
    · left; simpa using c1
    · right
      by_cases c2 : Y = max m 0
      · left; exact ⟨by simpa using c1, by simpa using c2⟩
      · right; exact ⟨by simpa using c1, by simpa using c2, by simp; omega, by omega⟩
  clear f3 hj hM20 hM21 hY
  subst hN hM2
  by_cases ho : m + r ≤ 9223372036854775807
  · rw [wrap64_id (by omega) ho] at k3
    rcases g with g1 | ⟨g1, g2⟩ | ⟨g1, g2, g3, g4⟩
    all_goals
      go_enter Tryd.func10, Tryd.ntmps10
      go_wp2_with (go_at_call 13; refine (shown_any _ hT).mono ?_; rintro e W1 ⟨rfl, hb1⟩; refine Hid.out ?_)
      refine Lib.hid ?_
      go_wp2_with (go_at_call 24; refine (k1 _).mono ?_; rintro e W2 ⟨rfl, rfl⟩; refine Hid.out ?_)
      refine Lib.hid ?_
      go_wp2_with (go_at_call 24; refine (k2 _).mono ?_; rintro e W2 ⟨rfl, rfl⟩; refine Hid.out ?_)
      refine Lib.hid ?_
      go_wp2_with (go_at_call 24; refine (k3 _).mono ?_; rintro e W2 ⟨rfl, rfl⟩; refine Hid.out ?_)
      refine Lib.hid ?_
      go_wp2_with (go_at_call 24; refine (k1 _).mono ?_; rintro e W2 ⟨rfl, rfl⟩; refine Hid.out ?_)
      refine Lib.hid ?_
      go_wp2_with (go_at_call 24; refine (k5 _).mono ?_; rintro e W2 ⟨rfl, rfl⟩; refine Hid.out ?_)
      refine Lib.hid ?_
      go_wp2_with (go_at_call 24; refine (k6 _).mono ?_; rintro e W2 ⟨rfl, rfl⟩; refine Hid.out ?_)
      refine Lib.hid ?_
      go_wp2_with (go_at_call 24; refine (k7 _).mono ?_; rintro e W2 ⟨rfl, rfl⟩)
      go_ret
      exact ⟨rfl, hb1⟩
  · rcases g with g1 | ⟨g1, g2⟩ | ⟨g1, g2, g3, g4⟩
    all_goals
      go_enter Tryd.func10, Tryd.ntmps10
      go_wp2_with (go_at_call 13; refine (shown_any _ hT).mono ?_; rintro e W1 ⟨rfl, hb1⟩; refine Hid.out ?_)
      refine Lib.hid ?_
      go_wp2_with (go_at_call 24; refine (k1 _).mono ?_; rintro e W2 ⟨rfl, rfl⟩; refine Hid.out ?_)
      refine Lib.hid ?_
      go_wp2_with (go_at_call 24; refine (k2 _).mono ?_; rintro e W2 ⟨rfl, rfl⟩; refine Hid.out ?_)
      refine Lib.hid ?_
      go_wp2_with (go_at_call 24; refine (k3 _).mono ?_; rintro e W2 ⟨rfl, rfl⟩; refine Hid.out ?_)
      refine Lib.hid ?_
      go_wp2_with (go_at_call 24; refine (k1 _).mono ?_; rintro e W2 ⟨rfl, rfl⟩; refine Hid.out ?_)
      refine Lib.hid ?_
      go_wp2_with (go_at_call 24; refine (k5 _).mono ?_; rintro e W2 ⟨rfl, rfl⟩; refine Hid.out ?_)
      refine Lib.hid ?_
      go_wp2_with (go_at_call 24; refine (k6 _).mono ?_; rintro e W2 ⟨rfl, rfl⟩; refine Hid.out ?_)
      refine Lib.hid ?_
      go_wp2_with (go_at_call 24; refine (k7 _).mono ?_; rintro e W2 ⟨rfl, rfl⟩)
      go_ret
      exact ⟨rfl, hb1⟩



set_option maxRecDepth 100000 in
theorem lifted (os : Os) (started : os.Started) (H : Type) (enc : TypeId × Value → H) :
    ReturnsInHanded {} Tryd.checked os 10 .any (fun w args => (Rows.numStepsSpec.pre enc Tryd.prog Tryd.f10 [] false w args ∧ laidMetH Tryd.prog laid3 w) ∧ sizedMet enc Tryd.prog Tryd.f10 (OpenSpec.ofChange Rows.numStepsSpec) false w args)
      (Rows.numStepsSpec.post enc Tryd.prog Tryd.f10 false true false false) := by
  refine returnsInHanded_of_change_and (C := Tryd.checked) (X := fun w _ => laidMetH Tryd.prog laid3 w) (fun _ _ _ hh h => h.of_heap hh) own started (by kernel_rfl) Tryd.func10
    (ChangeSpec.witness_shaped (enc := enc) (C := Tryd.checked) (os := os) (X := fun w _ => laidMetH Tryd.prog laid3 w) false (World.doorLaid Tryd.prog 24 os) #[.int .i64 0, .int .i64 0, .int .i64 0, .int .u8 0] 8 rfl (World.shaped_of_RefB (by kernel_rfl) (by kernel_rfl)) (by kernel_rfl) (by kernel_rfl) (by kernel_rfl) (door_met os _)) ?_
  intro W base args ds gs before hval0 hW _ _ hL _
  have hval : ∀ (j : Nat) t v, Tryd.f10.params[j]? = some t → args[j]? = some v → Value.okWide Tryd.prog W .any base t v := hval0
  have hW' := hW
  obtain ⟨p, q, hA0, hV, rfl, hfz, hnd⟩ := hW
  have hA : DataW.TrodAll enc Tryd.prog W 0 (fun _ => true) true Tryd.f10.params.toList args.toList ds p := hA0
  rw [Tryd.params10] at hA hval
  obtain ⟨v0, v1, v2, v3, d0, d1, d2, d3, p0, p1, p2, p3, rfl, rfl, rfl, h0, h1, h2, h3⟩ := trodAll_four hA
  obtain ⟨rfl, rfl⟩ := trodVars_none hV
  obtain ⟨a0, rfl, rfl, rfl, wf0⟩ := open_int Tryd.underlying3 (hval 0 3 v0 rfl rfl) h0
  have bd0 := bounds_i64 wf0
  obtain ⟨a1, rfl, rfl, rfl, wf1⟩ := open_int Tryd.underlying3 (hval 1 3 v1 rfl rfl) h1
  have bd1 := bounds_i64 wf1
  obtain ⟨a2, rfl, rfl, rfl, wf2⟩ := open_int Tryd.underlying3 (hval 2 3 v2 rfl rfl) h2
  have bd2 := bounds_i64 wf2
  obtain ⟨a3, rfl, rfl, rfl, wf3⟩ := open_int Tryd.underlying5 (hval 3 5 v3 rfl rfl) h3
  have bd3 := bounds_u8 wf3
  have hT := tab_of_laid hL
  clear hA0 hval0
  simp only [List.append_nil] at hW'
  refine (walk a0 a1 a2 a3 W bd0.1 bd0.2 bd1.1 bd1.2 bd2.1 bd2.2 bd3.1 bd3.2 hT).mono fun e W' ⟨he, hb⟩ => ?_
  subst he
  refine ⟨_, rfl, _, _, _, [], [], [], hW', ?_, ?_, rfl, hb.frame _, fun h => by cases h⟩
  · exact trodAll_mk1 (shut_bool Tryd.underlying4 _)
  · exact trodAll_mk4 (shut_int Tryd.underlying3 wf0) (shut_int Tryd.underlying3 wf1) (shut_int Tryd.underlying3 wf2) (shut_int Tryd.underlying5 wf3)

theorem row_holds : Rows.NumStepsSaid :=
  OpenClaim.holds_of_wide 10 Tryd.f10 rfl rfl rfl rfl rfl rfl rfl ⟨rfl, rfl, rfl, rfl, rfl⟩ rfl rfl rfl rfl rfl (by kernel_rfl) Tryd.func10 (by kernel_rfl)
    (of_decide_eq_true (by kernel_rfl)) (by unfold Func.isWrapper; first | (rw [if_pos (by decide +kernel)]; kernel_rfl) | (rw [if_neg (by decide +kernel)]; exact ⟨rfl, rfl⟩))
    (fun os started H enc _ => lifted os started H enc)

end NumSteps

theorem numSteps_card_holds : Rows.NumStepsCardSaid :=
  Claim7.holds_tied_plain_at .later [] [.data, .data, .data] true (true, "5cef55edbf9d1764eda0ac3b89cd063984591cba7636e8854e6bcb3e6a6304ac") false
    NumSteps.row_holds (fun _ h => by cases h) (by kernel_rfl) (fun _ h => by cases h) numSteps_row_tie rfl ⟨rfl, rfl⟩ (by kernel_rfl) rfl
    (fun f fn hf hfn => by
      obtain rfl : f = 10 := Option.some.inj ((show Tryd.prog.funcNamed "millwright/millwrightlaw01.NumSteps" = some 10 by kernel_rfl).symm.trans hf) |>.symm
      obtain rfl : fn = Tryd.f10 := (Option.some.inj (Tryd.func10.symm.trans hfn)).symm
      exact ⟨by kernel_rfl, fun j t ht => by
        rw [Tryd.params10] at ht
        have hm : t ∈ [3, 3, 3, 5] := by simpa using Array.mem_of_getElem? ht
        have hall : ([3, 3, 3, 5].all fun u => !Tryd.prog.wantsStandIn u) = true := by kernel_rfl
        exact (show Tryd.prog.wantsStandIn t = false by simpa using List.all_eq_true.1 hall t hm)⟩)
    (by kernel_rfl)
#print axioms numSteps_card_holds
end Go.Proofs.YtamikhffclbbcaaDoor
