/-
  The statement NumRound of package millwrightlaw01 is proved, as the tied card that is given: for every input the call returns true, and each argument reads afterwards as it read before. Conditions: the three tables of the library that the row lists start as their own initialisers lay them (the card ties them to the program).
-/
import Derived.Test.YtamikhffclbbcaaDoorFrame
import Derived.Test.YtamikhffclbbcaaDoorTie
import Derived.Test.YtamikhffclbbcaaDoorCards
import Derived.SevenTiedAt
namespace Go.Proofs.YtamikhffclbbcaaDoor
namespace NumRound
open Go Go.ChangeShapes Go.WideShapes Go.ChangeAt Go.WideMaps Go.WideElems Go.RowKit
open Go.ChangeMaps (open_string shut_string)

set_option maxHeartbeats 4000000 in
theorem walk (a : Int) (b : Int) (w : World) (a0 : -9223372036854775808 ≤ a) (a1 : a ≤ 9223372036854775807) (b0 : -9223372036854775808 ≤ b) (b1 : b ≤ 9223372036854775807) (hT : Tab w) :
    Calls Tryd.prog 8 #[.int .i64 a, .int .i64 b] w fun e w' => e = .returned (.bool true) ∧ Below w.heap.size w w' := by
  have m1 : ∀ W, Calls Tryd.prog 18 #[.int .i64 a, .int .i64 1] W fun e w' => e = .returned (.tuple #[.int .i64 a, .bool true]) ∧ w' = W := fun W => by
    have := mul_any a 1 W a0 a1 (by decide) (by decide)
    have hi : inI (a * 1) = true := by rw [inI_iff]; omega
    rwa [cutI_in hi, hi, Int.mul_one] at this
  have m0 : ∀ W, Calls Tryd.prog 18 #[.int .i64 a, .int .i64 0] W fun e w' => e = .returned (.tuple #[.int .i64 0, .bool true]) ∧ w' = W := fun W => by
    have := mul_any a 0 W a0 a1 (by decide) (by decide)
    have hi : inI (a * 0) = true := by rw [inI_iff]; omega
    rwa [cutI_in hi, hi, Int.mul_zero] at this
  have mm : ∀ W, Calls Tryd.prog 18 #[.int .i64 a, .int .i64 (-1)] W fun e w' => e = .returned (.tuple #[.int .i64 (cutI (0 - a)), .bool (inI (0 - a))]) ∧ w' = W := fun W => by
    have := mul_any a (-1) W a0 a1 (by decide) (by decide)
    rwa [show a * -1 = 0 - a by omega] at this
  have s0 : ∀ W, Calls Tryd.prog 16 #[.int .i64 0, .int .i64 a] W fun e w' => e = .returned (.tuple #[.int .i64 (cutI (0 - a)), .bool (inI (0 - a))]) ∧ w' = W := fun W => sub_any 0 a W (by decide) (by decide) a0 a1
  generalize cutI (0 - a) = r at mm s0
  generalize inI (0 - a) = g at mm s0
  by_cases hi : inI (a + b) = true
  · have hi2 := (inI_iff _).1 hi
    have ad : ∀ W, Calls Tryd.prog 14 #[.int .i64 a, .int .i64 b] W fun e w' => e = .returned (.tuple #[.int .i64 (a + b), .bool true]) ∧ w' = W := fun W => by
      have := add_any a b W a0 a1 b0 b1
      rwa [cutI_in hi, hi] at this
    have sb : ∀ W, Calls Tryd.prog 16 #[.int .i64 (a + b), .int .i64 b] W fun e w' => e = .returned (.tuple #[.int .i64 a, .bool true]) ∧ w' = W := fun W => by
      have := sub_any (a + b) b W hi2.1 hi2.2 b0 b1
      have h : inI (a + b - b) = true := by rw [inI_iff]; omega
      rwa [cutI_in h, h, show a + b - b = a by omega] at this
    have sa : ∀ W, Calls Tryd.prog 16 #[.int .i64 (a + b), .int .i64 a] W fun e w' => e = .returned (.tuple #[.int .i64 b, .bool true]) ∧ w' = W := fun W => by
      have := sub_any (a + b) a W hi2.1 hi2.2 a0 a1
      have h : inI (a + b - a) = true := by rw [inI_iff]; omega
      rwa [cutI_in h, h, show a + b - a = b by omega] at this
    clear hi hi2
    go_enter Tryd.func8, Tryd.ntmps8
    go_wp2_with (go_at_call 13; refine (shown_any _ hT).mono ?_; rintro e W1 ⟨rfl, hb1⟩)
    go_wp2_with (go_at_call 14; refine (ad _).mono ?_; rintro e W2 ⟨rfl, rfl⟩; refine Hid.out ?_)
    refine Lib.hid ?_
    go_wp2_with (go_at_call 16; refine (sb _).mono ?_; rintro e W2 ⟨rfl, rfl⟩; refine Hid.out ?_)
    refine Lib.hid ?_
    go_wp2_with (go_at_call 16; refine (sa _).mono ?_; rintro e W2 ⟨rfl, rfl⟩; refine Hid.out ?_)
    refine Lib.hid ?_
    go_wp2_with (go_at_call 18; refine (m1 _).mono ?_; rintro e W2 ⟨rfl, rfl⟩; refine Hid.out ?_)
    refine Lib.hid ?_
    go_wp2_with (go_at_call 18; refine (m0 _).mono ?_; rintro e W2 ⟨rfl, rfl⟩; refine Hid.out ?_)
    refine Lib.hid ?_
    go_wp2_with (go_at_call 18; refine (mm _).mono ?_; rintro e W2 ⟨rfl, rfl⟩; refine Hid.out ?_)
    refine Lib.hid ?_
    go_wp2_with (go_at_call 16; refine (s0 _).mono ?_; rintro e W2 ⟨rfl, rfl⟩)
    go_ret
    exact ⟨rfl, hb1⟩
  · have hi1 : inI (a + b) = false := by simpa using hi
    have ad : ∀ W, Calls Tryd.prog 14 #[.int .i64 a, .int .i64 b] W fun e w' => e = .returned (.tuple #[.int .i64 0, .bool false]) ∧ w' = W := fun W => by
      have := add_any a b W a0 a1 b0 b1
      rwa [cutI_out hi1, hi1] at this
    clear hi hi1
    go_enter Tryd.func8, Tryd.ntmps8
    go_wp2_with (go_at_call 13; refine (shown_any _ hT).mono ?_; rintro e W1 ⟨rfl, hb1⟩)
    go_wp2_with (go_at_call 14; refine (ad _).mono ?_; rintro e W2 ⟨rfl, rfl⟩; refine Hid.out ?_)
    refine Lib.hid ?_
    go_wp2_with (go_at_call 18; refine (m1 _).mono ?_; rintro e W2 ⟨rfl, rfl⟩; refine Hid.out ?_)
    refine Lib.hid ?_
    go_wp2_with (go_at_call 18; refine (m0 _).mono ?_; rintro e W2 ⟨rfl, rfl⟩; refine Hid.out ?_)
    refine Lib.hid ?_
    go_wp2_with (go_at_call 18; refine (mm _).mono ?_; rintro e W2 ⟨rfl, rfl⟩; refine Hid.out ?_)
    refine Lib.hid ?_
    go_wp2_with (go_at_call 16; refine (s0 _).mono ?_; rintro e W2 ⟨rfl, rfl⟩)
    go_ret
    exact ⟨rfl, hb1⟩



set_option maxRecDepth 100000 in
theorem lifted (os : Os) (started : os.Started) (H : Type) (enc : TypeId × Value → H) :
    ReturnsInHanded {} Tryd.checked os 8 .any (fun w args => (Rows.numRoundSpec.pre enc Tryd.prog Tryd.f8 [] false w args ∧ laidMetH Tryd.prog laid3 w) ∧ sizedMet enc Tryd.prog Tryd.f8 (OpenSpec.ofChange Rows.numRoundSpec) false w args)
      (Rows.numRoundSpec.post enc Tryd.prog Tryd.f8 false true false false) := by
  refine returnsInHanded_of_change_and (C := Tryd.checked) (X := fun w _ => laidMetH Tryd.prog laid3 w) (fun _ _ _ hh h => h.of_heap hh) own started (by kernel_rfl) Tryd.func8
    (ChangeSpec.witness_shaped (enc := enc) (C := Tryd.checked) (os := os) (X := fun w _ => laidMetH Tryd.prog laid3 w) false (World.doorLaid Tryd.prog 24 os) #[.int .i64 0, .int .i64 0] 8 rfl (World.shaped_of_RefB (by kernel_rfl) (by kernel_rfl)) (by kernel_rfl) (by kernel_rfl) (by kernel_rfl) (door_met os _)) ?_
  intro W base args ds gs before hval0 hW _ _ hL _
  have hval : ∀ (j : Nat) t v, Tryd.f8.params[j]? = some t → args[j]? = some v → Value.okWide Tryd.prog W .any base t v := hval0
  have hW' := hW
  obtain ⟨p, q, hA0, hV, rfl, hfz, hnd⟩ := hW
  have hA : DataW.TrodAll enc Tryd.prog W 0 (fun _ => true) true Tryd.f8.params.toList args.toList ds p := hA0
  rw [Tryd.params8] at hA hval
  obtain ⟨v0, v1, d0, d1, p0, p1, rfl, rfl, rfl, h0, h1⟩ := trodAll_two hA
  obtain ⟨rfl, rfl⟩ := trodVars_none hV
  obtain ⟨a0, rfl, rfl, rfl, wf0⟩ := open_int Tryd.underlying3 (hval 0 3 v0 rfl rfl) h0
  have bd0 := bounds_i64 wf0
  obtain ⟨a1, rfl, rfl, rfl, wf1⟩ := open_int Tryd.underlying3 (hval 1 3 v1 rfl rfl) h1
  have bd1 := bounds_i64 wf1
  have hT := tab_of_laid hL
  clear hA0 hval0
  simp only [List.append_nil] at hW'
  refine (walk a0 a1 W bd0.1 bd0.2 bd1.1 bd1.2 hT).mono fun e W' ⟨he, hb⟩ => ?_
  subst he
  refine ⟨_, rfl, _, _, _, [], [], [], hW', ?_, ?_, rfl, hb.frame _, fun h => by cases h⟩
  · exact trodAll_mk1 (shut_bool Tryd.underlying4 _)
  · exact trodAll_mk2 (shut_int Tryd.underlying3 wf0) (shut_int Tryd.underlying3 wf1)

theorem row_holds : Rows.NumRoundSaid :=
  OpenClaim.holds_of_wide 8 Tryd.f8 rfl rfl rfl rfl rfl rfl rfl ⟨rfl, rfl, rfl, rfl, rfl⟩ rfl rfl rfl rfl rfl (by kernel_rfl) Tryd.func8 (by kernel_rfl)
    (of_decide_eq_true (by kernel_rfl)) (by unfold Func.isWrapper; first | (rw [if_pos (by decide +kernel)]; kernel_rfl) | (rw [if_neg (by decide +kernel)]; exact ⟨rfl, rfl⟩))
    (fun os started H enc _ => lifted os started H enc)

end NumRound

theorem numRound_card_holds : Rows.NumRoundCardSaid :=
  Claim7.holds_tied_plain_at .later [] [.data, .data, .data] true (true, "5cef55edbf9d1764eda0ac3b89cd063984591cba7636e8854e6bcb3e6a6304ac") false
    NumRound.row_holds (fun _ h => by cases h) (by kernel_rfl) (fun _ h => by cases h) numRound_row_tie rfl ⟨rfl, rfl⟩ (by kernel_rfl) rfl
    (fun f fn hf hfn => by
      obtain rfl : f = 8 := Option.some.inj ((show Tryd.prog.funcNamed "millwright/millwrightlaw01.NumRound" = some 8 by kernel_rfl).symm.trans hf) |>.symm
      obtain rfl : fn = Tryd.f8 := (Option.some.inj (Tryd.func8.symm.trans hfn)).symm
      exact ⟨by kernel_rfl, fun j t ht => by
        rw [Tryd.params8] at ht
        have hm : t ∈ [3, 3] := by simpa using Array.mem_of_getElem? ht
        have hall : ([3, 3].all fun u => !Tryd.prog.wantsStandIn u) = true := by kernel_rfl
        exact (show Tryd.prog.wantsStandIn t = false by simpa using List.all_eq_true.1 hall t hm)⟩)
    (by kernel_rfl)
#print axioms numRound_card_holds
end Go.Proofs.YtamikhffclbbcaaDoor
