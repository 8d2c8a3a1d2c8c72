/-
  The statement NumShares of package millwrightlaw01 is proved, as the tied card that is given: for every input the call returns true, and each argument reads afterwards as it read before. Conditions: the three tables of the library that the row lists start as their own initialisers lay them (the card ties them to the program).
-/
import Derived.Test.YtamikhffclbbcaaDoorFrame
import Derived.Test.YtamikhffclbbcaaDoorTie
import Derived.Test.YtamikhffclbbcaaDoorCards
import Derived.SevenTiedAt
namespace Go.Proofs.YtamikhffclbbcaaDoor
namespace NumShares
open Go Go.ChangeShapes Go.WideShapes Go.ChangeAt Go.WideMaps Go.WideElems Go.RowKit
open Go.ChangeMaps (open_string shut_string)
set_option linter.unusedVariables false

theorem mul_small (x y p q : Int) (hx0 : -p ≤ x) (hx1 : x ≤ p) (hy0 : -q ≤ y) (hy1 : y ≤ q) : -(p * q) ≤ x * y ∧ x * y ≤ p * q := by
  have h : (x * y).natAbs ≤ (p * q).natAbs := by
    rw [Int.natAbs_mul, Int.natAbs_mul]
    exact Nat.mul_le_mul (by omega) (by omega)
  have : 0 ≤ p * q := Int.mul_nonneg (by omega) (by omega)
  omega

theorem tmod_bd (a : Int) : -1073741823 ≤ a.tmod 1073741824 ∧ a.tmod 1073741824 ≤ 1073741823 := by
  have : (a.tmod 1073741824).natAbs = a.natAbs % 1073741824 := by rw [Int.natAbs_tmod]; rfl
  omega

set_option maxHeartbeats 4000000 in
theorem walk (a : Int) (b : Int) (c : Int) (w : World) (a0 : -9223372036854775808 ≤ a) (a1 : a ≤ 9223372036854775807) (b0 : -9223372036854775808 ≤ b) (b1 : b ≤ 9223372036854775807) (c0 : -9223372036854775808 ≤ c) (c1 : c ≤ 9223372036854775807) (hT : Tab w) :
    Calls Tryd.prog 9 #[.int .i64 a, .int .i64 b, .int .i64 c] w fun e w' => e = .returned (.bool true) ∧ Below w.heap.size w w' := by
  have ha := tmod_bd a
  have hb := tmod_bd b
  have hc := tmod_bd c
  obtain ⟨x, hx⟩ : ∃ x, x = a.tmod 1073741824 := ⟨_, rfl⟩
  obtain ⟨y, hy⟩ : ∃ y, y = b.tmod 1073741824 := ⟨_, rfl⟩
  obtain ⟨z, hz⟩ : ∃ z, z = c.tmod 1073741824 := ⟨_, rfl⟩
  rw [← hx] at ha
  rw [← hy] at hb
  rw [← hz] at hc
  have p1 := mul_small (x + y) z 2147483646 1073741823 (by omega) (by omega) (by omega) (by omega)
  have p2 := mul_small x z 1073741823 1073741823 (by omega) (by omega) (by omega) (by omega)
  have p3 := mul_small y z 1073741823 1073741823 (by omega) (by omega) (by omega) (by omega)
  have k1 : ∀ W, Calls Tryd.prog 14 #[.int .i64 x, .int .i64 y] W fun e w' => e = .returned (.tuple #[.int .i64 (x + y), .bool true]) ∧ w' = W := fun W => by
    have := add_any x y W (by omega) (by omega) (by omega) (by omega)
    have h : inI (x + y) = true := by rw [inI_iff]; omega
    rwa [cutI_in h, h] at this
  have k2 : ∀ W, Calls Tryd.prog 18 #[.int .i64 (x + y), .int .i64 z] W fun e w' => e = .returned (.tuple #[.int .i64 ((x + y) * z), .bool true]) ∧ w' = W := fun W => by
    have := mul_any (x + y) z W (by omega) (by omega) (by omega) (by omega)
    have h : inI ((x + y) * z) = true := by rw [inI_iff]; omega
    rwa [cutI_in h, h] at this
  have k3 : ∀ W, Calls Tryd.prog 18 #[.int .i64 x, .int .i64 z] W fun e w' => e = .returned (.tuple #[.int .i64 (x * z), .bool true]) ∧ w' = W := fun W => by
    have := mul_any x z W (by omega) (by omega) (by omega) (by omega)
    have h : inI (x * z) = true := by rw [inI_iff]; omega
    rwa [cutI_in h, h] at this
  have k4 : ∀ W, Calls Tryd.prog 18 #[.int .i64 y, .int .i64 z] W fun e w' => e = .returned (.tuple #[.int .i64 (y * z), .bool true]) ∧ w' = W := fun W => by
    have := mul_any y z W (by omega) (by omega) (by omega) (by omega)
    have h : inI (y * z) = true := by rw [inI_iff]; omega
    rwa [cutI_in h, h] at this
  have k5 : ∀ W, Calls Tryd.prog 14 #[.int .i64 (x * z), .int .i64 (y * z)] W fun e w' => e = .returned (.tuple #[.int .i64 ((x + y) * z), .bool true]) ∧ w' = W := fun W => by
    have := add_any (x * z) (y * z) W (by omega) (by omega) (by omega) (by omega)
    have h : inI (x * z + y * z) = true := by rw [inI_iff]; omega
    rw [cutI_in h, h] at this
    rwa [← Int.add_mul] at this
  clear p1 p2 p3
  generalize (x + y) * z = s at *
  generalize x * z = p at *
  generalize y * z = q at *
  generalize x + y = t at *
  subst hx hy hz
  clear ha hb hc
  go_enter Tryd.func9, Tryd.ntmps9
  go_wp2_with (go_at_call 13; refine (shown_any _ hT).mono ?_; rintro e W1 ⟨rfl, hb1⟩; refine Hid.out ?_)
  refine Lib.hid ?_
  go_wp2_with (go_at_call 14; refine (k1 _).mono ?_; rintro e W2 ⟨rfl, rfl⟩; refine Hid.out ?_)
  refine Lib.hid ?_
  go_wp2_with (go_at_call 18; refine (k2 _).mono ?_; rintro e W2 ⟨rfl, rfl⟩; refine Hid.out ?_)
  refine Lib.hid ?_
  go_wp2_with (go_at_call 18; refine (k3 _).mono ?_; rintro e W2 ⟨rfl, rfl⟩; refine Hid.out ?_)
  refine Lib.hid ?_
  go_wp2_with (go_at_call 18; refine (k4 _).mono ?_; rintro e W2 ⟨rfl, rfl⟩; refine Hid.out ?_)
  refine Lib.hid ?_
  go_wp2_with (go_at_call 14; refine (k5 _).mono ?_; rintro e W2 ⟨rfl, rfl⟩)
  go_ret
  exact ⟨rfl, hb1⟩



set_option maxRecDepth 100000 in
theorem lifted (os : Os) (started : os.Started) (H : Type) (enc : TypeId × Value → H) :
    ReturnsInHanded {} Tryd.checked os 9 .any (fun w args => (Rows.numSharesSpec.pre enc Tryd.prog Tryd.f9 [] false w args ∧ laidMetH Tryd.prog laid3 w) ∧ sizedMet enc Tryd.prog Tryd.f9 (OpenSpec.ofChange Rows.numSharesSpec) false w args)
      (Rows.numSharesSpec.post enc Tryd.prog Tryd.f9 false true false false) := by
  refine returnsInHanded_of_change_and (C := Tryd.checked) (X := fun w _ => laidMetH Tryd.prog laid3 w) (fun _ _ _ hh h => h.of_heap hh) own started (by kernel_rfl) Tryd.func9
    (ChangeSpec.witness_shaped (enc := enc) (C := Tryd.checked) (os := os) (X := fun w _ => laidMetH Tryd.prog laid3 w) false (World.doorLaid Tryd.prog 24 os) #[.int .i64 0, .int .i64 0, .int .i64 0] 8 rfl (World.shaped_of_RefB (by kernel_rfl) (by kernel_rfl)) (by kernel_rfl) (by kernel_rfl) (by kernel_rfl) (door_met os _)) ?_
  intro W base args ds gs before hval0 hW _ _ hL _
  have hval : ∀ (j : Nat) t v, Tryd.f9.params[j]? = some t → args[j]? = some v → Value.okWide Tryd.prog W .any base t v := hval0
  have hW' := hW
  obtain ⟨p, q, hA0, hV, rfl, hfz, hnd⟩ := hW
  have hA : DataW.TrodAll enc Tryd.prog W 0 (fun _ => true) true Tryd.f9.params.toList args.toList ds p := hA0
  rw [Tryd.params9] at hA hval
  obtain ⟨v0, v1, v2, d0, d1, d2, p0, p1, p2, rfl, rfl, rfl, h0, h1, h2⟩ := trodAll_three hA
  obtain ⟨rfl, rfl⟩ := trodVars_none hV
  obtain ⟨a0, rfl, rfl, rfl, wf0⟩ := open_int Tryd.underlying3 (hval 0 3 v0 rfl rfl) h0
  have bd0 := bounds_i64 wf0
  obtain ⟨a1, rfl, rfl, rfl, wf1⟩ := open_int Tryd.underlying3 (hval 1 3 v1 rfl rfl) h1
  have bd1 := bounds_i64 wf1
  obtain ⟨a2, rfl, rfl, rfl, wf2⟩ := open_int Tryd.underlying3 (hval 2 3 v2 rfl rfl) h2
  have bd2 := bounds_i64 wf2
  have hT := tab_of_laid hL
  clear hA0 hval0
  simp only [List.append_nil] at hW'
  refine (walk a0 a1 a2 W bd0.1 bd0.2 bd1.1 bd1.2 bd2.1 bd2.2 hT).mono fun e W' ⟨he, hb⟩ => ?_
  subst he
  refine ⟨_, rfl, _, _, _, [], [], [], hW', ?_, ?_, rfl, hb.frame _, fun h => by cases h⟩
  · exact trodAll_mk1 (shut_bool Tryd.underlying4 _)
  · exact trodAll_mk3 (shut_int Tryd.underlying3 wf0) (shut_int Tryd.underlying3 wf1) (shut_int Tryd.underlying3 wf2)

theorem row_holds : Rows.NumSharesSaid :=
  OpenClaim.holds_of_wide 9 Tryd.f9 rfl rfl rfl rfl rfl rfl rfl ⟨rfl, rfl, rfl, rfl, rfl⟩ rfl rfl rfl rfl rfl (by kernel_rfl) Tryd.func9 (by kernel_rfl)
    (of_decide_eq_true (by kernel_rfl)) (by unfold Func.isWrapper; first | (rw [if_pos (by decide +kernel)]; kernel_rfl) | (rw [if_neg (by decide +kernel)]; exact ⟨rfl, rfl⟩))
    (fun os started H enc _ => lifted os started H enc)

end NumShares

theorem numShares_card_holds : Rows.NumSharesCardSaid :=
  Claim7.holds_tied_plain_at .later [] [.data, .data, .data] true (true, "5cef55edbf9d1764eda0ac3b89cd063984591cba7636e8854e6bcb3e6a6304ac") false
    NumShares.row_holds (fun _ h => by cases h) (by kernel_rfl) (fun _ h => by cases h) numShares_row_tie rfl ⟨rfl, rfl⟩ (by kernel_rfl) rfl
    (fun f fn hf hfn => by
      obtain rfl : f = 9 := Option.some.inj ((show Tryd.prog.funcNamed "millwright/millwrightlaw01.NumShares" = some 9 by kernel_rfl).symm.trans hf) |>.symm
      obtain rfl : fn = Tryd.f9 := (Option.some.inj (Tryd.func9.symm.trans hfn)).symm
      exact ⟨by kernel_rfl, fun j t ht => by
        rw [Tryd.params9] at ht
        have hm : t ∈ [3, 3, 3] := by simpa using Array.mem_of_getElem? ht
        have hall : ([3, 3, 3].all fun u => !Tryd.prog.wantsStandIn u) = true := by kernel_rfl
        exact (show Tryd.prog.wantsStandIn t = false by simpa using List.all_eq_true.1 hall t hm)⟩)
    (by kernel_rfl)
#print axioms numShares_card_holds
end Go.Proofs.YtamikhffclbbcaaDoor
