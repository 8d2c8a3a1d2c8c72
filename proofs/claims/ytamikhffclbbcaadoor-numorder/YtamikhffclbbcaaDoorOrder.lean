/-
  The statement NumOrder of package millwrightlaw01 is proved, as the tied card that is given: for every input the call returns true, and each argument reads afterwards as it read before. Conditions: the three tables of the library that the row lists start as their own initialisers lay them (the card ties them to the program).
-/
import Derived.Test.YtamikhffclbbcaaDoorFrame
import Derived.Test.YtamikhffclbbcaaDoorTie
import Derived.Test.YtamikhffclbbcaaDoorCards
import Derived.SevenTiedAt
namespace Go.Proofs.YtamikhffclbbcaaDoor
namespace NumOrder
open Go Go.ChangeShapes Go.WideShapes Go.ChangeAt Go.WideMaps Go.WideElems Go.RowKit
open Go.ChangeMaps (open_string shut_string)

set_option maxHeartbeats 4000000 in
theorem walk (a : Int) (b : Int) (c : Int) (w : World) (a0 : -9223372036854775808 ≤ a) (a1 : a ≤ 9223372036854775807) (b0 : -9223372036854775808 ≤ b) (b1 : b ≤ 9223372036854775807) (c0 : -9223372036854775808 ≤ c) (c1 : c ≤ 9223372036854775807) (hT : Tab w) :
    Calls Tryd.prog 12 #[.int .i64 a, .int .i64 b, .int .i64 c] w fun e w' => e = .returned (.bool true) ∧ Below w.heap.size w w' := by
  have k1 := fun W => add_any a c W a0 a1 c0 c1
  have k2 := fun W => add_any b c W b0 b1 c0 c1
  have k3 := fun W => sub_any a c W a0 a1 c0 c1
  have k4 := fun W => sub_any b c W b0 b1 c0 c1
  have k5 := fun W => sub_any c a W c0 c1 a0 a1
  have k6 := fun W => sub_any c b W c0 c1 b0 b1
  by_cases hab : a < b
  · have t1 : inI (a + c) = false ∨ (inI (a + c) = true ∧ inI (b + c) = false) ∨ (inI (a + c) = true ∧ inI (b + c) = true ∧ cutI (a + c) < cutI (b + c)) := by
      cases h1 : inI (a + c) <;> cases h2 : inI (b + c) <;> simp
      rw [cutI_in h1, cutI_in h2]; omega
    have t2 : inI (a - c) = false ∨ (inI (a - c) = true ∧ inI (b - c) = false) ∨ (inI (a - c) = true ∧ inI (b - c) = true ∧ cutI (a - c) < cutI (b - c)) := by
      cases h1 : inI (a - c) <;> cases h2 : inI (b - c) <;> simp
      rw [cutI_in h1, cutI_in h2]; omega
    have t3 : inI (c - a) = false ∨ (inI (c - a) = true ∧ inI (c - b) = false) ∨ (inI (c - a) = true ∧ inI (c - b) = true ∧ cutI (c - b) < cutI (c - a)) := by
      cases h1 : inI (c - a) <;> cases h2 : inI (c - b) <;> simp
      rw [cutI_in h1, cutI_in h2]; omega
    clear a0 a1 b0 b1 c0 c1
    generalize cutI (a + c) = x1 at *
    generalize cutI (b + c) = x2 at *
    generalize cutI (a - c) = x3 at *
    generalize cutI (b - c) = x4 at *
    generalize cutI (c - a) = x5 at *
    generalize cutI (c - b) = x6 at *
    generalize inI (a + c) = e1 at *
    generalize inI (b + c) = e2 at *
    generalize inI (a - c) = e3 at *
    generalize inI (b - c) = e4 at *
    generalize inI (c - a) = e5 at *
    generalize inI (c - b) = e6 at *
    rcases t1 with rfl | ⟨rfl, rfl⟩ | ⟨rfl, rfl, t1⟩ <;> rcases t2 with rfl | ⟨rfl, rfl⟩ | ⟨rfl, rfl, t2⟩ <;> rcases t3 with rfl | ⟨rfl, rfl⟩ | ⟨rfl, rfl, t3⟩
    all_goals
      go_enter Tryd.func12, Tryd.ntmps12
      go_wp2_with (go_at_call 13; refine (shown_any _ hT).mono ?_; rintro e W1 ⟨rfl, hb1⟩)
      go_wp2_with (go_at_call 14; refine (k1 _).mono ?_; rintro e W2 ⟨rfl, rfl⟩; refine Hid.out ?_)
      refine Lib.hid ?_
      go_wp2_with (go_at_call 14; refine (k2 _).mono ?_; rintro e W2 ⟨rfl, rfl⟩; refine Hid.out ?_)
      refine Lib.hid ?_
      go_wp2_with (go_at_call 16; refine (k3 _).mono ?_; rintro e W2 ⟨rfl, rfl⟩; refine Hid.out ?_)
      refine Lib.hid ?_
      go_wp2_with (go_at_call 16; refine (k4 _).mono ?_; rintro e W2 ⟨rfl, rfl⟩; refine Hid.out ?_)
      refine Lib.hid ?_
      go_wp2_with (go_at_call 16; refine (k5 _).mono ?_; rintro e W2 ⟨rfl, rfl⟩; refine Hid.out ?_)
      refine Lib.hid ?_
      go_wp2_with (go_at_call 16; refine (k6 _).mono ?_; rintro e W2 ⟨rfl, rfl⟩)
      go_ret
      exact ⟨rfl, hb1⟩

  · have hab2 : decide (a < b) = false := by simpa using hab
    have t1 : inI (a + c) = false ∨ (inI (a + c) = true ∧ inI (b + c) = false) ∨ (inI (a + c) = true ∧ inI (b + c) = true ∧ decide (cutI (a + c) < cutI (b + c)) = false) := by
      cases h1 : inI (a + c) <;> cases h2 : inI (b + c) <;> simp
      rw [cutI_in h1, cutI_in h2]; omega
    have t2 : inI (a - c) = false ∨ (inI (a - c) = true ∧ inI (b - c) = false) ∨ (inI (a - c) = true ∧ inI (b - c) = true ∧ decide (cutI (a - c) < cutI (b - c)) = false) := by
      cases h1 : inI (a - c) <;> cases h2 : inI (b - c) <;> simp
      rw [cutI_in h1, cutI_in h2]; omega
    have t3 : inI (c - a) = false ∨ (inI (c - a) = true ∧ inI (c - b) = false) ∨ (inI (c - a) = true ∧ inI (c - b) = true ∧ decide (cutI (c - b) < cutI (c - a)) = false) := by
      cases h1 : inI (c - a) <;> cases h2 : inI (c - b) <;> simp
      rw [cutI_in h1, cutI_in h2]; omega
    clear a0 a1 b0 b1 c0 c1
    generalize cutI (a + c) = x1 at *
    generalize cutI (b + c) = x2 at *
    generalize cutI (a - c) = x3 at *
    generalize cutI (b - c) = x4 at *
    generalize cutI (c - a) = x5 at *
    generalize cutI (c - b) = x6 at *
    generalize inI (a + c) = e1 at *
    generalize inI (b + c) = e2 at *
    generalize inI (a - c) = e3 at *
    generalize inI (b - c) = e4 at *
    generalize inI (c - a) = e5 at *
    generalize inI (c - b) = e6 at *
    rcases t1 with rfl | ⟨rfl, rfl⟩ | ⟨rfl, rfl, t1⟩ <;> rcases t2 with rfl | ⟨rfl, rfl⟩ | ⟨rfl, rfl, t2⟩ <;> rcases t3 with rfl | ⟨rfl, rfl⟩ | ⟨rfl, rfl, t3⟩
    all_goals
      go_enter Tryd.func12, Tryd.ntmps12
      go_wp2_with (go_at_call 13; refine (shown_any _ hT).mono ?_; rintro e W1 ⟨rfl, hb1⟩)
      go_wp2_with (go_at_call 14; refine (k1 _).mono ?_; rintro e W2 ⟨rfl, rfl⟩; refine Hid.out ?_)
      refine Lib.hid ?_
      go_wp2_with (go_at_call 14; refine (k2 _).mono ?_; rintro e W2 ⟨rfl, rfl⟩; refine Hid.out ?_)
      refine Lib.hid ?_
      go_wp2_with (go_at_call 16; refine (k3 _).mono ?_; rintro e W2 ⟨rfl, rfl⟩; refine Hid.out ?_)
      refine Lib.hid ?_
      go_wp2_with (go_at_call 16; refine (k4 _).mono ?_; rintro e W2 ⟨rfl, rfl⟩; refine Hid.out ?_)
      refine Lib.hid ?_
      go_wp2_with (go_at_call 16; refine (k5 _).mono ?_; rintro e W2 ⟨rfl, rfl⟩; refine Hid.out ?_)
      refine Lib.hid ?_
      go_wp2_with (go_at_call 16; refine (k6 _).mono ?_; rintro e W2 ⟨rfl, rfl⟩)
      go_ret
      exact ⟨rfl, hb1⟩



set_option maxRecDepth 100000 in
theorem lifted (os : Os) (started : os.Started) (H : Type) (enc : TypeId × Value → H) :
    ReturnsInHanded {} Tryd.checked os 12 .any (fun w args => (Rows.numOrderSpec.pre enc Tryd.prog Tryd.f12 [] false w args ∧ laidMetH Tryd.prog laid3 w) ∧ sizedMet enc Tryd.prog Tryd.f12 (OpenSpec.ofChange Rows.numOrderSpec) false w args)
      (Rows.numOrderSpec.post enc Tryd.prog Tryd.f12 false true false false) := by
  refine returnsInHanded_of_change_and (C := Tryd.checked) (X := fun w _ => laidMetH Tryd.prog laid3 w) (fun _ _ _ hh h => h.of_heap hh) own started (by kernel_rfl) Tryd.func12
    (ChangeSpec.witness_shaped (enc := enc) (C := Tryd.checked) (os := os) (X := fun w _ => laidMetH Tryd.prog laid3 w) false (World.doorLaid Tryd.prog 24 os) #[.int .i64 0, .int .i64 0, .int .i64 0] 8 rfl (World.shaped_of_RefB (by kernel_rfl) (by kernel_rfl)) (by kernel_rfl) (by kernel_rfl) (by kernel_rfl) (door_met os _)) ?_
  intro W base args ds gs before hval0 hW _ _ hL _
  have hval : ∀ (j : Nat) t v, Tryd.f12.params[j]? = some t → args[j]? = some v → Value.okWide Tryd.prog W .any base t v := hval0
  have hW' := hW
  obtain ⟨p, q, hA0, hV, rfl, hfz, hnd⟩ := hW
  have hA : DataW.TrodAll enc Tryd.prog W 0 (fun _ => true) true Tryd.f12.params.toList args.toList ds p := hA0
  rw [Tryd.params12] at hA hval
  obtain ⟨v0, v1, v2, d0, d1, d2, p0, p1, p2, rfl, rfl, rfl, h0, h1, h2⟩ := trodAll_three hA
  obtain ⟨rfl, rfl⟩ := trodVars_none hV
  obtain ⟨a0, rfl, rfl, rfl, wf0⟩ := open_int Tryd.underlying3 (hval 0 3 v0 rfl rfl) h0
  have bd0 := bounds_i64 wf0
  obtain ⟨a1, rfl, rfl, rfl, wf1⟩ := open_int Tryd.underlying3 (hval 1 3 v1 rfl rfl) h1
  have bd1 := bounds_i64 wf1
  obtain ⟨a2, rfl, rfl, rfl, wf2⟩ := open_int Tryd.underlying3 (hval 2 3 v2 rfl rfl) h2
  have bd2 := bounds_i64 wf2
  have hT := tab_of_laid hL
  clear hA0 hval0
  simp only [List.append_nil] at hW'
  refine (walk a0 a1 a2 W bd0.1 bd0.2 bd1.1 bd1.2 bd2.1 bd2.2 hT).mono fun e W' ⟨he, hb⟩ => ?_
  subst he
  refine ⟨_, rfl, _, _, _, [], [], [], hW', ?_, ?_, rfl, hb.frame _, fun h => by cases h⟩
  · exact trodAll_mk1 (shut_bool Tryd.underlying4 _)
  · exact trodAll_mk3 (shut_int Tryd.underlying3 wf0) (shut_int Tryd.underlying3 wf1) (shut_int Tryd.underlying3 wf2)

theorem row_holds : Rows.NumOrderSaid :=
  OpenClaim.holds_of_wide 12 Tryd.f12 rfl rfl rfl rfl rfl rfl rfl ⟨rfl, rfl, rfl, rfl, rfl⟩ rfl rfl rfl rfl rfl (by kernel_rfl) Tryd.func12 (by kernel_rfl)
    (of_decide_eq_true (by kernel_rfl)) (by unfold Func.isWrapper; first | (rw [if_pos (by decide +kernel)]; kernel_rfl) | (rw [if_neg (by decide +kernel)]; exact ⟨rfl, rfl⟩))
    (fun os started H enc _ => lifted os started H enc)

end NumOrder

theorem numOrder_card_holds : Rows.NumOrderCardSaid :=
  Claim7.holds_tied_plain_at .later [] [.data, .data, .data] true (true, "5cef55edbf9d1764eda0ac3b89cd063984591cba7636e8854e6bcb3e6a6304ac") false
    NumOrder.row_holds (fun _ h => by cases h) (by kernel_rfl) (fun _ h => by cases h) numOrder_row_tie rfl ⟨rfl, rfl⟩ (by kernel_rfl) rfl
    (fun f fn hf hfn => by
      obtain rfl : f = 12 := Option.some.inj ((show Tryd.prog.funcNamed "millwright/millwrightlaw01.NumOrder" = some 12 by kernel_rfl).symm.trans hf) |>.symm
      obtain rfl : fn = Tryd.f12 := (Option.some.inj (Tryd.func12.symm.trans hfn)).symm
      exact ⟨by kernel_rfl, fun j t ht => by
        rw [Tryd.params12] at ht
        have hm : t ∈ [3, 3, 3] := by simpa using Array.mem_of_getElem? ht
        have hall : ([3, 3, 3].all fun u => !Tryd.prog.wantsStandIn u) = true := by kernel_rfl
        exact (show Tryd.prog.wantsStandIn t = false by simpa using List.all_eq_true.1 hall t hm)⟩)
    (by kernel_rfl)
#print axioms numOrder_card_holds
end Go.Proofs.YtamikhffclbbcaaDoor
