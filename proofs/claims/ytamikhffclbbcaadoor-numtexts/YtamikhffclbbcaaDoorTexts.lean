/-
  The statement NumTexts of package millwrightlaw01 is proved, as the tied card that is given: for every input the call returns true, and each argument reads afterwards as it read before. Conditions: the three tables of the library that the row lists start as their own initialisers lay them (the card ties them to the program).
-/
import Derived.Test.YtamikhffclbbcaaDoorFrame
import Derived.Test.YtamikhffclbbcaaDoorTie
import Derived.Test.YtamikhffclbbcaaDoorCards
import Derived.SevenTiedAt
import Derived.Test.YtamikhffclbbcaaDoorText
import Derived.Test.YtamikhffclbbcaaDoorNumerals2
namespace Go.Proofs.YtamikhffclbbcaaDoor
namespace NumTexts
open Go Go.ChangeShapes Go.WideShapes Go.ChangeAt Go.WideMaps Go.WideElems Go.RowKit
open Go.ChangeMaps (open_string shut_string)
set_option linter.unusedVariables false

theorem cut50 (s : ByteArray) : (s.extract 0 (min (s.size : Int) 50).toNat).size ≤ 50 := by
  rw [ByteArray.size_extract]; omega

set_option maxHeartbeats 4000000 in
theorem walk (n : Int) (s : ByteArray) (w : World) (n0 : -9223372036854775808 ≤ n) (n1 : n ≤ 9223372036854775807) (s0 : s.size ≤ maxLen) (hT : Tab w) :
    Calls Tryd.prog 6 #[.int .i64 n, .string s] w fun e w' => e = .returned (.bool true) ∧ Below w.heap.size w w' := by
  have hlen := Lib.itoa_length_le n n0 n1
  have k1 : ∀ W, Tab W → Calls Tryd.prog 22 #[.int .i64 n] W fun e w' => e = .returned (.string ⟨(Lib.itoa n).toArray⟩) ∧ Below W.heap.size W w' := fun W hT => text_any n n0 n1 W hT
  have k2 : ∀ W, Calls Tryd.prog 20 #[.string ⟨(Lib.itoa n).toArray⟩] W fun e w' => e = .returned (.tuple #[.int .i64 (pV (Lib.itoa n)), .int .i64 (pE (Lib.itoa n))]) ∧ Below W.heap.size W w' := fun W =>
    parse_any ⟨(Lib.itoa n).toArray⟩ (by show (Lib.itoa n).toArray.size ≤ 1000; simp; omega) W
  have k3 : 0 ≤ n → ∀ W, Calls Tryd.prog 23 #[.int .i64 n] W fun e w' => e = .returned (.string ⟨(Lib.itoa n).toArray⟩) ∧ Below W.heap.size W w' := fun h W => by
    have := refText_any n h n1 W
    rwa [show Lib.decDigits n.toNat = Lib.itoa n by rw [Lib.itoa, if_neg (by omega)]] at this
  have k4 := fun W => parse_any (s.extract 0 (min (s.size : Int) 50).toNat) (by have := cut50 s; omega) W
  have k5 : pE (s.extract 0 (min (s.size : Int) 50).toNat).data.toList = 0 → ∀ W, Tab W → Calls Tryd.prog 22 #[.int .i64 (pV (s.extract 0 (min (s.size : Int) 50).toNat).data.toList)] W fun e w' => e = .returned (.string (s.extract 0 (min (s.size : Int) 50).toNat)) ∧ Below W.heap.size W w' := fun h W hT => by
    obtain ⟨r1, r2, r3⟩ := read_back h
    have := text_any (pV (s.extract 0 (min (s.size : Int) 50).toNat).data.toList) (by omega) (by omega) W hT
    rw [r1] at this
    exact this
  have hE := pE_cases (s.extract 0 (min (s.size : Int) 50).toNat).data.toList
  have hz : n < 0 → ∃ h : 0 < (⟨(Lib.itoa n).toArray⟩ : ByteArray).size, (((⟨(Lib.itoa n).toArray⟩ : ByteArray)[0]'h).toNat : Int) = 45 := fun h => by
    have e : Lib.itoa n = 45 :: Lib.decDigits n.natAbs := by rw [Lib.itoa, if_pos h]
    rw [e]
    exact ⟨by show 0 < (45 :: Lib.decDigits n.natAbs).toArray.size; simp, rfl⟩
  have q1 := itoa_neg_E n
  have q2 := itoa_ok n
  have q3 := itoa_large n
  generalize (⟨(Lib.itoa n).toArray⟩ : ByteArray) = t at *
  generalize pV (Lib.itoa n) = V at *
  generalize pE (Lib.itoa n) = E at *
  generalize pV (s.extract 0 (min (s.size : Int) 50).toNat).data.toList = K at *
  generalize pE (s.extract 0 (min (s.size : Int) 50).toNat).data.toList = F at *
  clear hlen
  by_cases hn : n < 0
  · obtain ⟨rfl, rfl⟩ := q1 hn
    obtain ⟨z0, z1⟩ := hz hn
    have hn2 : ¬ 1048576 < n := by omega
    have hn3 : ¬ 0 ≤ n := by omega
    clear q1 q2 q3 hz k3
    rcases hE with rfl | rfl | rfl
    · replace k5 := k5 rfl
      go_enter Tryd.func6, Tryd.ntmps6
      go_wp2_with (go_at_call 13; refine (shown_any _ hT).mono ?_; rintro e W1 ⟨rfl, hb1⟩; refine Hid.out ?_)
      refine Lib.hid ?_
      go_wp2_with (go_at_call 22; refine (k1 _ (tab_on hT hb1)).mono ?_; rintro e W2 ⟨rfl, hb2⟩; refine Hid.out ?_)
      refine Lib.hid ?_
      go_wp2_with (go_at_call 20; refine (k2 _).mono ?_; rintro e W3 ⟨rfl, hb3⟩; refine Hid.out ?_)
      refine Lib.hid ?_
      have hB3 := (hb1.trans (hb2.mono hb1.size)).trans (hb3.mono (Nat.le_trans hb1.size hb2.size))
      clear hb2 hb3
      go_wp2_with (go_at_call 20; refine (k4 _).mono ?_; rintro e W5 ⟨rfl, hb5⟩; refine Hid.out ?_)
      refine Lib.hid ?_
      have hB5 := hB3.trans (hb5.mono hB3.size)
      clear hb5
      go_wp2_with (go_at_call 22; refine (k5 _ (tab_on hT hB5)).mono ?_; rintro e W6 ⟨rfl, hb6⟩)
      go_ret
      exact ⟨rfl, hB5.trans (hb6.mono hB5.size)⟩
    · clear k5
      go_enter Tryd.func6, Tryd.ntmps6
      go_wp2_with (go_at_call 13; refine (shown_any _ hT).mono ?_; rintro e W1 ⟨rfl, hb1⟩; refine Hid.out ?_)
      refine Lib.hid ?_
      go_wp2_with (go_at_call 22; refine (k1 _ (tab_on hT hb1)).mono ?_; rintro e W2 ⟨rfl, hb2⟩; refine Hid.out ?_)
      refine Lib.hid ?_
      go_wp2_with (go_at_call 20; refine (k2 _).mono ?_; rintro e W3 ⟨rfl, hb3⟩; refine Hid.out ?_)
      refine Lib.hid ?_
      have hB3 := (hb1.trans (hb2.mono hb1.size)).trans (hb3.mono (Nat.le_trans hb1.size hb2.size))
      clear hb2 hb3
      go_wp2_with (go_at_call 20; refine (k4 _).mono ?_; rintro e W5 ⟨rfl, hb5⟩; refine Hid.out ?_)
      refine Lib.hid ?_
      have hB5 := hB3.trans (hb5.mono hB3.size)
      clear hb5
      go_wp2
      go_ret
      exact ⟨rfl, hB5⟩
    · clear k5
      go_enter Tryd.func6, Tryd.ntmps6
      go_wp2_with (go_at_call 13; refine (shown_any _ hT).mono ?_; rintro e W1 ⟨rfl, hb1⟩; refine Hid.out ?_)
      refine Lib.hid ?_
      go_wp2_with (go_at_call 22; refine (k1 _ (tab_on hT hb1)).mono ?_; rintro e W2 ⟨rfl, hb2⟩; refine Hid.out ?_)
      refine Lib.hid ?_
      go_wp2_with (go_at_call 20; refine (k2 _).mono ?_; rintro e W3 ⟨rfl, hb3⟩; refine Hid.out ?_)
      refine Lib.hid ?_
      have hB3 := (hb1.trans (hb2.mono hb1.size)).trans (hb3.mono (Nat.le_trans hb1.size hb2.size))
      clear hb2 hb3
      go_wp2_with (go_at_call 20; refine (k4 _).mono ?_; rintro e W5 ⟨rfl, hb5⟩; refine Hid.out ?_)
      refine Lib.hid ?_
      have hB5 := hB3.trans (hb5.mono hB3.size)
      clear hb5
      go_wp2
      go_ret
      exact ⟨rfl, hB5⟩
  · have hn0 : 0 ≤ n := by omega
    replace k3 := k3 hn0
    clear q1 hz
    by_cases hm : n ≤ 1048576
    · obtain ⟨rfl, hV⟩ := q2 hn0 hm
      subst hV
      have hn2 : ¬ 1048576 < V := by omega
      clear q2 q3
      rcases hE with rfl | rfl | rfl
      · replace k5 := k5 rfl
        go_enter Tryd.func6, Tryd.ntmps6
        go_wp2_with (go_at_call 13; refine (shown_any _ hT).mono ?_; rintro e W1 ⟨rfl, hb1⟩; refine Hid.out ?_)
        refine Lib.hid ?_
        go_wp2_with (go_at_call 22; refine (k1 _ (tab_on hT hb1)).mono ?_; rintro e W2 ⟨rfl, hb2⟩; refine Hid.out ?_)
        refine Lib.hid ?_
        go_wp2_with (go_at_call 20; refine (k2 _).mono ?_; rintro e W3 ⟨rfl, hb3⟩; refine Hid.out ?_)
        refine Lib.hid ?_
        have hB3 := (hb1.trans (hb2.mono hb1.size)).trans (hb3.mono (Nat.le_trans hb1.size hb2.size))
        clear hb2 hb3
        go_wp2_with (go_at_call 23; refine (k3 _).mono ?_; rintro e W4 ⟨rfl, hb4⟩; refine Hid.out ?_)
        refine Lib.hid ?_
        have hB4 := hB3.trans (hb4.mono hB3.size)
        clear hb4
        go_wp2_with (go_at_call 20; refine (k4 _).mono ?_; rintro e W5 ⟨rfl, hb5⟩; refine Hid.out ?_)
        refine Lib.hid ?_
        have hB5 := hB4.trans (hb5.mono hB4.size)
        clear hb5
        go_wp2_with (go_at_call 22; refine (k5 _ (tab_on hT hB5)).mono ?_; rintro e W6 ⟨rfl, hb6⟩)
        go_ret
        exact ⟨rfl, hB5.trans (hb6.mono hB5.size)⟩
      · clear k5
        go_enter Tryd.func6, Tryd.ntmps6
        go_wp2_with (go_at_call 13; refine (shown_any _ hT).mono ?_; rintro e W1 ⟨rfl, hb1⟩; refine Hid.out ?_)
        refine Lib.hid ?_
        go_wp2_with (go_at_call 22; refine (k1 _ (tab_on hT hb1)).mono ?_; rintro e W2 ⟨rfl, hb2⟩; refine Hid.out ?_)
        refine Lib.hid ?_
        go_wp2_with (go_at_call 20; refine (k2 _).mono ?_; rintro e W3 ⟨rfl, hb3⟩; refine Hid.out ?_)
        refine Lib.hid ?_
        have hB3 := (hb1.trans (hb2.mono hb1.size)).trans (hb3.mono (Nat.le_trans hb1.size hb2.size))
        clear hb2 hb3
        go_wp2_with (go_at_call 23; refine (k3 _).mono ?_; rintro e W4 ⟨rfl, hb4⟩; refine Hid.out ?_)
        refine Lib.hid ?_
        have hB4 := hB3.trans (hb4.mono hB3.size)
        clear hb4
        go_wp2_with (go_at_call 20; refine (k4 _).mono ?_; rintro e W5 ⟨rfl, hb5⟩; refine Hid.out ?_)
        refine Lib.hid ?_
        have hB5 := hB4.trans (hb5.mono hB4.size)
        clear hb5
        go_wp2
        go_ret
        exact ⟨rfl, hB5⟩
      · clear k5
        go_enter Tryd.func6, Tryd.ntmps6
        go_wp2_with (go_at_call 13; refine (shown_any _ hT).mono ?_; rintro e W1 ⟨rfl, hb1⟩; refine Hid.out ?_)
        refine Lib.hid ?_
        go_wp2_with (go_at_call 22; refine (k1 _ (tab_on hT hb1)).mono ?_; rintro e W2 ⟨rfl, hb2⟩; refine Hid.out ?_)
        refine Lib.hid ?_
        go_wp2_with (go_at_call 20; refine (k2 _).mono ?_; rintro e W3 ⟨rfl, hb3⟩; refine Hid.out ?_)
        refine Lib.hid ?_
        have hB3 := (hb1.trans (hb2.mono hb1.size)).trans (hb3.mono (Nat.le_trans hb1.size hb2.size))
        clear hb2 hb3
        go_wp2_with (go_at_call 23; refine (k3 _).mono ?_; rintro e W4 ⟨rfl, hb4⟩; refine Hid.out ?_)
        refine Lib.hid ?_
        have hB4 := hB3.trans (hb4.mono hB3.size)
        clear hb4
        go_wp2_with (go_at_call 20; refine (k4 _).mono ?_; rintro e W5 ⟨rfl, hb5⟩; refine Hid.out ?_)
        refine Lib.hid ?_
        have hB5 := hB4.trans (hb5.mono hB4.size)
        clear hb5
        go_wp2
        go_ret
        exact ⟨rfl, hB5⟩
    · have hn2 : 1048576 < n := by omega
      obtain ⟨rfl, rfl⟩ := q3 hn2
      clear q2 q3
      rcases hE with rfl | rfl | rfl
      · replace k5 := k5 rfl
        go_enter Tryd.func6, Tryd.ntmps6
        go_wp2_with (go_at_call 13; refine (shown_any _ hT).mono ?_; rintro e W1 ⟨rfl, hb1⟩; refine Hid.out ?_)
        refine Lib.hid ?_
        go_wp2_with (go_at_call 22; refine (k1 _ (tab_on hT hb1)).mono ?_; rintro e W2 ⟨rfl, hb2⟩; refine Hid.out ?_)
        refine Lib.hid ?_
        go_wp2_with (go_at_call 20; refine (k2 _).mono ?_; rintro e W3 ⟨rfl, hb3⟩; refine Hid.out ?_)
        refine Lib.hid ?_
        have hB3 := (hb1.trans (hb2.mono hb1.size)).trans (hb3.mono (Nat.le_trans hb1.size hb2.size))
        clear hb2 hb3
        go_wp2_with (go_at_call 23; refine (k3 _).mono ?_; rintro e W4 ⟨rfl, hb4⟩; refine Hid.out ?_)
        refine Lib.hid ?_
        have hB4 := hB3.trans (hb4.mono hB3.size)
        clear hb4
        go_wp2_with (go_at_call 20; refine (k4 _).mono ?_; rintro e W5 ⟨rfl, hb5⟩; refine Hid.out ?_)
        refine Lib.hid ?_
        have hB5 := hB4.trans (hb5.mono hB4.size)
        clear hb5
        go_wp2_with (go_at_call 22; refine (k5 _ (tab_on hT hB5)).mono ?_; rintro e W6 ⟨rfl, hb6⟩)
        go_ret
        exact ⟨rfl, hB5.trans (hb6.mono hB5.size)⟩
      · clear k5
        go_enter Tryd.func6, Tryd.ntmps6
        go_wp2_with (go_at_call 13; refine (shown_any _ hT).mono ?_; rintro e W1 ⟨rfl, hb1⟩; refine Hid.out ?_)
        refine Lib.hid ?_
        go_wp2_with (go_at_call 22; refine (k1 _ (tab_on hT hb1)).mono ?_; rintro e W2 ⟨rfl, hb2⟩; refine Hid.out ?_)
        refine Lib.hid ?_
        go_wp2_with (go_at_call 20; refine (k2 _).mono ?_; rintro e W3 ⟨rfl, hb3⟩; refine Hid.out ?_)
        refine Lib.hid ?_
        have hB3 := (hb1.trans (hb2.mono hb1.size)).trans (hb3.mono (Nat.le_trans hb1.size hb2.size))
        clear hb2 hb3
        go_wp2_with (go_at_call 23; refine (k3 _).mono ?_; rintro e W4 ⟨rfl, hb4⟩; refine Hid.out ?_)
        refine Lib.hid ?_
        have hB4 := hB3.trans (hb4.mono hB3.size)
        clear hb4
        go_wp2_with (go_at_call 20; refine (k4 _).mono ?_; rintro e W5 ⟨rfl, hb5⟩; refine Hid.out ?_)
        refine Lib.hid ?_
        have hB5 := hB4.trans (hb5.mono hB4.size)
        clear hb5
        go_wp2
        go_ret
        exact ⟨rfl, hB5⟩
      · clear k5
        go_enter Tryd.func6, Tryd.ntmps6
        go_wp2_with (go_at_call 13; refine (shown_any _ hT).mono ?_; rintro e W1 ⟨rfl, hb1⟩; refine Hid.out ?_)
        refine Lib.hid ?_
        go_wp2_with (go_at_call 22; refine (k1 _ (tab_on hT hb1)).mono ?_; rintro e W2 ⟨rfl, hb2⟩; refine Hid.out ?_)
        refine Lib.hid ?_
        go_wp2_with (go_at_call 20; refine (k2 _).mono ?_; rintro e W3 ⟨rfl, hb3⟩; refine Hid.out ?_)
        refine Lib.hid ?_
        have hB3 := (hb1.trans (hb2.mono hb1.size)).trans (hb3.mono (Nat.le_trans hb1.size hb2.size))
        clear hb2 hb3
        go_wp2_with (go_at_call 23; refine (k3 _).mono ?_; rintro e W4 ⟨rfl, hb4⟩; refine Hid.out ?_)
        refine Lib.hid ?_
        have hB4 := hB3.trans (hb4.mono hB3.size)
        clear hb4
        go_wp2_with (go_at_call 20; refine (k4 _).mono ?_; rintro e W5 ⟨rfl, hb5⟩; refine Hid.out ?_)
        refine Lib.hid ?_
        have hB5 := hB4.trans (hb5.mono hB4.size)
        clear hb5
        go_wp2
        go_ret
        exact ⟨rfl, hB5⟩



set_option maxRecDepth 100000 in
theorem lifted (os : Os) (started : os.Started) (H : Type) (enc : TypeId × Value → H) :
    ReturnsInHanded {} Tryd.checked os 6 .any (fun w args => (Rows.numTextsSpec.pre enc Tryd.prog Tryd.f6 [] false w args ∧ laidMetH Tryd.prog laid3 w) ∧ sizedMet enc Tryd.prog Tryd.f6 (OpenSpec.ofChange Rows.numTextsSpec) false w args)
      (Rows.numTextsSpec.post enc Tryd.prog Tryd.f6 false true false false) := by
  refine returnsInHanded_of_change_and (C := Tryd.checked) (X := fun w _ => laidMetH Tryd.prog laid3 w) (fun _ _ _ hh h => h.of_heap hh) own started (by kernel_rfl) Tryd.func6
    (ChangeSpec.witness_shaped (enc := enc) (C := Tryd.checked) (os := os) (X := fun w _ => laidMetH Tryd.prog laid3 w) false (World.doorLaid Tryd.prog 24 os) #[.int .i64 0, .string ⟨#[]⟩] 8 rfl (World.shaped_of_RefB (by kernel_rfl) (by kernel_rfl)) (by kernel_rfl) (by kernel_rfl) (by kernel_rfl) (door_met os _)) ?_
  intro W base args ds gs before hval0 hW _ _ hL _
  have hval : ∀ (j : Nat) t v, Tryd.f6.params[j]? = some t → args[j]? = some v → Value.okWide Tryd.prog W .any base t v := hval0
  have hW' := hW
  obtain ⟨p, q, hA0, hV, rfl, hfz, hnd⟩ := hW
  have hA : DataW.TrodAll enc Tryd.prog W 0 (fun _ => true) true Tryd.f6.params.toList args.toList ds p := hA0
  rw [Tryd.params6] at hA hval
  obtain ⟨v0, v1, d0, d1, p0, p1, rfl, rfl, rfl, h0, h1⟩ := trodAll_two hA
  obtain ⟨rfl, rfl⟩ := trodVars_none hV
  obtain ⟨a0, rfl, rfl, rfl, wf0⟩ := open_int Tryd.underlying3 (hval 0 3 v0 rfl rfl) h0
  have bd0 := bounds_i64 wf0
  obtain ⟨a1, rfl, rfl, rfl, ws1⟩ := open_string Tryd.underlying9 (hval 1 9 v1 rfl rfl) h1
  have hT := tab_of_laid hL
  clear hA0 hval0
  simp only [List.append_nil] at hW'
  refine (walk a0 a1 W bd0.1 bd0.2 ws1 hT).mono fun e W' ⟨he, hb⟩ => ?_
  subst he
  refine ⟨_, rfl, _, _, _, [], [], [], hW', ?_, ?_, rfl, hb.frame _, fun h => by cases h⟩
  · exact trodAll_mk1 (shut_bool Tryd.underlying4 _)
  · exact trodAll_mk2 (shut_int Tryd.underlying3 wf0) (shut_string Tryd.underlying9 ws1)

theorem row_holds : Rows.NumTextsSaid :=
  OpenClaim.holds_of_wide 6 Tryd.f6 rfl rfl rfl rfl rfl rfl rfl ⟨rfl, rfl, rfl, rfl, rfl⟩ rfl rfl rfl rfl rfl (by kernel_rfl) Tryd.func6 (by kernel_rfl)
    (of_decide_eq_true (by kernel_rfl)) (by unfold Func.isWrapper; first | (rw [if_pos (by decide +kernel)]; kernel_rfl) | (rw [if_neg (by decide +kernel)]; exact ⟨rfl, rfl⟩))
    (fun os started H enc _ => lifted os started H enc)

end NumTexts

theorem numTexts_card_holds : Rows.NumTextsCardSaid :=
  Claim7.holds_tied_plain_at .later [] [.data, .data, .data] true (true, "5cef55edbf9d1764eda0ac3b89cd063984591cba7636e8854e6bcb3e6a6304ac") false
    NumTexts.row_holds (fun _ h => by cases h) (by kernel_rfl) (fun _ h => by cases h) numTexts_row_tie rfl ⟨rfl, rfl⟩ (by kernel_rfl) rfl
    (fun f fn hf hfn => by
      obtain rfl : f = 6 := Option.some.inj ((show Tryd.prog.funcNamed "millwright/millwrightlaw01.NumTexts" = some 6 by kernel_rfl).symm.trans hf) |>.symm
      obtain rfl : fn = Tryd.f6 := (Option.some.inj (Tryd.func6.symm.trans hfn)).symm
      exact ⟨by kernel_rfl, fun j t ht => by
        rw [Tryd.params6] at ht
        have hm : t ∈ [3, 9] := by simpa using Array.mem_of_getElem? ht
        have hall : ([3, 9].all fun u => !Tryd.prog.wantsStandIn u) = true := by kernel_rfl
        exact (show Tryd.prog.wantsStandIn t = false by simpa using List.all_eq_true.1 hall t hm)⟩)
    (by kernel_rfl)
#print axioms numTexts_card_holds
end Go.Proofs.YtamikhffclbbcaaDoor
