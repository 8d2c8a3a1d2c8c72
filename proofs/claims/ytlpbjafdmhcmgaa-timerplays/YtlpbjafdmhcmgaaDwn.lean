/- down of the library. -/
import Derived.Test.YtlpbjafdmhcmgaaUpD
namespace Go.Proofs.Ytlpbjafdmhcmgaa
open Go.RowKit
open M
set_option linter.unusedVariables false
set_option linter.unusedSimpArgs false

theorem kid {k i : Nat} (h : 0 < k) (hp : par k = i) : k = 2 * i + 1 ∨ k = 2 * i + 2 := by unfold par at hp; omega

set_option maxRecDepth 1000000 in
set_option maxHeartbeats 4000000 in
theorem down_any {w : World} {g kb pb n m : Nat} {v : Value} {f : Nat → Nat} {K : Nat → Int} (h : HI w g kb pb n v m f K) {nn i0 : Nat} (hnn : nn ≤ m) (hi : i0 ≤ nn) (hm : m ≤ 65536) (hd : Dn K f nn i0 i0) :
    Calls Try.prog 37 #[ifc g, .int .i64 i0, .int .i64 nn] w fun e w' => ∃ mv f', e = .returned (.bool mv) ∧ HI w' g kb pb n v m f' K ∧ Rea f f' nn ∧ (mv = true → Ord K f' nn) ∧ (mv = false → Up K f' nn i0) ∧ Turn (Foot g kb pb v) w w' := by
  have n1 := meth_less
  have n2 := meth_swap
  have H0 := hide_it h
  have HD := hide_it hd
  clear h hd
  go_enter Try.func37, Try.ntmps37
  go_wp2
  go_loopw [7] (fun iv W => ∃ (i : Nat) (f' : Nat → Nat), iv = .int .i64 i ∧ i ≤ nn ∧ i0 ≤ i ∧ Hid (HI W g kb pb n v m f' K) ∧ Hid (Rea f f' nn) ∧ Hid (Dn K f' nn i i0) ∧ Hid (Turn (Foot g kb pb v) w W)) (fun iv _ => nn - (intOf iv).toNat)
  case atStart => exact ⟨i0, f, rfl, hi, Nat.le_refl _, H0, Rea.refl _ _, HD, Turn.refl _ _⟩
  case round =>
    clear H0 HD
    obtain ⟨i, f', rfl, hin, hi0, H, HR, HD, HT⟩ := hrel
    have KL : Hid (∀ (a b : Nat) (B : Bool) (W : World), a < nn → b < nn → ltB K (f' a) (f' b) = B → Below wr.heap.size wr W → Calls Try.prog 56 #[ptr g, .int .i64 a, .int .i64 b] W fun e w' => e = .returned (.bool B) ∧ Below W.heap.size W w') := fun a b B W ha hb hB hbl => by
      subst hB
      exact hi_less (H.out.below hbl) (by omega) (by omega)
    have KS : Hid (∀ (a b : Nat) (W : World), a < nn → b < nn → Below wr.heap.size wr W → Calls Try.prog 59 #[ptr g, .int .i64 a, .int .i64 b] W fun e w' => e = .returned (.tuple #[]) ∧ HI w' g kb pb n v m (sw f' a b) K ∧ Turn (Foot g kb pb v) W w') := fun a b W ha hb hbl => hi_swap (H.out.below hbl) (by omega) (by omega)
    obtain ⟨c1, hc1⟩ : ∃ c1, 2 * i + 1 = c1 := ⟨_, rfl⟩
    obtain ⟨c2, hc2⟩ : ∃ c2, 2 * i + 2 = c2 := ⟨_, rfl⟩
    have x1 : (2 : Int) * (i : Int) + 1 = (c1 : Int) := by omega
    have x2 : (c1 : Int) + 1 = (c2 : Int) := by omega
    have hic : i < c1 := by omega
    have hcc : c1 < c2 := by omega
    have hgt : decide ((i0 : Int) < (i : Int)) = decide (i0 < i) := by simp
    have HC1 := hide_it hc1
    have HC2 := hide_it hc2
    clear hc1 hc2
    have DE : Hid ((∀ k, 0 < k → k < nn → par k = i → leP K (f' i) (f' k)) → (decide (i0 < i) = true → Ord K f' nn) ∧ (decide (i0 < i) = false → Up K f' nn i0)) := fun q => by
      obtain ⟨q1, q2⟩ := dn_end HD.out q
      exact ⟨fun e => q1 (by simp at e; omega), fun e => q2 (by simp at e; omega)⟩
    by_cases h1 : c1 < nn
    · have d1 : decide ((nn : Int) ≤ (c1 : Int)) = false := decide_eq_false (by omega)
      have d1' : decide (nn ≤ c1) = false := decide_eq_false (by omega)
      have d2 : decide ((c1 : Int) < 0) = false := decide_eq_false (by omega)
      by_cases h2 : c2 < nn
      · have d3 : decide ((c2 : Int) < (nn : Int)) = true := decide_eq_true (by omega)
        have d3' : decide (c2 < nn) = true := decide_eq_true (by omega)
        cases hl : ltB K (f' c2) (f' c1) with
        | false =>
          have kj := KL.out c2 c1 false _ (by omega) (by omega) hl (Below.refl _ _)
          have HL0 := hide_it hl
          clear hl
          have HM1 : Hid (∀ k, 0 < k → k < nn → par k = i → leP K (f' c1) (f' k)) := fun k k0 kn kp => by
            rcases kid k0 kp with q | q
            · rw [show k = c1 from q.trans HC1.out]; exact le_refl _ _
            · rw [show k = c2 from q.trans HC2.out]; exact le_of_not_lt (fun z => by rw [ltB_iff.2 z] at HL0; exact absurd HL0.out (by simp))
          cases hl : ltB K (f' c1) (f' i) with
          | false =>
            have ki := fun W hb => KL.out c1 i false W (by omega) (by omega) hl hb
            have HL := hide_it hl
            clear hl
            go_wp2_with (go_at_call 56; refine kj.mono ?_; rintro e w8 ⟨rfl, hb8⟩; have B8 := hide_it hb8; clear hb8; refine Hid.out ?_)
            refine hide_it ?_
            go_wp2_with (go_at_call 56; refine (ki _ B8.out).mono ?_; rintro e w9 ⟨rfl, hb9⟩)
            go_ret
            have q := DE.out (fun k k0 kn kp => le_trans (le_of_not_lt (fun q => by rw [ltB_iff.2 q] at HL; exact absurd HL.out (by simp))) (HM1.out k k0 kn kp))
            exact ⟨_, f', rfl, (H.out.below B8.out).below hb9, HR.out, q.1, q.2, (HT.out.trans (Turn.of_below B8.out)).trans (Turn.of_below hb9)⟩
          | true =>
            have ki := fun W hb => KL.out c1 i true W (by omega) (by omega) hl hb
            have HL := hide_it hl
            clear hl
            have ks := fun W hb => KS.out i c1 W (by omega) (by omega) hb
            go_wp2_with (go_at_call 56; refine kj.mono ?_; rintro e w8 ⟨rfl, hb8⟩; have B8 := hide_it hb8; clear hb8; refine Hid.out ?_)
            refine hide_it ?_
            go_wp2_with (first | (go_at_call 56; refine (ki _ B8.out).mono ?_; rintro e w9 ⟨rfl, hb9⟩; have B9 := hide_it ((B8.out).trans (hb9.mono B8.out.size)); clear hb9) | (go_at_call 59; refine (ks _ B9.out).mono ?_; rintro e w10 ⟨rfl, h10, t10⟩))
            go_roundw
            case rel => exact ⟨c1, _, rfl, by omega, by omega, h10, HR.out.sw (by omega) (by omega), dn_step HD.out (by have := HC1.out; have := HC2.out; unfold par; omega) (by omega) (by omega) hi0 (ltB_iff.1 HL.out) HM1.out, (HT.out.trans (Turn.of_below B9.out)).trans t10⟩
            case measure => simp [intOf]; omega
        | true =>
          have kj := KL.out c2 c1 true _ (by omega) (by omega) hl (Below.refl _ _)
          have HL0 := hide_it hl
          clear hl
          have HM1 : Hid (∀ k, 0 < k → k < nn → par k = i → leP K (f' c2) (f' k)) := fun k k0 kn kp => by
            rcases kid k0 kp with q | q
            · rw [show k = c1 from q.trans HC1.out]; exact le_of_lt (ltB_iff.1 HL0.out)
            · rw [show k = c2 from q.trans HC2.out]; exact le_refl _ _
          cases hl : ltB K (f' c2) (f' i) with
          | false =>
            have ki := fun W hb => KL.out c2 i false W (by omega) (by omega) hl hb
            have HL := hide_it hl
            clear hl
            go_wp2_with (go_at_call 56; refine kj.mono ?_; rintro e w8 ⟨rfl, hb8⟩; have B8 := hide_it hb8; clear hb8; refine Hid.out ?_)
            refine hide_it ?_
            go_wp2_with (go_at_call 56; refine (ki _ B8.out).mono ?_; rintro e w9 ⟨rfl, hb9⟩)
            go_ret
            have q := DE.out (fun k k0 kn kp => le_trans (le_of_not_lt (fun q => by rw [ltB_iff.2 q] at HL; exact absurd HL.out (by simp))) (HM1.out k k0 kn kp))
            exact ⟨_, f', rfl, (H.out.below B8.out).below hb9, HR.out, q.1, q.2, (HT.out.trans (Turn.of_below B8.out)).trans (Turn.of_below hb9)⟩
          | true =>
            have ki := fun W hb => KL.out c2 i true W (by omega) (by omega) hl hb
            have HL := hide_it hl
            clear hl
            have ks := fun W hb => KS.out i c2 W (by omega) (by omega) hb
            go_wp2_with (go_at_call 56; refine kj.mono ?_; rintro e w8 ⟨rfl, hb8⟩; have B8 := hide_it hb8; clear hb8; refine Hid.out ?_)
            refine hide_it ?_
            go_wp2_with (first | (go_at_call 56; refine (ki _ B8.out).mono ?_; rintro e w9 ⟨rfl, hb9⟩; have B9 := hide_it ((B8.out).trans (hb9.mono B8.out.size)); clear hb9) | (go_at_call 59; refine (ks _ B9.out).mono ?_; rintro e w10 ⟨rfl, h10, t10⟩))
            go_roundw
            case rel => exact ⟨c2, _, rfl, by omega, by omega, h10, HR.out.sw (by omega) (by omega), dn_step HD.out (by have := HC1.out; have := HC2.out; unfold par; omega) (by omega) (by omega) hi0 (ltB_iff.1 HL.out) HM1.out, (HT.out.trans (Turn.of_below B9.out)).trans t10⟩
            case measure => simp [intOf]; omega
      · have d3 : decide ((c2 : Int) < (nn : Int)) = false := decide_eq_false (by omega)
        have d3' : decide (c2 < nn) = false := decide_eq_false (by omega)
        have HM1 : Hid (∀ k, 0 < k → k < nn → par k = i → leP K (f' c1) (f' k)) := fun k k0 kn kp => by
          rcases kid k0 kp with q | q
          · rw [show k = c1 from q.trans HC1.out]; exact le_refl _ _
          · have := HC2.out; omega
        cases hl : ltB K (f' c1) (f' i) with
        | false =>
          have ki := KL.out c1 i false _ (by omega) (by omega) hl (Below.refl _ _)
          have HL := hide_it hl
          clear hl
          go_wp2_with (go_at_call 56; refine ki.mono ?_; rintro e w9 ⟨rfl, hb9⟩)
          go_ret
          have q := DE.out (fun k k0 kn kp => le_trans (le_of_not_lt (fun q => by rw [ltB_iff.2 q] at HL; exact absurd HL.out (by simp))) (HM1.out k k0 kn kp))
          exact ⟨_, f', rfl, H.out.below hb9, HR.out, q.1, q.2, HT.out.trans (Turn.of_below hb9)⟩
        | true =>
          have ki := KL.out c1 i true _ (by omega) (by omega) hl (Below.refl _ _)
          have HL := hide_it hl
          clear hl
          have ks := fun W hb => KS.out i c1 W (by omega) (by omega) hb
          go_wp2_with (first | (go_at_call 56; refine ki.mono ?_; rintro e w9 ⟨rfl, hb9⟩; have B9 := hide_it hb9; clear hb9) | (go_at_call 59; refine (ks _ B9.out).mono ?_; rintro e w10 ⟨rfl, h10, t10⟩))
          go_roundw
          case rel => exact ⟨c1, _, rfl, by omega, by omega, h10, HR.out.sw (by omega) (by omega), dn_step HD.out (by have := HC1.out; have := HC2.out; unfold par; omega) (by omega) (by omega) hi0 (ltB_iff.1 HL.out) HM1.out, (HT.out.trans (Turn.of_below B9.out)).trans t10⟩
          case measure => simp [intOf]; omega
    · have d1 : decide ((nn : Int) ≤ (c1 : Int)) = true := decide_eq_true (by omega)
      have d1' : decide (nn ≤ c1) = true := decide_eq_true (by omega)
      go_wp2
      go_ret
      have q := DE.out (fun k k0 kn kp => by
        have := HC1.out
        rcases kid k0 kp with q | q <;> omega)
      exact ⟨_, f', rfl, H.out, HR.out, q.1, q.2, HT.out⟩
end Go.Proofs.Ytlpbjafdmhcmgaa
