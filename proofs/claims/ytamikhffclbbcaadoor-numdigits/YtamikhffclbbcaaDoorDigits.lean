/-
  The statement NumDigits of package millwrightlaw01 is proved, as the tied card that is given: for every input the call returns true, and each argument reads afterwards as it read before. Conditions: the three tables of the library that the row lists start as their own initialisers lay them (the card ties them to the program).
-/
import Derived.Test.YtamikhffclbbcaaDoorFrame
import Derived.Test.YtamikhffclbbcaaDoorTie
import Derived.Test.YtamikhffclbbcaaDoorCards
import Derived.SevenTiedAt
import Derived.Test.YtamikhffclbbcaaDoorText
import Derived.Test.YtamikhffclbbcaaDoorNumerals2
import Derived.Laws.BitsLemmas
namespace Go.Proofs.YtamikhffclbbcaaDoor
namespace NumDigits
open Go Go.ChangeShapes Go.WideShapes Go.ChangeAt Go.WideMaps Go.WideElems Go.RowKit
open Go.ChangeMaps (open_string shut_string)
set_option linter.unusedVariables false

theorem i64_and28 (n : Int) : bits .and .i64 n 268435455 = n % 268435456 := by
  have h : (BitVec.ofInt 64 268435455).toNat = 2 ^ 28 - 1 := by decide
  have key : (BitVec.ofInt 64 n &&& BitVec.ofInt 64 268435455).toNat = (n % ((2 ^ 64 : Nat) : Int)).toNat % 2 ^ 28 := by
    rw [BitVec.toNat_and, BitVec.toNat_ofInt, h, Nat.and_two_pow_sub_one_eq_mod]
  show IntKind.i64.wrap ((BitVec.ofInt 64 n &&& BitVec.ofInt 64 268435455).toNat : Nat) = n % 268435456
  rw [key, IntKind.wrap_i64]
  omega

theorem str_snoc (l : List UInt8) (c : UInt8) : ((⟨l.toArray⟩ : ByteArray) ++ ⟨#[c]⟩).data.toList = l ++ [c] := by
  simp

set_option maxHeartbeats 4000000 in
theorem walk (n : Int) (d : Int) (c : Int) (w : World) (n0 : -9223372036854775808 ≤ n) (n1 : n ≤ 9223372036854775807) (d0 : 0 ≤ d) (d1 : d ≤ 255) (c0 : 0 ≤ c) (c1 : c ≤ 255) (hT : Tab w) :
    Calls Tryd.prog 11 #[.int .i64 n, .int .u8 d, .int .u8 c] w fun e w' => e = .returned (.bool true) ∧ Below w.heap.size w w' := by
  have hb0 : 0 ≤ bits .and .i64 n 268435455 ∧ bits .and .i64 n 268435455 ≤ 268435455 := by rw [i64_and28]; omega
  obtain ⟨hA0, hA1⟩ := hb0
  obtain ⟨N, hN⟩ : ∃ N, N = bits .and .i64 n 268435455 % 1048577 := ⟨_, rfl⟩
  have hN0 : 0 ≤ N := by omega
  have hN1 : N ≤ 1048576 := by omega
  obtain ⟨u, hu⟩ : ∃ u : Nat, N = (u : Int) := ⟨N.toNat, by omega⟩
  obtain ⟨x, hx⟩ : ∃ x : UInt8, (x.toNat : Int) = 48 + d % 10 := ⟨UInt8.ofNat (48 + (d % 10).toNat), by rw [dig_nat _ (by omega)]; omega⟩
  obtain ⟨y, hy⟩ : ∃ y : UInt8, (y.toNat : Int) = c := ⟨UInt8.ofNat c.toNat, by rw [UInt8.toNat_ofNat_of_lt' (by simp [UInt8.size]; omega)]; omega⟩
  have hcv1 := fun W => conv_one W (48 + d % 10) x hx
  have hcv2 := fun W => conv_one W c y hy
  have hi : Lib.itoa N = Lib.decDigits u := by rw [hu]; exact Lib.itoa_nonneg u
  have hlen : (Lib.decDigits u).length ≤ 21 := by rw [← hi]; exact Lib.itoa_length_le N (by omega) (by omega)
  have k1 : ∀ W, Tab W → Calls Tryd.prog 22 #[.int .i64 N] W fun e w' => e = .returned (.string ⟨(Lib.decDigits u).toArray⟩) ∧ Below W.heap.size W w' := fun W hT => by
    have := text_any N (by omega) (by omega) W hT
    rwa [hi] at this
  have k2 := fun W => parse_any ((⟨(Lib.decDigits u).toArray⟩ : ByteArray) ++ ⟨#[x]⟩) (by rw [← len_data, str_snoc]; simp; omega) W
  have k3 := fun W => parse_any ((⟨(Lib.decDigits u).toArray⟩ : ByteArray) ++ ⟨#[y]⟩) (by rw [← len_data, str_snoc]; simp; omega) W
  have k4 := fun W => parse_any ((⟨#[y]⟩ : ByteArray) ++ ⟨(Lib.decDigits u).toArray⟩) (by rw [← len_data, str_cons]; simp; omega) W
  rw [str_snoc] at k2 k3
  rw [str_cons] at k4
  replace k4 : ∀ W, Calls Tryd.prog 20 #[.string ((⟨#[y]⟩ : ByteArray) ++ ⟨(Lib.decDigits u).toArray⟩)] W fun e w' => e = .returned (.tuple #[.int .i64 (pV (y :: Lib.decDigits u)), .int .i64 (pE (y :: Lib.decDigits u))]) ∧ Below W.heap.size W w' := by
    rw [str_cons]; exact k4
  have hxd : isD x = true := by rw [isD_iff]; omega
  have q1 : u = 0 → pE (Lib.decDigits u ++ [x]) = 2 ∧ pV (Lib.decDigits u ++ [x]) = 0 := fun e => by subst e; exact more_nought x
  have q2 := fun h => more_digit u h (by omega) x hxd
  have q3 : ¬ (48 ≤ c ∧ c ≤ 57) → pE (Lib.decDigits u ++ [y]) = 2 ∧ pV (Lib.decDigits u ++ [y]) = 0 := fun h => more_behind u y ((isD_no y).2 (by omega))
  have q4 : ¬ (48 ≤ c ∧ c ≤ 57) → pE (y :: Lib.decDigits u) = 2 ∧ pV (y :: Lib.decDigits u) = 0 := fun h => more_ahead u y ((isD_no y).2 (by omega))
  rw [hx] at q2
  have ht : (⟨(Lib.decDigits u).toArray⟩ : ByteArray).size ≤ 21 := by rw [← len_data]; exact hlen
  generalize (⟨(Lib.decDigits u).toArray⟩ : ByteArray) = t at *
  generalize pV (Lib.decDigits u ++ [x]) = V1 at *
  generalize pE (Lib.decDigits u ++ [x]) = E1 at *
  generalize pV (Lib.decDigits u ++ [y]) = V2 at *
  generalize pE (Lib.decDigits u ++ [y]) = E2 at *
  generalize pV (y :: Lib.decDigits u) = V3 at *
  generalize pE (y :: Lib.decDigits u) = E3 at *
  clear hi hlen hxd hx hy
  by_cases hz : u = 0
  · obtain ⟨rfl, rfl⟩ := q1 hz
    have hz1 : (N == 0) = true := by simp; omega
    clear q1 q2 hu hz
    subst hN
    by_cases hc : 48 ≤ c ∧ c ≤ 57
    · obtain ⟨e1, e2⟩ := hc
      clear q3 q4 k3 k4 hcv2
      go_enter Tryd.func11, Tryd.ntmps11
      go_wp2_with (go_at_call 13; refine (shown_any _ hT).mono ?_; rintro e W1 ⟨rfl, hb1⟩; refine Hid.out ?_)
      refine Lib.hid ?_
      go_wp2_with (go_at_call 22; refine (k1 _ (tab_on hT hb1)).mono ?_; rintro e W2 ⟨rfl, hb2⟩; refine Hid.out ?_)
      refine Lib.hid ?_
      have hB2 := hb1.trans (hb2.mono hb1.size)
      clear hb2
      go_wp2_with (go_at_call 20; refine (k2 _).mono ?_; rintro e W3 ⟨rfl, hb3⟩; refine Hid.out ?_)
      refine Lib.hid ?_
      have hB3 := (hB2.alloc hB2.size _).trans (hb3.mono (hB2.alloc hB2.size _).size)
      clear hb3
      go_wp2
      go_ret
      exact ⟨rfl, hB3⟩
    · obtain ⟨rfl, rfl⟩ := q3 hc
      obtain ⟨rfl, rfl⟩ := q4 hc
      by_cases hc1 : 48 ≤ c
      · have hc2 : ¬ c ≤ 57 := fun h => hc ⟨hc1, h⟩
        clear hc q3 q4
        go_enter Tryd.func11, Tryd.ntmps11
        go_wp2_with (go_at_call 13; refine (shown_any _ hT).mono ?_; rintro e W1 ⟨rfl, hb1⟩; refine Hid.out ?_)
        refine Lib.hid ?_
        go_wp2_with (go_at_call 22; refine (k1 _ (tab_on hT hb1)).mono ?_; rintro e W2 ⟨rfl, hb2⟩; refine Hid.out ?_)
        refine Lib.hid ?_
        have hB2 := hb1.trans (hb2.mono hb1.size)
        clear hb2
        go_wp2_with (go_at_call 20; refine (k2 _).mono ?_; rintro e W3 ⟨rfl, hb3⟩; refine Hid.out ?_)
        refine Lib.hid ?_
        have hB3 := (hB2.alloc hB2.size _).trans (hb3.mono (hB2.alloc hB2.size _).size)
        clear hb3
        go_wp2_with (go_at_call 20; refine (k3 _).mono ?_; rintro e W4 ⟨rfl, hb4⟩; refine Hid.out ?_)
        refine Lib.hid ?_
        have hB4 := (hB3.alloc hB3.size _).trans (hb4.mono (hB3.alloc hB3.size _).size)
        clear hb4
        go_wp2_with (go_at_call 20; refine (k4 _).mono ?_; rintro e W5 ⟨rfl, hb5⟩)
        go_ret
        exact ⟨rfl, (hB4.alloc hB4.size _).trans (hb5.mono (hB4.alloc hB4.size _).size)⟩
      · clear hc q3 q4
        go_enter Tryd.func11, Tryd.ntmps11
        go_wp2_with (go_at_call 13; refine (shown_any _ hT).mono ?_; rintro e W1 ⟨rfl, hb1⟩; refine Hid.out ?_)
        refine Lib.hid ?_
        go_wp2_with (go_at_call 22; refine (k1 _ (tab_on hT hb1)).mono ?_; rintro e W2 ⟨rfl, hb2⟩; refine Hid.out ?_)
        refine Lib.hid ?_
        have hB2 := hb1.trans (hb2.mono hb1.size)
        clear hb2
        go_wp2_with (go_at_call 20; refine (k2 _).mono ?_; rintro e W3 ⟨rfl, hb3⟩; refine Hid.out ?_)
        refine Lib.hid ?_
        have hB3 := (hB2.alloc hB2.size _).trans (hb3.mono (hB2.alloc hB2.size _).size)
        clear hb3
        go_wp2_with (go_at_call 20; refine (k3 _).mono ?_; rintro e W4 ⟨rfl, hb4⟩; refine Hid.out ?_)
        refine Lib.hid ?_
        have hB4 := (hB3.alloc hB3.size _).trans (hb4.mono (hB3.alloc hB3.size _).size)
        clear hb4
        go_wp2_with (go_at_call 20; refine (k4 _).mono ?_; rintro e W5 ⟨rfl, hb5⟩)
        go_ret
        exact ⟨rfl, (hB4.alloc hB4.size _).trans (hb5.mono (hB4.alloc hB4.size _).size)⟩
  · have hz1 : (N == 0) = false := by simp; omega
    have hq := q2 (by omega)
    clear q1 q2
    rw [← hu, show (48 + d % 10 - 48 : Int) = d % 10 by omega] at hq
    by_cases hw : 10 * N + d % 10 ≤ 1048576
    · obtain ⟨rfl, hV⟩ := hq.1 hw
      subst hV
      clear hq hu hz
      subst hN
      by_cases hc : 48 ≤ c ∧ c ≤ 57
      · obtain ⟨e1, e2⟩ := hc
        clear q3 q4 k3 k4 hcv2
        go_enter Tryd.func11, Tryd.ntmps11
        go_wp2_with (go_at_call 13; refine (shown_any _ hT).mono ?_; rintro e W1 ⟨rfl, hb1⟩; refine Hid.out ?_)
        refine Lib.hid ?_
        go_wp2_with (go_at_call 22; refine (k1 _ (tab_on hT hb1)).mono ?_; rintro e W2 ⟨rfl, hb2⟩; refine Hid.out ?_)
        refine Lib.hid ?_
        have hB2 := hb1.trans (hb2.mono hb1.size)
        clear hb2
        go_wp2_with (go_at_call 20; refine (k2 _).mono ?_; rintro e W3 ⟨rfl, hb3⟩; refine Hid.out ?_)
        refine Lib.hid ?_
        have hB3 := (hB2.alloc hB2.size _).trans (hb3.mono (hB2.alloc hB2.size _).size)
        clear hb3
        go_wp2
        go_ret
        exact ⟨rfl, hB3⟩
      · obtain ⟨rfl, rfl⟩ := q3 hc
        obtain ⟨rfl, rfl⟩ := q4 hc
        by_cases hc1 : 48 ≤ c
        · have hc2 : ¬ c ≤ 57 := fun h => hc ⟨hc1, h⟩
          clear hc q3 q4
          go_enter Tryd.func11, Tryd.ntmps11
          go_wp2_with (go_at_call 13; refine (shown_any _ hT).mono ?_; rintro e W1 ⟨rfl, hb1⟩; refine Hid.out ?_)
          refine Lib.hid ?_
          go_wp2_with (go_at_call 22; refine (k1 _ (tab_on hT hb1)).mono ?_; rintro e W2 ⟨rfl, hb2⟩; refine Hid.out ?_)
          refine Lib.hid ?_
          have hB2 := hb1.trans (hb2.mono hb1.size)
          clear hb2
          go_wp2_with (go_at_call 20; refine (k2 _).mono ?_; rintro e W3 ⟨rfl, hb3⟩; refine Hid.out ?_)
          refine Lib.hid ?_
          have hB3 := (hB2.alloc hB2.size _).trans (hb3.mono (hB2.alloc hB2.size _).size)
          clear hb3
          go_wp2_with (go_at_call 20; refine (k3 _).mono ?_; rintro e W4 ⟨rfl, hb4⟩; refine Hid.out ?_)
          refine Lib.hid ?_
          have hB4 := (hB3.alloc hB3.size _).trans (hb4.mono (hB3.alloc hB3.size _).size)
          clear hb4
          go_wp2_with (go_at_call 20; refine (k4 _).mono ?_; rintro e W5 ⟨rfl, hb5⟩)
          go_ret
          exact ⟨rfl, (hB4.alloc hB4.size _).trans (hb5.mono (hB4.alloc hB4.size _).size)⟩
        · clear hc q3 q4
          go_enter Tryd.func11, Tryd.ntmps11
          go_wp2_with (go_at_call 13; refine (shown_any _ hT).mono ?_; rintro e W1 ⟨rfl, hb1⟩; refine Hid.out ?_)
          refine Lib.hid ?_
          go_wp2_with (go_at_call 22; refine (k1 _ (tab_on hT hb1)).mono ?_; rintro e W2 ⟨rfl, hb2⟩; refine Hid.out ?_)
          refine Lib.hid ?_
          have hB2 := hb1.trans (hb2.mono hb1.size)
          clear hb2
          go_wp2_with (go_at_call 20; refine (k2 _).mono ?_; rintro e W3 ⟨rfl, hb3⟩; refine Hid.out ?_)
          refine Lib.hid ?_
          have hB3 := (hB2.alloc hB2.size _).trans (hb3.mono (hB2.alloc hB2.size _).size)
          clear hb3
          go_wp2_with (go_at_call 20; refine (k3 _).mono ?_; rintro e W4 ⟨rfl, hb4⟩; refine Hid.out ?_)
          refine Lib.hid ?_
          have hB4 := (hB3.alloc hB3.size _).trans (hb4.mono (hB3.alloc hB3.size _).size)
          clear hb4
          go_wp2_with (go_at_call 20; refine (k4 _).mono ?_; rintro e W5 ⟨rfl, hb5⟩)
          go_ret
          exact ⟨rfl, (hB4.alloc hB4.size _).trans (hb5.mono (hB4.alloc hB4.size _).size)⟩
    · obtain ⟨rfl, rfl⟩ := hq.2 (by omega)
      have hw2 : decide (10 * N + d % 10 ≤ 1048576) = false := by simpa using hw
      clear hq hu hz
      subst hN
      by_cases hc : 48 ≤ c ∧ c ≤ 57
      · obtain ⟨e1, e2⟩ := hc
        clear q3 q4 k3 k4 hcv2
        go_enter Tryd.func11, Tryd.ntmps11
        go_wp2_with (go_at_call 13; refine (shown_any _ hT).mono ?_; rintro e W1 ⟨rfl, hb1⟩; refine Hid.out ?_)
        refine Lib.hid ?_
        go_wp2_with (go_at_call 22; refine (k1 _ (tab_on hT hb1)).mono ?_; rintro e W2 ⟨rfl, hb2⟩; refine Hid.out ?_)
        refine Lib.hid ?_
        have hB2 := hb1.trans (hb2.mono hb1.size)
        clear hb2
        go_wp2_with (go_at_call 20; refine (k2 _).mono ?_; rintro e W3 ⟨rfl, hb3⟩; refine Hid.out ?_)
        refine Lib.hid ?_
        have hB3 := (hB2.alloc hB2.size _).trans (hb3.mono (hB2.alloc hB2.size _).size)
        clear hb3
        go_wp2
        go_ret
        exact ⟨rfl, hB3⟩
      · obtain ⟨rfl, rfl⟩ := q3 hc
        obtain ⟨rfl, rfl⟩ := q4 hc
        by_cases hc1 : 48 ≤ c
        · have hc2 : ¬ c ≤ 57 := fun h => hc ⟨hc1, h⟩
          clear hc q3 q4
          go_enter Tryd.func11, Tryd.ntmps11
          go_wp2_with (go_at_call 13; refine (shown_any _ hT).mono ?_; rintro e W1 ⟨rfl, hb1⟩; refine Hid.out ?_)
          refine Lib.hid ?_
          go_wp2_with (go_at_call 22; refine (k1 _ (tab_on hT hb1)).mono ?_; rintro e W2 ⟨rfl, hb2⟩; refine Hid.out ?_)
          refine Lib.hid ?_
          have hB2 := hb1.trans (hb2.mono hb1.size)
          clear hb2
          go_wp2_with (go_at_call 20; refine (k2 _).mono ?_; rintro e W3 ⟨rfl, hb3⟩; refine Hid.out ?_)
          refine Lib.hid ?_
          have hB3 := (hB2.alloc hB2.size _).trans (hb3.mono (hB2.alloc hB2.size _).size)
          clear hb3
          go_wp2_with (go_at_call 20; refine (k3 _).mono ?_; rintro e W4 ⟨rfl, hb4⟩; refine Hid.out ?_)
          refine Lib.hid ?_
          have hB4 := (hB3.alloc hB3.size _).trans (hb4.mono (hB3.alloc hB3.size _).size)
          clear hb4
          go_wp2_with (go_at_call 20; refine (k4 _).mono ?_; rintro e W5 ⟨rfl, hb5⟩)
          go_ret
          exact ⟨rfl, (hB4.alloc hB4.size _).trans (hb5.mono (hB4.alloc hB4.size _).size)⟩
        · clear hc q3 q4
          go_enter Tryd.func11, Tryd.ntmps11
          go_wp2_with (go_at_call 13; refine (shown_any _ hT).mono ?_; rintro e W1 ⟨rfl, hb1⟩; refine Hid.out ?_)
          refine Lib.hid ?_
          go_wp2_with (go_at_call 22; refine (k1 _ (tab_on hT hb1)).mono ?_; rintro e W2 ⟨rfl, hb2⟩; refine Hid.out ?_)
          refine Lib.hid ?_
          have hB2 := hb1.trans (hb2.mono hb1.size)
          clear hb2
          go_wp2_with (go_at_call 20; refine (k2 _).mono ?_; rintro e W3 ⟨rfl, hb3⟩; refine Hid.out ?_)
          refine Lib.hid ?_
          have hB3 := (hB2.alloc hB2.size _).trans (hb3.mono (hB2.alloc hB2.size _).size)
          clear hb3
          go_wp2_with (go_at_call 20; refine (k3 _).mono ?_; rintro e W4 ⟨rfl, hb4⟩; refine Hid.out ?_)
          refine Lib.hid ?_
          have hB4 := (hB3.alloc hB3.size _).trans (hb4.mono (hB3.alloc hB3.size _).size)
          clear hb4
          go_wp2_with (go_at_call 20; refine (k4 _).mono ?_; rintro e W5 ⟨rfl, hb5⟩)
          go_ret
          exact ⟨rfl, (hB4.alloc hB4.size _).trans (hb5.mono (hB4.alloc hB4.size _).size)⟩



set_option maxRecDepth 100000 in
theorem lifted (os : Os) (started : os.Started) (H : Type) (enc : TypeId × Value → H) :
    ReturnsInHanded {} Tryd.checked os 11 .any (fun w args => (Rows.numDigitsSpec.pre enc Tryd.prog Tryd.f11 [] false w args ∧ laidMetH Tryd.prog laid3 w) ∧ sizedMet enc Tryd.prog Tryd.f11 (OpenSpec.ofChange Rows.numDigitsSpec) false w args)
      (Rows.numDigitsSpec.post enc Tryd.prog Tryd.f11 false true false false) := by
  refine returnsInHanded_of_change_and (C := Tryd.checked) (X := fun w _ => laidMetH Tryd.prog laid3 w) (fun _ _ _ hh h => h.of_heap hh) own started (by kernel_rfl) Tryd.func11
    (ChangeSpec.witness_shaped (enc := enc) (C := Tryd.checked) (os := os) (X := fun w _ => laidMetH Tryd.prog laid3 w) false (World.doorLaid Tryd.prog 24 os) #[.int .i64 0, .int .u8 0, .int .u8 0] 8 rfl (World.shaped_of_RefB (by kernel_rfl) (by kernel_rfl)) (by kernel_rfl) (by kernel_rfl) (by kernel_rfl) (door_met os _)) ?_
  intro W base args ds gs before hval0 hW _ _ hL _
  have hval : ∀ (j : Nat) t v, Tryd.f11.params[j]? = some t → args[j]? = some v → Value.okWide Tryd.prog W .any base t v := hval0
  have hW' := hW
  obtain ⟨p, q, hA0, hV, rfl, hfz, hnd⟩ := hW
  have hA : DataW.TrodAll enc Tryd.prog W 0 (fun _ => true) true Tryd.f11.params.toList args.toList ds p := hA0
  rw [Tryd.params11] at hA hval
  obtain ⟨v0, v1, v2, d0, d1, d2, p0, p1, p2, rfl, rfl, rfl, h0, h1, h2⟩ := trodAll_three hA
  obtain ⟨rfl, rfl⟩ := trodVars_none hV
  obtain ⟨a0, rfl, rfl, rfl, wf0⟩ := open_int Tryd.underlying3 (hval 0 3 v0 rfl rfl) h0
  have bd0 := bounds_i64 wf0
  obtain ⟨a1, rfl, rfl, rfl, wf1⟩ := open_int Tryd.underlying5 (hval 1 5 v1 rfl rfl) h1
  have bd1 := bounds_u8 wf1
  obtain ⟨a2, rfl, rfl, rfl, wf2⟩ := open_int Tryd.underlying5 (hval 2 5 v2 rfl rfl) h2
  have bd2 := bounds_u8 wf2
  have hT := tab_of_laid hL
  clear hA0 hval0
  simp only [List.append_nil] at hW'
  refine (walk a0 a1 a2 W bd0.1 bd0.2 bd1.1 bd1.2 bd2.1 bd2.2 hT).mono fun e W' ⟨he, hb⟩ => ?_
  subst he
  refine ⟨_, rfl, _, _, _, [], [], [], hW', ?_, ?_, rfl, hb.frame _, fun h => by cases h⟩
  · exact trodAll_mk1 (shut_bool Tryd.underlying4 _)
  · exact trodAll_mk3 (shut_int Tryd.underlying3 wf0) (shut_int Tryd.underlying5 wf1) (shut_int Tryd.underlying5 wf2)

theorem row_holds : Rows.NumDigitsSaid :=
  OpenClaim.holds_of_wide 11 Tryd.f11 rfl rfl rfl rfl rfl rfl rfl ⟨rfl, rfl, rfl, rfl, rfl⟩ rfl rfl rfl rfl rfl (by kernel_rfl) Tryd.func11 (by kernel_rfl)
    (of_decide_eq_true (by kernel_rfl)) (by unfold Func.isWrapper; first | (rw [if_pos (by decide +kernel)]; kernel_rfl) | (rw [if_neg (by decide +kernel)]; exact ⟨rfl, rfl⟩))
    (fun os started H enc _ => lifted os started H enc)

end NumDigits

theorem numDigits_card_holds : Rows.NumDigitsCardSaid :=
  Claim7.holds_tied_plain_at .later [] [.data, .data, .data] true (true, "5cef55edbf9d1764eda0ac3b89cd063984591cba7636e8854e6bcb3e6a6304ac") false
    NumDigits.row_holds (fun _ h => by cases h) (by kernel_rfl) (fun _ h => by cases h) numDigits_row_tie rfl ⟨rfl, rfl⟩ (by kernel_rfl) rfl
    (fun f fn hf hfn => by
      obtain rfl : f = 11 := Option.some.inj ((show Tryd.prog.funcNamed "millwright/millwrightlaw01.NumDigits" = some 11 by kernel_rfl).symm.trans hf) |>.symm
      obtain rfl : fn = Tryd.f11 := (Option.some.inj (Tryd.func11.symm.trans hfn)).symm
      exact ⟨by kernel_rfl, fun j t ht => by
        rw [Tryd.params11] at ht
        have hm : t ∈ [3, 5, 5] := by simpa using Array.mem_of_getElem? ht
        have hall : ([3, 5, 5].all fun u => !Tryd.prog.wantsStandIn u) = true := by kernel_rfl
        exact (show Tryd.prog.wantsStandIn t = false by simpa using List.all_eq_true.1 hall t hm)⟩)
    (by kernel_rfl)
#print axioms numDigits_card_holds
end Go.Proofs.YtamikhffclbbcaaDoor
