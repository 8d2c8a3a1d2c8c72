/- reached, rising, Reach and Reaches of package graph; ints. -/
import Derived.Test.YtipkgoghodkbfaaDoorRd
namespace Go.Proofs.YtipkgoghodkbfaaDoor
open Go.RowKit
open M
set_option linter.unusedVariables false
set_option linter.unusedSimpArgs false

theorem below_drewN {B : Nat} {a w : World} (h : Below B a w) (n : Nat) : Below B a (w.drewN n) := ⟨h.os, h.tape, h.output, h.size, h.block⟩
theorem andNot_bit (x y i : Nat) (hx : x < 18446744073709551616) (hy : y < 18446744073709551616) : (x &&& (18446744073709551615 - y)).testBit i = (x.testBit i && !y.testBit i) := by
  rw [Nat.testBit_and]
  by_cases hi : i < 64
  · have e : (18446744073709551615 - y) = 2 ^ 64 - (y + 1) := by omega
    rw [e, Nat.testBit_two_pow_sub_succ hy]
    simp [hi]
  · have : x.testBit i = false := by
      cases h : x.testBit i with
      | false => rfl
      | true => exact absurd (bit_lt hx h) hi
    simp [this]

set_option maxRecDepth 1000000 in
set_option maxHeartbeats 2000000 in
theorem reached_any {w : World} {g eb n : Nat} {v : Value} {es : List E} (h : GM w g eb n v es) (hT : Tab w) (h0 : 0 < w.heap.size) (a : Nat) (ha : a < n) :
    Calls Tryd.prog 36 #[ptr g, .int .i64 a] w fun e w' => e = .returned (.int .u64 (rset es a : Nat)) ∧ Below w.heap.size w w' := by
  have hn := h.hn
  have c1 := h.c1
  have H := hide_it h
  have HT := hide_it hT
  have ko : ∀ W : World, Calls Tryd.prog 23 #[.int .i64 a] W fun e w' => e = .returned (.int .u64 ((2 ^ a : Nat) : Int)) ∧ w' = W := fun W => only_any a W (by omega)
  have HS := hide_it (RI.start es a (by omega))
  obtain ⟨p, hp⟩ : ∃ p, 2 ^ a = p := ⟨_, rfl⟩
  rw [hp] at ko HS
  clear h hT hp
  go_enter Tryd.func36, Tryd.ntmps36
  go_wp2_with (go_at_call 23; refine (ko _).mono ?_; rintro e w' ⟨rfl, rfl⟩)
  clear ko
  go_loopw [5, 6] (fun x y W => Hid (Below w'.heap.size w' W) ∧ ∃ all opn : Nat, x = .int .u64 all ∧ y = .int .u64 opn ∧ Hid (RI es a all opn)) (fun x y _ => 18446744073709551616 - dn (intOf x).toNat (intOf y).toNat)
  case atStart => exact ⟨Below.refl _ _, p, p, rfl, rfl, HS⟩
  case round =>
    obtain ⟨hBr, all, opn, rfl, rfl, HR⟩ := hrel
    have hal := HR.out.alt
    have hol := HR.out.opn_lt
    by_cases hz : opn = 0
    · subst hz
      have hf := HR.out.fin
      have HF := hide_it hf
      clear hf
      go_wp2
      go_ret
      exact ⟨ret_int (by rw [HF.out]), hBr.out⟩
    · have hz' : ((opn : Int) != 0) = true := by simp; omega
      obtain ⟨l, hl0, hl1, hl2, hl3, hl4⟩ := low_spec opn hz hol
      have hg : ∀ e ∈ es, e.1 < n ∧ e.2 < n := H.out.good
      have hln : l < n := (HR.out.sound l (HR.out.sub l hl2)).closed (fun x => x < n) ha (fun x y _ he => (hg _ he).2)
      have kl : ∀ W, Tab W → Calls Tryd.prog 41 #[.int .u64 opn] W fun e w' => e = .returned (.int .i64 l) ∧ w' = W := fun W hW => least_any opn l W hW hol hz hl0
      have kr : ∀ W, Calls Tryd.prog 42 #[.int .u64 opn] W fun e w' => e = .returned (.int .u64 ((opn &&& (opn - 1) : Nat) : Int)) ∧ w' = W := fun W => rest_any opn W hol (by omega)
      have hml := H.out.mlt l
      have hmb := fun i => andNot_bit (mask es l) all i hml hal
      have hA : bits .andNot .u64 ((mask es l : Nat) : Int) (all : Int) = ((mask es l &&& (18446744073709551615 - all) : Nat) : Int) := u64_andNot_nat _ _ hml hal
      have hmetl : mask es l &&& (18446744073709551615 - all) < 18446744073709551616 := Nat.lt_of_le_of_lt Nat.and_le_left hml
      have hrl : opn &&& (opn - 1) < 18446744073709551616 := Nat.lt_of_le_of_lt Nat.and_le_left hol
      obtain ⟨met, hmet⟩ : ∃ met, mask es l &&& (18446744073709551615 - all) = met := ⟨_, rfl⟩
      obtain ⟨r, hr⟩ : ∃ r, opn &&& (opn - 1) = r := ⟨_, rfl⟩
      rw [hmet] at hA hmetl
      rw [hr] at kr hrl
      have HN := hide_it (HR.out.round (met := met) (r := r) (fun e he => by have := (hg e he).2; omega) hl1 hl2 (fun i => by rw [← hr]; exact hl4 i) (fun i => by rw [← hmet]; exact hmb i))
      have hO : bits .or .u64 (all : Int) (met : Int) = ((all ||| met : Nat) : Int) := u64_or_nat _ _ hal hmetl
      have hR : bits .or .u64 (r : Int) (met : Int) = ((r ||| met : Nat) : Int) := u64_or_nat _ _ hrl hmetl
      have q1 := (H.out.below hBr.out).c1
      have q2 := (H.out.below hBr.out).ce l hln
      have kl' := fun j => kl (wr.drewN j) (fun i hi => by have := tab_below HT.out h0 hBr.out i hi; simpa using this)
      clear hmet hr hl0 hl2 hl3 hl4 hmb hg kl hal hol hmetl hrl hml c1
      generalize all ||| met = all2 at *
      generalize r ||| met = opn2 at *
      generalize mask es l = MK at *
      go_wp2
      go_quiet ((go_at_call 41; exact Calls.quiet_of_same (kl' _)))
      go_wp2_with (go_at_call 42; refine (kr _).mono ?_; rintro e w5 ⟨rfl, rfl⟩)
      go_roundw
      case rel => exact ⟨below_drewN hBr.out _, all2, opn2, rfl, rfl, HN.out.1⟩
      case measure => simpa [intOf] using HN.out.2

end Go.Proofs.YtipkgoghodkbfaaDoor
