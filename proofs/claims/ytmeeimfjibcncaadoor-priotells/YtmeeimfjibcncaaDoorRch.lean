/- reached, rising, Reach and Reaches of package graph; ints. -/
import Derived.Test.YtmeeimfjibcncaaDoorRd
namespace Go.Proofs.YtmeeimfjibcncaaDoor
open Go.RowKit
open M
set_option linter.unusedVariables false
set_option linter.unusedSimpArgs false

theorem below_drewN {B : Nat} {a w : World} (h : Below B a w) (n : Nat) : Below B a (w.drewN n) := ⟨h.os, h.tape, h.output, h.size, h.block⟩
theorem andNot_bit (x y i : Nat) (hx : x < 18446744073709551616) (hy : y < 18446744073709551616) : (x &&& (18446744073709551615 - y)).testBit i = (x.testBit i && !y.testBit i) := by
  rw [Nat.testBit_and]
  by_cases hi : i < 64
  · have e : (18446744073709551615 - y) = 2 ^ 64 - (y + 1) := by omega
    rw [e, Nat.testBit_two_pow_sub_succ hy]
    simp [hi]
  · have : x.testBit i = false := by
      cases h : x.testBit i with
      | false => rfl
      | true => exact absurd (bit_lt hx h) hi
    simp [this]

set_option maxRecDepth 1000000 in
set_option maxHeartbeats 2000000 in
theorem reached_any {w : World} {g eb n : Nat} {v : Value} {es : List E} (h : GM w g eb n v es) (hT : Tab w) (h0 : 0 < w.heap.size) (a : Nat) (ha : a < n) :
    Calls Tryd.prog 35 #[ptr g, .int .i64 a] w fun e w' => e = .returned (.int .u64 (rset es a : Nat)) ∧ Below w.heap.size w w' := by
  have hn := h.hn
  have c1 := h.c1
  have H := hide_it h
  have HT := hide_it hT
  have ko : ∀ W : World, Calls Tryd.prog 34 #[.int .i64 a] W fun e w' => e = .returned (.int .u64 ((2 ^ a : Nat) : Int)) ∧ w' = W := fun W => only_any a W (by omega)
  have HS := hide_it (RI.start es a (by omega))
  obtain ⟨p, hp⟩ : ∃ p, 2 ^ a = p := ⟨_, rfl⟩
  rw [hp] at ko HS
  clear h hT hp
  go_enter Tryd.func35, Tryd.ntmps35
  go_wp2_with (go_at_call 34; refine (ko _).mono ?_; rintro e w' ⟨rfl, rfl⟩)
  clear ko
  go_loopw [5, 6] (fun x y W => Hid (Below w'.heap.size w' W) ∧ ∃ all opn : Nat, x = .int .u64 all ∧ y = .int .u64 opn ∧ Hid (RI es a all opn)) (fun x y _ => 18446744073709551616 - dn (intOf x).toNat (intOf y).toNat)
  case atStart => exact ⟨Below.refl _ _, p, p, rfl, rfl, HS⟩
  case round =>
    obtain ⟨hBr, all, opn, rfl, rfl, HR⟩ := hrel
    have hal := HR.out.alt
    have hol := HR.out.opn_lt
    by_cases hz : opn = 0
    · subst hz
      have hf := HR.out.fin
      have HF := hide_it hf
      clear hf
      go_wp2
      go_ret
      exact ⟨ret_int (by rw [HF.out]), hBr.out⟩
    · have hz' : ((opn : Int) != 0) = true := by simp; omega
      obtain ⟨l, hl0, hl1, hl2, hl3, hl4⟩ := low_spec opn hz hol
      have hg : ∀ e ∈ es, e.1 < n ∧ e.2 < n := H.out.good
      have hln : l < n := (HR.out.sound l (HR.out.sub l hl2)).closed (fun x => x < n) ha (fun x y _ he => (hg _ he).2)
      have kl : ∀ W, Tab W → Calls Tryd.prog 41 #[.int .u64 opn] W fun e w' => e = .returned (.int .i64 l) ∧ w' = W := fun W hW => least_any opn l W hW hol hz hl0
      have kr : ∀ W, Calls Tryd.prog 42 #[.int .u64 opn] W fun e w' => e = .returned (.int .u64 ((opn &&& (opn - 1) : Nat) : Int)) ∧ w' = W := fun W => rest_any opn W hol (by omega)
      have hml := H.out.mlt l
      have hmb := fun i => andNot_bit (mask es l) all i hml hal
      have hA : bits .andNot .u64 ((mask es l : Nat) : Int) (all : Int) = ((mask es l &&& (18446744073709551615 - all) : Nat) : Int) := u64_andNot_nat _ _ hml hal
      have hmetl : mask es l &&& (18446744073709551615 - all) < 18446744073709551616 := Nat.lt_of_le_of_lt Nat.and_le_left hml
      have hrl : opn &&& (opn - 1) < 18446744073709551616 := Nat.lt_of_le_of_lt Nat.and_le_left hol
      obtain ⟨met, hmet⟩ : ∃ met, mask es l &&& (18446744073709551615 - all) = met := ⟨_, rfl⟩
      obtain ⟨r, hr⟩ : ∃ r, opn &&& (opn - 1) = r := ⟨_, rfl⟩
      rw [hmet] at hA hmetl
      rw [hr] at kr hrl
      have HN := hide_it (HR.out.round (met := met) (r := r) (fun e he => by have := (hg e he).2; omega) hl1 hl2 (fun i => by rw [← hr]; exact hl4 i) (fun i => by rw [← hmet]; exact hmb i))
      have hO : bits .or .u64 (all : Int) (met : Int) = ((all ||| met : Nat) : Int) := u64_or_nat _ _ hal hmetl
      have hR : bits .or .u64 (r : Int) (met : Int) = ((r ||| met : Nat) : Int) := u64_or_nat _ _ hrl hmetl
      have q1 := (H.out.below hBr.out).c1
      have q2 := (H.out.below hBr.out).ce l hln
      have kl' := fun j => kl (wr.drewN j) (fun i hi => by have := tab_below HT.out h0 hBr.out i hi; simpa using this)
      clear hmet hr hl0 hl2 hl3 hl4 hmb hg kl hal hol hmetl hrl hml c1
      generalize all ||| met = all2 at *
      generalize r ||| met = opn2 at *
      generalize mask es l = MK at *
      go_wp2
      go_quiet ((go_at_call 41; exact Calls.quiet_of_same (kl' _)))
      go_wp2_with (go_at_call 42; refine (kr _).mono ?_; rintro e w5 ⟨rfl, rfl⟩)
      go_roundw
      case rel => exact ⟨below_drewN hBr.out _, all2, opn2, rfl, rfl, HN.out.1⟩
      case measure => simpa [intOf] using HN.out.2

set_option maxRecDepth 1000000 in
set_option maxHeartbeats 2000000 in
theorem rising_any (s : Nat) (w : World) (hT : Tab w) (h0 : 0 < w.heap.size) (hs : s < 18446744073709551616) :
    Calls Tryd.prog 37 #[.int .u64 s] w fun e w' => ∃ u, e = .returned u ∧ OwnI w' w.heap.size u (rise s) ∧ Below w.heap.size w w' := by
  have HT := hide_it hT
  have HS := hide_it hs
  have hlr := rise_len s
  obtain ⟨R, hR⟩ : ∃ R, rise s = R := ⟨_, rfl⟩
  rw [hR]
  rw [hR] at hlr
  have HR : Hid (∃ pre, pre ++ rise s = R ∧ pre = []) := ⟨[], by simpa using hR, rfl⟩
  obtain ⟨i0, hi, hz0, hz1, hz2⟩ := info_parts info3
  clear hT hs hR
  go_enter Tryd.func37, Tryd.ntmps37
  go_wp2
  go_loopw [0, 3] (fun x u W => Hid (Below w.heap.size w W) ∧ ∃ (t : Nat) (pre : List Nat), x = .int .u64 t ∧ t < 18446744073709551616 ∧ Hid (pre ++ rise t = R) ∧ Hid (OwnI W w.heap.size u pre)) (fun x _ _ => (intOf x).toNat)
  case atStart =>
    obtain ⟨pre, hp, rfl⟩ := HR.out
    exact ⟨Below.refl _ _, s, [], rfl, HS.out, hp, owns_nil _ _⟩
  case round =>
    obtain ⟨hBr, t, pre, rfl, ht, HP, HO⟩ := hrel
    have hsz : w.heap.size ≤ wr.heap.size := hBr.out.size
    by_cases hz : t = 0
    · subst hz
      have e := HP.out
      rw [rise_zero, List.append_nil] at e
      subst e
      go_wp2
      go_ret
      exact ⟨_, rfl, HO.out, hBr.out⟩
    · have hz' : ((t : Int) != 0) = true := by simp; omega
      obtain ⟨l, hl0, hl1, hl2, hl3, hl4⟩ := low_spec t hz ht
      have kl := least_any t l wr (tab_below HT.out h0 hBr.out) ht hz hl0
      have kr : ∀ W, Calls Tryd.prog 42 #[.int .u64 t] W fun e w' => e = .returned (.int .u64 ((t &&& (t - 1) : Nat) : Int)) ∧ w' = W := fun W => rest_any t W ht (by omega)
      have hrl := rest_lt t hz
      obtain ⟨r, hr⟩ : ∃ r, t &&& (t - 1) = r := ⟨_, rfl⟩
      rw [hr] at kr hrl hl4
      have HS2 : Hid ((pre ++ [l]) ++ rise r = R) := by
        unfold Hid
        rw [← HP.out, rise_step t l hl1 hl2 hl3 r hl4]
        simp
      have hlp : pre.length ≤ 64 := by
        have := congrArg List.length HP.out
        simp at this
        omega
      clear hl0 hl2 hl3 hl4 hr HP
      go_wp2_with (first | (go_at_call 41; refine kl.mono ?_; rintro e w5 ⟨rfl, rfl⟩) | (go_at_call 42; refine (kr _).mono ?_; rintro e w6 ⟨rfl, rfl⟩) | (at_builtin; (refine wpList_append_tell _ rfl (.tmp 8) (.tmp 11) 38 rfl w.heap.size 3 i0 _ 1 8 Tryd.underlying38 hi hz0 hz1 hz2 rfl (by decide) _ pre.length (pre.map fun x => Value.int .i64 (x : Nat)) rfl (HO.out.alloc _) ⟨_, 0, none⟩ 1 1 [.int .i64 l] rfl rfl (World.news_of_block (heap_alloc_at rfl _)) (by simp [Value.oneCell']) (by unfold maxLen; omega) (by omega) (by simp; omega) ?_; intro v' w2 hown' hgrow hfr; have hB2 := hide_it ((hBr.out.alloc (by omega) _).grown hgrow (by simp; omega) (fun k hk => (HO.out.lt k hk).1)))))
      go_roundw
      case rel => exact ⟨hB2, r, pre ++ [l], rfl, by omega, HS2, own_snoc hown'⟩
      case measure => simp [intOf]; omega
end Go.Proofs.YtmeeimfjibcncaaDoor
