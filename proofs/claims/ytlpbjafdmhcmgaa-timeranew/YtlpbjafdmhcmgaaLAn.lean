/- TimerAnew, walked. -/
import Derived.Test.YtlpbjafdmhcmgaaRow
import Derived.Deep.RegionHeld3
import Derived.Deep.CutRange
import Derived.Deep.CutBlock
import Derived.BigQuiet
namespace Go.Proofs.Ytlpbjafdmhcmgaa
open Go.RowKit
open M
set_option linter.unusedVariables false
set_option linter.unusedSimpArgs false

/-- All but d are there, never due; d has o. -/
def aS (d : Nat) (o : Option Int) (x : Nat) : Option Int := if x = d then o else some 4611686018427387904
/-- The first i but d are there. -/
def bS (d i : Nat) (x : Nat) : Option Int := if x < i ∧ x ≠ d then some 4611686018427387904 else none
theorem bS_set {d i : Nat} (hi : i < 9) (hd : i ≠ d) : ∀ x, x < 9 → bS d (i + 1) x = setS 9 (bS d i) i 4611686018427387904 x := by
  intro x hx
  unfold setS
  rw [isId_nat 9 i hi, if_pos rfl, Int.toNat_natCast]
  by_cases e : x = i
  · subst e; rw [upS_is]; simp [bS, hd]
  · rw [upS_ne _ _ e]; unfold bS; congr 1; simp; omega
theorem bS_skip {d i : Nat} (hd : i = d) : ∀ x, x < 9 → bS d (i + 1) x = bS d i x := by
  intro x hx
  unfold bS
  by_cases e : x = i
  · subst e; simp [hd]
  · congr 1; simp; omega
theorem bS_end (d : Nat) : ∀ x, x < 9 → aS d none x = bS d 9 x := by
  intro x hx
  unfold aS bS
  by_cases e : x = d <;> simp [e, hx]
theorem aS_set {d : Nat} (hd : d < 9) (o : Option Int) (y : Int) : ∀ x, x < 9 → aS d (some y) x = setS 9 (aS d o) d y x := by
  intro x hx
  unfold setS
  rw [isId_nat 9 d hd, if_pos rfl, Int.toNat_natCast]
  by_cases e : x = d
  · subst e; rw [upS_is]; simp [aS]
  · rw [upS_ne _ _ e]; simp [aS, e]
theorem aS_key {d : Nat} (hd : d < 9) (y : Int) : keyV 9 (aS d (some y)) d = y ∧ hasB 9 (aS d (some y)) d = true := by
  simp [keyV, hasB, isId_nat 9 d hd, aS]
theorem aS_none {d : Nat} : hasB 9 (aS d none) d = false := by simp [hasB, aS]
theorem aS_cnt {d : Nat} (hd : d < 9) (y : Int) : cntS 9 (aS d (some y)) = 9 := by
  have : ∀ x, x < 9 → (aS d (some y) x).isSome = true := fun x hx => by unfold aS; split <;> rfl
  unfold cntS
  rw [cnt_congr (q := fun _ => true) this]
  decide
theorem aS_cnt0 {d : Nat} (hd : d < 9) : cntS 9 (aS d none) = 8 := by
  have h : ∀ d, d < 9 → cnt (fun x => !decide (x = d)) 9 = 8 := by decide
  unfold cntS
  rw [cnt_congr (q := fun x => !decide (x = d)) (fun x hx => by unfold aS; by_cases e : x = d <;> simp [e])]
  exact h d hd
theorem aS_early {d : Nat} {y : Int} (hy : y < 4611686018427387904) : (∀ L, Due 9 (aS d (some y)) (y - 1) L → L = []) ∧ ∀ x, x < 9 → aS d (some y) x = dueS (aS d (some y)) (y - 1) x := by
  have h : ∀ x u, x < 9 → aS d (some y) x = some u → y - 1 < u := by
    intro x u hx hu
    unfold aS at hu
    split at hu
    · cases hu; omega
    · cases hu; omega
  refine ⟨fun L q => q.nil.2 h, fun x hx => ?_⟩
  cases hs : aS d (some y) x with
  | none => exact (dueS_none.2 (.inl hs)).symm
  | some u => exact (dueS_some.2 ⟨hs, h x u hx hs⟩).symm
theorem aS_due {d : Nat} (hd : d < 9) {y : Int} (hy : y < 4611686018427387904) : (∀ L, Due 9 (aS d (some y)) y L → L = [d]) ∧ ∀ x, x < 9 → aS d none x = dueS (aS d (some y)) y x := by
  refine ⟨fun L q => q.uniq ⟨fun x => ?_, by simp⟩, fun x hx => ?_⟩
  · rw [List.mem_singleton]
    constructor
    · rintro rfl; exact ⟨hd, y, by simp [aS], Int.le_refl _⟩
    · rintro ⟨_, u, hu, hle⟩
      unfold aS at hu
      split at hu
      · assumption
      · cases hu; omega
  · unfold dueS aS
    by_cases e : x = d
    · simp [e]
    · simp [e]; omega

set_option maxRecDepth 1000000 in
set_option maxHeartbeats 8000000 in
theorem timerAnew_walk (l : List Int) (a : Option Addr) (cap : Nat) (id : Int) (w : World) (hI : NumsIn .i64 w a l) (hl : l.length ≤ cap) (hc : cap ≤ maxLen) (hb : ∀ y ∈ l, (Lit.int .i64 y).wf = true) :
    Calls Try.prog 7 #[.slice a l.length cap, .int .i64 id] w fun e w' => e = .returned (.bool true) ∧ Below w.heap.size w w' := by
  obtain ⟨B, hB⟩ : ∃ B, w.heap.size = B := ⟨_, rfl⟩
  have ks : Calls Try.prog 10 #[] w fun e w' => e = .returned (.bool true) ∧ Hid (Below B w w') := by
    have := shown_any w
    rw [hB] at this
    exact this
  have hle : B ≤ w.heap.size := by omega
  obtain ⟨u, hu, hu2⟩ := and16 id
  obtain ⟨d, hN⟩ : ∃ d, u % 9 = d := ⟨_, rfl⟩
  have hd : d < 9 := by omega
  have q1 : (u : Int).tmod 9 = (d : Int) := by rw [Int.tmod_eq_emod_of_nonneg (by omega)]; omega
  have q2 : (u : Int) % 9 = (d : Int) := by omega
  have kn : ∀ W, Below B w W → Calls Try.prog 11 #[.int .i64 9] W fun e w' => ∃ t g, e = .returned (ptr t) ∧ Hid (MX B w w' [(t, g, 9, bS d 0)] []) := fun W hb => (mx_new hb hle 9 (by omega)).mono (by
    rintro e w' ⟨t, g, rfl, h⟩
    exact ⟨t, g, rfl, h.out.congr 0 rfl (fun x hx => by simp [bS])⟩)
  have hcm : cap ≤ 9223372036854775807 := by unfold maxLen at hc; omega
  obtain ⟨m, hm⟩ : ∃ m, l.length = m := ⟨_, rfl⟩
  rw [hm] at hl ⊢
  have HI : Hid (∀ (i : Nat), i < m → ∃ z b o, a = some ⟨b, o, none⟩ ∧ i64B z ∧ ∀ W, Below B w W → W.cell? ⟨b, o + i, none⟩ = some (.int .i64 z)) := fun i hi => by
    have hil : i < l.length := by omega
    obtain ⟨b, o, h1, h2, h3⟩ := hI i hil
    exact ⟨l[i], b, o, h1, bounds_i64 (hb _ (List.getElem_mem hil)), fun W q => by rw [(hB ▸ q : Below w.heap.size w W).cell (p := ⟨b, _, none⟩) h2]; exact h3⟩
  rw [hB]
  clear hI hc hB hm hN hb
  go_enter Try.func7, Try.ntmps7
  go_wp2_with (first | (go_at_call 10; refine ks.mono ?_; rintro e w1 ⟨rfl, s1⟩; clear ks) | (go_at_call 11; refine (kn _ s1.out).mono ?_; rintro e w2 ⟨t, g, rfl, s⟩; clear kn s1))
  go_loopw [7] (fun iv W => ∃ (i : Nat), iv = .int .i64 i ∧ i ≤ 9 ∧ Hid (MX B w W [(t, g, 9, bS d i)] [])) (fun iv _ => 9 - (intOf iv).toNat)
  case atStart => exact ⟨0, rfl, Nat.zero_le _, s⟩
  case round =>
    clear s
    obtain ⟨i, rfl, hi, s⟩ := hrel
    by_cases hlt : i < 9
    · have d1 : decide ((i : Int) < 9) = true := decide_eq_true (by omega)
      have d2 : decide (i < 9) = true := decide_eq_true (by omega)
      by_cases he : i = d
      · have e1 : ((i : Int) != (d : Int)) = false := by simp [he]
        have e2 : (i != d) = false := by simp [he]
        have s2 := hide_it (s.out.congr 0 rfl (bS_skip he))
        simp only [List.set_cons_zero] at s2
        clear he
        go_wp2
        go_roundw
        case rel => exact ⟨i + 1, by go_num, by omega, s2⟩
        case measure => simp [intOf]; omega
      · have e1 : ((i : Int) != (d : Int)) = true := by simp; omega
        have e2 : (i != d) = true := by simp; omega
        have kk : Calls Try.prog 12 #[ptr t, .int .i64 i, .int .i64 4611686018427387904] wr fun e w' => e = .returned (.int .i64 0) ∧ Hid (MX B w w' [(t, g, 9, bS d (i + 1))] []) := by
          have := s.out.set_ 0 rfl i 4611686018427387904
          rw [show setE 9 i = 0 by simp [setE, isId_nat 9 i hlt]] at this
          exact this.mono (fun e w' q => ⟨q.1, q.2.out.congr 0 rfl (bS_set hlt he)⟩)
        clear he
        go_wp2_with (go_at_call 12; refine kk.mono ?_; rintro e w3 ⟨rfl, s2⟩)
        go_roundw
        case rel => exact ⟨i + 1, by go_num, by omega, s2⟩
        case measure => simp [intOf]; omega
    · have d1 : decide ((i : Int) < 9) = false := by simp; omega
      have d2 : decide (i < 9) = false := by simp; omega
      have hi9 : i = 9 := by omega
      have s0 := s.out
      rw [hi9] at s0
      have s1 := hide_it (s0.congr 0 rfl (bS_end d))
      simp only [List.set_cons_zero] at s1
      clear s s0 hi9
      go_wp2
      go_loopw [8, 9, 10] (fun lv nv jv W => ∃ (j : Nat) (y : Int) (o : Option Int), lv = .int .i64 y ∧ nv = .int .i64 j ∧ jv = .int .i64 j ∧ j ≤ m ∧ j ≤ 50 ∧ -2305843009213693952 ≤ y ∧ y ≤ 2305843009213693952 ∧ ((j = 0 ∧ o = none) ∨ (0 < j ∧ o = some y)) ∧ Hid (MX B w W [(t, g, 9, aS d o)] [])) (fun lv nv jv _ => m - (intOf jv).toNat)
      case atStart => exact ⟨0, 0, none, rfl, rfl, rfl, Nat.zero_le _, by omega, by omega, by omega, .inl ⟨rfl, rfl⟩, s1⟩
      case round =>
        clear s1 d1 d2
        obtain ⟨j, y, o, rfl, rfl, rfl, hj, hj2, hy1, hy2, ho, s⟩ := hrel
        by_cases hlt : j < m
        · by_cases hlt2 : j < 50
          · have h50 : decide ((j : Int) < 50) = true := decide_eq_true (by omega)
            have h50' : decide (j < 50) = true := decide_eq_true (by omega)
            obtain ⟨z, b1, o1, rfl, hz, HX⟩ := HI.out j hlt
            have HX := hide_it HX
            have c0 := HX.out _ s.out.bel
            unfold i64B at hz
            obtain ⟨k1, k2⟩ := aS_key hd (z / 4)
            have kk : Calls Try.prog 12 #[ptr t, .int .i64 d, .int .i64 (z / 4)] wr fun e w' => e = .returned (.int .i64 0) ∧ Hid (MX B w w' [(t, g, 9, aS d (some (z / 4)))] []) := by
              have := s.out.set_ 0 rfl d (z / 4)
              rw [show setE 9 d = 0 by simp [setE, isId_nat 9 d hd]] at this
              exact this.mono (fun e w' q => ⟨q.1, q.2.out.congr 0 rfl (aS_set hd o (z / 4))⟩)
            have ka : ∀ W, MX B w W [(t, g, 9, aS d (some (z / 4)))] [] → Calls Try.prog 20 #[ptr t, .int .i64 d] W fun e w' => e = .returned (.tuple #[.int .i64 (z / 4), .bool true]) ∧ w' = W := fun W h => by
              have := h.at_ 0 rfl d
              rw [k1, k2] at this
              exact this
            have kl : ∀ W, MX B w W [(t, g, 9, aS d (some (z / 4)))] [] → Calls Try.prog 22 #[ptr g] W fun e w' => e = .returned (.int .i64 9) ∧ w' = W := fun W h => by
              have := h.len 0 rfl
              rw [aS_cnt hd] at this
              exact this
            have HC : Hid (∀ W, MX B w W [(t, g, 9, aS d (some (z / 4)))] [] → W.cell? ⟨t, 0, none⟩ = some (ptr g)) := fun W h => h.c0 0 rfl
            have en : (z / 4 != z / 4) = false := by simp
            clear k1 k2 ho
            go_wp2_with (first | (go_at_call 12; refine kk.mono ?_; rintro e w3 ⟨rfl, s2⟩; have c3 := HC.out _ s2.out) | (go_at_call 20; refine (ka _ s2.out).mono ?_; rintro e w4 ⟨rfl, rfl⟩) | (go_at_call 22; refine (kl _ s2.out).mono ?_; rintro e w5 ⟨rfl, rfl⟩))
            go_roundw
            case rel => exact ⟨j + 1, z / 4, _, rfl, by go_num, by go_num, by omega, by omega, by omega, by omega, .inr ⟨by omega, rfl⟩, s2⟩
            case measure => simp [intOf]; omega
          · have d1 : decide ((j : Int) < 50) = false := by simp; omega
            have d2 : decide (j < 50) = false := by simp; omega
            rcases ho with ⟨h0, rfl⟩ | ⟨h0, rfl⟩
            · exact absurd hlt2 (by omega)
            · have hj0 : ((j : Int) == 0) = false := by rw [beq_eq_false_iff_ne]; omega
              have hj1 : ¬ j = 0 := by omega
              have hy3 : y < 4611686018427387904 := by omega
              have k1 : Calls Try.prog 16 #[ptr t, .int .i64 (y - 1)] wr fun e w' => ∃ a c, e = .returned (.slice a 0 c) ∧ Hid (MX B w w' [(t, g, 9, aS d (some y))] []) := (s.out.due 0 rfl (y - 1)).mono (by
                rintro e w' ⟨a, L, cap, R', rfl, hdu, hr, hm⟩
                have := (aS_early hy3).1 L hdu
                subst this
                exact ⟨a, cap, rfl, (hm.out.congr 0 rfl (aS_early hy3).2).drop (fun p hp => by simp at hp)⟩)
              have k2 : ∀ W, MX B w W [(t, g, 9, aS d (some y))] [] → Calls Try.prog 16 #[ptr t, .int .i64 y] W fun e w' => ∃ a c, e = .returned (.slice a 1 c) ∧ Hid (MX B w w' [(t, g, 9, aS d none)] []) ∧ Hid (Rd w' a [(d : Int)]) := fun W h => (h.due 0 rfl y).mono (by
                rintro e w' ⟨a, L, cap, R', rfl, hdu, hr, hm⟩
                have := (aS_due hd hy3).1 L hdu
                subst this
                exact ⟨a, cap, rfl, (hm.out.congr 0 rfl (aS_due hd hy3).2).drop (fun p hp => by simp at hp), rd_row hm.out hr⟩)
              have ka : ∀ W a c, Rd W a [(d : Int)] → Calls Try.prog 17 #[.slice a 1 c, .slice (some ⟨W.heap.size, 0, none⟩) 1 1] (W.alloc (.cells #[.int .i64 d] 3)) fun e w' => e = .returned (.bool true) ∧ Hid (Below W.heap.size W w') := fun W a c h => by
                have hb : Below W.heap.size W (W.alloc (.cells #[.int .i64 d] 3)) := (Below.refl _ _).alloc (Nat.le_refl _) _
                refine (same_any (L := [(d : Int)]) (M := [(d : Int)]) (h.below hb) (rd_new rfl) (by simp) (by simp) c 1).mono ?_
                rintro e w' ⟨rfl, h2⟩
                exact ⟨by simp, hb.trans (h2.mono (by simp))⟩
              have kl : ∀ W, MX B w W [(t, g, 9, aS d none)] [] → Calls Try.prog 22 #[ptr g] W fun e w' => e = .returned (.int .i64 8) ∧ w' = W := fun W h => by
                have := h.len 0 rfl
                rw [aS_cnt0 hd] at this
                exact this
              have kp : ∀ W, MX B w W [(t, g, 9, aS d none)] [] → Calls Try.prog 14 #[ptr t, .int .i64 d] W fun e w' => e = .returned (.bool false) ∧ Hid (Below B w w') := fun W h => by
                have := h.stop 0 rfl d
                rw [aS_none] at this
                exact this.mono (fun e w' q => ⟨q.1, q.2.out.bel⟩)
              have HC : Hid (∀ W, MX B w W [(t, g, 9, aS d none)] [] → W.cell? ⟨t, 0, none⟩ = some (ptr g)) := fun W h => h.c0 0 rfl
              clear hy3
              go_wp2_with (go_at_call 16; refine k1.mono ?_; rintro e w3 ⟨a3, c3, rfl, s3⟩; refine Hid.out ?_)
              refine hide_it ?_
              go_wp2_with (go_at_call 16; refine (k2 _ s3.out).mono ?_; rintro e w4 ⟨a4, c4, rfl, s4, r4⟩; refine Hid.out ?_)
              refine hide_it ?_
              go_wp2_with (first | (go_at_call 17; refine (ka _ _ _ r4.out).mono ?_; rintro e w5 ⟨rfl, b5⟩; have s5 := hide_it (s4.out.below b5.out); have c5 := HC.out _ s5.out) | (go_at_call 22; refine (kl _ s5.out).mono ?_; rintro e w6 ⟨rfl, rfl⟩) | (go_at_call 14; refine (kp _ s5.out).mono ?_; rintro e w7 ⟨rfl, s7⟩))
              go_ret
              exact ⟨rfl, s7.out⟩
        · have d1 : decide ((j : Int) < m) = false := by simp; omega
          have d2 : decide (j < m) = false := by simp; omega
          rcases ho with ⟨h0, rfl⟩ | ⟨h0, rfl⟩
          · have hj0 : ((j : Int) == 0) = true := by simp [h0]
            have hj1 : (j == 0) = true := by simp [h0]
            have kl := s.out.len 0 rfl
            rw [aS_cnt0 hd] at kl
            have c3 := s.out.c0 0 rfl
            go_wp2_with (go_at_call 22; refine kl.mono ?_; rintro e w5 ⟨rfl, rfl⟩)
            go_ret
            exact ⟨rfl, s.out.bel⟩
          · have hj0 : ((j : Int) == 0) = false := by rw [beq_eq_false_iff_ne]; omega
            have hj1 : ¬ j = 0 := by omega
            have hy3 : y < 4611686018427387904 := by omega
            have k1 : Calls Try.prog 16 #[ptr t, .int .i64 (y - 1)] wr fun e w' => ∃ a c, e = .returned (.slice a 0 c) ∧ Hid (MX B w w' [(t, g, 9, aS d (some y))] []) := (s.out.due 0 rfl (y - 1)).mono (by
              rintro e w' ⟨a, L, cap, R', rfl, hdu, hr, hm⟩
              have := (aS_early hy3).1 L hdu
              subst this
              exact ⟨a, cap, rfl, (hm.out.congr 0 rfl (aS_early hy3).2).drop (fun p hp => by simp at hp)⟩)
            have k2 : ∀ W, MX B w W [(t, g, 9, aS d (some y))] [] → Calls Try.prog 16 #[ptr t, .int .i64 y] W fun e w' => ∃ a c, e = .returned (.slice a 1 c) ∧ Hid (MX B w w' [(t, g, 9, aS d none)] []) ∧ Hid (Rd w' a [(d : Int)]) := fun W h => (h.due 0 rfl y).mono (by
              rintro e w' ⟨a, L, cap, R', rfl, hdu, hr, hm⟩
              have := (aS_due hd hy3).1 L hdu
              subst this
              exact ⟨a, cap, rfl, (hm.out.congr 0 rfl (aS_due hd hy3).2).drop (fun p hp => by simp at hp), rd_row hm.out hr⟩)
            have ka : ∀ W a c, Rd W a [(d : Int)] → Calls Try.prog 17 #[.slice a 1 c, .slice (some ⟨W.heap.size, 0, none⟩) 1 1] (W.alloc (.cells #[.int .i64 d] 3)) fun e w' => e = .returned (.bool true) ∧ Hid (Below W.heap.size W w') := fun W a c h => by
              have hb : Below W.heap.size W (W.alloc (.cells #[.int .i64 d] 3)) := (Below.refl _ _).alloc (Nat.le_refl _) _
              refine (same_any (L := [(d : Int)]) (M := [(d : Int)]) (h.below hb) (rd_new rfl) (by simp) (by simp) c 1).mono ?_
              rintro e w' ⟨rfl, h2⟩
              exact ⟨by simp, hb.trans (h2.mono (by simp))⟩
            have kl : ∀ W, MX B w W [(t, g, 9, aS d none)] [] → Calls Try.prog 22 #[ptr g] W fun e w' => e = .returned (.int .i64 8) ∧ w' = W := fun W h => by
              have := h.len 0 rfl
              rw [aS_cnt0 hd] at this
              exact this
            have kp : ∀ W, MX B w W [(t, g, 9, aS d none)] [] → Calls Try.prog 14 #[ptr t, .int .i64 d] W fun e w' => e = .returned (.bool false) ∧ Hid (Below B w w') := fun W h => by
              have := h.stop 0 rfl d
              rw [aS_none] at this
              exact this.mono (fun e w' q => ⟨q.1, q.2.out.bel⟩)
            have HC : Hid (∀ W, MX B w W [(t, g, 9, aS d none)] [] → W.cell? ⟨t, 0, none⟩ = some (ptr g)) := fun W h => h.c0 0 rfl
            clear hy3
            go_wp2_with (go_at_call 16; refine k1.mono ?_; rintro e w3 ⟨a3, c3, rfl, s3⟩; refine Hid.out ?_)
            refine hide_it ?_
            go_wp2_with (go_at_call 16; refine (k2 _ s3.out).mono ?_; rintro e w4 ⟨a4, c4, rfl, s4, r4⟩; refine Hid.out ?_)
            refine hide_it ?_
            go_wp2_with (first | (go_at_call 17; refine (ka _ _ _ r4.out).mono ?_; rintro e w5 ⟨rfl, b5⟩; have s5 := hide_it (s4.out.below b5.out); have c5 := HC.out _ s5.out) | (go_at_call 22; refine (kl _ s5.out).mono ?_; rintro e w6 ⟨rfl, rfl⟩) | (go_at_call 14; refine (kp _ s5.out).mono ?_; rintro e w7 ⟨rfl, s7⟩))
            go_ret
            exact ⟨rfl, s7.out⟩
end Go.Proofs.Ytlpbjafdmhcmgaa
