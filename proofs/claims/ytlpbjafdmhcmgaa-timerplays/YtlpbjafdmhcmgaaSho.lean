/- What must be in any case. -/
import Derived.Test.YtlpbjafdmhcmgaaSam
namespace Go.Proofs.Ytlpbjafdmhcmgaa
open Go.RowKit
open M
set_option linter.unusedVariables false
set_option linter.unusedSimpArgs false

theorem mx_new {B : Nat} {w W : World} (hb : Below B w W) (hle : B ≤ w.heap.size) (n : Nat) (hn : n ≤ 65536) : Calls Try.prog 11 #[.int .i64 n] W fun e w' => ∃ t g, e = .returned (ptr t) ∧ Hid (MX B w w' [(t, g, n, fun _ => none)] []) := by
  have := (mx_start hb hle).new (n : Int)
  rw [hsz_in n hn] at this
  exact this
theorem rd_row {B : Nat} {w0 w : World} {hs : List Hp} {R R' : List (Nat × Obj)} {a : Option Addr} {L : List Nat} {cap : Nat} (h : MX B w0 w hs (R' ++ R)) (hr : RowAt a L cap R') : Rd w a (L.map fun (x : Nat) => (x : Int)) := by
  intro i hi
  have hi2 : i < L.length := by simpa using hi
  obtain ⟨b, h1, h2, _, h3⟩ := row_at (w := w) hr (fun p hp => h.row (List.mem_append_left _ hp)) hi2
  exact ⟨b, h1, h3, by rw [h2]; simp⟩
theorem rd_new {w : World} {arr : Array Value} {L : List Int} (h : arr.toList = L.map (fun x => Value.int .i64 x)) : Rd (w.alloc (.cells arr 3)) (some ⟨w.heap.size, 0, none⟩) L := by
  intro i hi
  refine ⟨_, rfl, by simp, ?_⟩
  rw [cell_of_row _ _ i _ _ _ (heap_alloc_new w _), ← Array.getElem?_toList, h]
  simp [hi]

theorem shown_due : ∀ S5 : Nat → Option Int, S5 0 = some 5 → S5 1 = some 5 → S5 2 = some 3 → Fst 3 S5 2 3 ∧ (∀ L, Due 3 S5 2 L → L = []) ∧ ∀ S6, (∀ x, x < 3 → S6 x = S5 x) → Due 3 S6 5 [2, 0, 1] := by
  intro S h0 h1 h2
  have all : ∀ x, x < 3 → x = 0 ∨ x = 1 ∨ x = 2 := fun x hx => by omega
  refine ⟨⟨by omega, h2, fun z u hz hu => ?_⟩, fun L h => h.nil.2 (fun x y hx hs => ?_), fun S6 h6 => ⟨fun x => ?_, ?_⟩⟩
  · rcases all z hz with rfl | rfl | rfl
    · rw [h0] at hu; cases hu; omega
    · rw [h1] at hu; cases hu; omega
    · rw [h2] at hu; cases hu; omega
  · rcases all x hx with rfl | rfl | rfl
    · rw [h0] at hs; cases hs; omega
    · rw [h1] at hs; cases hs; omega
    · rw [h2] at hs; cases hs; omega
  · constructor
    · intro hx
      have : x = 2 ∨ x = 0 ∨ x = 1 := by simpa using hx
      rcases this with rfl | rfl | rfl
      · exact ⟨by omega, 3, by rw [h6 2 (by omega), h2], by omega⟩
      · exact ⟨by omega, 5, by rw [h6 0 (by omega), h0], by omega⟩
      · exact ⟨by omega, 5, by rw [h6 1 (by omega), h1], by omega⟩
    · rintro ⟨hx, _⟩
      rcases all x hx with rfl | rfl | rfl <;> simp
  · have k0 : kS S6 0 = 5 := kS_of (by rw [h6 0 (by omega), h0])
    have k1 : kS S6 1 = 5 := kS_of (by rw [h6 1 (by omega), h1])
    have k2 : kS S6 2 = 3 := kS_of (by rw [h6 2 (by omega), h2])
    simp [ltP, k0, k1, k2]

set_option maxRecDepth 1000000 in
set_option maxHeartbeats 4000000 in
theorem shown_any (w : World) : Calls Try.prog 10 #[] w fun e w' => e = .returned (.bool true) ∧ Below w.heap.size w w' := by
  obtain ⟨B, hB⟩ : ∃ B, w.heap.size = B := ⟨_, rfl⟩
  have k0 : Calls Try.prog 11 #[.int .i64 3] w fun e w' => ∃ t g, e = .returned (ptr t) ∧ Hid (MX B w w' [(t, g, 3, fun _ => none)] []) := mx_new (hB ▸ Below.refl _ _) (by omega) 3 (by omega)
  obtain ⟨S0, h0⟩ : ∃ S0 : Nat → Option Int, S0 = (fun _ => none) := ⟨_, rfl⟩
  obtain ⟨S1, h1⟩ : ∃ S1, S1 = setS 3 S0 1 9 := ⟨_, rfl⟩
  obtain ⟨S2, h2⟩ : ∃ S2, S2 = setS 3 S1 0 5 := ⟨_, rfl⟩
  obtain ⟨S3, h3⟩ : ∃ S3, S3 = setS 3 S2 1 5 := ⟨_, rfl⟩
  obtain ⟨S4, h4⟩ : ∃ S4, S4 = setS 3 S3 2 3 := ⟨_, rfl⟩
  obtain ⟨S5, h5⟩ : ∃ S5, S5 = setS 3 S4 3 0 := ⟨_, rfl⟩
  obtain ⟨S6, h6⟩ : ∃ S6, S6 = dueS S5 2 := ⟨_, rfl⟩
  obtain ⟨S7, h7⟩ : ∃ S7, S7 = dueS S6 5 := ⟨_, rfl⟩
  obtain ⟨S8, h8⟩ : ∃ S8, S8 = remS 3 S7 1 := ⟨_, rfl⟩
  have k1 : ∀ W t g, MX B w W [(t, g, 3, S0)] [] → Calls Try.prog 12 #[ptr t, .int .i64 1, .int .i64 9] W fun e w' => e = .returned (.int .i64 0) ∧ Hid (MX B w w' [(t, g, 3, S1)] []) := fun W t g h => by
    have := h.set_ 0 rfl 1 9; rw [← h1] at this; exact this
  have k2 : ∀ W t g, MX B w W [(t, g, 3, S1)] [] → Calls Try.prog 12 #[ptr t, .int .i64 0, .int .i64 5] W fun e w' => e = .returned (.int .i64 0) ∧ Hid (MX B w w' [(t, g, 3, S2)] []) := fun W t g h => by
    have := h.set_ 0 rfl 0 5; rw [← h2] at this; exact this
  have k3 : ∀ W t g, MX B w W [(t, g, 3, S2)] [] → Calls Try.prog 12 #[ptr t, .int .i64 1, .int .i64 5] W fun e w' => e = .returned (.int .i64 0) ∧ Hid (MX B w w' [(t, g, 3, S3)] []) := fun W t g h => by
    have := h.set_ 0 rfl 1 5; rw [← h3] at this; exact this
  have k4 : ∀ W t g, MX B w W [(t, g, 3, S3)] [] → Calls Try.prog 12 #[ptr t, .int .i64 2, .int .i64 3] W fun e w' => e = .returned (.int .i64 0) ∧ Hid (MX B w w' [(t, g, 3, S4)] []) := fun W t g h => by
    have := h.set_ 0 rfl 2 3; rw [← h4] at this; exact this
  have k5 : ∀ W t g, MX B w W [(t, g, 3, S4)] [] → Calls Try.prog 12 #[ptr t, .int .i64 3, .int .i64 0] W fun e w' => e = .returned (.int .i64 1) ∧ Hid (MX B w w' [(t, g, 3, S5)] []) := fun W t g h => by
    have := h.set_ 0 rfl 3 0; rw [← h5] at this; exact this
  have e0 : S5 0 = some 5 := by subst h5 h4 h3 h2 h1 h0; decide
  have e1 : S5 1 = some 5 := by subst h5 h4 h3 h2 h1 h0; decide
  have e2 : S5 2 = some 3 := by subst h5 h4 h3 h2 h1 h0; decide
  obtain ⟨f1, f2, f3⟩ := shown_due S5 e0 e1 e2
  have g6 : ∀ x, x < 3 → S6 x = S5 x := fun x hx => by
    subst h6
    rcases (by omega : x = 0 ∨ x = 1 ∨ x = 2) with rfl | rfl | rfl
    · simp [dueS, e0]
    · simp [dueS, e1]
    · simp [dueS, e2]
  have g7 : ∀ x, x < 3 → S7 x = none := fun x hx => by
    subst h7
    rcases (by omega : x = 0 ∨ x = 1 ∨ x = 2) with rfl | rfl | rfl
    · simp [dueS, g6, e0]
    · simp [dueS, g6, e1]
    · simp [dueS, g6, e2]
  have hh : hasB 3 S7 1 = false := by simp [hasB, g7]
  have h8' : S8 = S7 := by subst h8; simp [remS, hh]
  have k6 : ∀ W t g, MX B w W [(t, g, 3, S5)] [] → Calls Try.prog 19 #[ptr t] W fun e w' => e = .returned (.tuple #[.int .i64 3, .bool true]) ∧ Hid (MX B w w' [(t, g, 3, S5)] []) := fun W t g h => h.next1 0 rfl f1
  have k7 : ∀ W t g, MX B w W [(t, g, 3, S5)] [] → Calls Try.prog 16 #[ptr t, .int .i64 2] W fun e w' => ∃ a c, e = .returned (.slice a 0 c) ∧ Hid (MX B w w' [(t, g, 3, S6)] []) := fun W t g h => (h.due 0 rfl 2).mono (by
    rintro e w' ⟨a, L, cap, R', rfl, hd, hr, hm⟩
    have := f2 L hd
    subst this
    rw [← h6] at hm
    exact ⟨a, cap, rfl, hm.out.drop (fun p hp => by simp at hp)⟩)
  have k8 : ∀ W t g, MX B w W [(t, g, 3, S6)] [] → Calls Try.prog 16 #[ptr t, .int .i64 5] W fun e w' => ∃ a c, e = .returned (.slice a 3 c) ∧ Hid (MX B w w' [(t, g, 3, S7)] []) ∧ Hid (Rd w' a [2, 0, 1]) := fun W t g h => (h.due 0 rfl 5).mono (by
    rintro e w' ⟨a, L, cap, R', rfl, hd, hr, hm⟩
    have := hd.uniq (f3 S6 g6)
    subst this
    have h9 := rd_row hm.out hr
    rw [← h7] at hm
    exact ⟨a, cap, rfl, hm.out.drop (fun p hp => by simp at hp), h9⟩)
  have k9 : ∀ W t g, MX B w W [(t, g, 3, S7)] [] → Calls Try.prog 19 #[ptr t] W fun e w' => e = .returned (.tuple #[.int .i64 0, .bool false]) ∧ Hid (Below W.heap.size W w') := fun W t g h => by
    obtain ⟨F, h⟩ := h
    exact (next_none (h.ho 0 _ rfl) (fun x hx => g7 x hx)).mono (fun e w' q => ⟨q.1, below_of_eq q.2⟩)
  have ka : ∀ W a c, Rd W a [2, 0, 1] → Calls Try.prog 17 #[.slice a 3 c, .slice (some ⟨W.heap.size, 0, none⟩) 3 3] (W.alloc (.cells #[.int .i64 2, .int .i64 0, .int .i64 1] 3)) fun e w' => e = .returned (.bool true) ∧ Hid (Below W.heap.size W w') := fun W a c h => by
    have hb : Below W.heap.size W (W.alloc (.cells #[.int .i64 2, .int .i64 0, .int .i64 1] 3)) := (Below.refl _ _).alloc (Nat.le_refl _) _
    refine (same_any (L := [2, 0, 1]) (M := [2, 0, 1]) (h.below hb) (rd_new rfl) (by simp) (by simp) c 3).mono ?_
    rintro e w' ⟨rfl, h2⟩
    exact ⟨rfl, hb.trans (h2.mono (by simp))⟩
  have kb : ∀ W t g, MX B w W [(t, g, 3, S7)] [] → Calls Try.prog 14 #[ptr t, .int .i64 1] W fun e w' => e = .returned (.bool false) ∧ Hid (MX B w w' [(t, g, 3, S7)] []) := fun W t g h => by
    have := h.stop 0 rfl 1; rw [← h8, h8', hh] at this; exact this
  have kc : ∀ W t g, MX B w W [(t, g, 3, S7)] [] → Calls Try.prog 22 #[ptr g] W fun e w' => e = .returned (.int .i64 0) ∧ w' = W := fun W t g h => by
    have := h.len 0 rfl; rw [cntS_emp (fun x hx => g7 x hx)] at this; exact this
  have HC : Hid (∀ W t g, MX B w W [(t, g, 3, S7)] [] → W.cell? ⟨t, 0, none⟩ = some (ptr g)) := fun W t g h => h.c0 0 rfl
  rw [← h0] at k0
  clear h0 h1 h2 h3 h4 h5 h6 h7 h8 h8' hh g7 g6 f1 f2 f3 e0 e1 e2
  rw [hB]
  clear hB
  go_enter Try.func10, Try.ntmps10
  go_wp2_with (go_at_call 11; refine k0.mono ?_; rintro e w0 ⟨t, g, rfl, s⟩; clear k0; refine Hid.out ?_)
  refine hide_it ?_
  go_wp2_with (go_at_call 12; refine (k1 _ _ _ s.out).mono ?_; rintro e w1 ⟨rfl, s1⟩; clear k1 s; have s := s1; clear s1; refine Hid.out ?_)
  refine hide_it ?_
  go_wp2_with (go_at_call 12; refine (k2 _ _ _ s.out).mono ?_; rintro e w2 ⟨rfl, s2⟩; clear k2 s; have s := s2; clear s2; refine Hid.out ?_)
  refine hide_it ?_
  go_wp2_with (go_at_call 12; refine (k3 _ _ _ s.out).mono ?_; rintro e w3 ⟨rfl, s3⟩; clear k3 s; have s := s3; clear s3; refine Hid.out ?_)
  refine hide_it ?_
  go_wp2_with (go_at_call 12; refine (k4 _ _ _ s.out).mono ?_; rintro e w4 ⟨rfl, s4⟩; clear k4 s; have s := s4; clear s4; refine Hid.out ?_)
  refine hide_it ?_
  go_wp2_with (go_at_call 12; refine (k5 _ _ _ s.out).mono ?_; rintro e w5 ⟨rfl, s5⟩; clear k5 s; have s := s5; clear s5; refine Hid.out ?_)
  refine hide_it ?_
  go_wp2_with (go_at_call 19; refine (k6 _ _ _ s.out).mono ?_; rintro e w6 ⟨rfl, s6⟩; clear k6 s; have s := s6; clear s6; refine Hid.out ?_)
  refine hide_it ?_
  go_wp2_with (go_at_call 16; refine (k7 _ _ _ s.out).mono ?_; rintro e w7 ⟨a7, c7, rfl, s7⟩; clear k7 s; have s := s7; clear s7; refine Hid.out ?_)
  refine hide_it ?_
  go_wp2_with (go_at_call 16; refine (k8 _ _ _ s.out).mono ?_; rintro e w8 ⟨a8, c8, rfl, s8, r8⟩; clear k8 s; have s := s8; clear s8; refine Hid.out ?_)
  refine hide_it ?_
  go_wp2_with (go_at_call 19; refine (k9 _ _ _ s.out).mono ?_; rintro e w9 ⟨rfl, b9⟩; clear k9; have r := hide_it (r8.out.below b9.out); have s9 := hide_it (s.out.below b9.out); clear r8 s b9; refine Hid.out ?_)
  refine hide_it ?_
  go_wp2_with (go_at_call 17; refine (ka _ _ _ r.out).mono ?_; rintro e wa ⟨rfl, ba⟩; clear ka; have sa := hide_it (s9.out.below ba.out); clear r s9 ba; refine Hid.out ?_)
  refine hide_it ?_
  go_wp2_with (first | (go_at_call 14; refine (kb _ _ _ sa.out).mono ?_; rintro e wb ⟨rfl, sb⟩; have cb := HC.out _ _ _ sb.out) | (go_at_call 22; refine (kc _ _ _ sb.out).mono ?_; rintro e wc ⟨rfl, rfl⟩))
  go_ret
  exact ⟨rfl, sb.out.bel⟩
end Go.Proofs.Ytlpbjafdmhcmgaa
