/- The document's own Admit: End. -/
import Derived.Test.YtjmdalpffhfdfaaRfb
namespace Go.Proofs.Ytjmdalpffhfdfaa
open Go.RowKit
open M
set_option linter.unusedVariables false
set_option linter.unusedSimpArgs false

set_option maxRecDepth 1000000 in
set_option maxHeartbeats 2000000 in
theorem rend_no {B : Nat} {w : World} {rb : Nat} {ac qu : Int} {v : Value} {L : List Int} (h : RM B w rb ac qu v L) (hl : L.length ≤ 1000000) {y : Int} (hy : ¬ y ∈ L) :
    Calls Try.prog 15 #[ptr rb, .int .i64 y] w fun e w' => e = .returned (.tuple #[.int .i64 0, .int .i64 6]) ∧ w' = w := by
  have k := rfind_any h hl y
  rw [ix_not hy] at k
  clear h hy
  go_enter Try.func15, Try.ntmps15
  go_wp2_with (go_at_call 23; refine k.mono ?_; rintro e w' ⟨rfl, rfl⟩)
  go_ret2
  exact ⟨rfl, rfl⟩

set_option maxRecDepth 1000000 in
set_option maxHeartbeats 4000000 in
theorem rend_yes {B : Nat} {w : World} {rb : Nat} {ac qu : Int} {v : Value} {L : List Int} (h : RM B w rb ac qu v L) (hB : B ≤ w.heap.size) (hl : L.length ≤ 1000000) {y : Int} (hy : y ∈ L) {k N N2 : Nat} (hk : ix L y = k) (hN : (N : Int) = min (L.length : Int) (max ac 1)) (hN2 : (N2 : Int) = min ((L.length : Int) - 1) (max ac 1)) {V : Int} (hV : (N ≤ k ∧ V = -1) ∨ (k < N ∧ N2 ≠ N ∧ V = -1) ∨ (k < N ∧ N2 = N ∧ (L.erase y)[N - 1]? = some V)) :
    Calls Try.prog 15 #[ptr rb, .int .i64 y] w fun e w' => e = .returned (.tuple #[.int .i64 V, .int .i64 0]) ∧ Hid (∃ v', RM B w' rb ac qu v' (L.erase y) ∧ Turn (fun k => k = rb) w w' ∧ ∀ k, v'.ownBlock = some k → w.heap.size ≤ k) := by
  have HVV := hide_it hV
  clear hV
  have k1 := rfind_any h hl y
  rw [hk] at k1
  have k2 := rsplit_any h hl N hN
  obtain ⟨i, e1, hi, e2, e3⟩ := ix_mem hy
  obtain rfl : k = i := by omega
  have hle := List.length_erase_of_mem hy
  have K20 : Hid (∀ W v', RM B W rb ac qu v' (L.erase y) → Calls Try.prog 20 #[ptr rb] W fun e w' => e = .returned (.int .i64 N2) ∧ Hid (Below W.heap.size W w')) := fun W v' g => rsplit_any g (by omega) N2 (by omega)
  have hN1 : 1 ≤ N := by omega
  have hNL : (N : Int) ≤ 1000000 := by omega
  clear hN hN2
  obtain ⟨g, cap, rfl⟩ : ∃ g cap, v = .slice (some ⟨g, 0, none⟩) L.length cap := by
    rcases h.row.2 with ⟨e, q⟩ | ⟨g, c, cur, e, _⟩
    · omega
    · exact ⟨g, c, e⟩
  obtain ⟨n, hn⟩ : ∃ n, L.length = n := ⟨_, rfl⟩
  obtain ⟨ao, cap', ev, hr⟩ := h.form
  cases ev
  have hc1 := hr.1
  rw [hn] at hc1
  have hcM := hr.2.1
  have hc2 : cap ≤ 9223372036854775807 := by unfold maxLen at hcM; omega
  obtain ⟨j, hj⟩ : ∃ j, k + 1 = j := ⟨_, rfl⟩
  obtain ⟨A, hA, HRA⟩ : ∃ A : Addr, (if cap = j then some (⟨g, 0, none⟩ : Addr) else some ⟨g, j, none⟩) = some A ∧ Hid (Rd w (some A) (L.drop j) (cap - j)) := by
    rcases hr.2.2 with ⟨e, _⟩ | ⟨b, o, e, hb, hc⟩
    · rw [e] at hi; simp at hi
    · cases e
      by_cases h : cap = j
      · refine ⟨⟨g, 0, none⟩, by simp [h], ⟨by simp; omega, by omega, .inr ⟨g, 0, rfl, hb, fun i hi2 => by simp at hi2; omega⟩⟩⟩
      · refine ⟨⟨g, j, none⟩, by simp [h], ⟨by simp; omega, by omega, .inr ⟨g, j, rfl, hb, fun i hi2 => ?_⟩⟩⟩
        have := hc (j + i) (by simp at hi2; omega)
        rw [Nat.zero_add] at this
        rw [this, List.getElem_drop]
  have HRT : Hid (Rd w (some ⟨g, 0, none⟩) (L.take k) cap) := by
    rcases hr.2.2 with ⟨e, _⟩ | ⟨b, o, e, hb, hc⟩
    · rw [e] at hi; simp at hi
    · cases e
      refine ⟨by simp; omega, hcM, .inr ⟨g, 0, rfl, hb, fun i hi2 => ?_⟩⟩
      have := hc i (by simp at hi2; omega)
      rw [this, List.getElem_take]
  have hlt : Hid (k = (L.take k).length ∧ n - j = (L.drop j).length) := ⟨by simp; omega, by simp; omega⟩
  have hp1 : (j : Int) ≤ (n : Int) := by omega
  have hjn : j ≤ n := by omega
  have hkn : k ≤ n := by omega
  have hkc : k ≤ cap := by omega
  have hjc : j ≤ cap := by omega
  have z0 : ((k : Int) < 0) = False := by simp
  have HER : Hid ([] ++ L.take k ++ L.drop j = L.erase y) := hide_it (by rw [List.nil_append, e2, hj])
  have H := hide_it h
  have HBw := hide_it hB
  have HNN := hide_it hn
  have HLL : Hid (([] : List Int).length + (L.take k).length ≤ 1000000 ∧ ([] ++ L.take k : List Int).length + (L.drop j).length ≤ 1000000) := ⟨by simp; omega, by simp; omega⟩
  have HLE : Hid ((L.erase y).length + 1 = n) := hide_it (by omega)
  rw [hn] at hl hi
  have hwr : IntKind.i64.wrap ((k : Int) + 1) = (j : Int) := by rw [IntKind.wrap_i64]; omega
  have hwr2 : wrap64 ((k : Int) + 1) = (j : Int) := by rw [← hwr, IntKind.wrap_i64]; unfold wrap64; omega
  clear h hr hB hy hk e1 e2 e3 hle hj hn hcM
  go_enter Try.func15, Try.ntmps15
  go_upto_region 5 with (first | (go_at_call 23; refine k1.mono ?_; rintro e w' ⟨rfl, e9⟩; have e8 := e9.symm; clear e9; subst e8) | (go_at_call 20; refine k2.mono ?_; rintro e w4 ⟨rfl, s4⟩))
  have H4 : Hid (RM B w4 rb ac qu (.slice (some ⟨g, 0, none⟩) n cap) L) := by have := H.out.below s4.out; rw [HNN.out] at this; exact this
  have HC2 : Hid (∀ W, Below w4.heap.size w4 W → W.cell? ⟨rb, 2, none⟩ = some (.slice (some ⟨g, 0, none⟩) n cap) ∧ W.frozen? ⟨rb, 2, none⟩ = false) := fun W hb => ⟨(H4.out.below hb).c2, (H4.out.below hb).fr 2⟩
  have B0 : Hid (Below w4.heap.size w4 (w4.alloc (.cells #[] 3)).drew) := ((Below.refl _ _).alloc (Nat.le_refl _) _).drew
  have B00 : Hid (Below w4.heap.size w4 (w4.alloc (.cells #[] 3))) := (Below.refl _ _).alloc (Nat.le_refl _) _
  have OW0 : Hid ((w4.alloc (.cells #[] 3)).drew.ownsRow w4.heap.size 3 1 (.slice (some ⟨w4.heap.size, 0, none⟩) 0 0) ([] : List Int).length (ints [])) := World.ownsRow_lit w4.drew #[] 0 (Nat.le_refl _) (by simp [maxLen]) (by simp)
  have R0 : Hid (Rd (w4.alloc (.cells #[] 3)).drew (some ⟨g, 0, none⟩) (L.take k) cap) := (HRT.out.below s4.out).below B0.out
  have RA : Hid (∀ W, Below w4.heap.size w4 W → Rd W (some A) (L.drop j) (cap - j)) := fun W hb => (HRA.out.below s4.out).below hb
  obtain ⟨c2, f2⟩ := HC2.out _ (Below.refl _ _)
  obtain ⟨c2d, f2d⟩ := HC2.out _ ((Below.refl _ _).drew)
  obtain ⟨cB, fB⟩ := HC2.out _ B00.out
  have HPUT : Hid (∀ W ao m c, Below w4.heap.size w4 W → m = ([] ++ L.take k ++ L.drop j).length → W.ownsRow w4.heap.size 3 1 (.slice ao m c) m (ints ([] ++ L.take k ++ L.drop j)) → ∃ v', RM B (W.setCell ⟨rb, 2, none⟩ (.slice ao m c)) rb ac qu v' (L.erase y) ∧ Turn (fun k => k = rb) w (W.setCell ⟨rb, 2, none⟩ (.slice ao m c)) ∧ ∀ k, v'.ownBlock = some k → w.heap.size ≤ k) := fun W ao m c hb hm ho => by
    rw [HER.out] at hm ho
    subst hm
    obtain ⟨p1, p2, p3⟩ := H4.out.put hb ho (Nat.le_trans HBw.out s4.out.size)
    exact ⟨_, p1, (Turn.of_below s4.out).trans p2, fun k hk => Nat.le_trans s4.out.size (p3 k hk)⟩
  clear k1 k2
  go_cut [] from 15 to 33 (fun wx => Hid (∃ v', RM B wx rb ac qu v' (L.erase y) ∧ Turn (fun k => k = rb) w wx ∧ ∀ k, v'.ownBlock = some k → w.heap.size ≤ k))
  case first =>
    (go_region_law (first | (rw [if_pos (by rfl)]; refine wp_cat (.tmp 23) (.tmp 30) (by rfl) (base := w4.heap.size) (v := .slice b8 m8 n8) (L := [] ++ L.take k) (by rw [← H8.out.1]; exact H8.out.2.1) (RA.out _ B1.out) hlt.out.2 HLL.out.2 (by simp [Act.eval, Act.put]) (by simp [Act.eval, Act.put]) B1.out.size ?_; intro b9 n9 m9 w9 H9; have B2 := hide_it (B1.out.grown H9.out.2.2.1 B1.out.size (fun q hq => (H8.out.2.1.lt q hq).1)); obtain ⟨x4, x5⟩ := HC2.out _ B2.out) | (rw [if_pos (by rfl)]; refine wp_cat (.tmp 16) (.tmp 22) (by rfl) (base := w4.heap.size) (L := []) OW0.out R0.out hlt.out.1 HLL.out.1 (by simp [Act.eval, Act.put]) (by simp [Act.eval, Act.put]) B0.out.size ?_; intro b8 n8 m8 w8 H8; have B1 := hide_it (B0.out.grown H8.out.2.2.1 B0.out.size (fun q hq => (OW0.out.lt q hq).1)); obtain ⟨x6, x7⟩ := HC2.out _ B1.out)))
    all_goals
      go_wp2
      go_meet
      exact HPUT.out _ _ _ _ B2.out H9.out.1 H9.out.2.1
  case rest =>
    clear HPUT HC2 B0 B00 OW0 R0 RA c2 f2 c2d f2d cB fB H4 HRA HRT hlt HER HLL hwr hwr2 hA H
    obtain ⟨v2, r1, r2, r3⟩ := hcut.out
    have FIN : Hid (∀ W, Below wc.heap.size wc W → ∃ v', RM B W rb ac qu v' (L.erase y) ∧ Turn (fun k => k = rb) w W ∧ ∀ k, v'.ownBlock = some k → w.heap.size ≤ k) := fun W hb => ⟨v2, r1.below hb, r2.trans (Turn.of_below hb), r3⟩
    have HR1 := hide_it r1
    have k20 := K20.out _ _ r1
    clear hcut r1 r2 r3 K20
    rcases HVV.out with ⟨q1, rfl⟩ | ⟨q1, q2, rfl⟩ | ⟨q1, q2, q3⟩
    · have d1 : decide ((k : Int) < (N : Int)) = false := decide_eq_false (by omega)
      have d2 : decide (k < N) = false := decide_eq_false (by omega)
      have s0 : Hid (Below wc.heap.size wc wc) := Below.refl _ _
      clear HVV k20 HR1
      go_wp2
      go_ret2
      exact ⟨rfl, FIN.out _ s0.out⟩
    · have d1 : decide ((k : Int) < (N : Int)) = true := decide_eq_true (by omega)
      have d2 : decide (k < N) = true := decide_eq_true q1
      have d3 : ((N2 : Int) == (N : Int)) = false := by rw [beq_eq_false_iff_ne]; omega
      have d4 : (N2 == N) = false := by rw [beq_eq_false_iff_ne]; exact q2
      clear HVV HR1
      go_wp2_with (go_at_call 20; refine k20.mono ?_; rintro e w5 ⟨rfl, s5⟩)
      go_ret2
      exact ⟨rfl, FIN.out _ s5.out⟩
    · subst q2
      have d1 : decide ((k : Int) < (N2 : Int)) = true := decide_eq_true (by omega)
      have d2 : decide (k < N2) = true := decide_eq_true q1
      obtain ⟨p, hp⟩ : ∃ p, N2 - 1 = p := ⟨_, rfl⟩
      rw [hp] at q3
      have hpl := (List.getElem?_eq_some_iff.1 q3).1
      obtain ⟨M2, hM2⟩ : ∃ M, (L.erase y).length = M := ⟨_, rfl⟩
      rw [hM2] at hpl
      have hM63 : M2 ≤ 1000000 := by have := HLE.out; omega
      have HG : Hid (∀ W, Below wc.heap.size wc W → ∃ b o c, W.cell? ⟨rb, 2, none⟩ = some (.slice (some ⟨b, o, none⟩) M2 c) ∧ M2 ≤ c ∧ c ≤ 9223372036854775807 ∧ W.cell? ⟨b, o + p, none⟩ = some (.int .i64 V)) := fun W hb => by
        have g := HR1.out.below hb
        obtain ⟨ao, c, e, hr⟩ := g.form
        obtain ⟨b, o, z, e1, e2, e3⟩ := hr.get (i := p) (by omega)
        rw [q3] at e2
        cases e2
        have g2 := g.c2
        rw [e, e1, hM2] at g2
        have h1 := hr.1
        have h2 := hr.2.1
        unfold maxLen at h2
        exact ⟨b, o, c, g2, by omega, by omega, e3⟩
      have hpM : (p : Int) < (M2 : Int) := by omega
      have hpM2 : p < M2 := by omega
      have v1 : IntKind.i64.wrap ((N2 : Int) - 1) = (p : Int) := by rw [IntKind.wrap_i64]; omega
      have v2' : wrap64 ((N2 : Int) - 1) = (p : Int) := by rw [← v1, IntKind.wrap_i64]; unfold wrap64; omega
      clear HVV HR1 q3 hM2 hp hi hc1 hp1 hjn hkn hkc hjc HLE HNN
      go_wp2_with (go_at_call 20; refine k20.mono ?_; rintro e w5 ⟨rfl, s5⟩; obtain ⟨b6, o6, c6, g1, g2, g3, g4⟩ := HG.out _ s5.out)
      go_ret2
      exact ⟨rfl, FIN.out _ s5.out⟩
end Go.Proofs.Ytjmdalpffhfdfaa
