/- Raised of package prio. -/
import Derived.Test.YtmeeimfjibcncaaDoorDlg
import Derived.WalkHide
namespace Go.Proofs.YtmeeimfjibcncaaDoor
open Go.RowKit
open M
set_option linter.unusedVariables false
set_option linter.unusedSimpArgs false

theorem reachL_pos {n : Nat} {es : List E} {b : Int} (h : offB n b = false) (hn : n ≤ 64) (hg : ∀ e ∈ es, e.1 < n ∧ e.2 < n) : reachL n es b ≠ [] := by
  have hb : 0 ≤ b ∧ b < n := by simp [offB] at h; omega
  obtain ⟨B, rfl⟩ : ∃ B : Nat, b = B := ⟨b.toNat, by omega⟩
  intro e
  have := (mem_reachL hn hg (B : Int) B).2 (reachB_self h)
  rw [e] at this
  cases this
theorem keep_raised {n : Nat} {es : List E} {Q : List Rq} {A : Nat} {b : Int} (ha : offB n (A : Int) = false) (hb : offB n b = false) :
    keepL (fun x => decide (prioOf n es Q A ≤ prioOf n es Q x)) (reachL n es b) (reachL n es b).length = raisedL n es Q (A : Int) b := by
  unfold raisedL keepL
  rw [if_neg (by rw [ha, hb]; simp), List.take_length]
  refine List.filter_congr fun x _ => ?_
  simp only [Int.toNat_natCast]
  by_cases h : prioOf n es Q A ≤ prioOf n es Q x
  · simp [h]
  · simp [h]; omega

set_option maxRecDepth 1000000 in
set_option maxHeartbeats 4000000 in
theorem raisedP_any {w : World} {g eb n : Nat} {v : Value} {es : List E} (h : GM w g eb n v es) (hT : Tab w) (h0 : 0 < w.heap.size) {qa : Option Addr} {Q : List Rq} (hq : QIn w qa Q) (hm : Q.length ≤ 1000000) (qc : Nat) (a b : Int) :
    Calls Tryd.prog 17 #[ptr g, .slice qa Q.length qc, .int .i64 a, .int .i64 b] w fun e w' => ∃ u, e = .returned u ∧ OwnI w' w.heap.size u (raisedL n es Q a b) ∧ Below w.heap.size w w' := by
  have hn := h.hn
  have hmf : ∀ (fn : Fn) (first cap : Array Value) (w : World), (Instr.makeFunc fn first cap).run Tryd.prog w = .ok (.func fn first cap) w := fun _ _ _ _ => rfl
  have b1 : Below w.heap.size w (w.alloc (.cells #[.int .i64 a] 3)) := (Below.refl _ _).alloc (Nat.le_refl _) _
  obtain ⟨w1, hw1⟩ : ∃ w1, w.alloc (.cells #[.int .i64 a] 3) = w1 := ⟨_, rfl⟩
  obtain ⟨c6, hc6⟩ : ∃ c, w.heap.size = c := ⟨_, rfl⟩
  have k6 : w1.cell? ⟨c6, 0, none⟩ = some (.int .i64 a) := by rw [← hw1, ← hc6]; simp
  have hl6 : Hid (c6 < w1.heap.size ∧ w.heap.size ≤ c6) := by unfold Hid; rw [← hw1]; simp; omega
  rw [hw1] at b1
  have k1 := some_any g w1
  have ka := isTask_any g eb n a w1 hn (h.below b1).c1
  have kb := isTask_any g eb n b w1 hn (h.below b1).c1
  have HB1 := hide_it b1
  have HW := hide_it hw1
  have HC := hide_it hc6
  have HG := hide_it h.good
  by_cases ho : offB n a = true ∨ offB n b = true
  · have hR : raisedL n es Q a b = [] := by unfold raisedL; rw [if_pos ho]
    rw [hR]
    clear hR h hT h0 hq hw1 hc6
    cases ha : offB n a with
    | true =>
      rw [ha] at ka
      clear ho kb
      go_enter Tryd.func17, Tryd.ntmps17
      go_wp2_with (first | (rw [HW.out]) | (rw [HC.out]) | (go_at_call 26; refine k1.mono ?_; rintro e w2 ⟨rfl, hw2⟩; rw [hw2]; clear hw2 w2) | (go_at_call 29; refine ka.mono ?_; rintro e w2 ⟨rfl, hw2⟩; rw [hw2]; clear hw2 w2))
      go_ret
      exact ⟨_, rfl, owns_nil _ _, by first | exact HB1.out | (rw [← HC.out]; exact HB1.out)⟩
    | false =>
      have hb : offB n b = true := by rw [ha] at ho; simpa using ho
      rw [ha] at ka
      rw [hb] at kb
      clear ho
      go_enter Tryd.func17, Tryd.ntmps17
      go_wp2_with (first | (rw [HW.out]) | (rw [HC.out]) | (go_at_call 26; refine k1.mono ?_; rintro e w2 ⟨rfl, hw2⟩; rw [hw2]; clear hw2 w2) | (go_at_call 29; refine ka.mono ?_; rintro e w2 ⟨rfl, hw2⟩; rw [hw2]; clear hw2 w2; refine Hid.out ?_))
      refine hide_it ?_
      go_wp2_with (go_at_call 29; refine kb.mono ?_; rintro e w2 ⟨rfl, hw2⟩; rw [hw2]; clear hw2 w2)
      go_ret
      exact ⟨_, rfl, owns_nil _ _, by first | exact HB1.out | (rw [← HC.out]; exact HB1.out)⟩
  · have ha : offB n a = false := by cases q : offB n a with
      | false => rfl
      | true => exact absurd (.inl q) ho
    have hb : offB n b = false := by cases q : offB n b with
      | false => rfl
      | true => exact absurd (.inr q) ho
    have hr : 0 ≤ a ∧ a < n := by simp [offB] at ha; omega
    obtain ⟨A, rfl⟩ : ∃ A : Nat, a = A := ⟨a.toNat, by omega⟩
    have hA : A < n := by omega
    rw [ha] at ka
    rw [hb] at kb
    have ko := of_any (h.below b1) (tab_below hT h0 b1) (Nat.lt_of_lt_of_le h0 b1.size) (hq.below b1 (Nat.le_refl _)) hm qc
    have HK := hide_it (keep_raised (n := n) (es := es) (Q := Q) ha hb)
    have hne := hide_it (reachL_pos hb hn h.good)
    have HLt := hide_it (reachL_lt hn h.good b)
    have hl64 := reachL_len n es b
    have kr : ∀ (W : World), Below w.heap.size w W → Calls Tryd.prog 28 #[ptr g, .int .i64 b] W fun e w' => ∃ r cap, e = .returned (.slice (some ⟨r, 0, none⟩) (reachL n es b).length cap) ∧ Hid (OwnI w' W.heap.size (.slice (some ⟨r, 0, none⟩) (reachL n es b).length cap) (reachL n es b) ∧ Below W.heap.size W w') := fun W hW => by
      refine (reach_any (h.below hW) (tab_below hT h0 hW) (Nat.lt_of_lt_of_le h0 hW.size) b).mono ?_
      rintro e w' ⟨u, rfl, ho, hb2⟩
      rcases ho.2 with ⟨rfl, hz⟩ | ⟨r, cap, cur, rfl, rest⟩
      · exact absurd (List.eq_nil_of_length_eq_zero hz) hne.out
      · exact ⟨r, cap, rfl, ho, hb2⟩
    obtain ⟨P, hP⟩ : ∃ P, prioOf n es Q = P := ⟨_, rfl⟩
    have HP := hide_it hP
    rw [hP] at HK
    obtain ⟨R, hR⟩ : ∃ R, raisedL n es Q (A : Int) b = R := ⟨_, rfl⟩
    rw [hR] at HK ⊢
    clear h hT h0 hq ho ha hb hP hR b1 hw1 hc6 hr
    generalize reachL n es b = L at *
    go_enter Tryd.func17, Tryd.ntmps17
    go_wp2_with (first | (rw [HW.out]) | (rw [HC.out]) | (go_at_call 26; refine k1.mono ?_; rintro e w2 ⟨rfl, hw2⟩; rw [hw2]; clear hw2 w2) | (go_at_call 29; refine ka.mono ?_; rintro e w2 ⟨rfl, hw2⟩; rw [hw2]; clear hw2 w2; refine Hid.out ?_))
    refine hide_it ?_
    go_upto_region 4 with (go_at_call 29; refine kb.mono ?_; rintro e w2 ⟨rfl, hw2⟩; rw [hw2]; clear hw2 w2)
    go_upto_region 5 with (go_at_call 15; refine ko.mono ?_; rintro e w3 ⟨br, rfl, s3, hb3⟩)
    obtain ⟨w4, hw4⟩ : ∃ w4, w3.alloc (.cells #[.slice (some ⟨br, 0, none⟩) n n] 38) = w4 := ⟨_, rfl⟩
    obtain ⟨c9, hc9⟩ : ∃ c, w3.heap.size = c := ⟨_, rfl⟩
    have B3 : Below w.heap.size w w3 := HB1.out.trans (hb3.mono HB1.out.size)
    have b4 : Below w3.heap.size w3 w4 := by rw [← hw4]; exact (Below.refl _ _).alloc (Nat.le_refl _) _
    have B4 := hide_it (B3.trans (b4.mono B3.size))
    have z9 : w4.cell? ⟨c9, 0, none⟩ = some (.slice (some ⟨br, 0, none⟩) n n) := by rw [← hw4, ← hc9]; simp
    have z6 : w4.cell? ⟨c6, 0, none⟩ = some (.int .i64 A) := by
      rw [b4.cell (p := ⟨c6, 0, none⟩) (Nat.lt_of_lt_of_le hl6.out.1 hb3.size), hb3.cell (p := ⟨c6, 0, none⟩) hl6.out.1]
      exact k6
    have zr : ∀ x, x < n → br < w3.heap.size ∧ w4.cell? ⟨br, x, none⟩ = some (.int .i64 (P x)) := fun x hx => by
      obtain ⟨rr, e1, e2, e3⟩ := s3.out.2.at x (by simp [ofL, hx])
      cases e1
      refine ⟨e2, ?_⟩
      rw [b4.cell (p := ⟨br, x, none⟩) e2, e3, ← HP.out]
      simp [ofL]
    have l9 : c9 < w4.heap.size := by rw [← hw4, ← hc9]; simp
    have l6 : c6 < w4.heap.size := Nat.lt_of_lt_of_le (Nat.lt_of_lt_of_le hl6.out.1 hb3.size) b4.size
    have HD : Hid (∀ w5 r cap, OwnI w5 w4.heap.size (.slice (some ⟨r, 0, none⟩) L.length cap) L ∧ Below w4.heap.size w4 w5 → Calls Tryd.prog 30 #[.slice (some ⟨r, 0, none⟩) L.length cap, .func (.func 31) #[] #[ptr c9, ptr c6]] w5 fun e w' => ∃ u, e = .returned u ∧ Hid (OwnI w' w.heap.size u R ∧ Below w.heap.size w w')) := by
      rintro w5 r cap ⟨o5, b5⟩
      have hrb : w4.heap.size ≤ r := (o5.lt r rfl).1
      have hw4s := B4.out.size
      refine (delf_any (base := w.heap.size) (c1 := c9) (c2 := c6) (fun x => decide (P A ≤ P x)) rfl (by omega) (owns_base o5 (fun k hk => by have : r = k := Option.some.inj hk; omega)) (fun W x hx ht => ?_)).mono ?_
      · have keep : ∀ (p : Addr), p.block < w4.heap.size → W.cell? p = w4.cell? p := fun p hp => by
          rw [World.cell?_of_block (w := w5) (ht.block p.block (Nat.lt_of_lt_of_le hp b5.size) (fun e => by omega)), b5.cell hp]
        have hxn := HLt.out x hx
        obtain ⟨q1, q2⟩ := zr x hxn
        obtain ⟨q3, q4⟩ := zr A hA
        have q5 : br < w4.heap.size := Nat.lt_of_lt_of_le q1 b4.size
        exact pick_any x A (by rw [keep _ l9]; exact z9) (by rw [keep _ l6]; exact z6) (by rw [keep _ q5]; exact q2) (by rw [keep _ q5]; exact q4) hxn hA hn
      · rintro e w' ⟨u, rfl, s⟩
        obtain ⟨t1, t2⟩ := s.out
        rw [HK.out] at t1
        exact ⟨u, rfl, t1, (B4.out.trans (b5.mono hw4s)).trans (t2.below (Nat.le_trans hw4s b5.size) (fun k hk => by subst hk; omega))⟩
    have kr' := kr w4 B4.out
    rw [hw4, hc9]
    clear hw4 hc9 hb3 B3 b4 z9 z6 zr l9 l6 s3 ko kr k1 ka kb k6 hl6 HK hne HLt HG HW HC HB1
    go_wp2_with (first | (go_at_call 28; refine kr'.mono ?_; rintro e w5 ⟨r, cap, rfl, t5⟩; have kd := HD.out w5 r cap t5.out) | (go_at_call 30; refine kd.mono ?_; rintro e w6 ⟨u, rfl, t6⟩))
    go_ret
    exact ⟨_, rfl, t6.out⟩
end Go.Proofs.YtmeeimfjibcncaaDoor
