/- Stop. -/
import Derived.Test.YtjdgndbdoceifaaCnt
import Derived.Deep.RegionHeld3
import Derived.Deep.CutRange
import Derived.Deep.CutBlock
namespace Go.Proofs.Ytjdgndbdoceifaa
open Go.RowKit
open M
set_option linter.unusedVariables false
set_option linter.unusedSimpArgs false

theorem takeD {P : Program} {ops : Array Oper} {Q : Exit → Act → World → Prop} {md : Region.Mode} {S : World → Prop} {i : Nat} {oi : Oper} {v : Value} {fuel : Nat} {listed : Array Bool} {a : Act} {w : World} (d : Nat) (hi : ops[i]? = some oi) (hd : oi.dst = some d)
    (hs : Region.noSelect ops = true) (hf : Region.free md ops listed i = true) (hr : (Region.ready md ops listed).contains i = true)
    (hQ : ∀ c a w, Q (.panic c) (a.put oi.dst v) w → Q (.panic c) a w) (hy : YieldsIf P ops S oi v a) (hS : S w)
    (h : wpAnyH P md ops Q S fuel (listed.setIfInBounds i true) (a.put (some d) v) w) : wpAnyH P md ops Q S (fuel + 1) listed a w := by
  rw [← hd] at h
  exact wpAnyH_take hi hs hf hr hQ hy hS h

section
variable {B : Nat} {w0 w : World} {b : Nat} {T P : Int} {x : Lf} {R : List (Nat × Obj)}
set_option maxRecDepth 1000000 in
set_option maxHeartbeats 1000000 in
theorem stop_any (h : LX B w0 w b T P x R) (he : x.e ≤ 1000000) : Calls Try.prog 22 #[ptr b] w fun e w' => e = .returned (.int .i64 (er P 2 x)) ∧ Hid (LX B w0 w' b T P (st T P 2 x) R) := by
  have hxp : (x.p : Int) ≤ 1000000 := by have := h.inv.sum; omega
  obtain ⟨c, hc⟩ : ∃ c, decide (x.s = 2) = c := ⟨_, rfl⟩
  have hd := h.below (w' := w.drew) ((Below.refl _ _).drew)
  have k : Calls Try.prog 32 #[ptr b, .slice (some ⟨w.heap.size, 0, none⟩) 1 1] (w.drew.alloc (.cells #[.int .i64 2] 3)) fun e w' => e = .returned (.bool c) ∧ Hid (LX B w0 w' b T P x R) := (isNew hd [2] 1 rfl (by omega)).mono (by
    rintro e w' ⟨rfl, rfl⟩
    exact ⟨ret_bool (by rw [← hc]; simp), (hd.alloc _).drop (fun p hp => List.mem_cons_of_mem _ hp)⟩)
  have HC : Hid (∀ W, LX B w0 W b T P x R → W.cell? ⟨b, 3, none⟩ = some (.int .i64 x.p) ∧ W.cell? ⟨b, 5, none⟩ = some (.int .i64 P)) := fun W h => ⟨h.cells.2.2.2.1, h.cells.2.2.2.2.2⟩
  obtain ⟨d3, d5⟩ := HC.out _ hd
  have d8 := HC.out (w.alloc (.cells #[.int .i64 2] 3)).drew (((h.alloc _).drop (fun p hp => List.mem_cons_of_mem _ hp)).below (Below.refl _ _).drew)
  by_cases hf : x.s = 2 → ¬ (2 = 2 ∧ P ≤ (x.p : Int))
  · have KK : Hid (∀ W, LX B w0 W b T P x R → ∃ (E : Int) (W2 : World), (Calls Try.prog 33 #[ptr b, .int .i64 1, .slice (some ⟨W.heap.size, 0, none⟩) 1 1] (W.drew.alloc (.cells #[.int .i64 2] 3)) fun e w' => e = .returned (.int .i64 E) ∧ w' = W2) ∧
      Calls Try.prog 34 #[ptr b, .pointer (some ⟨b, 3, none⟩), .int .i64 E] W2 fun e w' => e = .returned (.int .i64 (er P 2 x)) ∧ Hid (LX B w0 w' b T P (st T P 2 x) R)) := fun W h =>
      countNew (h.below (w' := W.drew) ((Below.refl _ _).drew)) 2 1 3 x.p (by omega) [2] (fun hs => hf (by simpa using hs)) rfl (decide_eq_decide.2 (by simp)) (.inr (.inr rfl)) rfl (by omega) (fun _ => rfl)
    clear hd h
    generalize er P 2 x = G at *
    generalize st T P 2 x = X at *
    cases c with
    | true =>
      have hp : decide (P ≤ (x.p : Int)) = false := by have := hf (by simpa using hc); simp at this; simp; omega
      clear hf hc
      go_enter Try.func22, Try.ntmps22
      go_upto_region 1 with fail
      (go_region_held3 (fun V => V.cell? ⟨b, 3, none⟩ = some (.int .i64 x.p) ∧ V.cell? ⟨b, 5, none⟩ = some (.int .i64 P)) (first | exact HC.out _ s.out | exact d8 | exact ⟨d3, d5⟩ | go_keep) (first | (go_at_call 32; refine k.mono ?_; rintro e w3 ⟨rfl, s⟩)))
      obtain ⟨E, W2, k1, k2⟩ := KK.out _ s.out
      go_upto_region 3 with fail
      (go_region_held3 (fun V => True) (first | trivial | go_keep) (first | (go_at_call 33; refine k1.mono ?_; rintro e w4 ⟨rfl, rfl⟩) | (go_at_call 34; refine k2.mono ?_; rintro e w5 ⟨rfl, s5⟩)))
      go_wp2
      go_ret
      exact ⟨rfl, s5⟩
    | false =>
      clear hf hc HC d3 d5 d8
      go_enter Try.func22, Try.ntmps22
      go_upto_region 1 with fail
      refine wp_region_noPanic ?_
      refine wp_region_held_drew (S := fun _ => True) (by kernel_rfl) ?hS0 (fun hHeld => ?_)
      case hS0 => trivial
      refine takeD (i := 0) (v := ?v0) 3 rfl rfl (by kernel_rfl) (by kernel_rfl) (by kernel_rfl) (fun _ _ _ h => h) (Or.inl ⟨by rfl, ?y0⟩) (by assumption) ?r0
      case y0 =>
        intro w hSw
        try dsimp only at hSw
        go_simp
        all_goals with_reducible rfl
      try simp only [Act.put, List.setIfInBounds_toArray, List.set_cons_zero, List.set_cons_succ]
      refine wpAnyH_ready (rs := [1]) (by kernel_rfl) (by simp) ?_
      refine AllReadyH.cons rfl (fun K hK => ?_) AllReadyH.nil
      go_simp
      refine hK.out _ _ ?hS1 (fun hHeld => ?_)
      case hS1 => trivial
      clear hK K
      try simp only [Act.put, List.getElem_toArray, List.getElem_cons_succ, List.getElem_cons_zero, List.setIfInBounds_toArray, List.set_cons_zero, List.set_cons_succ]
      refine wpAnyH_ready (rs := [2]) (by kernel_rfl) (by simp) ?_
      refine AllReadyH.cons rfl (fun K hK => ?_) AllReadyH.nil
      go_simp
      (go_at_call 32; refine k.mono ?_; rintro e w3 ⟨rfl, s⟩)
      refine hK.out _ _ ?hS2 (fun hHeld => ?_)
      case hS2 => trivial
      clear hK K
      try simp only [Act.put, List.getElem_toArray, List.getElem_cons_succ, List.getElem_cons_zero, List.setIfInBounds_toArray, List.set_cons_zero, List.set_cons_succ]
      refine takeD (i := 3) (v := ?v3) 6 rfl rfl (by kernel_rfl) (by kernel_rfl) (by kernel_rfl) (fun _ _ _ h => h) (Or.inl ⟨by rfl, ?y3⟩) (by assumption) ?r3
      case y3 =>
        intro w hSw
        try dsimp only at hSw
        go_simp
        all_goals with_reducible rfl
      try simp only [Act.put, List.setIfInBounds_toArray, List.set_cons_zero, List.set_cons_succ]
      refine takeD (i := 4) (v := undef) 7 rfl rfl (by kernel_rfl) (by kernel_rfl) (by kernel_rfl) (fun _ _ _ h => h) (Or.inr ⟨by rfl, rfl⟩) (by assumption) ?_
      try simp only [Act.put, List.setIfInBounds_toArray, List.set_cons_zero, List.set_cons_succ]
      refine takeD (i := 5) (v := undef) 8 rfl rfl (by kernel_rfl) (by kernel_rfl) (by kernel_rfl) (fun _ _ _ h => h) (Or.inr ⟨by rfl, rfl⟩) (by assumption) ?_
      try simp only [Act.put, List.setIfInBounds_toArray, List.set_cons_zero, List.set_cons_succ]
      refine takeD (i := 6) (v := undef) 9 rfl rfl (by kernel_rfl) (by kernel_rfl) (by kernel_rfl) (fun _ _ _ h => h) (Or.inr ⟨by rfl, rfl⟩) (by assumption) ?_
      try simp only [Act.put, List.setIfInBounds_toArray, List.set_cons_zero, List.set_cons_succ]
      refine takeD (i := 7) (v := undef) 10 rfl rfl (by kernel_rfl) (by kernel_rfl) (by kernel_rfl) (fun _ _ _ h => h) (Or.inr ⟨by rfl, rfl⟩) (by assumption) ?_
      try simp only [Act.put, List.setIfInBounds_toArray, List.set_cons_zero, List.set_cons_succ]
      refine takeD (i := 8) (v := undef) 11 rfl rfl (by kernel_rfl) (by kernel_rfl) (by kernel_rfl) (fun _ _ _ h => h) (Or.inr ⟨by rfl, rfl⟩) (by assumption) ?_
      try simp only [Act.put, List.setIfInBounds_toArray, List.set_cons_zero, List.set_cons_succ]
      refine takeD (i := 9) (v := undef) 12 rfl rfl (by kernel_rfl) (by kernel_rfl) (by kernel_rfl) (fun _ _ _ h => h) (Or.inr ⟨by rfl, rfl⟩) (by assumption) ?_
      try simp only [Act.put, List.setIfInBounds_toArray, List.set_cons_zero, List.set_cons_succ]
      refine takeD (i := 10) (v := undef) 13 rfl rfl (by kernel_rfl) (by kernel_rfl) (by kernel_rfl) (fun _ _ _ h => h) (Or.inr ⟨by rfl, rfl⟩) (by assumption) ?_
      try simp only [Act.put, List.setIfInBounds_toArray, List.set_cons_zero, List.set_cons_succ]
      refine takeD (i := 11) (v := undef) 14 rfl rfl (by kernel_rfl) (by kernel_rfl) (by kernel_rfl) (fun _ _ _ h => h) (Or.inr ⟨by rfl, rfl⟩) (by assumption) ?_
      try simp only [Act.put, List.setIfInBounds_toArray, List.set_cons_zero, List.set_cons_succ]
      refine takeD (i := 12) (v := undef) 15 rfl rfl (by kernel_rfl) (by kernel_rfl) (by kernel_rfl) (fun _ _ _ h => h) (Or.inr ⟨by rfl, rfl⟩) (by assumption) ?_
      try simp only [Act.put, List.setIfInBounds_toArray, List.set_cons_zero, List.set_cons_succ]
      refine takeD (i := 13) (v := ?v13) 16 rfl rfl (by kernel_rfl) (by kernel_rfl) (by kernel_rfl) (fun _ _ _ h => h) (Or.inl ⟨by rfl, ?y13⟩) (by assumption) ?r13
      case y13 =>
        intro w hSw
        try dsimp only at hSw
        go_simp
        all_goals with_reducible rfl
      try simp only [Act.put, List.setIfInBounds_toArray, List.set_cons_zero, List.set_cons_succ]
      refine wpAnyH_done (by kernel_rfl) ?_ _
      refine NoPanic.normal ?_
      obtain ⟨E, W2, k1, k2⟩ := KK.out _ s.out
      go_upto_region 3 with fail
      (go_region_held3 (fun V => True) (first | trivial | go_keep) (first | (go_at_call 33; refine k1.mono ?_; rintro e w4 ⟨rfl, rfl⟩) | (go_at_call 34; refine k2.mono ?_; rintro e w5 ⟨rfl, s5⟩)))
      go_wp2
      go_ret
      exact ⟨rfl, s5⟩
  · obtain ⟨hs, hP⟩ : x.s = 2 ∧ P ≤ (x.p : Int) := by
      by_cases e : x.s = 2
      · exact ⟨e, by simp [e] at hf; exact hf⟩
      · exact absurd (fun q => absurd q e) hf
    have hp : decide (P ≤ (x.p : Int)) = true := by simpa using hP
    obtain ⟨e1, e2⟩ := st_full (T := T) hs hP
    obtain rfl : c = true := by rw [← hc]; simpa using hs
    rw [e1, e2]
    clear hd hf h hs e1 e2 hP hc
    go_enter Try.func22, Try.ntmps22
    go_upto_region 1 with fail
    (go_region_held3 (fun V => V.cell? ⟨b, 3, none⟩ = some (.int .i64 x.p) ∧ V.cell? ⟨b, 5, none⟩ = some (.int .i64 P)) (first | exact HC.out _ s.out | exact d8 | exact ⟨d3, d5⟩ | go_keep) (first | (go_at_call 32; refine k.mono ?_; rintro e w3 ⟨rfl, s⟩)))
    go_wp2
    go_ret
    exact ⟨rfl, s⟩
end
end Go.Proofs.Ytjdgndbdoceifaa
