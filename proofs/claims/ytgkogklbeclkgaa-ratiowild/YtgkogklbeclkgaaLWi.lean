/- RatioWild, walked. -/
import Derived.Test.YtgkogklbeclkgaaWlc
namespace Go.Proofs.Ytgkogklbeclkgaa
open Go.RowKit Go.Lib
open M
set_option linter.unusedVariables false
set_option linter.unusedSimpArgs false

theorem two_row {W : World} {n : Nat} (h : W.heap.size = n) (p q : Value) : ∀ i, i < 2 → (W.alloc (.cells #[p, q] 25)).cell? ⟨n, i, none⟩ = some (if i = 0 then p else q) := by
  intro i hi
  rw [cell_of_row _ n i _ _ _ (heap_alloc_at h _)]
  have : i = 0 ∨ i = 1 := by omega
  rcases this with rfl | rfl <;> rfl
theorem three_row {W : World} {n : Nat} (h : W.heap.size = n) (p q r : Value) : ∀ i, i < 3 → (W.alloc (.cells #[p, q, r] 25)).cell? ⟨n, i, none⟩ = some (if i = 0 then p else if i = 1 then q else r) := by
  intro i hi
  rw [cell_of_row _ n i _ _ _ (heap_alloc_at h _)]
  have : i = 0 ∨ i = 1 ∨ i = 2 := by omega
  rcases this with rfl | rfl | rfl <;> rfl
theorem sum2_wild {W : World} {n : Nat} (h : W.heap.size = n) (a b c d : Nat) : Calls Try.prog 17 #[.slice (some ⟨n, 0, none⟩) 2 2] (W.alloc (.cells #[.complex .f64 a b, .complex .f64 c d] 25)) fun e w' => ∃ re im, e = .returned (.complex .f64 re im) ∧ Below W.heap.size W w' := by
  refine (sum_wild (fun i => if i = 0 then a else c) (fun i => if i = 0 then b else d) n 2 2 _ (by omega) (fun i hi => ?_)).mono ?_
  · rw [two_row h _ _ i hi]; split <;> simp [*]
  · rintro e w' ⟨re, im, k, rfl, rfl⟩
    exact ⟨re, im, rfl, below_drewN ((Below.refl _ _).alloc (Nat.le_refl _) _) k⟩
theorem apart3_wild {W : World} {n : Nat} (h : W.heap.size = n) (a b c d : Nat) : Calls Try.prog 18 #[.slice (some ⟨n, 0, none⟩) 3 3] (W.alloc (.cells #[.complex .f64 a b, .complex .f64 c d, .complex .f64 a b] 25)) fun e w' => ∃ re im, e = .returned (.complex .f64 re im) ∧ Below W.heap.size W w' := by
  refine (apart_wild (fun i => if i = 1 then c else a) (fun i => if i = 1 then d else b) n 3 3 _ (by omega) (by omega) (fun i hi => ?_)).mono ?_
  · rw [three_row h _ _ _ i hi]
    have : i = 0 ∨ i = 1 ∨ i = 2 := by omega
    rcases this with rfl | rfl | rfl <;> rfl
  · rintro e w' ⟨re, im, k, rfl, rfl⟩
    exact ⟨re, im, rfl, below_drewN ((Below.refl _ _).alloc (Nat.le_refl _) _) k⟩
theorem whl_low {a : Nat} {n : Int} (h : Whl a n) (h1 : (FloatKind.f64.format.order a 0 == some Ordering.lt) = false) (h2 : (FloatKind.f64.format.order a 4652007308841189376 == some Ordering.gt) = false) (h3 : (FloatKind.f64.format.order a a == some Ordering.eq) = true) : floatToIntVal .f64 a .i64 = some n := by
  obtain ⟨g1, m, hm, h0⟩ := cut_low h1 h2 h3
  obtain ⟨_, k1, k2⟩ := h
  by_cases g : (FloatKind.f64.format.order a 0 == some Ordering.gt) = true
  · exact k2 g1 g
  · have g' : (FloatKind.f64.format.order a 0 == some Ordering.gt) = false := by simpa using g
    rw [hm, h0 g', k1 g']

set_option maxHeartbeats 2000000 in
theorem ratioWild_walk (a b c d : Nat) (w : World) : Calls Try.prog 8 #[.float .f64 a, .float .f64 b, .float .f64 c, .float .f64 d] w fun e w' => e = .returned (.bool true) ∧ Below w.heap.size w w' := by
  go_enter Try.func8, Try.ntmps8
  go_wp2_with (go_at_call 9; refine (shown_any _).mono ?_; rintro e w1 ⟨rfl, hb1⟩; have H1 := hide_it hb1; clear hb1; refine Hid.out ?_)
  refine hide_it ?_
  go_wp2_with (go_at_call 15; refine (compare_wild _ _ _ _ _).mono ?_; rintro e w2 ⟨z, k, rfl, ⟨z0, z1⟩, rfl⟩; refine Hid.out ?_)
  have H2 := hide_it (below_drewN H1.out k)
  have hs2 := hide_it (show w.heap.size ≤ (w1.drewN k).heap.size from H1.out.size)
  clear H1
  generalize w1.drewN k = w2 at *
  refine hide_it ?_
  go_wp2_with (go_at_call 12; refine (weight_wild _ _ _).mono ?_; rintro e w' ⟨n, rfl, hn, rfl⟩; have HN := hide_it hn; clear hn; refine Hid.out ?_)
  refine hide_it ?_
  go_wp2_with (go_at_call 14; refine (cost_wild _ _ _).mono ?_; rintro e w' ⟨m, rfl, hm, rfl⟩; have HM := hide_it hm; clear hm; refine Hid.out ?_)
  refine hide_it ?_
  go_wp2_with (go_at_call 17; refine (sum2_wild rfl _ _ _ _).mono ?_; rintro e w3 ⟨re, im, rfl, hb⟩; have H3 := hide_it (H2.out.trans (hb.mono hs2.out)); have hs3 := hide_it (Nat.le_trans hs2.out hb.size); clear hb; refine Hid.out ?_)
  clear H2 hs2
  refine hide_it ?_
  go_wp2_with (go_at_call 18; refine (apart3_wild rfl _ _ _ _).mono ?_; rintro e w4 ⟨r2, i2, rfl, hb⟩; have H4 := hide_it (H3.out.trans (hb.mono hs3.out)); clear hb; refine Hid.out ?_)
  clear H3 hs3
  obtain ⟨⟨n0, n1⟩, _, _⟩ := HN.out
  obtain ⟨⟨m0, m1⟩, hm0, _⟩ := HM.out
  clear HM
  have hB : ((FloatKind.f64.format.order b 0 == some Ordering.gt) = true) ∨ ((FloatKind.f64.format.order b 0 == some Ordering.gt) = false ∧ m = 0) := by
    cases h : (FloatKind.f64.format.order b 0 == some Ordering.gt)
    · exact .inr ⟨rfl, hm0 h⟩
    · exact .inl rfl
  clear hm0
  by_cases L : (FloatKind.f64.format.order a 0 == some Ordering.lt) = true
  · refine hide_it ?_
    rcases hB with hB | ⟨hB, rfl⟩
    all_goals
      go_wp2
      go_ret
      exact ⟨rfl, H4.out⟩
  · have L' : (FloatKind.f64.format.order a 0 == some Ordering.lt) = false := by simpa using L
    clear L
    by_cases G : (FloatKind.f64.format.order a 4652007308841189376 == some Ordering.gt) = true
    · refine hide_it ?_
      rcases hB with hB | ⟨hB, rfl⟩
      all_goals
        go_wp2
        go_ret
        exact ⟨rfl, H4.out⟩
    · have G' : (FloatKind.f64.format.order a 4652007308841189376 == some Ordering.gt) = false := by simpa using G
      clear G
      by_cases E : (FloatKind.f64.format.order a a == some Ordering.eq) = true
      · have hi := whl_low HN.out L' G' E
        have hc : ∀ w, (convert 42 3 (.float .f64 a)).run Try.prog w = .ok (.int .i64 n) w := fun w => run_convert_float_int w 42 3 .f64 .i64 a n (by rw [Try.underlying42]; rfl) Try.underlying3 hi
        have E' : (FloatKind.f64.format.order a a != some Ordering.eq) = false := by rw [bne, E]; rfl
        clear hi HN
        refine hide_it ?_
        rcases hB with hB | ⟨hB, rfl⟩
        all_goals
          go_wp2_with (simp only [hc])
          go_ret
          exact ⟨rfl, H4.out⟩
      · have E' : (FloatKind.f64.format.order a a != some Ordering.eq) = true := by rw [bne]; simpa using E
        clear E
        refine hide_it ?_
        rcases hB with hB | ⟨hB, rfl⟩
        all_goals
          go_wp2
          go_ret
          exact ⟨rfl, H4.out⟩
end Go.Proofs.Ytgkogklbeclkgaa
