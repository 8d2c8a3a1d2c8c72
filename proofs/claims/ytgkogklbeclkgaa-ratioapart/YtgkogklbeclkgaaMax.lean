/- slices.MaxFunc and MinFunc at Compare, whatever the words are. -/
import Derived.Test.YtgkogklbeclkgaaSho
import Derived.BigQuiet
import Derived.Deep.QuietTactic
import Derived.Deep.RegionHeld3
namespace Go.Proofs.Ytgkogklbeclkgaa
open Go.RowKit Go.Lib
open M
set_option linter.unusedVariables false
set_option linter.unusedSimpArgs false

set_option maxHeartbeats 2000000 in
theorem max_any (x y : Nat → Nat) (b n cap : Nat) (w : World) (R : Nat → Nat → Int → Prop) (G : Nat → Nat → Prop) (hn0 : 0 < n) (hn : n ≤ 1000000)
    (hc : ∀ i, i < n → w.cell? ⟨b, i, none⟩ = some (.complex .f64 (x i) (y i)))
    (hk : ∀ i j W, i < n → j < n → Calls Try.prog 15 #[.complex .f64 (x i) (y i), .complex .f64 (x j) (y j)] W fun e w' => ∃ z k, e = .returned (.int .i64 z) ∧ R i j z ∧ w' = W.drewN k)
    (g0 : G 0 1) (g1 : ∀ m i z, i < n → m < n → G m i → R i m z → 0 < z → G i (i + 1)) (g2 : ∀ m i z, i < n → m < n → G m i → R i m z → ¬ 0 < z → G m (i + 1)) :
    Calls Try.prog 22 #[.slice (some ⟨b, 0, none⟩) n cap, .func (.func 15) #[] #[]] w fun e w' => ∃ m k, m < n ∧ e = .returned (.complex .f64 (x m) (y m)) ∧ G m n ∧ w' = w.drewN k := by
  have HC : Hid (∀ i, i < n → w.cell? ⟨b, i, none⟩ = some (.complex .f64 (x i) (y i))) := hc
  have HK := hide_it hk
  have HG := hide_it (And.intro g0 (And.intro g1 g2))
  have c0 := hc 0 hn0
  have hn1 : ¬ (n : Int) < 1 := by omega
  clear hc hk g0 g1 g2
  generalize hx0 : x 0 = x0 at *
  generalize hy0 : y 0 = y0 at *
  go_enter Try.func22, Try.ntmps22
  go_wp2
  go_loopw [5, 6] (fun s i wr => ∃ m k q : Nat, s = .complex .f64 (x m) (y m) ∧ i = .int .i64 k ∧ m < n ∧ k ≤ n ∧ wr = w.drewN q ∧ Hid (G m k)) (fun _ i _ => n - (intOf i).toNat)
  case atStart => exact ⟨0, 1, 0, by rw [hx0, hy0], rfl, hn0, hn0, rfl, HG.out.1⟩
  case round =>
    obtain ⟨m, k, q, rfl, rfl, hm, hkn, rfl, hG⟩ := hrel
    clear c0
    by_cases hlt : k < n
    · have c1 := HC.out k hlt
      have kk := fun W => HK.out k m W hlt hm
      generalize hxk : x k = xk at *
      generalize hyk : y k = yk at *
      generalize hxm : x m = xm at *
      generalize hym : y m = ym at *
      go_wp2_with (go_at_call 15; refine (kk _).mono ?_; rintro e w' ⟨z, t, rfl, hR, rfl⟩; have HR := hide_it hR; clear hR kk; refine Hid.out ?_)
      refine hide_it ?_
      by_cases hz : 0 < z
      · have hG' := hide_it (HG.out.2.1 m k z hlt hm hG.out HR.out (by omega))
        go_wp2
        go_roundw
        case rel => exact ⟨k, k + 1, q + t, by rw [hxk, hyk], by go_num, hlt, by omega, by simp, hG'⟩
        case measure => simp [intOf]; omega
      · have hG' := hide_it (HG.out.2.2 m k z hlt hm hG.out HR.out (by omega))
        go_wp2
        go_roundw
        case rel => exact ⟨m, k + 1, q + t, by rw [hxm, hym], by go_num, hm, by omega, by simp, hG'⟩
        case measure => simp [intOf]; omega
    · have e : k = n := by omega
      subst e
      go_wp2
      go_ret
      exact ⟨m, q, hm, rfl, hG.out, rfl⟩

set_option maxHeartbeats 2000000 in
theorem min_any (x y : Nat → Nat) (b n cap : Nat) (w : World) (R : Nat → Nat → Int → Prop) (G : Nat → Nat → Prop) (hn0 : 0 < n) (hn : n ≤ 1000000)
    (hc : ∀ i, i < n → w.cell? ⟨b, i, none⟩ = some (.complex .f64 (x i) (y i)))
    (hk : ∀ i j W, i < n → j < n → Calls Try.prog 15 #[.complex .f64 (x i) (y i), .complex .f64 (x j) (y j)] W fun e w' => ∃ z k, e = .returned (.int .i64 z) ∧ R i j z ∧ w' = W.drewN k)
    (g0 : G 0 1) (g1 : ∀ m i z, i < n → m < n → G m i → R i m z → z < 0 → G i (i + 1)) (g2 : ∀ m i z, i < n → m < n → G m i → R i m z → ¬ z < 0 → G m (i + 1)) :
    Calls Try.prog 23 #[.slice (some ⟨b, 0, none⟩) n cap, .func (.func 15) #[] #[]] w fun e w' => ∃ m k, m < n ∧ e = .returned (.complex .f64 (x m) (y m)) ∧ G m n ∧ w' = w.drewN k := by
  have HC : Hid (∀ i, i < n → w.cell? ⟨b, i, none⟩ = some (.complex .f64 (x i) (y i))) := hc
  have HK := hide_it hk
  have HG := hide_it (And.intro g0 (And.intro g1 g2))
  have c0 := hc 0 hn0
  have hn1 : ¬ (n : Int) < 1 := by omega
  clear hc hk g0 g1 g2
  generalize hx0 : x 0 = x0 at *
  generalize hy0 : y 0 = y0 at *
  go_enter Try.func23, Try.ntmps23
  go_wp2
  go_loopw [5, 6] (fun s i wr => ∃ m k q : Nat, s = .complex .f64 (x m) (y m) ∧ i = .int .i64 k ∧ m < n ∧ k ≤ n ∧ wr = w.drewN q ∧ Hid (G m k)) (fun _ i _ => n - (intOf i).toNat)
  case atStart => exact ⟨0, 1, 0, by rw [hx0, hy0], rfl, hn0, hn0, rfl, HG.out.1⟩
  case round =>
    obtain ⟨m, k, q, rfl, rfl, hm, hkn, rfl, hG⟩ := hrel
    clear c0
    by_cases hlt : k < n
    · have c1 := HC.out k hlt
      have kk := fun W => HK.out k m W hlt hm
      generalize hxk : x k = xk at *
      generalize hyk : y k = yk at *
      generalize hxm : x m = xm at *
      generalize hym : y m = ym at *
      go_wp2_with (go_at_call 15; refine (kk _).mono ?_; rintro e w' ⟨z, t, rfl, hR, rfl⟩; have HR := hide_it hR; clear hR kk; refine Hid.out ?_)
      refine hide_it ?_
      by_cases hz : z < 0
      · have hG' := hide_it (HG.out.2.1 m k z hlt hm hG.out HR.out (by omega))
        go_wp2
        go_roundw
        case rel => exact ⟨k, k + 1, q + t, by rw [hxk, hyk], by go_num, hlt, by omega, by simp, hG'⟩
        case measure => simp [intOf]; omega
      · have hG' := hide_it (HG.out.2.2 m k z hlt hm hG.out HR.out (by omega))
        go_wp2
        go_roundw
        case rel => exact ⟨m, k + 1, q + t, by rw [hxm, hym], by go_num, hm, by omega, by simp, hG'⟩
        case measure => simp [intOf]; omega
    · have e : k = n := by omega
      subst e
      go_wp2
      go_ret
      exact ⟨m, q, hm, rfl, hG.out, rfl⟩
end Go.Proofs.Ytgkogklbeclkgaa
