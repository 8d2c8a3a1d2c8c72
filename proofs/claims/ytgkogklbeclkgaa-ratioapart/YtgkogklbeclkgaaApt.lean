/- Apart, of shares. -/
import Derived.Test.YtgkogklbeclkgaaLOr
import Derived.Test.YtgkogklbeclkgaaMax
namespace Go.Proofs.Ytgkogklbeclkgaa
open Go.RowKit Go.Lib
open M
set_option linter.unusedVariables false
set_option linter.unusedSimpArgs false

namespace M
/-- The weight and the cost at a place. -/
def wA (S : List (Int × Int)) (i : Nat) : Int := (S.getD i (1, 0)).1
def cA (S : List (Int × Int)) (i : Nat) : Int := (S.getD i (1, 0)).2
/-- Shares: weights of at least 1. -/
def Shs (S : List (Int × Int)) : Prop := ∀ i, Prt (wA S i) ∧ 0 < wA S i ∧ Prt (cA S i)
/-- How two of them stand to each other. -/
def cS (S : List (Int × Int)) (i j : Nat) : Int := cmB (wA S i) (cA S i) (wA S j) (cA S j)
theorem cS_self (S : List (Int × Int)) (i : Nat) : cS S i i = 0 := cmB_self _ _
theorem cS_turn (S : List (Int × Int)) (i j : Nat) : cS S j i = - cS S i j := cmB_turn _ _ _ _
theorem cS_trans {S : List (Int × Int)} (h : Shs S) {i j k : Nat} (h1 : cS S i j ≤ 0) (h2 : cS S j k ≤ 0) : cS S i k ≤ 0 := cmB_trans (h i).2.1 (h j).2.1 (h k).2.1 h1 h2
/-- None of the first n is above the one at m; none is below it. -/
def Top (S : List (Int × Int)) (m n : Nat) : Prop := ∀ j, j < n → cS S j m ≤ 0
def Bot (S : List (Int × Int)) (m n : Nat) : Prop := ∀ j, j < n → cS S m j ≤ 0
theorem top_0 (S : List (Int × Int)) : Top S 0 1 := fun j hj => by
  have : j = 0 := by omega
  subst this; rw [cS_self]; omega
theorem bot_0 (S : List (Int × Int)) : Bot S 0 1 := fun j hj => by
  have : j = 0 := by omega
  subst this; rw [cS_self]; omega
theorem top_1 {S : List (Int × Int)} (h : Shs S) {m i : Nat} (g : Top S m i) (hz : 0 < cS S i m) : Top S i (i + 1) := fun j hj => by
  by_cases e : j = i
  · subst e; rw [cS_self]; omega
  · have h2 := cS_turn S i m
    exact cS_trans h (g j (by omega)) (by omega)
theorem top_2 {S : List (Int × Int)} {m i : Nat} (g : Top S m i) (hz : ¬ 0 < cS S i m) : Top S m (i + 1) := fun j hj => by
  by_cases e : j = i
  · subst e; omega
  · exact g j (by omega)
theorem bot_1 {S : List (Int × Int)} (h : Shs S) {m i : Nat} (g : Bot S m i) (hz : cS S i m < 0) : Bot S i (i + 1) := fun j hj => by
  by_cases e : j = i
  · subst e; rw [cS_self]; omega
  · exact cS_trans h (by omega) (g j (by omega))
theorem bot_2 {S : List (Int × Int)} {m i : Nat} (g : Bot S m i) (hz : ¬ cS S i m < 0) : Bot S m (i + 1) := fun j hj => by
  by_cases e : j = i
  · subst e
    have := cS_turn S j m
    omega
  · exact g j (by omega)
end M
/-- Shares in memory, from a place of a block on. -/
def ShIn (w : World) (b n : Nat) (S : List (Int × Int)) : Prop := ∀ i, i < n → w.cell? ⟨b, i, none⟩ = some (.complex .f64 (F (wA S i)) (F (cA S i)))
theorem cdiff_is {a b c d : Int} (ha : Prt a) (hb : Prt b) (hc : Prt c) (hd : Prt d) : ∃ re im, cSumBits .sub .f64 (F a) (F b) (F c) (F d) = some (re, im) ∧ Is re (a - c) ∧ Is im (b - d) := by
  obtain ⟨r1, e1, i1⟩ := is_sub ha.is hc.is (by have := ha.1; have := ha.2; have := hc.1; have := hc.2; omega)
  obtain ⟨r2, e2, i2⟩ := is_sub hb.is hd.is (by have := hb.1; have := hb.2; have := hd.1; have := hd.2; omega)
  exact ⟨r1, r2, by simp [cSumBits, e1, e2], i1, i2⟩
theorem apart_none (ao : Option Addr) (cap : Nat) (w : World) : Calls Try.prog 18 #[.slice ao 0 cap] w fun e w' => e = .returned (.complex .f64 0 0) ∧ w' = w := by
  go_enter Try.func18, Try.ntmps18
  go_wp2
  go_ret
  exact ⟨rfl, rfl⟩
/-- What Apart tells: the difference of one that none is above, and one that none is below. -/
def Apt (S : List (Int × Int)) (n re im : Nat) : Prop := ∃ i k, i < n ∧ k < n ∧ Top S i n ∧ Bot S k n ∧ Is re (wA S i - wA S k) ∧ Is im (cA S i - cA S k)
set_option maxHeartbeats 1000000 in
theorem apart_is (S : List (Int × Int)) (hS : Shs S) (b n cap : Nat) (w : World) (hn0 : 0 < n) (hn : n ≤ 1000000) (hc : ShIn w b n S) :
    Calls Try.prog 18 #[.slice (some ⟨b, 0, none⟩) n cap] w fun e w' => ∃ re im k, e = .returned (.complex .f64 re im) ∧ Apt S n re im ∧ w' = w.drewN k := by
  have HC := hide_it hc
  clear hc
  have kc : ∀ i j W, i < n → j < n → Calls Try.prog 15 #[.complex .f64 (F (wA S i)) (F (cA S i)), .complex .f64 (F (wA S j)) (F (cA S j))] W fun e w' => ∃ z k, e = .returned (.int .i64 z) ∧ z = cS S i j ∧ w' = W.drewN k := fun i j W _ _ => (compare_F W (hS i).1 (hS i).2.2 (hS j).1 (hS j).2.2).mono fun e w' ⟨h1, h2⟩ => ⟨_, 0, h1, rfl, h2⟩
  have k1 := fun W (h : ShIn W b n S) => max_any (fun i => F (wA S i)) (fun i => F (cA S i)) b n cap W (fun i j z => z = cS S i j) (Top S) hn0 hn h kc (top_0 S) (fun m i z _ _ g e hz => top_1 hS g (e ▸ hz)) (fun m i z _ _ g e hz => top_2 g (e ▸ hz))
  have k2 := fun W (h : ShIn W b n S) => min_any (fun i => F (wA S i)) (fun i => F (cA S i)) b n cap W (fun i j z => z = cS S i j) (Bot S) hn0 hn h kc (bot_0 S) (fun m i z _ _ g e hz => bot_1 hS g (e ▸ hz)) (fun m i z _ _ g e hz => bot_2 g (e ▸ hz))
  have hz : ¬ (n : Int) = 0 := by omega
  have hz' : ¬ n = 0 := by omega
  have HS := hide_it hS
  clear kc hS
  go_enter Try.func18, Try.ntmps18
  go_wp2_with (first | (go_at_call 22; refine (k1 _ HC.out).mono ?_; rintro e w1 ⟨m, q, hm, rfl, hT, rfl⟩; have HT := hide_it hT; clear hT; refine Hid.out ?_))
  refine hide_it ?_
  obtain ⟨a, hxa⟩ : ∃ a, F (wA S m) = a := ⟨_, rfl⟩
  obtain ⟨c, hxc⟩ : ∃ c, F (cA S m) = c := ⟨_, rfl⟩
  have HXA := hide_it hxa
  have HXC := hide_it hxc
  rw [hxa, hxc]
  clear hxa hxc
  go_wp2_with (first | (go_at_call 23; refine (k2 (w.drewN q) (fun i hi => HC.out i hi)).mono ?_; rintro e w2 ⟨m2, q2, hm2, rfl, hB, rfl⟩; have HB := hide_it hB; clear hB; obtain ⟨re, im, hd, hr, hi⟩ := cdiff_is (HS.out m).1 (HS.out m).2.2 (HS.out m2).1 (HS.out m2).2.2; have HR := hide_it hr; have HI := hide_it hi; clear hr hi; rw [HXA.out, HXC.out] at hd; have hop := fun t w => run_complex_sum (P := Try.prog) w .sub (Or.inr rfl) t .f64 _ _ _ _ re im hd; clear hd; generalize F (wA S m2) = u at *; generalize F (cA S m2) = v at *) | simp only [hop])
  go_ret
  exact ⟨re, im, _, rfl, ⟨m, m2, hm, hm2, HT.out, HB.out, HR.out, HI.out⟩, rfl⟩
end Go.Proofs.Ytgkogklbeclkgaa
