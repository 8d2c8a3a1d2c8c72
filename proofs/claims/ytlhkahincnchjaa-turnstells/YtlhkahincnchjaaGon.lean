/- goOn: it is the next one's turn. -/
import Derived.Test.YtlhkahincnchjaaRow
import Derived.RegionTactic
import Derived.Deep.CutRange
import Derived.Deep.CutBlock
import Derived.Deep.RegionHeld3
import Derived.Deep.RegionWith
namespace Go.Proofs.Ytlhkahincnchjaa
open Go.RowKit
open M
set_option linter.unusedVariables false
set_option linter.unusedSimpArgs false

set_option maxRecDepth 1000000 in
set_option maxHeartbeats 1500000 in
theorem goon_any {F : Nat → Prop} {w0 w : World} {t g cap cb : Nat} {x : Tn} {cs : Nat → Int} (h : SC F w0 w t g cap x cb cs) (hi : Inv 1048576 x) (hk : x.k < x.n) (hn : x.n ≤ 1000000) (hc : ∀ j, j < x.n → 0 ≤ cs j ∧ cs j ≤ 1048576) (x1 : Tn)
    (e1 : x1 = { x with k := (x.k + 1) % x.n, C := if cs ((x.k + 1) % x.n) = 0 then x.C else upd x.C ((x.k + 1) % x.n) (x.C ((x.k + 1) % x.n) + x.q * x.W ((x.k + 1) % x.n)) }) :
    Calls Try.prog 31 #[ptr t, .slice (some ⟨cb, 0, none⟩) x.n x.n] w fun e w' => e = .returned (.tuple #[]) ∧ Hid (SC F w0 w' t g cap x1 cb cs) := by
  obtain ⟨k', ek⟩ : ∃ k', (x.k + 1) % x.n = k' := ⟨_, rfl⟩
  rw [ek] at e1
  have hk' : k' < x.n := by rw [← ek]; exact Nat.mod_lt _ (by omega)
  have hm : ((x.k : Int) + 1).tmod (x.n : Int) = (k' : Int) := by
    rw [Int.tmod_eq_emod_of_nonneg (by omega), ← ek]
    push_cast
    rfl
  have r := h.read
  have HK := hide_it (h.setK k')
  have H0 := hide_it h
  obtain ⟨a0, a1, a2, af, tl, gl, gt, cl, cap1, cap2, mb, gf, co⟩ := r
  have f2 := af 2
  have hz : ((x.n : Int) == 0) = false := by simp; omega
  have hcx : x.n ≤ 9223372036854775807 := by omega
  obtain ⟨k, hkk⟩ : ∃ k, x.k = k := ⟨_, rfl⟩
  obtain ⟨n, hnn⟩ : ∃ n, x.n = n := ⟨_, rfl⟩
  rw [hkk, hnn] at hm
  rw [hkk] at a2
  rw [hnn] at a1 hz hcx ⊢
  have hn0 : ¬ n = 0 := by omega
  have hw0 : IntKind.i64.wrap ((k : Int) + 1) = (k : Int) + 1 := by rw [IntKind.wrap_i64]; omega
  have hw1 : wrap64 ((k : Int) + 1) = (k : Int) + 1 := by unfold wrap64; omega
  have hqk := hi.gain hk'
  have hq := And.intro hi.q1 hi.q2
  have hw := hi.w k' hk'
  have hlt := hi.lt hk'
  have h00 := hi.c0 k' hk'
  have hck := hc k' hk'
  have HI := hide_it e1
  clear mb gf co af cap1 cap2 h hi hc ek e1 hk hn tl gl gt cl
  go_enter Try.func31, Try.ntmps31
  go_upto_region 0 with fail
  go_region
  have HD := hide_it (HK.out.below (below_drewN (Below.refl _ _) 1))
  change Exit.then _ _ Exit.normal _ ((w.setCell ⟨t, 2, none⟩ (.int .i64 k')).drewN 1)
  generalize (w.setCell ⟨t, 2, none⟩ (.int .i64 k')).drewN 1 = W1 at *
  obtain ⟨a0', a1', a2', _, _, _, _, _, _, _, _, _, co'⟩ := HD.out.read
  have cc : W1.cell? ⟨cb, k', none⟩ = some (.int .i64 (cs k')) := co' k' hk'
  have a1 : W1.cell? ⟨t, 1, none⟩ = some (.slice (some ⟨g, 0, none⟩) n cap) := by rw [← hnn]; exact a1'
  have a2 : W1.cell? ⟨t, 2, none⟩ = some (.int .i64 k') := a2'
  have kI := isCost_any W1 (cs k')
  have hkn : k' < n := by omega
  clear a0' a1' a2' co' f2 hm hw0 hw1 hn0 hz HK
  by_cases hcs : cs k' = 0
  · rw [show decide (1 ≤ cs k' ∧ cs k' ≤ 1048576) = false by simp; omega] at kI
    have e2 : x1 = { x with k := k' } := by have := HI.out; rw [if_pos hcs] at this; exact this
    have HE : Hid (SC F w0 W1 t g cap x1 cb cs) := by rw [e2]; exact HD.out
    clear HI HD e2 hcs hck h00 hlt hw hq hqk
    generalize cs k' = c at *
    go_wp2_with (go_at_call 28; refine kI.mono ?_; rintro e w1 ⟨rfl, e9⟩; have e8 := e9.symm; clear e9; subst e8)
    go_end0
    exact ⟨rfl, HE⟩
  · rw [show decide (1 ≤ cs k' ∧ cs k' ≤ 1048576) = true by simp; omega] at kI
    have HE : Hid (x1 = { x with k := k', C := upd x.C k' (x.C k' + x.q * x.W k') }) := by have := HI.out; rw [if_neg hcs] at this; exact this
    clear HI hcs hck
    generalize cs k' = c at *
    go_upto_region 2 with (go_at_call 28; refine kI.mono ?_; rintro e w1 ⟨rfl, e9⟩; have e8 := e9.symm; clear e9; subst e8)
    go_big_quiet (fail)
    have HD2 := hide_it (HD.out.drewN nq)
    generalize W1.drewN nq = W2 at *
    obtain ⟨a0', _, _, _, tl, gl, gt, _, _, _, mb, gf, _⟩ := HD2.out.read
    obtain ⟨m0, m1, m2⟩ := mb k' hk'
    have f3 := gf (k' * 3 + 2)
    have kg := gain_any (w := W2.drew) (t := t) (q := x.q) a0' tl (x.I k') (x.W k') (x.C k') hq hw
    have HG : Hid (∀ W, Below W2.heap.size W2.drew W → SC F w0 (W.setCell ⟨g, k' * 3 + 2, none⟩ (.int .i64 (x.C k' + x.q * x.W k'))) t g cap x1 cb cs ∧ W.cell? ⟨g, k' * 3 + 2, none⟩ = some (.int .i64 (x.C k')) ∧ W.frozen? ⟨g, k' * 3 + 2, none⟩ = false) := fun W hb => by
      have h1 := (HD2.out.drewN 1).below hb
      refine ⟨by rw [HE.out]; exact h1.setC hk' _, (h1.read.mb k' hk').2.2, h1.read.gf _⟩
    have hww : IntKind.i64.wrap (x.C k' + x.q * x.W k') = x.C k' + x.q * x.W k' := by rw [IntKind.wrap_i64]; omega
    have hww2 : wrap64 (x.C k' + x.q * x.W k') = x.C k' + x.q * x.W k' := by unfold wrap64; omega
    clear a0' mb gf tl gl gt h00 hlt hw hq hqk HD HE a1 a2 cc
    have HM : Hid (∀ W, Below W2.heap.size W2.drew W → W.cell? ⟨g, k' * 3, none⟩ = some (.int .i64 (x.I k')) ∧ W.cell? ⟨g, k' * 3 + 1, none⟩ = some (.int .i64 (x.W k')) ∧ W.cell? ⟨g, k' * 3 + 2, none⟩ = some (.int .i64 (x.C k')) ∧ W.frozen? ⟨g, k' * 3 + 2, none⟩ = false) := fun W hb => by
      have h1 := ((HD2.out.drewN 1).below hb).read
      exact ⟨(h1.mb k' hk').1, (h1.mb k' hk').2.1, (h1.mb k' hk').2.2, h1.gf _⟩
    have HG2 := hide_it (fun W hb => (HG.out W hb).1)
    have HDr : Hid (∀ W, Below W2.heap.size W2.drew W → Below W2.heap.size W2.drew W.drew) := fun W hb => hb.drew
    clear HG HD2
    generalize x.C k' = C' at *
    generalize x.W k' = w' at *
    generalize x.I k' = i' at *
    generalize x.q = q' at *
    go_upto_region 3 with fail
    go_region_with (go_at_call 36; refine kg.mono ?_; rintro e w5 ⟨rfl, b5⟩; obtain ⟨m0', m1', m2', f3'⟩ := HM.out _ b5.out)
    all_goals
      try rw [hww]
      go_end0
      exact ⟨rfl, HG2.out _ b5.out⟩
end Go.Proofs.Ytlhkahincnchjaa
