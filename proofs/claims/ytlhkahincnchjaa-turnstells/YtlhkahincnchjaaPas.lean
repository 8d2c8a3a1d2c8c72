/- pass: whole rounds go by. -/
import Derived.Test.YtlhkahincnchjaaObj
import Derived.RegionTactic
import Derived.Deep.CutRange
import Derived.Deep.CutBlock
import Derived.Deep.RegionHeld3
import Derived.Deep.RegionWith
import Derived.WalkHide
namespace Go.Proofs.Ytlhkahincnchjaa
open Go.RowKit
open M
set_option linter.unusedVariables false
set_option linter.unusedSimpArgs false

/-- The first k have been seen to. -/
def parX (r : Int) (cs : Nat → Int) (x : Tn) (k : Nat) : Tn := { x with C := fun j => if j < k then (if cs j = 0 then 0 else x.C j + r * (x.q * x.W j)) else x.C j }
theorem parX_zero (r : Int) (cs : Nat → Int) (x : Tn) : parX r cs x 0 = x := tn_ext ⟨rfl, rfl, rfl, rfl⟩ rfl (fun j => by unfold parX; simp)
theorem parX_all (r : Int) (cs : Nat → Int) (x : Tn) : parX r cs x x.n = passed r cs x := rfl
theorem parX_C (r : Int) (cs : Nat → Int) (x : Tn) (k : Nat) : (parX r cs x k).C k = x.C k := by unfold parX; simp
theorem parX_succ {r : Int} {cs : Nat → Int} {x : Tn} {k : Nat} {v : Int} (h : v = if cs k = 0 then 0 else x.C k + r * (x.q * x.W k)) : ({ parX r cs x k with C := upd (parX r cs x k).C k v } : Tn) = parX r cs x (k + 1) := by
  refine tn_ext (x := parX r cs x (k + 1)) (y := { parX r cs x k with C := upd (parX r cs x k).C k v }) ⟨rfl, rfl, rfl, rfl⟩ rfl (fun j => ?_)
  show upd (parX r cs x k).C k v j = (parX r cs x (k + 1)).C j
  by_cases e : j = k
  · subst e
    rw [upd_same, h]
    unfold parX
    simp
  · rw [upd_other _ _ e]
    unfold parX
    simp only
    by_cases e2 : j < k
    · have e3 : j < k + 1 := by omega
      simp only [e2, e3, if_true]
    · have e3 : ¬ j < k + 1 := by omega
      simp only [e2, e3, if_false]

set_option maxRecDepth 1000000 in
set_option maxHeartbeats 4000000 in
theorem pass_any {F : Nat → Prop} {w0 w : World} {t g cap cb : Nat} {x : Tn} {cs : Nat → Int} (h : SC F w0 w t g cap x cb cs) (hi : Inv 1048576 x) (hn : x.n ≤ 1000000) (hc : ∀ j, j < x.n → 0 ≤ cs j ∧ cs j ≤ 1048576) {r : Int} (hr : Idle r cs x) :
    Calls Try.prog 29 #[ptr t, .int .i64 r, .slice (some ⟨cb, 0, none⟩) x.n x.n] w fun e w' => e = .returned (.tuple #[]) ∧ Hid (SC F w0 w' t g cap (if r = 0 then x else passed r cs x) cb cs) := by
  have H0 := hide_it h
  by_cases hr0 : r = 0
  · rw [if_pos hr0]
    subst hr0
    clear h hi hc hr
    go_enter Try.func29, Try.ntmps29
    go_wp2
    (try simp only [Exit.inBlock, Exit.then])
    refine bodyPost_ret (results_none rfl _ _ _) rfl ?_
    exact ⟨rfl, H0⟩
  · rw [if_neg hr0]
    have hz : (r == 0) = false := by simpa using hr0
    have a1 := h.read.a1
    have HI := hide_it hi
    have HC := hide_it hc
    have HI2 := hide_it hr
    have S0 : Hid (SC F w0 w t g cap (parX r cs x 0) cb cs) := by rw [parX_zero]; exact h
    clear h hi hc hr hr0 H0
    obtain ⟨n, hnn⟩ : ∃ n, x.n = n := ⟨_, rfl⟩
    rw [hnn] at a1 hn ⊢
    go_enter Try.func29, Try.ntmps29
    go_wp2
    go_loopw [15] (fun i wr => ∃ (k : Nat), k ≤ n ∧ i = .int .i64 k ∧ Hid (SC F w0 wr t g cap (parX r cs x k) cb cs)) (fun i _ => n - (intOf i).toNat)
    case atStart => exact ⟨0, Nat.zero_le _, rfl, S0⟩
    case round =>
      obtain ⟨k, hk, rfl, HS⟩ := hrel
      by_cases hlt : k < n
      · have hkx : k < x.n := by omega
        have hrd := HS.out.read
        have b1 : wr.cell? ⟨t, 1, none⟩ = some (.slice (some ⟨g, 0, none⟩) n cap) := by rw [← hnn]; exact hrd.a1
        obtain ⟨p0, p1, m2⟩ := hrd.mb k hkx
        rw [parX_C] at m2
        have m0 : wr.cell? ⟨g, k * 3, none⟩ = some (.int .i64 (x.I k)) := p0
        have m1 : wr.cell? ⟨g, k * 3 + 1, none⟩ = some (.int .i64 (x.W k)) := p1
        clear p0 p1
        have cc := hrd.co k hkx
        have f3 := hrd.gf (k * 3 + 2)
        have tl := hrd.tl
        have hcc := HC.out k hkx
        have hCC := HI.out.c0 k hkx
        have hCl := HI.out.lt hkx
        have hgk := HI.out.gain hkx
        have hww := HI.out.w k hkx
        have hqq := And.intro HI.out.q1 HI.out.q2
        have kI := isCost_any wr (cs k)
        clear hrd S0 a1
        by_cases hcs : cs k = 0
        · rw [show decide (1 ≤ cs k ∧ cs k ≤ 1048576) = false by simp; omega] at kI
          have HN : Hid (SC F w0 (wr.setCell ⟨g, k * 3 + 2, none⟩ (.int .i64 0)) t g cap (parX r cs x (k + 1)) cb cs) := by
            rw [← parX_succ (v := 0) (by rw [if_pos hcs])]
            exact HS.out.setC hkx 0
          clear hcs hcc hCC hCl hgk hww hqq HI HC HI2 HS tl
          generalize cs k = c at *
          generalize x.C k = c' at *
          go_wp2_with (go_at_call 28; refine kI.mono ?_; rintro e w1 ⟨rfl, e9⟩; have e8 := e9.symm; clear e9; subst e8)
          go_roundw
          case rel => exact ⟨k + 1, by omega, by go_num, HN⟩
          case measure => simp [intOf]; omega
        · rw [show decide (1 ≤ cs k ∧ cs k ≤ 1048576) = true by simp; omega] at kI
          have hid := HI2.out.2.2 k hkx hcs
          have hr1 := HI2.out.1
          obtain ⟨G, hG⟩ : ∃ G, x.q * x.W k = G := ⟨_, rfl⟩
          rw [hG] at hid hgk hCl
          obtain ⟨P, hP⟩ : ∃ P, r * G = P := ⟨_, rfl⟩
          have hP0 : 0 ≤ P := by rw [← hP]; exact Int.mul_nonneg hr1 (by omega)
          rw [hP] at hid
          have w1 : IntKind.i64.wrap (r * G) = P := by rw [hP, IntKind.wrap_i64]; omega
          have w2 : wrap64 (r * G) = P := by rw [hP]; unfold wrap64; omega
          have w3 : IntKind.i64.wrap (x.C k + P) = x.C k + P := by rw [IntKind.wrap_i64]; omega
          have w4 : wrap64 (x.C k + P) = x.C k + P := by unfold wrap64; omega
          have kg := gain_any (w := wr.drew) (t := t) (q := x.q) (show wr.drew.cell? ⟨t, 0, none⟩ = some (.int .i64 x.q) from HS.out.read.a0) tl (x.I k) (x.W k) (x.C k) hqq hww
          rw [hG] at kg
          have HM : Hid (∀ W, Below wr.heap.size wr.drew W → W.cell? ⟨g, k * 3, none⟩ = some (.int .i64 (x.I k)) ∧ W.cell? ⟨g, k * 3 + 1, none⟩ = some (.int .i64 (x.W k)) ∧ W.cell? ⟨g, k * 3 + 2, none⟩ = some (.int .i64 (x.C k)) ∧ W.frozen? ⟨g, k * 3 + 2, none⟩ = false) := fun W hb => by
            have h1 := ((HS.out.drewN 1).below hb).read
            obtain ⟨p0, p1, p2⟩ := h1.mb k hkx
            rw [parX_C] at p2
            exact ⟨p0, p1, p2, h1.gf _⟩
          have HN : Hid (∀ W, Below wr.heap.size wr.drew W → SC F w0 (W.setCell ⟨g, k * 3 + 2, none⟩ (.int .i64 (x.C k + P))) t g cap (parX r cs x (k + 1)) cb cs) := fun W hb => by
            rw [← parX_succ (v := x.C k + P) (by rw [if_neg hcs, hG, hP])]
            exact ((HS.out.drewN 1).below hb).setC hkx _
          clear hcs hcc hCC hCl hgk hww hqq HI HC HI2 HS tl hG hP hP0 hid hr1
          generalize cs k = c at *
          generalize x.I k = i' at *
          generalize x.W k = w' at *
          generalize x.C k = c' at *
          go_upto_region 6 with (go_at_call 28; refine kI.mono ?_; rintro e w1 ⟨rfl, e9⟩; have e8 := e9.symm; clear e9; subst e8)
          go_region_with (go_at_call 36; refine kg.mono ?_; rintro e w5 ⟨rfl, b5⟩; obtain ⟨m0', m1', m2', f3'⟩ := HM.out _ b5.out)
          all_goals
            have HN2 := hide_it (HN.out _ b5.out)
            clear HN HM m0 m1 m2 m0' m1' m2' cc b1
            go_wp2
            go_roundw
            case rel => exact ⟨k + 1, by omega, by go_num, HN2⟩
            case measure => simp [intOf]; omega
      · have : k = n := by omega
        subst this
        have HZ : Hid (SC F w0 wr t g cap (passed r cs x) cb cs) := by
          have := HS.out
          rw [← hnn, parX_all] at this
          exact this
        clear HS
        go_wp2
        go_end0
        exact ⟨rfl, HZ⟩
end Go.Proofs.Ytlhkahincnchjaa
