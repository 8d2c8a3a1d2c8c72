/- idle: whole rounds in which nobody has the credit. -/
import Derived.Test.YtlhkahincnchjaaObj
import Derived.RegionTactic
import Derived.Deep.CutRange
import Derived.Deep.CutBlock
import Derived.Deep.RegionHeld3
import Derived.Deep.RegionWith
namespace Go.Proofs.Ytlhkahincnchjaa
open Go.RowKit
open M
set_option linter.unusedVariables false
set_option linter.unusedSimpArgs false

/-- What is told of the first k. -/
def IdR (r : Int) (cs : Nat → Int) (x : Tn) (k : Nat) : Prop := 0 ≤ r ∧ r ≤ 1048576 ∧ ∀ j, j < k → cs j ≠ 0 → r * (x.q * x.W j) < max (cs j - x.C j) 1
theorem idr_skip {r : Int} {cs : Nat → Int} {x : Tn} {k : Nat} (h : IdR r cs x k) (hc : cs k = 0) : IdR r cs x (k + 1) :=
  ⟨h.1, h.2.1, fun j hj hne => by
    by_cases e : j = k
    · subst e; exact absurd hc hne
    · exact h.2.2 j (by omega) hne⟩
theorem idr_next {r Q L : Int} {cs : Nat → Int} {x : Tn} {k : Nat} (h : IdR r cs x k) (hk : k < x.n) (hg : ∀ j, j < x.n → 0 < x.q * x.W j) (hL : L = max (cs k - x.C k) 1) (hQ : Q = (L - 1) / (x.q * x.W k)) : IdR (min r Q) cs x (k + 1) := by
  have h0 := hg k hk
  have hL1 : 0 ≤ L - 1 := by omega
  have hQ0 : 0 ≤ Q := by rw [hQ]; exact Int.ediv_nonneg hL1 (by omega)
  have hQg : Q * (x.q * x.W k) ≤ L - 1 := by rw [hQ]; exact Int.ediv_mul_le _ (by omega)
  obtain ⟨a, b, c⟩ := h
  refine ⟨by omega, by omega, fun j hj hne => ?_⟩
  by_cases e : j = k
  · subst e
    have := Int.mul_le_mul_of_nonneg_right (show min r Q ≤ Q by omega) (Int.le_of_lt h0)
    omega
  · have h1 := hg j (by omega)
    have := Int.mul_le_mul_of_nonneg_right (show min r Q ≤ r by omega) (Int.le_of_lt h1)
    have := c j (by omega) hne
    omega

set_option maxRecDepth 1000000 in
set_option maxHeartbeats 4000000 in
theorem idle_any {F : Nat → Prop} {w0 w : World} {t g cap cb : Nat} {x : Tn} {cs : Nat → Int} (h : SC F w0 w t g cap x cb cs) (hi : Inv 1048576 x) (hn : x.n ≤ 1000000) (hc : ∀ j, j < x.n → 0 ≤ cs j ∧ cs j ≤ 1048576) :
    Calls Try.prog 30 #[ptr t, .slice (some ⟨cb, 0, none⟩) x.n x.n] w fun e w' => ∃ r, e = .returned (.int .i64 r) ∧ Hid (Idle r cs x ∧ Below w.heap.size w w') := by
  have H0 := hide_it h
  have a1 := h.read.a1
  have HI := hide_it hi
  have HC := hide_it hc
  have hg := hide_it (fun j (hj : j < x.n) => (hi.gain hj).1)
  clear h hi hc
  obtain ⟨n, hnn⟩ : ∃ n, x.n = n := ⟨_, rfl⟩
  rw [hnn] at a1 hn ⊢
  go_enter Try.func30, Try.ntmps30
  go_wp2
  go_loopw [5, 14] (fun r i wr => ∃ (k : Nat) (R : Int), k ≤ n ∧ i = .int .i64 k ∧ r = .int .i64 R ∧ Hid (IdR R cs x k ∧ Below w.heap.size w wr)) (fun _ i _ => n - (intOf i).toNat)
  case atStart => exact ⟨0, 1048576, Nat.zero_le _, rfl, rfl, ⟨by omega, by omega, fun j hj => by omega⟩, Below.refl _ _⟩
  case round =>
    obtain ⟨k, R, hk, rfl, rfl, HR⟩ := hrel
    by_cases hlt : k < n
    · have hkx : k < x.n := by omega
      have HS := hide_it (H0.out.below HR.out.2)
      obtain ⟨m0, m1, m2⟩ := HS.out.read.mb k hkx
      have cc := HS.out.read.co k hkx
      have hcl := HS.out.read.cl
      have B1 := (Below.refl wr.heap.size wr).alloc (Nat.le_refl _) (.cells #[.int .i64 (x.I k), .int .i64 (x.W k), .int .i64 (x.C k)] 64)
      have c2 : (wr.alloc (.cells #[.int .i64 (x.I k), .int .i64 (x.W k), .int .i64 (x.C k)] 64)).cell? ⟨cb, k, none⟩ = some (.int .i64 (cs k)) := by rw [B1.cell (p := ⟨cb, k, none⟩) hcl]; exact cc
      have HS1 := hide_it (HS.out.below B1)
      have BB := hide_it (HR.out.2.trans (B1.mono HR.out.2.size))
      have HB1 := heap_alloc_new wr (.cells #[.int .i64 (x.I k), .int .i64 (x.W k), .int .i64 (x.C k)] 64)
      have l0 : (wr.alloc (.cells #[.int .i64 (x.I k), .int .i64 (x.W k), .int .i64 (x.C k)] 64)).cell? ⟨wr.heap.size, 0, none⟩ = some (.int .i64 (x.I k)) := by rw [cell_of_row _ _ 0 _ _ _ HB1]; rfl
      have l1 : (wr.alloc (.cells #[.int .i64 (x.I k), .int .i64 (x.W k), .int .i64 (x.C k)] 64)).cell? ⟨wr.heap.size, 1, none⟩ = some (.int .i64 (x.W k)) := by rw [cell_of_row _ _ 1 _ _ _ HB1]; rfl
      have l2 : (wr.alloc (.cells #[.int .i64 (x.I k), .int .i64 (x.W k), .int .i64 (x.C k)] 64)).cell? ⟨wr.heap.size, 2, none⟩ = some (.int .i64 (x.C k)) := by rw [cell_of_row _ _ 2 _ _ _ HB1]; rfl
      have HRR := hide_it HR.out.1
      have hcc := HC.out k hkx
      have hCC := HI.out.c0 k hkx
      have hCl := HI.out.lt hkx
      have hgk := HI.out.gain hkx
      have hww := HI.out.w k hkx
      have hqq := And.intro HI.out.q1 HI.out.q2
      clear HR HB1 HI HC B1 HS
      go_upto_region 5 with fail
      clear m0 m1 m2 cc hcl
      generalize wr.alloc (.cells #[.int .i64 (x.I k), .int .i64 (x.W k), .int .i64 (x.C k)] 64) = W1 at *
      generalize wr.heap.size = b at *
      have kI := isCost_any W1 (cs k)
      by_cases hcs : cs k = 0
      · rw [show decide (1 ≤ cs k ∧ cs k ≤ 1048576) = false by simp; omega] at kI
        have HN := hide_it (idr_skip HRR.out hcs)
        clear hcs hcc hCC hCl hgk hww hqq l0 l1 l2
        generalize cs k = c at *
        go_wp2_with (go_at_call 28; refine kI.mono ?_; rintro e w1 ⟨rfl, e9⟩; have e8 := e9.symm; clear e9; subst e8)
        go_roundw
        case rel => exact ⟨k + 1, R, by omega, by go_num, rfl, HN.out, BB.out⟩
        case measure => simp [intOf]; omega
      · rw [show decide (1 ≤ cs k ∧ cs k ≤ 1048576) = true by simp; omega] at kI
        obtain ⟨D, hD⟩ : ∃ D, cs k - x.C k = D := ⟨_, rfl⟩
        obtain ⟨L, hL⟩ : ∃ L, max D 1 = L := ⟨_, rfl⟩
        obtain ⟨G, hG⟩ : ∃ G, x.q * x.W k = G := ⟨_, rfl⟩
        obtain ⟨Q, hQ⟩ : ∃ Q, (L - 1) / G = Q := ⟨_, rfl⟩
        have hQ0 : 0 ≤ Q := by rw [← hQ]; exact Int.ediv_nonneg (by omega) (by omega)
        have hQg : Q ≤ L - 1 := by rw [← hQ]; exact Int.ediv_le_self _ (by omega)
        obtain ⟨R2, hR2⟩ : ∃ R2, min R Q = R2 := ⟨_, rfl⟩
        have HN : Hid (IdR R2 cs x (k + 1)) := by
          have := idr_next HRR.out hkx (fun j hj => by have := hg.out j hj; omega) rfl (Q := Q) (by rw [hD, hL, hG, hQ])
          rw [hR2] at this
          exact this
        have w1 : IntKind.i64.wrap (cs k - x.C k) = D := by rw [IntKind.wrap_i64]; omega
        have w2 : wrap64 (cs k - x.C k) = D := by unfold wrap64; omega
        have w3 : IntKind.i64.wrap (L - 1) = L - 1 := by rw [IntKind.wrap_i64]; omega
        have w4 : wrap64 (L - 1) = L - 1 := by unfold wrap64; omega
        have w5 : (L - 1).tdiv G = Q := by rw [Int.tdiv_eq_ediv_of_nonneg (by omega)]; exact hQ
        have w6 : IntKind.i64.wrap Q = Q := by rw [IntKind.wrap_i64]; omega
        have w7 : wrap64 Q = Q := by unfold wrap64; omega
        have w8 : ¬ G = 0 := by omega
        have k1 : ∀ ts u W, (Builtin.max_ ts u #[.int .i64 D, .int .i64 1]).run Try.prog W = .ok (.int .i64 L) W := fun ts u W => by rw [← hL]; exact max_num _ _ ts u W
        have k2 : ∀ ts u W, (Builtin.min_ ts u #[.int .i64 R, .int .i64 Q]).run Try.prog W = .ok (.int .i64 R2) W := fun ts u W => by rw [← hR2]; exact min_num _ _ ts u W
        have KG := hide_it (fun W (hb : Below W1.heap.size W1 W) => by
          have hr := (HS1.out.below hb).read
          have := gain_any (w := W) hr.a0 hr.tl (x.I k) (x.W k) (x.C k) hqq hww
          rw [hG] at this
          exact this)
        have HD : Hid (∀ j : Nat, Below W1.heap.size W1 (W1.drewN j)) := fun j => below_drewN (Below.refl _ _) j
        clear hcs hcc hCC hCl hgk hww hqq hD hL hG hQ hQ0 hQg hR2 HRR
        generalize cs k = c at *
        generalize x.I k = i' at *
        generalize x.W k = w' at *
        generalize x.C k = c' at *
        go_upto_region 6 with (go_at_call 28; refine kI.mono ?_; rintro e w1 ⟨rfl, e9⟩; have e8 := e9.symm; clear e9; subst e8)
        go_big_quiet (fail)
        have kg := KG.out _ (HD.out nq)
        have BD := hide_it (BB.out.trans ((HD.out nq).mono BB.out.size))
        go_wp2_with (go_at_call 36; refine kg.mono ?_; rintro e w5 ⟨rfl, b5⟩)
        go_roundw
        case rel => exact ⟨k + 1, R2, by omega, by go_num, rfl, HN.out, BD.out.trans (b5.out.mono BD.out.size)⟩
        case measure => simp [intOf]; omega
    · have : k = n := by omega
      subst this
      have HZ : Hid (Idle R cs x ∧ Below w.heap.size w wr) := by
        have := HR.out
        rw [← hnn] at this
        exact this
      clear HR
      go_wp2
      go_ret
      exact ⟨R, rfl, HZ⟩
end Go.Proofs.Ytlhkahincnchjaa
