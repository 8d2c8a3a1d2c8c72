/- Inserting in part: under fifty it is only looked whether all is in order. -/
import Derived.Test.YtebielckdloncaaSrt
import Derived.Sort.WalkA
import Derived.Sort.WalkB2
import Derived.Sort.WalkB12
import Derived.Sort.Lot0
import Derived.Deep.LoopGhost
namespace Go.Proofs.Ytebielckdloncaa
open Go.Shelf Go.RowKit Go.Lib Go.Sort
set_option linter.unusedVariables false
set_option linter.unusedSimpArgs false
section
variable {α : Type} [Inhabited α] {enc : α → Value} {cf : α → α → Int} {C : Value} {w0 W : World} {blk off cap : Nat} {dk d0 : Array α}
theorem chain_sorted {lt : α → α → Bool} (hO : SWO lt) {a b : Nat} {d : Array α} (h : ∀ k, a < k → k < b → lt d[k]! d[k - 1]! = false) : SortedIn lt a b d := by
  intro i j hi hij hj
  induction j with
  | zero => omega
  | succ j ih =>
    have h1 := h (j + 1) (by omega) hj
    rw [Nat.add_sub_cancel] at h1
    by_cases e : i = j
    · subst e; exact h1
    · exact hO.ntrans _ _ _ h1 (ih (by omega) (by omega))
set_option maxHeartbeats 8000000 in
set_option maxRecDepth 1000000 in
theorem partIns_any (hC : CmpM C enc cf blk off d0.size w0) (R : Row1 enc w0 blk off d0) (hO : SWO (ltOf cf)) (a b : Nat) (d : Array α) (w : World) (hs : d0.size = d.size) (S : SW enc w0 blk off d w) (hab : a < b) (hb : b ≤ d.size) (hsz : d.size < 50) :
    Calls Try.prog 31 #[.slice (some ⟨blk, off, none⟩) d.size cap, .int .i64 a, .int .i64 b, .func (.func 21) #[C] #[]] w fun e w' => ∃ r : Bool, e = .returned (.bool r) ∧ SW enc w0 blk off d w' ∧ (r = true → SortedIn (ltOf cf) a b d) := by
  have mx := mixedT
  have HC : Aside (CmpM C enc cf blk off d0.size w0) := hC
  have S0 : Aside (SW enc w0 blk off d w) := S
  have hcl0 := R.hO.cells
  simp only [Value.cells] at hcl0
  have hst := R.hO.store Try.prog
  clear S hC
  go_enter Try.func31, Try.ntmps31
  go_wp2
  refine wp_loop_rounds 1 ?_
  rw [rounds_succ]
  go_wp2_with fail
  go_loopg [9] (b - (a + 1)) (fun g2 vi wr2 => ∃ x : Nat, vi = .int .i64 x ∧ a < x ∧ x ≤ b ∧ b - x ≤ g2 ∧ Aside (SW enc w0 blk off d wr2) ∧ Hid (∀ k, a < k → k < x → (ltOf cf) d[k]! d[k - 1]! = false))
  case atStart => exact ⟨a + 1, by go_num, by omega, by omega, Nat.le_refl _, S0, (show Hid _ from fun k h1 h2 => absurd h2 (by omega))⟩
  case round =>
    clear S0
    obtain ⟨x, rfl, hx1, hx2, hg2, SJ, HS⟩ := hrel
    have hw5 : IntKind.i64.wrap ((b : Int) - (a : Int)) = (b : Int) - (a : Int) := by rw [IntKind.wrap_i64]; omega
    have h50 : (b : Int) - (a : Int) < 50 := by omega
    by_cases hc : x < b
    · have hcz : (x : Int) < (b : Int) := by omega
      obtain ⟨xp, hxp⟩ : ∃ q, q + 1 = x := ⟨x - 1, by omega⟩
      have zxp : (x : Int) = (xp : Int) + 1 := by omega
      have hcd : decide ((xp : Int) + 1 < (b : Int)) = true := decide_eq_true (by omega)
      have hcy : (xp : Int) + 1 < (b : Int) := by omega
      have hne : ¬ ((xp : Int) + 1 = (b : Int)) := by omega
      cases hlv : (ltOf cf) d[x]! d[x - 1]! with
      | false =>
        obtain ⟨iN2, hiN2⟩ : ∃ q, q = x := ⟨_, rfl⟩
        have ei2 : ((xp : Int) + 1).toNat = iN2 := by omega
        have pi2 : (0 : Int) ≤ (xp : Int) + 1 := by omega
        have bi2 : (xp : Int) + 1 < (d.size : Int) := by omega
        have ri2 : IntKind.i64.wrap ((xp : Int) + 1) = (xp : Int) + 1 := by rw [IntKind.wrap_i64]; omega
        obtain ⟨jN2, hjN2⟩ : ∃ q, q = x - 1 := ⟨_, rfl⟩
        have ej2 : ((xp : Int)).toNat = jN2 := by omega
        have pj2 : (0 : Int) ≤ (xp : Int) := by omega
        have bj2 : (xp : Int) < (d.size : Int) := by omega
        have rj2 : IntKind.i64.wrap ((xp : Int)) = (xp : Int) := by rw [IntKind.wrap_i64]; omega
        obtain ⟨x2, hx2⟩ : ∃ v9, v9 = d[x]! := ⟨_, rfl⟩
        obtain ⟨y2, hy2⟩ : ∃ v9, v9 = d[x - 1]! := ⟨_, rfl⟩
        have la2 := SJ.out.cl R (by omega) (x) (by omega)
        have lb2 := SJ.out.cl R (by omega) (x - 1) (by omega)
        rw [← hx2, ← hiN2] at la2
        rw [← hy2, ← hjN2] at lb2
        have hc2 := CmpM.at HC.out SJ.out (by omega) x2 y2
        have hv2 : ¬ cf x2 y2 < 0 := by rw [hx2, hy2]; exact of_decide_eq_false hlv
        have hd2 : decide (cf x2 y2 < 0) = false := decide_eq_false hv2
        clear hx2 hy2 hiN2 hjN2
        go_wp2_with fail
        go_quiet_grown (first | (go_at_fn 21; exact hc2 _ _) | (go_at_call 21; exact hc2 _ _))
        have S4 : Aside (SW enc w0 blk off d (grow (wr.drewN nq) osq)) := SJ.out.grown nq osq
        clear la2 lb2 hc2 SJ
        generalize grow (wr.drewN nq) osq = w4 at S4 ⊢
        clear nq osq
        clear ei2 ej2
        go_wp2
        go_roundg (b - (x + 1))
        case measure => omega
        case rel =>
          refine ⟨x + 1, by first | rfl | go_num | (congr 1; omega), by omega, by omega, Nat.le_refl _, S4, (show Hid _ from fun k h1 h2 => ?_)⟩
          by_cases e : k = x
          · subst e; exact hlv
          · exact HS.out k h1 (by omega)
      | true =>
        obtain ⟨iN3, hiN3⟩ : ∃ q, q = x := ⟨_, rfl⟩
        have ei3 : ((xp : Int) + 1).toNat = iN3 := by omega
        have pi3 : (0 : Int) ≤ (xp : Int) + 1 := by omega
        have bi3 : (xp : Int) + 1 < (d.size : Int) := by omega
        have ri3 : IntKind.i64.wrap ((xp : Int) + 1) = (xp : Int) + 1 := by rw [IntKind.wrap_i64]; omega
        obtain ⟨jN3, hjN3⟩ : ∃ q, q = x - 1 := ⟨_, rfl⟩
        have ej3 : ((xp : Int)).toNat = jN3 := by omega
        have pj3 : (0 : Int) ≤ (xp : Int) := by omega
        have bj3 : (xp : Int) < (d.size : Int) := by omega
        have rj3 : IntKind.i64.wrap ((xp : Int)) = (xp : Int) := by rw [IntKind.wrap_i64]; omega
        obtain ⟨x3, hx3⟩ : ∃ v9, v9 = d[x]! := ⟨_, rfl⟩
        obtain ⟨y3, hy3⟩ : ∃ v9, v9 = d[x - 1]! := ⟨_, rfl⟩
        have la3 := SJ.out.cl R (by omega) (x) (by omega)
        have lb3 := SJ.out.cl R (by omega) (x - 1) (by omega)
        rw [← hx3, ← hiN3] at la3
        rw [← hy3, ← hjN3] at lb3
        have hc3 := CmpM.at HC.out SJ.out (by omega) x3 y3
        have hv3 : cf x3 y3 < 0 := by rw [hx3, hy3]; exact of_decide_eq_true hlv
        have hd3 : decide (cf x3 y3 < 0) = true := decide_eq_true hv3
        clear hx3 hy3 hiN3 hjN3
        go_wp2_with fail
        go_quiet_grown (first | (go_at_fn 21; exact hc3 _ _) | (go_at_call 21; exact hc3 _ _))
        have S4 : Aside (SW enc w0 blk off d (grow (wr.drewN nq) osq)) := SJ.out.grown nq osq
        clear la3 lb3 hc3 SJ
        generalize grow (wr.drewN nq) osq = w4 at S4 ⊢
        clear nq osq
        clear ei3 ej3
        go_wp2
        go_ret
        exact ⟨false, rfl, S4.out, fun h => by cases h⟩
    · obtain rfl : x = b := by omega
      have hcz : ¬ ((x : Int) < (x : Int)) := by omega
      have hcd : decide ((x : Int) < (x : Int)) = false := decide_eq_false (by omega)
      go_wp2_with fail
      go_big_region_o
      have S4 : Aside (SW enc w0 blk off d wr.drew) := SJ.out.drew
      clear SJ
      generalize wr.drew = w4 at S4 ⊢
      go_wp2
      go_ret
      exact ⟨true, rfl, S4.out, fun _ => chain_sorted hO HS.out⟩
end
end Go.Proofs.Ytebielckdloncaa
