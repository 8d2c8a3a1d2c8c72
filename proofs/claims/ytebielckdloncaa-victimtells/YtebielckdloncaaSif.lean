/- Sifting down. -/
import Derived.Test.YtebielckdloncaaSrt
import Derived.Sort.WalkA
import Derived.Sort.WalkB2
import Derived.Sort.WalkB12
import Derived.Deep.LoopGhost
namespace Go.Proofs.Ytebielckdloncaa
open Go.Shelf Go.RowKit Go.Lib Go.Sort
set_option linter.unusedVariables false
set_option linter.unusedSimpArgs false
section
variable {α : Type} [Inhabited α] {enc : α → Value} {cf : α → α → Int} {C : Value} {w0 W : World} {blk off cap : Nat} {dk d0 : Array α}
set_option maxHeartbeats 8000000 in
set_option maxRecDepth 1000000 in
theorem sift_any (hC : CmpM C enc cf blk off d0.size w0) (R : Row1 enc w0 blk off d0) (lo hi F : Nat) (d : Array α) (w : World) (hs : d0.size = d.size) (S : SW enc w0 blk off d w) (hlo : lo ≤ hi) (hb : F + hi ≤ d.size) (hsz : d.size < 50) :
    Calls Try.prog 37 #[.slice (some ⟨blk, off, none⟩) d.size cap, .int .i64 lo, .int .i64 hi, .int .i64 F, .func (.func 21) #[C] #[]] w fun e w' => e = .returned (.tuple #[]) ∧ SW enc w0 blk off (siftDown (ltOf cf) hi F lo d) w' := by
  have mx := mixedT
  have HC : Aside (CmpM C enc cf blk off d0.size w0) := hC
  have S0 : Aside (SW enc w0 blk off d w) := S
  have hcl0 := R.hO.cells
  simp only [Value.cells] at hcl0
  have hst := R.hO.store Try.prog
  clear S hC
  go_enter Try.func37, Try.ntmps37
  go_wp2
  go_loopg [10] (hi - lo) (fun g1 vi wr => ∃ (r : Nat) (dk : Array α), vi = .int .i64 r ∧ lo ≤ r ∧ r ≤ hi ∧ hi - r ≤ g1 ∧ dk.size = d.size ∧ Aside (SW enc w0 blk off dk wr) ∧ Hid (siftDown (ltOf cf) hi F r dk = siftDown (ltOf cf) hi F lo d))
  case atStart => exact ⟨lo, d, rfl, Nat.le_refl _, hlo, Nat.le_refl _, rfl, S0, rfl⟩
  case round =>
    clear S0
    obtain ⟨r, dk, rfl, hlr, hrh, hg1, hsk, S1, HO⟩ := hrel
    have hr50 : r < 50 := by omega
    have hF50 : F < 50 := by omega
    by_cases h1 : hi ≤ 2 * r + 1
    · have h1z : (hi : Int) ≤ 2 * (r : Int) + 1 := by omega
      go_wp2
      first | go_end0 | ((try simp only [Exit.inBlock, Exit.then]); refine bodyPost_ret (results_none rfl _ _ _) rfl ?_)
      exact ⟨rfl, by rw [← HO.out, sd_end (ltOf cf) dk (by omega)]; exact S1.out⟩
    · have h1z : ¬ ((hi : Int) ≤ 2 * (r : Int) + 1) := by omega
      go_wp2_with fail
      have hw1 : IntKind.i64.wrap (2 * (r : Int) + 1 + 1) = 2 * (r : Int) + 1 + 1 := by rw [IntKind.wrap_i64]; omega
      by_cases h2 : 2 * r + 2 < hi
      · have h2z : decide (2 * (r : Int) + 1 + 1 < (hi : Int)) = true := decide_eq_true (by omega)
        have h2y : 2 * (r : Int) + 1 + 1 < (hi : Int) := by omega
        cases hl1 : (ltOf cf) dk[F + (2 * r + 1)]! dk[F + (2 * r + 2)]! with
        | true =>
          obtain ⟨iN1, hiN1⟩ : ∃ q, q = F + (2 * r + 1) := ⟨_, rfl⟩
          have ei1 : ((F : Int) + (2 * (r : Int) + 1)).toNat = iN1 := by omega
          have pi1 : (0 : Int) ≤ (F : Int) + (2 * (r : Int) + 1) := by omega
          have bi1 : (F : Int) + (2 * (r : Int) + 1) < (d.size : Int) := by omega
          have ri1 : IntKind.i64.wrap ((F : Int) + (2 * (r : Int) + 1)) = (F : Int) + (2 * (r : Int) + 1) := by rw [IntKind.wrap_i64]; omega
          obtain ⟨jN1, hjN1⟩ : ∃ q, q = F + (2 * r + 2) := ⟨_, rfl⟩
          have ej1 : ((F : Int) + (2 * (r : Int) + 1) + 1).toNat = jN1 := by omega
          have pj1 : (0 : Int) ≤ (F : Int) + (2 * (r : Int) + 1) + 1 := by omega
          have bj1 : (F : Int) + (2 * (r : Int) + 1) + 1 < (d.size : Int) := by omega
          have rj1 : IntKind.i64.wrap ((F : Int) + (2 * (r : Int) + 1) + 1) = (F : Int) + (2 * (r : Int) + 1) + 1 := by rw [IntKind.wrap_i64]; omega
          obtain ⟨x1, hx1⟩ : ∃ x, x = dk[F + (2 * r + 1)]! := ⟨_, rfl⟩
          obtain ⟨y1, hy1⟩ : ∃ x, x = dk[F + (2 * r + 2)]! := ⟨_, rfl⟩
          have la1 := S1.out.cl R (by omega) (F + (2 * r + 1)) (by omega)
          have lb1 := S1.out.cl R (by omega) (F + (2 * r + 2)) (by omega)
          rw [← hx1, ← hiN1] at la1
          rw [← hy1, ← hjN1] at lb1
          have hc1 := CmpM.at HC.out S1.out (by omega) x1 y1
          have hv1 : cf x1 y1 < 0 := by rw [hx1, hy1]; exact of_decide_eq_true hl1
          have hd1 : decide (cf x1 y1 < 0) = true := decide_eq_true hv1
          clear hx1 hy1 hiN1 hjN1
          go_wp2_with fail
          go_quiet_grown (first | (go_at_fn 21; exact hc1 _ _) | (go_at_call 21; exact hc1 _ _))
          have S2 : Aside (SW enc w0 blk off dk (grow (wr.drewN nq) osq)) := S1.out.grown nq osq
          clear la1 lb1 hc1 S1
          generalize grow (wr.drewN nq) osq = w2 at S2 ⊢
          clear nq osq
          clear ei1 ej1
          go_wp2_with fail
          cases hl2 : (ltOf cf) dk[F + r]! dk[F + (2 * r + 2)]! with
          | true =>
            obtain ⟨iN2, hiN2⟩ : ∃ q, q = F + r := ⟨_, rfl⟩
            have ei2 : ((F : Int) + (r : Int)).toNat = iN2 := by omega
            have pi2 : (0 : Int) ≤ (F : Int) + (r : Int) := by omega
            have bi2 : (F : Int) + (r : Int) < (d.size : Int) := by omega
            have ri2 : IntKind.i64.wrap ((F : Int) + (r : Int)) = (F : Int) + (r : Int) := by rw [IntKind.wrap_i64]; omega
            obtain ⟨jN2, hjN2⟩ : ∃ q, q = F + (2 * r + 2) := ⟨_, rfl⟩
            have ej2 : ((F : Int) + (2 * (r : Int) + 1 + 1)).toNat = jN2 := by omega
            have pj2 : (0 : Int) ≤ (F : Int) + (2 * (r : Int) + 1 + 1) := by omega
            have bj2 : (F : Int) + (2 * (r : Int) + 1 + 1) < (d.size : Int) := by omega
            have rj2 : IntKind.i64.wrap ((F : Int) + (2 * (r : Int) + 1 + 1)) = (F : Int) + (2 * (r : Int) + 1 + 1) := by rw [IntKind.wrap_i64]; omega
            obtain ⟨x2, hx2⟩ : ∃ x, x = dk[F + r]! := ⟨_, rfl⟩
            obtain ⟨y2, hy2⟩ : ∃ x, x = dk[F + (2 * r + 2)]! := ⟨_, rfl⟩
            have la2 := S2.out.cl R (by omega) (F + r) (by omega)
            have lb2 := S2.out.cl R (by omega) (F + (2 * r + 2)) (by omega)
            rw [← hx2, ← hiN2] at la2
            rw [← hy2, ← hjN2] at lb2
            have hc2 := CmpM.at HC.out S2.out (by omega) x2 y2
            have hv2 : cf x2 y2 < 0 := by rw [hx2, hy2]; exact of_decide_eq_true hl2
            have hd2 : decide (cf x2 y2 < 0) = true := decide_eq_true hv2
            clear hx2 hy2 hiN2 hjN2
            go_wp2_with fail
            go_quiet_grown (first | (go_at_fn 21; exact hc2 _ _) | (go_at_call 21; exact hc2 _ _))
            have S4 : Aside (SW enc w0 blk off dk (grow (w2.drewN nq) osq)) := S2.out.grown nq osq
            clear la2 lb2 hc2 S2
            generalize grow (w2.drewN nq) osq = w4 at S4 ⊢
            clear nq osq
            clear ei2 ej2
            go_wp2_with fail
            obtain ⟨iN3, hiN3⟩ : ∃ q, q = F + r := ⟨_, rfl⟩
            have ei3 : ((F : Int) + (r : Int)).toNat = iN3 := by omega
            have pi3 : (0 : Int) ≤ (F : Int) + (r : Int) := by omega
            have bi3 : (F : Int) + (r : Int) < (d.size : Int) := by omega
            have ri3 : IntKind.i64.wrap ((F : Int) + (r : Int)) = (F : Int) + (r : Int) := by rw [IntKind.wrap_i64]; omega
            obtain ⟨jN3, hjN3⟩ : ∃ q, q = F + (2 * r + 2) := ⟨_, rfl⟩
            have ej3 : ((F : Int) + (2 * (r : Int) + 1 + 1)).toNat = jN3 := by omega
            have pj3 : (0 : Int) ≤ (F : Int) + (2 * (r : Int) + 1 + 1) := by omega
            have bj3 : (F : Int) + (2 * (r : Int) + 1 + 1) < (d.size : Int) := by omega
            have rj3 : IntKind.i64.wrap ((F : Int) + (2 * (r : Int) + 1 + 1)) = (F : Int) + (2 * (r : Int) + 1 + 1) := by rw [IntKind.wrap_i64]; omega
            obtain ⟨x3, hx3⟩ : ∃ x, x = dk[F + r]! := ⟨_, rfl⟩
            obtain ⟨y3, hy3⟩ : ∃ x, x = dk[F + (2 * r + 2)]! := ⟨_, rfl⟩
            have S5 : Aside (SW enc w0 blk off (swp dk (F + r) (F + (2 * r + 2))) ((w4.setCell ⟨blk, off + iN3, none⟩ (enc y3)).setCell ⟨blk, off + jN3, none⟩ (enc x3)).drew) := by rw [hiN3, hjN3, hx3, hy3]; exact S4.out.swapped R (F + r) (F + (2 * r + 2)) (by omega) (by omega)
            have ca3 := S4.out.c1 R (by omega) (F + r) (by omega)
            have cb3 := S4.out.c1 R (by omega) (F + (2 * r + 2)) (by omega)
            have fa3 := S4.out.f1 R (by omega) (F + r) (by omega)
            have fb3 := S4.out.f1 R (by omega) (F + (2 * r + 2)) (by omega)
            obtain ⟨u3, cc3⟩ := S4.out.c2 R (by omega) (F + r) (F + (2 * r + 2)) (by omega) (by omega) (enc y3)
            rw [← hjN3, ← hiN3] at cc3
            rw [← hx3, ← hiN3] at ca3
            rw [← hy3, ← hjN3] at cb3
            rw [← hiN3] at fa3
            rw [← hjN3] at fb3
            clear S4 hx3 hy3 hiN3 hjN3
            go_wp2_with fail
            go_big_region_o
            clear ca3 cb3 cc3 fa3 fb3
            generalize ((w4.setCell ⟨blk, off + iN3, none⟩ (enc y3)).setCell ⟨blk, off + jN3, none⟩ (enc x3)).drew = w5 at S5 ⊢
            clear ei3 ej3
            go_wp2
            go_roundg (hi - (2 * r + 2))
            case measure => omega
            case rel => exact ⟨2 * r + 2, swp dk (F + r) (F + (2 * r + 2)), by first | rfl | (congr 1; omega), by omega, by omega, Nat.le_refl _, by rw [size_swp]; exact hsk, S5, (show Hid _ from by rw [← HO.out, sd_right_go (ltOf cf) dk (by omega) hl1 hl2]; exact rfl)⟩
          | false =>
            obtain ⟨iN4, hiN4⟩ : ∃ q, q = F + r := ⟨_, rfl⟩
            have ei4 : ((F : Int) + (r : Int)).toNat = iN4 := by omega
            have pi4 : (0 : Int) ≤ (F : Int) + (r : Int) := by omega
            have bi4 : (F : Int) + (r : Int) < (d.size : Int) := by omega
            have ri4 : IntKind.i64.wrap ((F : Int) + (r : Int)) = (F : Int) + (r : Int) := by rw [IntKind.wrap_i64]; omega
            obtain ⟨jN4, hjN4⟩ : ∃ q, q = F + (2 * r + 2) := ⟨_, rfl⟩
            have ej4 : ((F : Int) + (2 * (r : Int) + 1 + 1)).toNat = jN4 := by omega
            have pj4 : (0 : Int) ≤ (F : Int) + (2 * (r : Int) + 1 + 1) := by omega
            have bj4 : (F : Int) + (2 * (r : Int) + 1 + 1) < (d.size : Int) := by omega
            have rj4 : IntKind.i64.wrap ((F : Int) + (2 * (r : Int) + 1 + 1)) = (F : Int) + (2 * (r : Int) + 1 + 1) := by rw [IntKind.wrap_i64]; omega
            obtain ⟨x4, hx4⟩ : ∃ x, x = dk[F + r]! := ⟨_, rfl⟩
            obtain ⟨y4, hy4⟩ : ∃ x, x = dk[F + (2 * r + 2)]! := ⟨_, rfl⟩
            have la4 := S2.out.cl R (by omega) (F + r) (by omega)
            have lb4 := S2.out.cl R (by omega) (F + (2 * r + 2)) (by omega)
            rw [← hx4, ← hiN4] at la4
            rw [← hy4, ← hjN4] at lb4
            have hc4 := CmpM.at HC.out S2.out (by omega) x4 y4
            have hv4 : ¬ cf x4 y4 < 0 := by rw [hx4, hy4]; exact of_decide_eq_false hl2
            have hd4 : decide (cf x4 y4 < 0) = false := decide_eq_false hv4
            clear hx4 hy4 hiN4 hjN4
            go_wp2_with fail
            go_quiet_grown (first | (go_at_fn 21; exact hc4 _ _) | (go_at_call 21; exact hc4 _ _))
            have S4 : Aside (SW enc w0 blk off dk (grow (w2.drewN nq) osq)) := S2.out.grown nq osq
            clear la4 lb4 hc4 S2
            generalize grow (w2.drewN nq) osq = w4 at S4 ⊢
            clear nq osq
            clear ei4 ej4
            go_wp2
            first | go_end0 | ((try simp only [Exit.inBlock, Exit.then]); refine bodyPost_ret (results_none rfl _ _ _) rfl ?_)
            exact ⟨rfl, by rw [← HO.out, sd_right_stop (ltOf cf) dk (by omega) hl1 hl2]; exact S4.out⟩
        | false =>
          obtain ⟨iN5, hiN5⟩ : ∃ q, q = F + (2 * r + 1) := ⟨_, rfl⟩
          have ei5 : ((F : Int) + (2 * (r : Int) + 1)).toNat = iN5 := by omega
          have pi5 : (0 : Int) ≤ (F : Int) + (2 * (r : Int) + 1) := by omega
          have bi5 : (F : Int) + (2 * (r : Int) + 1) < (d.size : Int) := by omega
          have ri5 : IntKind.i64.wrap ((F : Int) + (2 * (r : Int) + 1)) = (F : Int) + (2 * (r : Int) + 1) := by rw [IntKind.wrap_i64]; omega
          obtain ⟨jN5, hjN5⟩ : ∃ q, q = F + (2 * r + 2) := ⟨_, rfl⟩
          have ej5 : ((F : Int) + (2 * (r : Int) + 1) + 1).toNat = jN5 := by omega
          have pj5 : (0 : Int) ≤ (F : Int) + (2 * (r : Int) + 1) + 1 := by omega
          have bj5 : (F : Int) + (2 * (r : Int) + 1) + 1 < (d.size : Int) := by omega
          have rj5 : IntKind.i64.wrap ((F : Int) + (2 * (r : Int) + 1) + 1) = (F : Int) + (2 * (r : Int) + 1) + 1 := by rw [IntKind.wrap_i64]; omega
          obtain ⟨x5, hx5⟩ : ∃ x, x = dk[F + (2 * r + 1)]! := ⟨_, rfl⟩
          obtain ⟨y5, hy5⟩ : ∃ x, x = dk[F + (2 * r + 2)]! := ⟨_, rfl⟩
          have la5 := S1.out.cl R (by omega) (F + (2 * r + 1)) (by omega)
          have lb5 := S1.out.cl R (by omega) (F + (2 * r + 2)) (by omega)
          rw [← hx5, ← hiN5] at la5
          rw [← hy5, ← hjN5] at lb5
          have hc5 := CmpM.at HC.out S1.out (by omega) x5 y5
          have hv5 : ¬ cf x5 y5 < 0 := by rw [hx5, hy5]; exact of_decide_eq_false hl1
          have hd5 : decide (cf x5 y5 < 0) = false := decide_eq_false hv5
          clear hx5 hy5 hiN5 hjN5
          go_wp2_with fail
          go_quiet_grown (first | (go_at_fn 21; exact hc5 _ _) | (go_at_call 21; exact hc5 _ _))
          have S2 : Aside (SW enc w0 blk off dk (grow (wr.drewN nq) osq)) := S1.out.grown nq osq
          clear la5 lb5 hc5 S1
          generalize grow (wr.drewN nq) osq = w2 at S2 ⊢
          clear nq osq
          clear ei5 ej5
          go_wp2_with fail
          cases hl2 : (ltOf cf) dk[F + r]! dk[F + (2 * r + 1)]! with
          | true =>
            obtain ⟨iN6, hiN6⟩ : ∃ q, q = F + r := ⟨_, rfl⟩
            have ei6 : ((F : Int) + (r : Int)).toNat = iN6 := by omega
            have pi6 : (0 : Int) ≤ (F : Int) + (r : Int) := by omega
            have bi6 : (F : Int) + (r : Int) < (d.size : Int) := by omega
            have ri6 : IntKind.i64.wrap ((F : Int) + (r : Int)) = (F : Int) + (r : Int) := by rw [IntKind.wrap_i64]; omega
            obtain ⟨jN6, hjN6⟩ : ∃ q, q = F + (2 * r + 1) := ⟨_, rfl⟩
            have ej6 : ((F : Int) + (2 * (r : Int) + 1)).toNat = jN6 := by omega
            have pj6 : (0 : Int) ≤ (F : Int) + (2 * (r : Int) + 1) := by omega
            have bj6 : (F : Int) + (2 * (r : Int) + 1) < (d.size : Int) := by omega
            have rj6 : IntKind.i64.wrap ((F : Int) + (2 * (r : Int) + 1)) = (F : Int) + (2 * (r : Int) + 1) := by rw [IntKind.wrap_i64]; omega
            obtain ⟨x6, hx6⟩ : ∃ x, x = dk[F + r]! := ⟨_, rfl⟩
            obtain ⟨y6, hy6⟩ : ∃ x, x = dk[F + (2 * r + 1)]! := ⟨_, rfl⟩
            have la6 := S2.out.cl R (by omega) (F + r) (by omega)
            have lb6 := S2.out.cl R (by omega) (F + (2 * r + 1)) (by omega)
            rw [← hx6, ← hiN6] at la6
            rw [← hy6, ← hjN6] at lb6
            have hc6 := CmpM.at HC.out S2.out (by omega) x6 y6
            have hv6 : cf x6 y6 < 0 := by rw [hx6, hy6]; exact of_decide_eq_true hl2
            have hd6 : decide (cf x6 y6 < 0) = true := decide_eq_true hv6
            clear hx6 hy6 hiN6 hjN6
            go_wp2_with fail
            go_quiet_grown (first | (go_at_fn 21; exact hc6 _ _) | (go_at_call 21; exact hc6 _ _))
            have S4 : Aside (SW enc w0 blk off dk (grow (w2.drewN nq) osq)) := S2.out.grown nq osq
            clear la6 lb6 hc6 S2
            generalize grow (w2.drewN nq) osq = w4 at S4 ⊢
            clear nq osq
            clear ei6 ej6
            go_wp2_with fail
            obtain ⟨iN7, hiN7⟩ : ∃ q, q = F + r := ⟨_, rfl⟩
            have ei7 : ((F : Int) + (r : Int)).toNat = iN7 := by omega
            have pi7 : (0 : Int) ≤ (F : Int) + (r : Int) := by omega
            have bi7 : (F : Int) + (r : Int) < (d.size : Int) := by omega
            have ri7 : IntKind.i64.wrap ((F : Int) + (r : Int)) = (F : Int) + (r : Int) := by rw [IntKind.wrap_i64]; omega
            obtain ⟨jN7, hjN7⟩ : ∃ q, q = F + (2 * r + 1) := ⟨_, rfl⟩
            have ej7 : ((F : Int) + (2 * (r : Int) + 1)).toNat = jN7 := by omega
            have pj7 : (0 : Int) ≤ (F : Int) + (2 * (r : Int) + 1) := by omega
            have bj7 : (F : Int) + (2 * (r : Int) + 1) < (d.size : Int) := by omega
            have rj7 : IntKind.i64.wrap ((F : Int) + (2 * (r : Int) + 1)) = (F : Int) + (2 * (r : Int) + 1) := by rw [IntKind.wrap_i64]; omega
            obtain ⟨x7, hx7⟩ : ∃ x, x = dk[F + r]! := ⟨_, rfl⟩
            obtain ⟨y7, hy7⟩ : ∃ x, x = dk[F + (2 * r + 1)]! := ⟨_, rfl⟩
            have S5 : Aside (SW enc w0 blk off (swp dk (F + r) (F + (2 * r + 1))) ((w4.setCell ⟨blk, off + iN7, none⟩ (enc y7)).setCell ⟨blk, off + jN7, none⟩ (enc x7)).drew) := by rw [hiN7, hjN7, hx7, hy7]; exact S4.out.swapped R (F + r) (F + (2 * r + 1)) (by omega) (by omega)
            have ca7 := S4.out.c1 R (by omega) (F + r) (by omega)
            have cb7 := S4.out.c1 R (by omega) (F + (2 * r + 1)) (by omega)
            have fa7 := S4.out.f1 R (by omega) (F + r) (by omega)
            have fb7 := S4.out.f1 R (by omega) (F + (2 * r + 1)) (by omega)
            obtain ⟨u7, cc7⟩ := S4.out.c2 R (by omega) (F + r) (F + (2 * r + 1)) (by omega) (by omega) (enc y7)
            rw [← hjN7, ← hiN7] at cc7
            rw [← hx7, ← hiN7] at ca7
            rw [← hy7, ← hjN7] at cb7
            rw [← hiN7] at fa7
            rw [← hjN7] at fb7
            clear S4 hx7 hy7 hiN7 hjN7
            go_wp2_with fail
            go_big_region_o
            clear ca7 cb7 cc7 fa7 fb7
            generalize ((w4.setCell ⟨blk, off + iN7, none⟩ (enc y7)).setCell ⟨blk, off + jN7, none⟩ (enc x7)).drew = w5 at S5 ⊢
            clear ei7 ej7
            go_wp2
            go_roundg (hi - (2 * r + 1))
            case measure => omega
            case rel => exact ⟨2 * r + 1, swp dk (F + r) (F + (2 * r + 1)), by first | rfl | (congr 1; omega), by omega, by omega, Nat.le_refl _, by rw [size_swp]; exact hsk, S5, (show Hid _ from by rw [← HO.out, sd_left_go (ltOf cf) dk (by omega) (fun _ => hl1) hl2]; exact rfl)⟩
          | false =>
            obtain ⟨iN8, hiN8⟩ : ∃ q, q = F + r := ⟨_, rfl⟩
            have ei8 : ((F : Int) + (r : Int)).toNat = iN8 := by omega
            have pi8 : (0 : Int) ≤ (F : Int) + (r : Int) := by omega
            have bi8 : (F : Int) + (r : Int) < (d.size : Int) := by omega
            have ri8 : IntKind.i64.wrap ((F : Int) + (r : Int)) = (F : Int) + (r : Int) := by rw [IntKind.wrap_i64]; omega
            obtain ⟨jN8, hjN8⟩ : ∃ q, q = F + (2 * r + 1) := ⟨_, rfl⟩
            have ej8 : ((F : Int) + (2 * (r : Int) + 1)).toNat = jN8 := by omega
            have pj8 : (0 : Int) ≤ (F : Int) + (2 * (r : Int) + 1) := by omega
            have bj8 : (F : Int) + (2 * (r : Int) + 1) < (d.size : Int) := by omega
            have rj8 : IntKind.i64.wrap ((F : Int) + (2 * (r : Int) + 1)) = (F : Int) + (2 * (r : Int) + 1) := by rw [IntKind.wrap_i64]; omega
            obtain ⟨x8, hx8⟩ : ∃ x, x = dk[F + r]! := ⟨_, rfl⟩
            obtain ⟨y8, hy8⟩ : ∃ x, x = dk[F + (2 * r + 1)]! := ⟨_, rfl⟩
            have la8 := S2.out.cl R (by omega) (F + r) (by omega)
            have lb8 := S2.out.cl R (by omega) (F + (2 * r + 1)) (by omega)
            rw [← hx8, ← hiN8] at la8
            rw [← hy8, ← hjN8] at lb8
            have hc8 := CmpM.at HC.out S2.out (by omega) x8 y8
            have hv8 : ¬ cf x8 y8 < 0 := by rw [hx8, hy8]; exact of_decide_eq_false hl2
            have hd8 : decide (cf x8 y8 < 0) = false := decide_eq_false hv8
            clear hx8 hy8 hiN8 hjN8
            go_wp2_with fail
            go_quiet_grown (first | (go_at_fn 21; exact hc8 _ _) | (go_at_call 21; exact hc8 _ _))
            have S4 : Aside (SW enc w0 blk off dk (grow (w2.drewN nq) osq)) := S2.out.grown nq osq
            clear la8 lb8 hc8 S2
            generalize grow (w2.drewN nq) osq = w4 at S4 ⊢
            clear nq osq
            clear ei8 ej8
            go_wp2
            first | go_end0 | ((try simp only [Exit.inBlock, Exit.then]); refine bodyPost_ret (results_none rfl _ _ _) rfl ?_)
            exact ⟨rfl, by rw [← HO.out, sd_left_stop (ltOf cf) dk (by omega) (fun _ => hl1) hl2]; exact S4.out⟩
      · have h2z : decide (2 * (r : Int) + 1 + 1 < (hi : Int)) = false := decide_eq_false (by omega)
        have h2y : ¬ (2 * (r : Int) + 1 + 1 < (hi : Int)) := by omega
        go_wp2_with fail
        go_big_region_o
        have S2 : Aside (SW enc w0 blk off dk wr.drew) := S1.out.drew
        clear S1
        generalize wr.drew = w2 at S2 ⊢
        go_wp2_with fail
        cases hl2 : (ltOf cf) dk[F + r]! dk[F + (2 * r + 1)]! with
        | true =>
          obtain ⟨iN9, hiN9⟩ : ∃ q, q = F + r := ⟨_, rfl⟩
          have ei9 : ((F : Int) + (r : Int)).toNat = iN9 := by omega
          have pi9 : (0 : Int) ≤ (F : Int) + (r : Int) := by omega
          have bi9 : (F : Int) + (r : Int) < (d.size : Int) := by omega
          have ri9 : IntKind.i64.wrap ((F : Int) + (r : Int)) = (F : Int) + (r : Int) := by rw [IntKind.wrap_i64]; omega
          obtain ⟨jN9, hjN9⟩ : ∃ q, q = F + (2 * r + 1) := ⟨_, rfl⟩
          have ej9 : ((F : Int) + (2 * (r : Int) + 1)).toNat = jN9 := by omega
          have pj9 : (0 : Int) ≤ (F : Int) + (2 * (r : Int) + 1) := by omega
          have bj9 : (F : Int) + (2 * (r : Int) + 1) < (d.size : Int) := by omega
          have rj9 : IntKind.i64.wrap ((F : Int) + (2 * (r : Int) + 1)) = (F : Int) + (2 * (r : Int) + 1) := by rw [IntKind.wrap_i64]; omega
          obtain ⟨x9, hx9⟩ : ∃ x, x = dk[F + r]! := ⟨_, rfl⟩
          obtain ⟨y9, hy9⟩ : ∃ x, x = dk[F + (2 * r + 1)]! := ⟨_, rfl⟩
          have la9 := S2.out.cl R (by omega) (F + r) (by omega)
          have lb9 := S2.out.cl R (by omega) (F + (2 * r + 1)) (by omega)
          rw [← hx9, ← hiN9] at la9
          rw [← hy9, ← hjN9] at lb9
          have hc9 := CmpM.at HC.out S2.out (by omega) x9 y9
          have hv9 : cf x9 y9 < 0 := by rw [hx9, hy9]; exact of_decide_eq_true hl2
          have hd9 : decide (cf x9 y9 < 0) = true := decide_eq_true hv9
          clear hx9 hy9 hiN9 hjN9
          go_wp2_with fail
          go_quiet_grown (first | (go_at_fn 21; exact hc9 _ _) | (go_at_call 21; exact hc9 _ _))
          have S4 : Aside (SW enc w0 blk off dk (grow (w2.drewN nq) osq)) := S2.out.grown nq osq
          clear la9 lb9 hc9 S2
          generalize grow (w2.drewN nq) osq = w4 at S4 ⊢
          clear nq osq
          clear ei9 ej9
          go_wp2_with fail
          obtain ⟨iN10, hiN10⟩ : ∃ q, q = F + r := ⟨_, rfl⟩
          have ei10 : ((F : Int) + (r : Int)).toNat = iN10 := by omega
          have pi10 : (0 : Int) ≤ (F : Int) + (r : Int) := by omega
          have bi10 : (F : Int) + (r : Int) < (d.size : Int) := by omega
          have ri10 : IntKind.i64.wrap ((F : Int) + (r : Int)) = (F : Int) + (r : Int) := by rw [IntKind.wrap_i64]; omega
          obtain ⟨jN10, hjN10⟩ : ∃ q, q = F + (2 * r + 1) := ⟨_, rfl⟩
          have ej10 : ((F : Int) + (2 * (r : Int) + 1)).toNat = jN10 := by omega
          have pj10 : (0 : Int) ≤ (F : Int) + (2 * (r : Int) + 1) := by omega
          have bj10 : (F : Int) + (2 * (r : Int) + 1) < (d.size : Int) := by omega
          have rj10 : IntKind.i64.wrap ((F : Int) + (2 * (r : Int) + 1)) = (F : Int) + (2 * (r : Int) + 1) := by rw [IntKind.wrap_i64]; omega
          obtain ⟨x10, hx10⟩ : ∃ x, x = dk[F + r]! := ⟨_, rfl⟩
          obtain ⟨y10, hy10⟩ : ∃ x, x = dk[F + (2 * r + 1)]! := ⟨_, rfl⟩
          have S5 : Aside (SW enc w0 blk off (swp dk (F + r) (F + (2 * r + 1))) ((w4.setCell ⟨blk, off + iN10, none⟩ (enc y10)).setCell ⟨blk, off + jN10, none⟩ (enc x10)).drew) := by rw [hiN10, hjN10, hx10, hy10]; exact S4.out.swapped R (F + r) (F + (2 * r + 1)) (by omega) (by omega)
          have ca10 := S4.out.c1 R (by omega) (F + r) (by omega)
          have cb10 := S4.out.c1 R (by omega) (F + (2 * r + 1)) (by omega)
          have fa10 := S4.out.f1 R (by omega) (F + r) (by omega)
          have fb10 := S4.out.f1 R (by omega) (F + (2 * r + 1)) (by omega)
          obtain ⟨u10, cc10⟩ := S4.out.c2 R (by omega) (F + r) (F + (2 * r + 1)) (by omega) (by omega) (enc y10)
          rw [← hjN10, ← hiN10] at cc10
          rw [← hx10, ← hiN10] at ca10
          rw [← hy10, ← hjN10] at cb10
          rw [← hiN10] at fa10
          rw [← hjN10] at fb10
          clear S4 hx10 hy10 hiN10 hjN10
          go_wp2_with fail
          go_big_region_o
          clear ca10 cb10 cc10 fa10 fb10
          generalize ((w4.setCell ⟨blk, off + iN10, none⟩ (enc y10)).setCell ⟨blk, off + jN10, none⟩ (enc x10)).drew = w5 at S5 ⊢
          clear ei10 ej10
          go_wp2
          go_roundg (hi - (2 * r + 1))
          case measure => omega
          case rel => exact ⟨2 * r + 1, swp dk (F + r) (F + (2 * r + 1)), by first | rfl | (congr 1; omega), by omega, by omega, Nat.le_refl _, by rw [size_swp]; exact hsk, S5, (show Hid _ from by rw [← HO.out, sd_left_go (ltOf cf) dk (by omega) (fun q => absurd q (by omega)) hl2]; exact rfl)⟩
        | false =>
          obtain ⟨iN11, hiN11⟩ : ∃ q, q = F + r := ⟨_, rfl⟩
          have ei11 : ((F : Int) + (r : Int)).toNat = iN11 := by omega
          have pi11 : (0 : Int) ≤ (F : Int) + (r : Int) := by omega
          have bi11 : (F : Int) + (r : Int) < (d.size : Int) := by omega
          have ri11 : IntKind.i64.wrap ((F : Int) + (r : Int)) = (F : Int) + (r : Int) := by rw [IntKind.wrap_i64]; omega
          obtain ⟨jN11, hjN11⟩ : ∃ q, q = F + (2 * r + 1) := ⟨_, rfl⟩
          have ej11 : ((F : Int) + (2 * (r : Int) + 1)).toNat = jN11 := by omega
          have pj11 : (0 : Int) ≤ (F : Int) + (2 * (r : Int) + 1) := by omega
          have bj11 : (F : Int) + (2 * (r : Int) + 1) < (d.size : Int) := by omega
          have rj11 : IntKind.i64.wrap ((F : Int) + (2 * (r : Int) + 1)) = (F : Int) + (2 * (r : Int) + 1) := by rw [IntKind.wrap_i64]; omega
          obtain ⟨x11, hx11⟩ : ∃ x, x = dk[F + r]! := ⟨_, rfl⟩
          obtain ⟨y11, hy11⟩ : ∃ x, x = dk[F + (2 * r + 1)]! := ⟨_, rfl⟩
          have la11 := S2.out.cl R (by omega) (F + r) (by omega)
          have lb11 := S2.out.cl R (by omega) (F + (2 * r + 1)) (by omega)
          rw [← hx11, ← hiN11] at la11
          rw [← hy11, ← hjN11] at lb11
          have hc11 := CmpM.at HC.out S2.out (by omega) x11 y11
          have hv11 : ¬ cf x11 y11 < 0 := by rw [hx11, hy11]; exact of_decide_eq_false hl2
          have hd11 : decide (cf x11 y11 < 0) = false := decide_eq_false hv11
          clear hx11 hy11 hiN11 hjN11
          go_wp2_with fail
          go_quiet_grown (first | (go_at_fn 21; exact hc11 _ _) | (go_at_call 21; exact hc11 _ _))
          have S4 : Aside (SW enc w0 blk off dk (grow (w2.drewN nq) osq)) := S2.out.grown nq osq
          clear la11 lb11 hc11 S2
          generalize grow (w2.drewN nq) osq = w4 at S4 ⊢
          clear nq osq
          clear ei11 ej11
          go_wp2
          first | go_end0 | ((try simp only [Exit.inBlock, Exit.then]); refine bodyPost_ret (results_none rfl _ _ _) rfl ?_)
          exact ⟨rfl, by rw [← HO.out, sd_left_stop (ltOf cf) dk (by omega) (fun q => absurd q (by omega)) hl2]; exact S4.out⟩
end
end Go.Proofs.Ytebielckdloncaa
