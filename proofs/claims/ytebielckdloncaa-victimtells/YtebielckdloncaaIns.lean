/- The insertion sort. -/
import Derived.Test.YtebielckdloncaaSrt
import Derived.Sort.WalkA
import Derived.Sort.WalkB2
import Derived.Sort.WalkB12
import Derived.Deep.LoopGhost
namespace Go.Proofs.Ytebielckdloncaa
open Go.Shelf Go.RowKit Go.Lib Go.Sort
set_option linter.unusedVariables false
set_option linter.unusedSimpArgs false
section
variable {α : Type} [Inhabited α] {enc : α → Value} {cf : α → α → Int} {C : Value} {w0 W : World} {blk off cap : Nat} {dk d0 : Array α}
set_option maxHeartbeats 8000000 in
set_option maxRecDepth 1000000 in
theorem insertion_any (hC : CmpM C enc cf blk off d0.size w0) (R : Row1 enc w0 blk off d0) (a b : Nat) (d : Array α) (w : World) (hs : d0.size = d.size) (S : SW enc w0 blk off d w) (hab : a ≤ b) (hb : b ≤ d.size) (hsz : d.size < 50) :
    Calls Try.prog 26 #[.slice (some ⟨blk, off, none⟩) d.size cap, .int .i64 a, .int .i64 b, .func (.func 21) #[C] #[]] w fun e w' => e = .returned (.tuple #[]) ∧ SW enc w0 blk off (Sort.insertionSort (ltOf cf) d a b) w' := by
  have mx := mixedT
  have HC : Aside (CmpM C enc cf blk off d0.size w0) := hC
  have S0 : Aside (SW enc w0 blk off d w) := S
  have hcl0 := R.hO.cells
  simp only [Value.cells] at hcl0
  have hst := R.hO.store Try.prog
  clear S hC
  go_enter Try.func26, Try.ntmps26
  go_wp2
  go_loopg [8] (b - a) (fun g1 vi wr => ∃ (i : Nat) (dk : Array α), vi = .int .i64 i ∧ a < i ∧ i ≤ b + 1 ∧ b + 1 - i ≤ g1 + 1 ∧ dk.size = d.size ∧ Aside (SW enc w0 blk off dk wr) ∧ Hid (insOuter (ltOf cf) a b i dk = insOuter (ltOf cf) a b (a + 1) d))
  case atStart => exact ⟨a + 1, d, by go_num, by omega, by omega, by omega, rfl, S0, rfl⟩
  case round =>
    clear S0
    obtain ⟨i, dk, rfl, hai, hib, hg1, hsk, S1, HO⟩ := hrel
    by_cases hlt : i < b
    · have hltz : (i : Int) < (b : Int) := by omega
      go_wp2
      go_loopg [9] i (fun g2 vj wr2 => ∃ (j : Nat) (dj : Array α), vj = .int .i64 j ∧ a ≤ j ∧ j ≤ i ∧ j ≤ g2 ∧ dj.size = d.size ∧ Aside (SW enc w0 blk off dj wr2) ∧ Hid (insInner (ltOf cf) a j dj = insInner (ltOf cf) a i dk))
      case atStart => exact ⟨i, dk, rfl, by omega, Nat.le_refl _, Nat.le_refl _, hsk, S1, rfl⟩
      case round =>
        clear S1
        obtain ⟨j, dj, rfl, haj, hji, hg2, hsj, SJ, HI⟩ := hrel
        have out : (j ≤ a ∨ (ltOf cf) dj[j]! dj[j - 1]! = false) → insOuter (ltOf cf) a b (i + 1) dj = insOuter (ltOf cf) a b (a + 1) d := fun hq => by
          rw [← HO.out, insOuter_go _ _ _ _ _ hlt, ← HI.out, insInner_stop _ _ _ _ hq]
        have OUT : Aside _ := out
        clear out
        by_cases hja : a < j
        · obtain ⟨jp, hjp⟩ : ∃ q, q + 1 = j := ⟨j - 1, by omega⟩
          have zjp : (j : Int) = (jp : Int) + 1 := by omega
          have hjad : decide ((jp : Int) + 1 > (a : Int)) = true := decide_eq_true (by omega)
          have hjaz : (a : Int) < (jp : Int) + 1 := by omega
          cases hlv : (ltOf cf) dj[j]! dj[j - 1]! with
          | true =>
            obtain ⟨iN1, hiN1⟩ : ∃ q, q = j := ⟨_, rfl⟩
            have ei1 : ((jp : Int) + 1).toNat = iN1 := by omega
            have pi1 : (0 : Int) ≤ (jp : Int) + 1 := by omega
            have bi1 : (jp : Int) + 1 < (d.size : Int) := by omega
            have ri1 : IntKind.i64.wrap ((jp : Int) + 1) = (jp : Int) + 1 := by rw [IntKind.wrap_i64]; omega
            obtain ⟨jN1, hjN1⟩ : ∃ q, q = j - 1 := ⟨_, rfl⟩
            have ej1 : ((jp : Int)).toNat = jN1 := by omega
            have pj1 : (0 : Int) ≤ (jp : Int) := by omega
            have bj1 : (jp : Int) < (d.size : Int) := by omega
            have rj1 : IntKind.i64.wrap ((jp : Int)) = (jp : Int) := by rw [IntKind.wrap_i64]; omega
            obtain ⟨x1, hx1⟩ : ∃ x, x = dj[j]! := ⟨_, rfl⟩
            obtain ⟨y1, hy1⟩ : ∃ x, x = dj[j - 1]! := ⟨_, rfl⟩
            have la1 := SJ.out.cl R (by omega) (j) (by omega)
            have lb1 := SJ.out.cl R (by omega) (j - 1) (by omega)
            rw [← hx1, ← hiN1] at la1
            rw [← hy1, ← hjN1] at lb1
            have hc1 := CmpM.at HC.out SJ.out (by omega) x1 y1
            have hv1 : cf x1 y1 < 0 := by rw [hx1, hy1]; exact of_decide_eq_true hlv
            have hd1 : decide (cf x1 y1 < 0) = true := decide_eq_true hv1
            clear hx1 hy1 hiN1 hjN1
            go_wp2_with fail
            go_quiet_grown (first | (go_at_fn 21; exact hc1 _ _) | (go_at_call 21; exact hc1 _ _))
            have S2 : Aside (SW enc w0 blk off dj (grow (wr.drewN nq) osq)) := SJ.out.grown nq osq
            clear la1 lb1 hc1 SJ
            generalize grow (wr.drewN nq) osq = w2 at S2 ⊢
            clear nq osq
            clear ei1 ej1
            go_wp2_with fail
            obtain ⟨iN2, hiN2⟩ : ∃ q, q = j := ⟨_, rfl⟩
            have ei2 : ((jp : Int) + 1).toNat = iN2 := by omega
            have pi2 : (0 : Int) ≤ (jp : Int) + 1 := by omega
            have bi2 : (jp : Int) + 1 < (d.size : Int) := by omega
            have ri2 : IntKind.i64.wrap ((jp : Int) + 1) = (jp : Int) + 1 := by rw [IntKind.wrap_i64]; omega
            obtain ⟨jN2, hjN2⟩ : ∃ q, q = j - 1 := ⟨_, rfl⟩
            have ej2 : ((jp : Int)).toNat = jN2 := by omega
            have pj2 : (0 : Int) ≤ (jp : Int) := by omega
            have bj2 : (jp : Int) < (d.size : Int) := by omega
            have rj2 : IntKind.i64.wrap ((jp : Int)) = (jp : Int) := by rw [IntKind.wrap_i64]; omega
            obtain ⟨x2, hx2⟩ : ∃ x, x = dj[j]! := ⟨_, rfl⟩
            obtain ⟨y2, hy2⟩ : ∃ x, x = dj[j - 1]! := ⟨_, rfl⟩
            have S3 : Aside (SW enc w0 blk off (swp dj (j) (j - 1)) ((w2.setCell ⟨blk, off + iN2, none⟩ (enc y2)).setCell ⟨blk, off + jN2, none⟩ (enc x2)).drew) := by rw [hiN2, hjN2, hx2, hy2]; exact S2.out.swapped R (j) (j - 1) (by omega) (by omega)
            have ca2 := S2.out.c1 R (by omega) (j) (by omega)
            have cb2 := S2.out.c1 R (by omega) (j - 1) (by omega)
            have fa2 := S2.out.f1 R (by omega) (j) (by omega)
            have fb2 := S2.out.f1 R (by omega) (j - 1) (by omega)
            obtain ⟨u2, cc2⟩ := S2.out.c2 R (by omega) (j) (j - 1) (by omega) (by omega) (enc y2)
            rw [← hjN2, ← hiN2] at cc2
            rw [← hx2, ← hiN2] at ca2
            rw [← hy2, ← hjN2] at cb2
            rw [← hiN2] at fa2
            rw [← hjN2] at fb2
            clear S2 hx2 hy2 hiN2 hjN2
            go_wp2_with fail
            go_big_region_o
            clear ca2 cb2 cc2 fa2 fb2
            generalize ((w2.setCell ⟨blk, off + iN2, none⟩ (enc y2)).setCell ⟨blk, off + jN2, none⟩ (enc x2)).drew = w3 at S3 ⊢
            clear ei2 ej2
            go_wp2
            go_roundg (j - 1)
            case measure => omega
            case rel => exact ⟨j - 1, swp dj j (j - 1), by first | rfl | go_num | (congr 1; omega), by omega, by omega, Nat.le_refl _, by rw [size_swp]; exact hsj, S3, (show Hid _ from by rw [← HI.out, insInner_go (ltOf cf) a j dj hja hlv]; exact rfl)⟩
          | false =>
            obtain ⟨iN3, hiN3⟩ : ∃ q, q = j := ⟨_, rfl⟩
            have ei3 : ((jp : Int) + 1).toNat = iN3 := by omega
            have pi3 : (0 : Int) ≤ (jp : Int) + 1 := by omega
            have bi3 : (jp : Int) + 1 < (d.size : Int) := by omega
            have ri3 : IntKind.i64.wrap ((jp : Int) + 1) = (jp : Int) + 1 := by rw [IntKind.wrap_i64]; omega
            obtain ⟨jN3, hjN3⟩ : ∃ q, q = j - 1 := ⟨_, rfl⟩
            have ej3 : ((jp : Int)).toNat = jN3 := by omega
            have pj3 : (0 : Int) ≤ (jp : Int) := by omega
            have bj3 : (jp : Int) < (d.size : Int) := by omega
            have rj3 : IntKind.i64.wrap ((jp : Int)) = (jp : Int) := by rw [IntKind.wrap_i64]; omega
            obtain ⟨x3, hx3⟩ : ∃ x, x = dj[j]! := ⟨_, rfl⟩
            obtain ⟨y3, hy3⟩ : ∃ x, x = dj[j - 1]! := ⟨_, rfl⟩
            have la3 := SJ.out.cl R (by omega) (j) (by omega)
            have lb3 := SJ.out.cl R (by omega) (j - 1) (by omega)
            rw [← hx3, ← hiN3] at la3
            rw [← hy3, ← hjN3] at lb3
            have hc3 := CmpM.at HC.out SJ.out (by omega) x3 y3
            have hv3 : ¬ cf x3 y3 < 0 := by rw [hx3, hy3]; exact of_decide_eq_false hlv
            have hd3 : decide (cf x3 y3 < 0) = false := decide_eq_false hv3
            clear hx3 hy3 hiN3 hjN3
            go_wp2_with fail
            go_quiet_grown (first | (go_at_fn 21; exact hc3 _ _) | (go_at_call 21; exact hc3 _ _))
            have S2 : Aside (SW enc w0 blk off dj (grow (wr.drewN nq) osq)) := SJ.out.grown nq osq
            clear la3 lb3 hc3 SJ
            generalize grow (wr.drewN nq) osq = w2 at S2 ⊢
            clear nq osq
            clear ei3 ej3
            go_wp2
            go_roundg (b - (i + 1))
            case measure => omega
            case rel => exact ⟨i + 1, dj, by go_num, by omega, by omega, by omega, hsj, S2, OUT.out (Or.inr hlv)⟩
        · have hjaz : decide ((j : Int) > (a : Int)) = false := decide_eq_false (by omega)
          have hjaz' : ¬ (a : Int) < (j : Int) := by omega
          go_wp2_with fail
          go_big_region_o
          have S2 : Aside (SW enc w0 blk off dj wr.drew) := SJ.out.drew
          clear SJ
          generalize wr.drew = w2 at S2 ⊢
          go_wp2
          go_roundg (b - (i + 1))
          case measure => omega
          case rel => exact ⟨i + 1, dj, by go_num, by omega, by omega, by omega, hsj, S2, OUT.out (Or.inl (by omega))⟩
    · have hltz : ¬ (i : Int) < (b : Int) := by omega
      go_wp2
      go_end0
      exact ⟨rfl, by unfold Sort.insertionSort; rw [← HO.out, insOuter_stop _ _ _ _ _ hlt]; exact S1.out⟩
end
end Go.Proofs.Ytebielckdloncaa
