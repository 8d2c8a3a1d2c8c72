/- Parting. -/
import Derived.Test.YtebielckdloncaaSrt
import Derived.Sort.WalkA
import Derived.Sort.WalkB2
import Derived.Sort.WalkB12
import Derived.Sort.WalkC
import Derived.Sort.WalkC4
import Derived.Deep.LoopGhost
import Derived.Deep.CutRange
import Derived.Deep.CutBlock
import Derived.Deep.DeepCutAuto
namespace Go.Proofs.Ytebielckdloncaa
open Go.Shelf Go.RowKit Go.Lib Go.Sort
set_option linter.unusedVariables false
set_option linter.unusedSimpArgs false
section
variable {α : Type} [Inhabited α] {enc : α → Value} {cf : α → α → Int} {C : Value} {w0 W : World} {blk off cap : Nat} {dk d0 : Array α}
set_option maxHeartbeats 8000000 in
set_option maxRecDepth 1000000 in
theorem part_any (hC : CmpM C enc cf blk off d0.size w0) (R : Row1 enc w0 blk off d0) (a b pivot : Nat) (d : Array α) (w : World) (hs : d0.size = d.size) (S : SW enc w0 blk off d w) (hap : a ≤ pivot) (hpb : pivot < b) (hb : b ≤ d.size) (hsz : d.size < 50) :
    Calls Try.prog 33 #[.slice (some ⟨blk, off, none⟩) d.size cap, .int .i64 a, .int .i64 b, .int .i64 pivot, .func (.func 21) #[C] #[]] w fun e w' => e = .returned (.tuple #[.int .i64 ((partition (ltOf cf) d a b pivot).1 : Nat), .bool (partition (ltOf cf) d a b pivot).2.1]) ∧ SW enc w0 blk off (partition (ltOf cf) d a b pivot).2.2 w' := by
  have mx := mixedT
  have HC : Aside (CmpM C enc cf blk off d0.size w0) := hC
  have S0 : Aside (SW enc w0 blk off d w) := S
  have hcl0 := R.hO.cells
  simp only [Value.cells] at hcl0
  have hst := R.hO.store Try.prog
  clear S hC
  obtain ⟨j, hbj⟩ : ∃ j, b = j + 1 := ⟨b - 1, by omega⟩
  subst hbj
  go_enter Try.func33, Try.ntmps33
  go_wp2_with fail
  obtain ⟨iN1, hiN1⟩ : ∃ q, q = a := ⟨_, rfl⟩
  have ei1 : ((a : Int)).toNat = iN1 := by omega
  have pi1 : (0 : Int) ≤ (a : Int) := by omega
  have bi1 : (a : Int) < (d.size : Int) := by omega
  have ri1 : IntKind.i64.wrap ((a : Int)) = (a : Int) := by rw [IntKind.wrap_i64]; omega
  obtain ⟨jN1, hjN1⟩ : ∃ q, q = pivot := ⟨_, rfl⟩
  have ej1 : ((pivot : Int)).toNat = jN1 := by omega
  have pj1 : (0 : Int) ≤ (pivot : Int) := by omega
  have bj1 : (pivot : Int) < (d.size : Int) := by omega
  have rj1 : IntKind.i64.wrap ((pivot : Int)) = (pivot : Int) := by rw [IntKind.wrap_i64]; omega
  obtain ⟨x1, hx1⟩ : ∃ v9, v9 = d[a]! := ⟨_, rfl⟩
  obtain ⟨y1, hy1⟩ : ∃ v9, v9 = d[pivot]! := ⟨_, rfl⟩
  have S2 : Aside (SW enc w0 blk off (swp d (a) (pivot)) ((w.setCell ⟨blk, off + iN1, none⟩ (enc y1)).setCell ⟨blk, off + jN1, none⟩ (enc x1)).drew) := by rw [hiN1, hjN1, hx1, hy1]; exact S0.out.swapped R (a) (pivot) (by omega) (by omega)
  have ca1 := S0.out.c1 R (by omega) (a) (by omega)
  have cb1 := S0.out.c1 R (by omega) (pivot) (by omega)
  have fa1 := S0.out.f1 R (by omega) (a) (by omega)
  have fb1 := S0.out.f1 R (by omega) (pivot) (by omega)
  obtain ⟨u1, cc1⟩ := S0.out.c2 R (by omega) (a) (pivot) (by omega) (by omega) (enc y1)
  rw [← hjN1, ← hiN1] at cc1
  rw [← hx1, ← hiN1] at ca1
  rw [← hy1, ← hjN1] at cb1
  rw [← hiN1] at fa1
  rw [← hjN1] at fb1
  clear S0 hx1 hy1 hiN1 hjN1
  go_wp2_with fail
  go_big_region_o
  clear ca1 cb1 cc1 fa1 fb1
  generalize ((w.setCell ⟨blk, off + iN1, none⟩ (enc y1)).setCell ⟨blk, off + jN1, none⟩ (enc x1)).drew = w1 at S2 ⊢
  clear ei1 ej1
  obtain ⟨i, hi0⟩ : ∃ i, i = a + 1 := ⟨_, rfl⟩
  have hj0 : j = j + 1 - 1 := by omega
  obtain ⟨dk, hdk⟩ : ∃ dk, dk = swp d a pivot := ⟨_, rfl⟩
  rw [← hdk] at S2
  have hsk : dk.size = d.size := by rw [hdk, size_swp]
  have hai : a < i := by omega
  have hij : i ≤ j + 1 := by omega
  have hjb : j < j + 1 := by omega
  have H0 : Hid (i = a + 1 ∧ j = j + 1 - 1 ∧ dk = swp d a pivot) := ⟨hi0, hj0, hdk⟩
  clear hi0 hj0 hdk
  go_upto_block 0 with fail
  go_cut [12] from 32 to 49 (fun s wc => ∃ x : Nat, s = .int .i64 x ∧ i ≤ x ∧ x ≤ j + 1 ∧ Aside (SW enc w0 blk off dk wc) ∧ Hid (x = scanUp (fun x => (ltOf cf) x dk[a]!) dk j i))
  case first =>
    go_wp2_with fail
    go_loopg [12] (j + 1 - i) (fun g2 vi wr2 => ∃ x : Nat, vi = .int .i64 x ∧ i ≤ x ∧ x ≤ j + 1 ∧ j + 1 - x ≤ g2 ∧ Aside (SW enc w0 blk off dk wr2) ∧ Hid (scanUp (fun x => (ltOf cf) x dk[a]!) dk j x = scanUp (fun x => (ltOf cf) x dk[a]!) dk j i))
    case atStart => exact ⟨i, by first | rfl | (have q0 := H0.out; congr 1; omega), Nat.le_refl _, by omega, Nat.le_refl _, S2, rfl⟩
    case round =>
      clear S2
      obtain ⟨x, rfl, hx1, hx2, hg2, SJ, HS⟩ := hrel
      by_cases hc : x ≤ j
      · have hcz : (x : Int) ≤ (j : Int) := by omega
        have hcd : decide ((x : Int) ≤ (j : Int)) = true := decide_eq_true hcz
        cases hlv : (ltOf cf) dk[x]! dk[a]! with
        | true =>
          have HP : (fun x => (ltOf cf) x dk[a]!) dk[x]! = true := by show (ltOf cf) dk[x]! dk[a]! = true; rw [hlv]
          obtain ⟨iN2, hiN2⟩ : ∃ q, q = x := ⟨_, rfl⟩
          have ei2 : ((x : Int)).toNat = iN2 := by omega
          have pi2 : (0 : Int) ≤ (x : Int) := by omega
          have bi2 : (x : Int) < (d.size : Int) := by omega
          have ri2 : IntKind.i64.wrap ((x : Int)) = (x : Int) := by rw [IntKind.wrap_i64]; omega
          obtain ⟨jN2, hjN2⟩ : ∃ q, q = a := ⟨_, rfl⟩
          have ej2 : ((a : Int)).toNat = jN2 := by omega
          have pj2 : (0 : Int) ≤ (a : Int) := by omega
          have bj2 : (a : Int) < (d.size : Int) := by omega
          have rj2 : IntKind.i64.wrap ((a : Int)) = (a : Int) := by rw [IntKind.wrap_i64]; omega
          obtain ⟨x2, hx2⟩ : ∃ v9, v9 = dk[x]! := ⟨_, rfl⟩
          obtain ⟨y2, hy2⟩ : ∃ v9, v9 = dk[a]! := ⟨_, rfl⟩
          have la2 := SJ.out.cl R (by omega) (x) (by omega)
          have lb2 := SJ.out.cl R (by omega) (a) (by omega)
          rw [← hx2, ← hiN2] at la2
          rw [← hy2, ← hjN2] at lb2
          have hc2 := CmpM.at HC.out SJ.out (by omega) x2 y2
          have hv2 : cf x2 y2 < 0 := by rw [hx2, hy2]; exact of_decide_eq_true hlv
          have hd2 : decide (cf x2 y2 < 0) = true := decide_eq_true hv2
          clear hx2 hy2 hiN2 hjN2
          go_wp2_with fail
          go_quiet_grown (first | (go_at_fn 21; exact hc2 _ _) | (go_at_call 21; exact hc2 _ _))
          have S4 : Aside (SW enc w0 blk off dk (grow (wr.drewN nq) osq)) := SJ.out.grown nq osq
          clear la2 lb2 hc2 SJ
          generalize grow (wr.drewN nq) osq = w4 at S4 ⊢
          clear nq osq
          clear ei2 ej2
          go_wp2
          go_roundg (j + 1 - (x + 1))
          case measure => omega
          case rel => exact ⟨x + 1, by go_num, by omega, by omega, by omega, S4, (show Hid _ from by rw [← HS.out, scanUp_go (fun x => (ltOf cf) x dk[a]!) dk j x hc HP]; exact rfl)⟩
        | false =>
          have HP : (fun x => (ltOf cf) x dk[a]!) dk[x]! = false := by show (ltOf cf) dk[x]! dk[a]! = false; rw [hlv]
          obtain ⟨iN3, hiN3⟩ : ∃ q, q = x := ⟨_, rfl⟩
          have ei3 : ((x : Int)).toNat = iN3 := by omega
          have pi3 : (0 : Int) ≤ (x : Int) := by omega
          have bi3 : (x : Int) < (d.size : Int) := by omega
          have ri3 : IntKind.i64.wrap ((x : Int)) = (x : Int) := by rw [IntKind.wrap_i64]; omega
          obtain ⟨jN3, hjN3⟩ : ∃ q, q = a := ⟨_, rfl⟩
          have ej3 : ((a : Int)).toNat = jN3 := by omega
          have pj3 : (0 : Int) ≤ (a : Int) := by omega
          have bj3 : (a : Int) < (d.size : Int) := by omega
          have rj3 : IntKind.i64.wrap ((a : Int)) = (a : Int) := by rw [IntKind.wrap_i64]; omega
          obtain ⟨x3, hx3⟩ : ∃ v9, v9 = dk[x]! := ⟨_, rfl⟩
          obtain ⟨y3, hy3⟩ : ∃ v9, v9 = dk[a]! := ⟨_, rfl⟩
          have la3 := SJ.out.cl R (by omega) (x) (by omega)
          have lb3 := SJ.out.cl R (by omega) (a) (by omega)
          rw [← hx3, ← hiN3] at la3
          rw [← hy3, ← hjN3] at lb3
          have hc3 := CmpM.at HC.out SJ.out (by omega) x3 y3
          have hv3 : ¬ cf x3 y3 < 0 := by rw [hx3, hy3]; exact of_decide_eq_false hlv
          have hd3 : decide (cf x3 y3 < 0) = false := decide_eq_false hv3
          clear hx3 hy3 hiN3 hjN3
          go_wp2_with fail
          go_quiet_grown (first | (go_at_fn 21; exact hc3 _ _) | (go_at_call 21; exact hc3 _ _))
          have S4 : Aside (SW enc w0 blk off dk (grow (wr.drewN nq) osq)) := SJ.out.grown nq osq
          clear la3 lb3 hc3 SJ
          generalize grow (wr.drewN nq) osq = w4 at S4 ⊢
          clear nq osq
          clear ei3 ej3
          go_wp2
          go_meet
          case rel => exact ⟨x, rfl, hx1, hx2, S4, (show Hid _ from by rw [← HS.out, scanUp_end (fun x => (ltOf cf) x dk[a]!) dk j x (Or.inr HP)]; exact rfl)⟩
      · have hcz : ¬ (x : Int) ≤ (j : Int) := by omega
        have hcd : decide ((x : Int) ≤ (j : Int)) = false := decide_eq_false hcz
        go_wp2_with fail
        go_big_region_o
        have S4 : Aside (SW enc w0 blk off dk wr.drew) := SJ.out.drew
        clear SJ
        generalize wr.drew = w4 at S4 ⊢
        go_wp2
        go_meet
        case rel => exact ⟨x, rfl, hx1, hx2, S4, (show Hid _ from by rw [← HS.out, scanUp_end (fun x => (ltOf cf) x dk[a]!) dk j x (Or.inl hc)]; exact rfl)⟩
  case rest =>
    clear S2
    obtain ⟨i2, rfl, hi1, hi2, S3, HI2⟩ := hcut
    go_upto_block 2 with fail
    go_cut [13] from 50 to 68 (fun s wc => ∃ x : Nat, s = .int .i64 x ∧ i2 ≤ x + 1 ∧ x ≤ j ∧ Aside (SW enc w0 blk off dk wc) ∧ Hid (x = scanDown (fun x => !(ltOf cf) x dk[a]!) dk i2 j))
    case first =>
      go_wp2_with fail
      go_loopg [13] j (fun g2 vi wr2 => ∃ x : Nat, vi = .int .i64 x ∧ i2 ≤ x + 1 ∧ x ≤ j ∧ x ≤ g2 ∧ Aside (SW enc w0 blk off dk wr2) ∧ Hid (scanDown (fun x => !(ltOf cf) x dk[a]!) dk i2 x = scanDown (fun x => !(ltOf cf) x dk[a]!) dk i2 j))
      case atStart => exact ⟨j, by first | rfl | (have q0 := H0.out; congr 1; omega), by omega, Nat.le_refl _, Nat.le_refl _, S3, rfl⟩
      case round =>
        clear S3
        obtain ⟨x, rfl, hx1, hx2, hg2, SJ, HS⟩ := hrel
        by_cases hc : i2 ≤ x
        · have hcz : (i2 : Int) ≤ (x : Int) := by omega
          have hcd : decide ((i2 : Int) ≤ (x : Int)) = true := decide_eq_true hcz
          cases hlv : (ltOf cf) dk[x]! dk[a]! with
          | false =>
            have HP : (fun x => !(ltOf cf) x dk[a]!) dk[x]! = true := by show (!(ltOf cf) dk[x]! dk[a]!) = true; rw [hlv]; rfl
            obtain ⟨iN4, hiN4⟩ : ∃ q, q = x := ⟨_, rfl⟩
            have ei4 : ((x : Int)).toNat = iN4 := by omega
            have pi4 : (0 : Int) ≤ (x : Int) := by omega
            have bi4 : (x : Int) < (d.size : Int) := by omega
            have ri4 : IntKind.i64.wrap ((x : Int)) = (x : Int) := by rw [IntKind.wrap_i64]; omega
            obtain ⟨jN4, hjN4⟩ : ∃ q, q = a := ⟨_, rfl⟩
            have ej4 : ((a : Int)).toNat = jN4 := by omega
            have pj4 : (0 : Int) ≤ (a : Int) := by omega
            have bj4 : (a : Int) < (d.size : Int) := by omega
            have rj4 : IntKind.i64.wrap ((a : Int)) = (a : Int) := by rw [IntKind.wrap_i64]; omega
            obtain ⟨x4, hx4⟩ : ∃ v9, v9 = dk[x]! := ⟨_, rfl⟩
            obtain ⟨y4, hy4⟩ : ∃ v9, v9 = dk[a]! := ⟨_, rfl⟩
            have la4 := SJ.out.cl R (by omega) (x) (by omega)
            have lb4 := SJ.out.cl R (by omega) (a) (by omega)
            rw [← hx4, ← hiN4] at la4
            rw [← hy4, ← hjN4] at lb4
            have hc4 := CmpM.at HC.out SJ.out (by omega) x4 y4
            have hv4 : ¬ cf x4 y4 < 0 := by rw [hx4, hy4]; exact of_decide_eq_false hlv
            have hd4 : decide (cf x4 y4 < 0) = false := decide_eq_false hv4
            clear hx4 hy4 hiN4 hjN4
            go_wp2_with fail
            go_quiet_grown (first | (go_at_fn 21; exact hc4 _ _) | (go_at_call 21; exact hc4 _ _))
            have S4 : Aside (SW enc w0 blk off dk (grow (wr.drewN nq) osq)) := SJ.out.grown nq osq
            clear la4 lb4 hc4 SJ
            generalize grow (wr.drewN nq) osq = w4 at S4 ⊢
            clear nq osq
            clear ei4 ej4
            go_wp2
            go_roundg (x - 1)
            case measure => omega
            case rel => exact ⟨x - 1, by first | rfl | go_num | (congr 1; omega), by omega, by omega, Nat.le_refl _, S4, (show Hid _ from by rw [← HS.out, scanDown_go (fun x => !(ltOf cf) x dk[a]!) dk i2 x hc (by omega) HP]; exact rfl)⟩
          | true =>
            have HP : (fun x => !(ltOf cf) x dk[a]!) dk[x]! = false := by show (!(ltOf cf) dk[x]! dk[a]!) = false; rw [hlv]; rfl
            obtain ⟨iN5, hiN5⟩ : ∃ q, q = x := ⟨_, rfl⟩
            have ei5 : ((x : Int)).toNat = iN5 := by omega
            have pi5 : (0 : Int) ≤ (x : Int) := by omega
            have bi5 : (x : Int) < (d.size : Int) := by omega
            have ri5 : IntKind.i64.wrap ((x : Int)) = (x : Int) := by rw [IntKind.wrap_i64]; omega
            obtain ⟨jN5, hjN5⟩ : ∃ q, q = a := ⟨_, rfl⟩
            have ej5 : ((a : Int)).toNat = jN5 := by omega
            have pj5 : (0 : Int) ≤ (a : Int) := by omega
            have bj5 : (a : Int) < (d.size : Int) := by omega
            have rj5 : IntKind.i64.wrap ((a : Int)) = (a : Int) := by rw [IntKind.wrap_i64]; omega
            obtain ⟨x5, hx5⟩ : ∃ v9, v9 = dk[x]! := ⟨_, rfl⟩
            obtain ⟨y5, hy5⟩ : ∃ v9, v9 = dk[a]! := ⟨_, rfl⟩
            have la5 := SJ.out.cl R (by omega) (x) (by omega)
            have lb5 := SJ.out.cl R (by omega) (a) (by omega)
            rw [← hx5, ← hiN5] at la5
            rw [← hy5, ← hjN5] at lb5
            have hc5 := CmpM.at HC.out SJ.out (by omega) x5 y5
            have hv5 : cf x5 y5 < 0 := by rw [hx5, hy5]; exact of_decide_eq_true hlv
            have hd5 : decide (cf x5 y5 < 0) = true := decide_eq_true hv5
            clear hx5 hy5 hiN5 hjN5
            go_wp2_with fail
            go_quiet_grown (first | (go_at_fn 21; exact hc5 _ _) | (go_at_call 21; exact hc5 _ _))
            have S4 : Aside (SW enc w0 blk off dk (grow (wr.drewN nq) osq)) := SJ.out.grown nq osq
            clear la5 lb5 hc5 SJ
            generalize grow (wr.drewN nq) osq = w4 at S4 ⊢
            clear nq osq
            clear ei5 ej5
            go_wp2
            go_meet
            case rel => exact ⟨x, rfl, hx1, hx2, S4, (show Hid _ from by rw [← HS.out, scanDown_end (fun x => !(ltOf cf) x dk[a]!) dk i2 x (Or.inr HP)]; exact rfl)⟩
        · have hcz : ¬ (i2 : Int) ≤ (x : Int) := by omega
          have hcd : decide ((i2 : Int) ≤ (x : Int)) = false := decide_eq_false hcz
          go_wp2_with fail
          go_big_region_o
          have S4 : Aside (SW enc w0 blk off dk wr.drew) := SJ.out.drew
          clear SJ
          generalize wr.drew = w4 at S4 ⊢
          go_wp2
          go_meet
          case rel => exact ⟨x, rfl, hx1, hx2, S4, (show Hid _ from by rw [← HS.out, scanDown_end (fun x => !(ltOf cf) x dk[a]!) dk i2 x (Or.inl hc)]; exact rfl)⟩
    case rest =>
      clear S3
      obtain ⟨j2, rfl, hj1, hj2, S5, HJ2⟩ := hcut
      by_cases hlt : j2 < i2
      · have hltz : (j2 : Int) < (i2 : Int) := by omega
        go_wp2_with fail
        obtain ⟨iN6, hiN6⟩ : ∃ q, q = j2 := ⟨_, rfl⟩
        have ei6 : ((j2 : Int)).toNat = iN6 := by omega
        have pi6 : (0 : Int) ≤ (j2 : Int) := by omega
        have bi6 : (j2 : Int) < (d.size : Int) := by omega
        have ri6 : IntKind.i64.wrap ((j2 : Int)) = (j2 : Int) := by rw [IntKind.wrap_i64]; omega
        obtain ⟨jN6, hjN6⟩ : ∃ q, q = a := ⟨_, rfl⟩
        have ej6 : ((a : Int)).toNat = jN6 := by omega
        have pj6 : (0 : Int) ≤ (a : Int) := by omega
        have bj6 : (a : Int) < (d.size : Int) := by omega
        have rj6 : IntKind.i64.wrap ((a : Int)) = (a : Int) := by rw [IntKind.wrap_i64]; omega
        obtain ⟨x6, hx6⟩ : ∃ v9, v9 = dk[j2]! := ⟨_, rfl⟩
        obtain ⟨y6, hy6⟩ : ∃ v9, v9 = dk[a]! := ⟨_, rfl⟩
        have S6 : Aside (SW enc w0 blk off (swp dk (j2) (a)) ((wc.setCell ⟨blk, off + iN6, none⟩ (enc y6)).setCell ⟨blk, off + jN6, none⟩ (enc x6)).drew) := by rw [hiN6, hjN6, hx6, hy6]; exact S5.out.swapped R (j2) (a) (by omega) (by omega)
        have ca6 := S5.out.c1 R (by omega) (j2) (by omega)
        have cb6 := S5.out.c1 R (by omega) (a) (by omega)
        have fa6 := S5.out.f1 R (by omega) (j2) (by omega)
        have fb6 := S5.out.f1 R (by omega) (a) (by omega)
        obtain ⟨u6, cc6⟩ := S5.out.c2 R (by omega) (j2) (a) (by omega) (by omega) (enc y6)
        rw [← hjN6, ← hiN6] at cc6
        rw [← hx6, ← hiN6] at ca6
        rw [← hy6, ← hjN6] at cb6
        rw [← hiN6] at fa6
        rw [← hjN6] at fb6
        clear S5 hx6 hy6 hiN6 hjN6
        go_wp2_with fail
        go_big_region_o
        clear ca6 cb6 cc6 fa6 fb6
        generalize ((wc.setCell ⟨blk, off + iN6, none⟩ (enc y6)).setCell ⟨blk, off + jN6, none⟩ (enc x6)).drew = w6 at S6 ⊢
        clear ei6 ej6
        go_wp2
        go_ret2
        have e := part_first_break (ltOf cf) d a (j + 1) pivot H0.out.1 H0.out.2.1 H0.out.2.2 HI2.out HJ2.out hlt
        rw [e]
        exact ⟨rfl, S6.out⟩
      · have hltz : ¬ (j2 : Int) < (i2 : Int) := by omega
        have hij2 := part_scans_lt (ltOf cf) a i j dk (by omega) HI2.out HJ2.out (by omega)
        have HF := hide_it (part_first_go (ltOf cf) d a (j + 1) pivot H0.out.1 H0.out.2.1 H0.out.2.2 HI2.out HJ2.out (by omega))
        go_wp2_with fail
        obtain ⟨iN7, hiN7⟩ : ∃ q, q = i2 := ⟨_, rfl⟩
        have ei7 : ((i2 : Int)).toNat = iN7 := by omega
        have pi7 : (0 : Int) ≤ (i2 : Int) := by omega
        have bi7 : (i2 : Int) < (d.size : Int) := by omega
        have ri7 : IntKind.i64.wrap ((i2 : Int)) = (i2 : Int) := by rw [IntKind.wrap_i64]; omega
        obtain ⟨jN7, hjN7⟩ : ∃ q, q = j2 := ⟨_, rfl⟩
        have ej7 : ((j2 : Int)).toNat = jN7 := by omega
        have pj7 : (0 : Int) ≤ (j2 : Int) := by omega
        have bj7 : (j2 : Int) < (d.size : Int) := by omega
        have rj7 : IntKind.i64.wrap ((j2 : Int)) = (j2 : Int) := by rw [IntKind.wrap_i64]; omega
        obtain ⟨x7, hx7⟩ : ∃ v9, v9 = dk[i2]! := ⟨_, rfl⟩
        obtain ⟨y7, hy7⟩ : ∃ v9, v9 = dk[j2]! := ⟨_, rfl⟩
        have S6 : Aside (SW enc w0 blk off (swp dk (i2) (j2)) ((wc.setCell ⟨blk, off + iN7, none⟩ (enc y7)).setCell ⟨blk, off + jN7, none⟩ (enc x7)).drew) := by rw [hiN7, hjN7, hx7, hy7]; exact S5.out.swapped R (i2) (j2) (by omega) (by omega)
        have ca7 := S5.out.c1 R (by omega) (i2) (by omega)
        have cb7 := S5.out.c1 R (by omega) (j2) (by omega)
        have fa7 := S5.out.f1 R (by omega) (i2) (by omega)
        have fb7 := S5.out.f1 R (by omega) (j2) (by omega)
        obtain ⟨u7, cc7⟩ := S5.out.c2 R (by omega) (i2) (j2) (by omega) (by omega) (enc y7)
        rw [← hjN7, ← hiN7] at cc7
        rw [← hx7, ← hiN7] at ca7
        rw [← hy7, ← hjN7] at cb7
        rw [← hiN7] at fa7
        rw [← hjN7] at fb7
        clear S5 hx7 hy7 hiN7 hjN7
        go_wp2_with fail
        go_big_region_o
        clear ca7 cb7 cc7 fa7 fb7
        generalize ((wc.setCell ⟨blk, off + iN7, none⟩ (enc y7)).setCell ⟨blk, off + jN7, none⟩ (enc x7)).drew = w6 at S6 ⊢
        clear ei7 ej7
        obtain ⟨dm, hdm⟩ : ∃ dm, dm = swp dk i2 j2 := ⟨_, rfl⟩
        rw [← hdm] at S6 HF
        have hsm : dm.size = d.size := by rw [hdm, size_swp]; exact hsk
        obtain ⟨B, hB⟩ : ∃ B, B = j + 1 := ⟨_, rfl⟩
        have hB0 : B ≤ d.size := by omega
        have hjB : j2 < B := by omega
        have hai2 : a < i2 := by omega
        clear hdm HI2 HJ2 H0 hi1 hi2 hj1 hj2 hsk hlt hltz
        clear hB
        go_wp2
        go_loopg [12, 13] (j2 - 1 + 1 - (i2 + 1)) (fun g1 si sj wr => ∃ (i j : Nat) (dk : Array α), si = .int .i64 i ∧ sj = .int .i64 j ∧ a < i ∧ i ≤ j + 1 ∧ j < B ∧ j + 1 - i ≤ g1 ∧ dk.size = d.size ∧ Aside (SW enc w0 blk off dk wr) ∧ Hid (partLoop (ltOf cf) a i j dk = partLoop (ltOf cf) a (i2 + 1) (j2 - 1) dm))
        case atStart => exact ⟨i2 + 1, j2 - 1, dm, by go_num, by first | rfl | go_num | (congr 1; omega), by omega, by omega, by omega, Nat.le_refl _, hsm, S6, rfl⟩
        case round =>
          clear S6
          clear hai hij hjb
          obtain ⟨i, j, dk, rfl, rfl, hai, hij, hjb, hg1, hsk, S2, HO⟩ := hrel
          go_upto_block 6 with fail
          go_cut [12] from 105 to 122 (fun s wc => ∃ x : Nat, s = .int .i64 x ∧ i ≤ x ∧ x ≤ j + 1 ∧ Aside (SW enc w0 blk off dk wc) ∧ Hid (x = scanUp (fun x => (ltOf cf) x dk[a]!) dk j i))
          case first =>
            go_wp2_with fail
            go_loopg [12] (j + 1 - i) (fun g2 vi wr2 => ∃ x : Nat, vi = .int .i64 x ∧ i ≤ x ∧ x ≤ j + 1 ∧ j + 1 - x ≤ g2 ∧ Aside (SW enc w0 blk off dk wr2) ∧ Hid (scanUp (fun x => (ltOf cf) x dk[a]!) dk j x = scanUp (fun x => (ltOf cf) x dk[a]!) dk j i))
            case atStart => exact ⟨i, by first | rfl | (have q0 := H0.out; congr 1; omega), Nat.le_refl _, by omega, Nat.le_refl _, S2, rfl⟩
            case round =>
              clear S2
              obtain ⟨x, rfl, hx1, hx2, hg2, SJ, HS⟩ := hrel
              by_cases hc : x ≤ j
              · have hcz : (x : Int) ≤ (j : Int) := by omega
                have hcd : decide ((x : Int) ≤ (j : Int)) = true := decide_eq_true hcz
                cases hlv : (ltOf cf) dk[x]! dk[a]! with
                | true =>
                  have HP : (fun x => (ltOf cf) x dk[a]!) dk[x]! = true := by show (ltOf cf) dk[x]! dk[a]! = true; rw [hlv]
                  obtain ⟨iN8, hiN8⟩ : ∃ q, q = x := ⟨_, rfl⟩
                  have ei8 : ((x : Int)).toNat = iN8 := by omega
                  have pi8 : (0 : Int) ≤ (x : Int) := by omega
                  have bi8 : (x : Int) < (d.size : Int) := by omega
                  have ri8 : IntKind.i64.wrap ((x : Int)) = (x : Int) := by rw [IntKind.wrap_i64]; omega
                  obtain ⟨jN8, hjN8⟩ : ∃ q, q = a := ⟨_, rfl⟩
                  have ej8 : ((a : Int)).toNat = jN8 := by omega
                  have pj8 : (0 : Int) ≤ (a : Int) := by omega
                  have bj8 : (a : Int) < (d.size : Int) := by omega
                  have rj8 : IntKind.i64.wrap ((a : Int)) = (a : Int) := by rw [IntKind.wrap_i64]; omega
                  obtain ⟨x8, hx8⟩ : ∃ v9, v9 = dk[x]! := ⟨_, rfl⟩
                  obtain ⟨y8, hy8⟩ : ∃ v9, v9 = dk[a]! := ⟨_, rfl⟩
                  have la8 := SJ.out.cl R (by omega) (x) (by omega)
                  have lb8 := SJ.out.cl R (by omega) (a) (by omega)
                  rw [← hx8, ← hiN8] at la8
                  rw [← hy8, ← hjN8] at lb8
                  have hc8 := CmpM.at HC.out SJ.out (by omega) x8 y8
                  have hv8 : cf x8 y8 < 0 := by rw [hx8, hy8]; exact of_decide_eq_true hlv
                  have hd8 : decide (cf x8 y8 < 0) = true := decide_eq_true hv8
                  clear hx8 hy8 hiN8 hjN8
                  go_wp2_with fail
                  go_quiet_grown (first | (go_at_fn 21; exact hc8 _ _) | (go_at_call 21; exact hc8 _ _))
                  have S4 : Aside (SW enc w0 blk off dk (grow (wr.drewN nq) osq)) := SJ.out.grown nq osq
                  clear la8 lb8 hc8 SJ
                  generalize grow (wr.drewN nq) osq = w4 at S4 ⊢
                  clear nq osq
                  clear ei8 ej8
                  go_wp2
                  go_roundg (j + 1 - (x + 1))
                  case measure => omega
                  case rel => exact ⟨x + 1, by go_num, by omega, by omega, by omega, S4, (show Hid _ from by rw [← HS.out, scanUp_go (fun x => (ltOf cf) x dk[a]!) dk j x hc HP]; exact rfl)⟩
                | false =>
                  have HP : (fun x => (ltOf cf) x dk[a]!) dk[x]! = false := by show (ltOf cf) dk[x]! dk[a]! = false; rw [hlv]
                  obtain ⟨iN9, hiN9⟩ : ∃ q, q = x := ⟨_, rfl⟩
                  have ei9 : ((x : Int)).toNat = iN9 := by omega
                  have pi9 : (0 : Int) ≤ (x : Int) := by omega
                  have bi9 : (x : Int) < (d.size : Int) := by omega
                  have ri9 : IntKind.i64.wrap ((x : Int)) = (x : Int) := by rw [IntKind.wrap_i64]; omega
                  obtain ⟨jN9, hjN9⟩ : ∃ q, q = a := ⟨_, rfl⟩
                  have ej9 : ((a : Int)).toNat = jN9 := by omega
                  have pj9 : (0 : Int) ≤ (a : Int) := by omega
                  have bj9 : (a : Int) < (d.size : Int) := by omega
                  have rj9 : IntKind.i64.wrap ((a : Int)) = (a : Int) := by rw [IntKind.wrap_i64]; omega
                  obtain ⟨x9, hx9⟩ : ∃ v9, v9 = dk[x]! := ⟨_, rfl⟩
                  obtain ⟨y9, hy9⟩ : ∃ v9, v9 = dk[a]! := ⟨_, rfl⟩
                  have la9 := SJ.out.cl R (by omega) (x) (by omega)
                  have lb9 := SJ.out.cl R (by omega) (a) (by omega)
                  rw [← hx9, ← hiN9] at la9
                  rw [← hy9, ← hjN9] at lb9
                  have hc9 := CmpM.at HC.out SJ.out (by omega) x9 y9
                  have hv9 : ¬ cf x9 y9 < 0 := by rw [hx9, hy9]; exact of_decide_eq_false hlv
                  have hd9 : decide (cf x9 y9 < 0) = false := decide_eq_false hv9
                  clear hx9 hy9 hiN9 hjN9
                  go_wp2_with fail
                  go_quiet_grown (first | (go_at_fn 21; exact hc9 _ _) | (go_at_call 21; exact hc9 _ _))
                  have S4 : Aside (SW enc w0 blk off dk (grow (wr.drewN nq) osq)) := SJ.out.grown nq osq
                  clear la9 lb9 hc9 SJ
                  generalize grow (wr.drewN nq) osq = w4 at S4 ⊢
                  clear nq osq
                  clear ei9 ej9
                  go_wp2
                  go_meet
                  case rel => exact ⟨x, rfl, hx1, hx2, S4, (show Hid _ from by rw [← HS.out, scanUp_end (fun x => (ltOf cf) x dk[a]!) dk j x (Or.inr HP)]; exact rfl)⟩
              · have hcz : ¬ (x : Int) ≤ (j : Int) := by omega
                have hcd : decide ((x : Int) ≤ (j : Int)) = false := decide_eq_false hcz
                go_wp2_with fail
                go_big_region_o
                have S4 : Aside (SW enc w0 blk off dk wr.drew) := SJ.out.drew
                clear SJ
                generalize wr.drew = w4 at S4 ⊢
                go_wp2
                go_meet
                case rel => exact ⟨x, rfl, hx1, hx2, S4, (show Hid _ from by rw [← HS.out, scanUp_end (fun x => (ltOf cf) x dk[a]!) dk j x (Or.inl hc)]; exact rfl)⟩
          case rest =>
            clear S2
            obtain ⟨i3, rfl, hi1, hi2, S3, HI3⟩ := hcut
            go_upto_block 8 with fail
            go_cut [13] from 123 to 141 (fun s wc => ∃ x : Nat, s = .int .i64 x ∧ i3 ≤ x + 1 ∧ x ≤ j ∧ Aside (SW enc w0 blk off dk wc) ∧ Hid (x = scanDown (fun x => !(ltOf cf) x dk[a]!) dk i3 j))
            case first =>
              go_wp2_with fail
              go_loopg [13] j (fun g2 vi wr2 => ∃ x : Nat, vi = .int .i64 x ∧ i3 ≤ x + 1 ∧ x ≤ j ∧ x ≤ g2 ∧ Aside (SW enc w0 blk off dk wr2) ∧ Hid (scanDown (fun x => !(ltOf cf) x dk[a]!) dk i3 x = scanDown (fun x => !(ltOf cf) x dk[a]!) dk i3 j))
              case atStart => exact ⟨j, by first | rfl | (have q0 := H0.out; congr 1; omega), by omega, Nat.le_refl _, Nat.le_refl _, S3, rfl⟩
              case round =>
                clear S3
                obtain ⟨x, rfl, hx1, hx2, hg2, SJ, HS⟩ := hrel
                by_cases hc : i3 ≤ x
                · have hcz : (i3 : Int) ≤ (x : Int) := by omega
                  have hcd : decide ((i3 : Int) ≤ (x : Int)) = true := decide_eq_true hcz
                  cases hlv : (ltOf cf) dk[x]! dk[a]! with
                  | false =>
                    have HP : (fun x => !(ltOf cf) x dk[a]!) dk[x]! = true := by show (!(ltOf cf) dk[x]! dk[a]!) = true; rw [hlv]; rfl
                    obtain ⟨iN10, hiN10⟩ : ∃ q, q = x := ⟨_, rfl⟩
                    have ei10 : ((x : Int)).toNat = iN10 := by omega
                    have pi10 : (0 : Int) ≤ (x : Int) := by omega
                    have bi10 : (x : Int) < (d.size : Int) := by omega
                    have ri10 : IntKind.i64.wrap ((x : Int)) = (x : Int) := by rw [IntKind.wrap_i64]; omega
                    obtain ⟨jN10, hjN10⟩ : ∃ q, q = a := ⟨_, rfl⟩
                    have ej10 : ((a : Int)).toNat = jN10 := by omega
                    have pj10 : (0 : Int) ≤ (a : Int) := by omega
                    have bj10 : (a : Int) < (d.size : Int) := by omega
                    have rj10 : IntKind.i64.wrap ((a : Int)) = (a : Int) := by rw [IntKind.wrap_i64]; omega
                    obtain ⟨x10, hx10⟩ : ∃ v9, v9 = dk[x]! := ⟨_, rfl⟩
                    obtain ⟨y10, hy10⟩ : ∃ v9, v9 = dk[a]! := ⟨_, rfl⟩
                    have la10 := SJ.out.cl R (by omega) (x) (by omega)
                    have lb10 := SJ.out.cl R (by omega) (a) (by omega)
                    rw [← hx10, ← hiN10] at la10
                    rw [← hy10, ← hjN10] at lb10
                    have hc10 := CmpM.at HC.out SJ.out (by omega) x10 y10
                    have hv10 : ¬ cf x10 y10 < 0 := by rw [hx10, hy10]; exact of_decide_eq_false hlv
                    have hd10 : decide (cf x10 y10 < 0) = false := decide_eq_false hv10
                    clear hx10 hy10 hiN10 hjN10
                    go_wp2_with fail
                    go_quiet_grown (first | (go_at_fn 21; exact hc10 _ _) | (go_at_call 21; exact hc10 _ _))
                    have S4 : Aside (SW enc w0 blk off dk (grow (wr.drewN nq) osq)) := SJ.out.grown nq osq
                    clear la10 lb10 hc10 SJ
                    generalize grow (wr.drewN nq) osq = w4 at S4 ⊢
                    clear nq osq
                    clear ei10 ej10
                    go_wp2
                    go_roundg (x - 1)
                    case measure => omega
                    case rel => exact ⟨x - 1, by first | rfl | go_num | (congr 1; omega), by omega, by omega, Nat.le_refl _, S4, (show Hid _ from by rw [← HS.out, scanDown_go (fun x => !(ltOf cf) x dk[a]!) dk i3 x hc (by omega) HP]; exact rfl)⟩
                  | true =>
                    have HP : (fun x => !(ltOf cf) x dk[a]!) dk[x]! = false := by show (!(ltOf cf) dk[x]! dk[a]!) = false; rw [hlv]; rfl
                    obtain ⟨iN11, hiN11⟩ : ∃ q, q = x := ⟨_, rfl⟩
                    have ei11 : ((x : Int)).toNat = iN11 := by omega
                    have pi11 : (0 : Int) ≤ (x : Int) := by omega
                    have bi11 : (x : Int) < (d.size : Int) := by omega
                    have ri11 : IntKind.i64.wrap ((x : Int)) = (x : Int) := by rw [IntKind.wrap_i64]; omega
                    obtain ⟨jN11, hjN11⟩ : ∃ q, q = a := ⟨_, rfl⟩
                    have ej11 : ((a : Int)).toNat = jN11 := by omega
                    have pj11 : (0 : Int) ≤ (a : Int) := by omega
                    have bj11 : (a : Int) < (d.size : Int) := by omega
                    have rj11 : IntKind.i64.wrap ((a : Int)) = (a : Int) := by rw [IntKind.wrap_i64]; omega
                    obtain ⟨x11, hx11⟩ : ∃ v9, v9 = dk[x]! := ⟨_, rfl⟩
                    obtain ⟨y11, hy11⟩ : ∃ v9, v9 = dk[a]! := ⟨_, rfl⟩
                    have la11 := SJ.out.cl R (by omega) (x) (by omega)
                    have lb11 := SJ.out.cl R (by omega) (a) (by omega)
                    rw [← hx11, ← hiN11] at la11
                    rw [← hy11, ← hjN11] at lb11
                    have hc11 := CmpM.at HC.out SJ.out (by omega) x11 y11
                    have hv11 : cf x11 y11 < 0 := by rw [hx11, hy11]; exact of_decide_eq_true hlv
                    have hd11 : decide (cf x11 y11 < 0) = true := decide_eq_true hv11
                    clear hx11 hy11 hiN11 hjN11
                    go_wp2_with fail
                    go_quiet_grown (first | (go_at_fn 21; exact hc11 _ _) | (go_at_call 21; exact hc11 _ _))
                    have S4 : Aside (SW enc w0 blk off dk (grow (wr.drewN nq) osq)) := SJ.out.grown nq osq
                    clear la11 lb11 hc11 SJ
                    generalize grow (wr.drewN nq) osq = w4 at S4 ⊢
                    clear nq osq
                    clear ei11 ej11
                    go_wp2
                    go_meet
                    case rel => exact ⟨x, rfl, hx1, hx2, S4, (show Hid _ from by rw [← HS.out, scanDown_end (fun x => !(ltOf cf) x dk[a]!) dk i3 x (Or.inr HP)]; exact rfl)⟩
                · have hcz : ¬ (i3 : Int) ≤ (x : Int) := by omega
                  have hcd : decide ((i3 : Int) ≤ (x : Int)) = false := decide_eq_false hcz
                  go_wp2_with fail
                  go_big_region_o
                  have S4 : Aside (SW enc w0 blk off dk wr.drew) := SJ.out.drew
                  clear SJ
                  generalize wr.drew = w4 at S4 ⊢
                  go_wp2
                  go_meet
                  case rel => exact ⟨x, rfl, hx1, hx2, S4, (show Hid _ from by rw [← HS.out, scanDown_end (fun x => !(ltOf cf) x dk[a]!) dk i3 x (Or.inl hc)]; exact rfl)⟩
            case rest =>
              clear S3
              obtain ⟨j3, rfl, hj1, hj2, S5, HJ3⟩ := hcut
              by_cases hlt : j3 < i3
              · have hltz : (j3 : Int) < (i3 : Int) := by omega
                go_wp2_with fail
                obtain ⟨iN12, hiN12⟩ : ∃ q, q = j3 := ⟨_, rfl⟩
                have ei12 : ((j3 : Int)).toNat = iN12 := by omega
                have pi12 : (0 : Int) ≤ (j3 : Int) := by omega
                have bi12 : (j3 : Int) < (d.size : Int) := by omega
                have ri12 : IntKind.i64.wrap ((j3 : Int)) = (j3 : Int) := by rw [IntKind.wrap_i64]; omega
                obtain ⟨jN12, hjN12⟩ : ∃ q, q = a := ⟨_, rfl⟩
                have ej12 : ((a : Int)).toNat = jN12 := by omega
                have pj12 : (0 : Int) ≤ (a : Int) := by omega
                have bj12 : (a : Int) < (d.size : Int) := by omega
                have rj12 : IntKind.i64.wrap ((a : Int)) = (a : Int) := by rw [IntKind.wrap_i64]; omega
                obtain ⟨x12, hx12⟩ : ∃ v9, v9 = dk[j3]! := ⟨_, rfl⟩
                obtain ⟨y12, hy12⟩ : ∃ v9, v9 = dk[a]! := ⟨_, rfl⟩
                have S6 : Aside (SW enc w0 blk off (swp dk (j3) (a)) ((wc.setCell ⟨blk, off + iN12, none⟩ (enc y12)).setCell ⟨blk, off + jN12, none⟩ (enc x12)).drew) := by rw [hiN12, hjN12, hx12, hy12]; exact S5.out.swapped R (j3) (a) (by omega) (by omega)
                have ca12 := S5.out.c1 R (by omega) (j3) (by omega)
                have cb12 := S5.out.c1 R (by omega) (a) (by omega)
                have fa12 := S5.out.f1 R (by omega) (j3) (by omega)
                have fb12 := S5.out.f1 R (by omega) (a) (by omega)
                obtain ⟨u12, cc12⟩ := S5.out.c2 R (by omega) (j3) (a) (by omega) (by omega) (enc y12)
                rw [← hjN12, ← hiN12] at cc12
                rw [← hx12, ← hiN12] at ca12
                rw [← hy12, ← hjN12] at cb12
                rw [← hiN12] at fa12
                rw [← hjN12] at fb12
                clear S5 hx12 hy12 hiN12 hjN12
                go_wp2_with fail
                go_big_region_o
                clear ca12 cb12 cc12 fa12 fb12
                generalize ((wc.setCell ⟨blk, off + iN12, none⟩ (enc y12)).setCell ⟨blk, off + jN12, none⟩ (enc x12)).drew = w6 at S6 ⊢
                clear ei12 ej12
                go_wp2
                go_ret2
                have e := part_break (ltOf cf) a i j dk HI3.out HJ3.out hlt
                have q := HO.out
                rw [e] at q
                rw [HF.out, ← q]
                exact ⟨rfl, S6.out⟩
              · have hltz : ¬ (j3 : Int) < (i3 : Int) := by omega
                have hij3 := part_scans_lt (ltOf cf) a i j dk (by omega) HI3.out HJ3.out (by omega)
                go_wp2_with fail
                obtain ⟨iN13, hiN13⟩ : ∃ q, q = i3 := ⟨_, rfl⟩
                have ei13 : ((i3 : Int)).toNat = iN13 := by omega
                have pi13 : (0 : Int) ≤ (i3 : Int) := by omega
                have bi13 : (i3 : Int) < (d.size : Int) := by omega
                have ri13 : IntKind.i64.wrap ((i3 : Int)) = (i3 : Int) := by rw [IntKind.wrap_i64]; omega
                obtain ⟨jN13, hjN13⟩ : ∃ q, q = j3 := ⟨_, rfl⟩
                have ej13 : ((j3 : Int)).toNat = jN13 := by omega
                have pj13 : (0 : Int) ≤ (j3 : Int) := by omega
                have bj13 : (j3 : Int) < (d.size : Int) := by omega
                have rj13 : IntKind.i64.wrap ((j3 : Int)) = (j3 : Int) := by rw [IntKind.wrap_i64]; omega
                obtain ⟨x13, hx13⟩ : ∃ v9, v9 = dk[i3]! := ⟨_, rfl⟩
                obtain ⟨y13, hy13⟩ : ∃ v9, v9 = dk[j3]! := ⟨_, rfl⟩
                have S6 : Aside (SW enc w0 blk off (swp dk (i3) (j3)) ((wc.setCell ⟨blk, off + iN13, none⟩ (enc y13)).setCell ⟨blk, off + jN13, none⟩ (enc x13)).drew) := by rw [hiN13, hjN13, hx13, hy13]; exact S5.out.swapped R (i3) (j3) (by omega) (by omega)
                have ca13 := S5.out.c1 R (by omega) (i3) (by omega)
                have cb13 := S5.out.c1 R (by omega) (j3) (by omega)
                have fa13 := S5.out.f1 R (by omega) (i3) (by omega)
                have fb13 := S5.out.f1 R (by omega) (j3) (by omega)
                obtain ⟨u13, cc13⟩ := S5.out.c2 R (by omega) (i3) (j3) (by omega) (by omega) (enc y13)
                rw [← hjN13, ← hiN13] at cc13
                rw [← hx13, ← hiN13] at ca13
                rw [← hy13, ← hjN13] at cb13
                rw [← hiN13] at fa13
                rw [← hjN13] at fb13
                clear S5 hx13 hy13 hiN13 hjN13
                go_wp2_with fail
                go_big_region_o
                clear ca13 cb13 cc13 fa13 fb13
                generalize ((wc.setCell ⟨blk, off + iN13, none⟩ (enc y13)).setCell ⟨blk, off + jN13, none⟩ (enc x13)).drew = w6 at S6 ⊢
                clear ei13 ej13
                go_wp2
                go_roundg (j3 - 1 + 1 - (i3 + 1))
                case measure => omega
                case rel => exact ⟨i3 + 1, j3 - 1, swp dk i3 j3, by go_num, by first | rfl | go_num | (congr 1; omega), by omega, by omega, by omega, Nat.le_refl _, by rw [size_swp]; exact hsk, S6, (show Hid _ from by rw [← HO.out, part_go (ltOf cf) a i j dk HI3.out HJ3.out (by omega)]; exact rfl)⟩
end
end Go.Proofs.Ytebielckdloncaa
