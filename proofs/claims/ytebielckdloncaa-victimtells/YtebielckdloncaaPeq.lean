/- Parting what is equal. -/
import Derived.Test.YtebielckdloncaaSrt
import Derived.Sort.WalkA
import Derived.Sort.WalkB2
import Derived.Sort.WalkB12
import Derived.Sort.WalkC
import Derived.Sort.WalkC4
import Derived.Deep.LoopGhost
import Derived.Deep.CutRange
import Derived.Deep.CutBlock
import Derived.Deep.DeepCutAuto
namespace Go.Proofs.Ytebielckdloncaa
open Go.Shelf Go.RowKit Go.Lib Go.Sort
set_option linter.unusedVariables false
set_option linter.unusedSimpArgs false
section
variable {α : Type} [Inhabited α] {enc : α → Value} {cf : α → α → Int} {C : Value} {w0 W : World} {blk off cap : Nat} {dk d0 : Array α}
set_option maxHeartbeats 8000000 in
set_option maxRecDepth 1000000 in
theorem partEq_any (hC : CmpM C enc cf blk off d0.size w0) (R : Row1 enc w0 blk off d0) (a b pivot : Nat) (d : Array α) (w : World) (hs : d0.size = d.size) (S : SW enc w0 blk off d w) (hap : a ≤ pivot) (hpb : pivot < b) (hb : b ≤ d.size) (hsz : d.size < 50) :
    Calls Try.prog 32 #[.slice (some ⟨blk, off, none⟩) d.size cap, .int .i64 a, .int .i64 b, .int .i64 pivot, .func (.func 21) #[C] #[]] w fun e w' => e = .returned (.int .i64 ((partitionEqual (ltOf cf) d a b pivot).1 : Nat)) ∧ SW enc w0 blk off (partitionEqual (ltOf cf) d a b pivot).2 w' := by
  have mx := mixedT
  have HC : Aside (CmpM C enc cf blk off d0.size w0) := hC
  have S0 : Aside (SW enc w0 blk off d w) := S
  have hcl0 := R.hO.cells
  simp only [Value.cells] at hcl0
  have hst := R.hO.store Try.prog
  clear S hC
  go_enter Try.func32, Try.ntmps32
  go_wp2_with fail
  obtain ⟨iN1, hiN1⟩ : ∃ q, q = a := ⟨_, rfl⟩
  have ei1 : ((a : Int)).toNat = iN1 := by omega
  have pi1 : (0 : Int) ≤ (a : Int) := by omega
  have bi1 : (a : Int) < (d.size : Int) := by omega
  have ri1 : IntKind.i64.wrap ((a : Int)) = (a : Int) := by rw [IntKind.wrap_i64]; omega
  obtain ⟨jN1, hjN1⟩ : ∃ q, q = pivot := ⟨_, rfl⟩
  have ej1 : ((pivot : Int)).toNat = jN1 := by omega
  have pj1 : (0 : Int) ≤ (pivot : Int) := by omega
  have bj1 : (pivot : Int) < (d.size : Int) := by omega
  have rj1 : IntKind.i64.wrap ((pivot : Int)) = (pivot : Int) := by rw [IntKind.wrap_i64]; omega
  obtain ⟨x1, hx1⟩ : ∃ v9, v9 = d[a]! := ⟨_, rfl⟩
  obtain ⟨y1, hy1⟩ : ∃ v9, v9 = d[pivot]! := ⟨_, rfl⟩
  have S1 : Aside (SW enc w0 blk off (swp d (a) (pivot)) ((w.setCell ⟨blk, off + iN1, none⟩ (enc y1)).setCell ⟨blk, off + jN1, none⟩ (enc x1)).drew) := by rw [hiN1, hjN1, hx1, hy1]; exact S0.out.swapped R (a) (pivot) (by omega) (by omega)
  have ca1 := S0.out.c1 R (by omega) (a) (by omega)
  have cb1 := S0.out.c1 R (by omega) (pivot) (by omega)
  have fa1 := S0.out.f1 R (by omega) (a) (by omega)
  have fb1 := S0.out.f1 R (by omega) (pivot) (by omega)
  obtain ⟨u1, cc1⟩ := S0.out.c2 R (by omega) (a) (pivot) (by omega) (by omega) (enc y1)
  rw [← hjN1, ← hiN1] at cc1
  rw [← hx1, ← hiN1] at ca1
  rw [← hy1, ← hjN1] at cb1
  rw [← hiN1] at fa1
  rw [← hjN1] at fb1
  clear S0 hx1 hy1 hiN1 hjN1
  go_wp2_with fail
  go_big_region_o
  clear ca1 cb1 cc1 fa1 fb1
  generalize ((w.setCell ⟨blk, off + iN1, none⟩ (enc y1)).setCell ⟨blk, off + jN1, none⟩ (enc x1)).drew = w1 at S1 ⊢
  clear ei1 ej1
  go_wp2
  go_loopg [11, 12] (b - 1 + 1 - (a + 1)) (fun g1 si sj wr => ∃ (i j : Nat) (dk : Array α), si = .int .i64 i ∧ sj = .int .i64 j ∧ a < i ∧ i ≤ j + 1 ∧ j < b ∧ j + 1 - i ≤ g1 ∧ dk.size = d.size ∧ Aside (SW enc w0 blk off dk wr) ∧ Hid (partEqLoop (ltOf cf) a i j dk = partEqLoop (ltOf cf) a (a + 1) (b - 1) (swp d a pivot)))
  case atStart => exact ⟨a + 1, b - 1, swp d a pivot, by go_num, by first | rfl | go_num | (congr 1; omega), by omega, by omega, by omega, Nat.le_refl _, by rw [size_swp], S1, rfl⟩
  case round =>
    clear S1
    obtain ⟨i, j, dk, rfl, rfl, hai, hij, hjb, hg1, hsk, S2, HO⟩ := hrel
    go_upto_block 2 with fail
    go_cut [11] from 31 to 49 (fun s wc => ∃ x : Nat, s = .int .i64 x ∧ i ≤ x ∧ x ≤ j + 1 ∧ Aside (SW enc w0 blk off dk wc) ∧ Hid (x = scanUp (fun x => !(ltOf cf) dk[a]! x) dk j i))
    case first =>
      go_wp2_with fail
      go_loopg [11] (j + 1 - i) (fun g2 vi wr2 => ∃ x : Nat, vi = .int .i64 x ∧ i ≤ x ∧ x ≤ j + 1 ∧ j + 1 - x ≤ g2 ∧ Aside (SW enc w0 blk off dk wr2) ∧ Hid (scanUp (fun x => !(ltOf cf) dk[a]! x) dk j x = scanUp (fun x => !(ltOf cf) dk[a]! x) dk j i))
      case atStart => exact ⟨i, rfl, Nat.le_refl _, by omega, Nat.le_refl _, S2, rfl⟩
      case round =>
        clear S2
        obtain ⟨x, rfl, hx1, hx2, hg2, SJ, HS⟩ := hrel
        by_cases hc : x ≤ j
        · have hcz : (x : Int) ≤ (j : Int) := by omega
          have hcd : decide ((x : Int) ≤ (j : Int)) = true := decide_eq_true hcz
          cases hlv : (ltOf cf) dk[a]! dk[x]! with
          | false =>
            have HP : (fun x => !(ltOf cf) dk[a]! x) dk[x]! = true := by show (!(ltOf cf) dk[a]! dk[x]!) = true; rw [hlv]; rfl
            obtain ⟨iN2, hiN2⟩ : ∃ q, q = a := ⟨_, rfl⟩
            have ei2 : ((a : Int)).toNat = iN2 := by omega
            have pi2 : (0 : Int) ≤ (a : Int) := by omega
            have bi2 : (a : Int) < (d.size : Int) := by omega
            have ri2 : IntKind.i64.wrap ((a : Int)) = (a : Int) := by rw [IntKind.wrap_i64]; omega
            obtain ⟨jN2, hjN2⟩ : ∃ q, q = x := ⟨_, rfl⟩
            have ej2 : ((x : Int)).toNat = jN2 := by omega
            have pj2 : (0 : Int) ≤ (x : Int) := by omega
            have bj2 : (x : Int) < (d.size : Int) := by omega
            have rj2 : IntKind.i64.wrap ((x : Int)) = (x : Int) := by rw [IntKind.wrap_i64]; omega
            obtain ⟨x2, hx2⟩ : ∃ v9, v9 = dk[a]! := ⟨_, rfl⟩
            obtain ⟨y2, hy2⟩ : ∃ v9, v9 = dk[x]! := ⟨_, rfl⟩
            have la2 := SJ.out.cl R (by omega) (a) (by omega)
            have lb2 := SJ.out.cl R (by omega) (x) (by omega)
            rw [← hx2, ← hiN2] at la2
            rw [← hy2, ← hjN2] at lb2
            have hc2 := CmpM.at HC.out SJ.out (by omega) x2 y2
            have hv2 : ¬ cf x2 y2 < 0 := by rw [hx2, hy2]; exact of_decide_eq_false hlv
            have hd2 : decide (cf x2 y2 < 0) = false := decide_eq_false hv2
            clear hx2 hy2 hiN2 hjN2
            go_wp2_with fail
            go_quiet_grown (first | (go_at_fn 21; exact hc2 _ _) | (go_at_call 21; exact hc2 _ _))
            have S4 : Aside (SW enc w0 blk off dk (grow (wr.drewN nq) osq)) := SJ.out.grown nq osq
            clear la2 lb2 hc2 SJ
            generalize grow (wr.drewN nq) osq = w4 at S4 ⊢
            clear nq osq
            clear ei2 ej2
            go_wp2
            go_roundg (j + 1 - (x + 1))
            case measure => omega
            case rel => exact ⟨x + 1, by go_num, by omega, by omega, by omega, S4, (show Hid _ from by rw [← HS.out, scanUp_go (fun x => !(ltOf cf) dk[a]! x) dk j x hc HP]; exact rfl)⟩
          | true =>
            have HP : (fun x => !(ltOf cf) dk[a]! x) dk[x]! = false := by show (!(ltOf cf) dk[a]! dk[x]!) = false; rw [hlv]; rfl
            obtain ⟨iN3, hiN3⟩ : ∃ q, q = a := ⟨_, rfl⟩
            have ei3 : ((a : Int)).toNat = iN3 := by omega
            have pi3 : (0 : Int) ≤ (a : Int) := by omega
            have bi3 : (a : Int) < (d.size : Int) := by omega
            have ri3 : IntKind.i64.wrap ((a : Int)) = (a : Int) := by rw [IntKind.wrap_i64]; omega
            obtain ⟨jN3, hjN3⟩ : ∃ q, q = x := ⟨_, rfl⟩
            have ej3 : ((x : Int)).toNat = jN3 := by omega
            have pj3 : (0 : Int) ≤ (x : Int) := by omega
            have bj3 : (x : Int) < (d.size : Int) := by omega
            have rj3 : IntKind.i64.wrap ((x : Int)) = (x : Int) := by rw [IntKind.wrap_i64]; omega
            obtain ⟨x3, hx3⟩ : ∃ v9, v9 = dk[a]! := ⟨_, rfl⟩
            obtain ⟨y3, hy3⟩ : ∃ v9, v9 = dk[x]! := ⟨_, rfl⟩
            have la3 := SJ.out.cl R (by omega) (a) (by omega)
            have lb3 := SJ.out.cl R (by omega) (x) (by omega)
            rw [← hx3, ← hiN3] at la3
            rw [← hy3, ← hjN3] at lb3
            have hc3 := CmpM.at HC.out SJ.out (by omega) x3 y3
            have hv3 : cf x3 y3 < 0 := by rw [hx3, hy3]; exact of_decide_eq_true hlv
            have hd3 : decide (cf x3 y3 < 0) = true := decide_eq_true hv3
            clear hx3 hy3 hiN3 hjN3
            go_wp2_with fail
            go_quiet_grown (first | (go_at_fn 21; exact hc3 _ _) | (go_at_call 21; exact hc3 _ _))
            have S4 : Aside (SW enc w0 blk off dk (grow (wr.drewN nq) osq)) := SJ.out.grown nq osq
            clear la3 lb3 hc3 SJ
            generalize grow (wr.drewN nq) osq = w4 at S4 ⊢
            clear nq osq
            clear ei3 ej3
            go_wp2
            go_meet
            case rel => exact ⟨x, rfl, hx1, hx2, S4, (show Hid _ from by rw [← HS.out, scanUp_end (fun x => !(ltOf cf) dk[a]! x) dk j x (Or.inr HP)]; exact rfl)⟩
        · have hcz : ¬ (x : Int) ≤ (j : Int) := by omega
          have hcd : decide ((x : Int) ≤ (j : Int)) = false := decide_eq_false hcz
          go_wp2_with fail
          go_big_region_o
          have S4 : Aside (SW enc w0 blk off dk wr.drew) := SJ.out.drew
          clear SJ
          generalize wr.drew = w4 at S4 ⊢
          go_wp2
          go_meet
          case rel => exact ⟨x, rfl, hx1, hx2, S4, (show Hid _ from by rw [← HS.out, scanUp_end (fun x => !(ltOf cf) dk[a]! x) dk j x (Or.inl hc)]; exact rfl)⟩
    case rest =>
      clear S2
      obtain ⟨i2, rfl, hi1, hi2, S3, HI2⟩ := hcut
      go_upto_block 4 with fail
      go_cut [12] from 50 to 67 (fun s wc => ∃ x : Nat, s = .int .i64 x ∧ i2 ≤ x + 1 ∧ x ≤ j ∧ Aside (SW enc w0 blk off dk wc) ∧ Hid (x = scanDown (fun x => (ltOf cf) dk[a]! x) dk i2 j))
      case first =>
        go_wp2_with fail
        go_loopg [12] j (fun g2 vi wr2 => ∃ x : Nat, vi = .int .i64 x ∧ i2 ≤ x + 1 ∧ x ≤ j ∧ x ≤ g2 ∧ Aside (SW enc w0 blk off dk wr2) ∧ Hid (scanDown (fun x => (ltOf cf) dk[a]! x) dk i2 x = scanDown (fun x => (ltOf cf) dk[a]! x) dk i2 j))
        case atStart => exact ⟨j, rfl, by omega, Nat.le_refl _, Nat.le_refl _, S3, rfl⟩
        case round =>
          clear S3
          obtain ⟨x, rfl, hx1, hx2, hg2, SJ, HS⟩ := hrel
          by_cases hc : i2 ≤ x
          · have hcz : (i2 : Int) ≤ (x : Int) := by omega
            have hcd : decide ((i2 : Int) ≤ (x : Int)) = true := decide_eq_true hcz
            cases hlv : (ltOf cf) dk[a]! dk[x]! with
            | true =>
              have HP : (fun x => (ltOf cf) dk[a]! x) dk[x]! = true := by show (ltOf cf) dk[a]! dk[x]! = true; rw [hlv]
              obtain ⟨iN4, hiN4⟩ : ∃ q, q = a := ⟨_, rfl⟩
              have ei4 : ((a : Int)).toNat = iN4 := by omega
              have pi4 : (0 : Int) ≤ (a : Int) := by omega
              have bi4 : (a : Int) < (d.size : Int) := by omega
              have ri4 : IntKind.i64.wrap ((a : Int)) = (a : Int) := by rw [IntKind.wrap_i64]; omega
              obtain ⟨jN4, hjN4⟩ : ∃ q, q = x := ⟨_, rfl⟩
              have ej4 : ((x : Int)).toNat = jN4 := by omega
              have pj4 : (0 : Int) ≤ (x : Int) := by omega
              have bj4 : (x : Int) < (d.size : Int) := by omega
              have rj4 : IntKind.i64.wrap ((x : Int)) = (x : Int) := by rw [IntKind.wrap_i64]; omega
              obtain ⟨x4, hx4⟩ : ∃ v9, v9 = dk[a]! := ⟨_, rfl⟩
              obtain ⟨y4, hy4⟩ : ∃ v9, v9 = dk[x]! := ⟨_, rfl⟩
              have la4 := SJ.out.cl R (by omega) (a) (by omega)
              have lb4 := SJ.out.cl R (by omega) (x) (by omega)
              rw [← hx4, ← hiN4] at la4
              rw [← hy4, ← hjN4] at lb4
              have hc4 := CmpM.at HC.out SJ.out (by omega) x4 y4
              have hv4 : cf x4 y4 < 0 := by rw [hx4, hy4]; exact of_decide_eq_true hlv
              have hd4 : decide (cf x4 y4 < 0) = true := decide_eq_true hv4
              clear hx4 hy4 hiN4 hjN4
              go_wp2_with fail
              go_quiet_grown (first | (go_at_fn 21; exact hc4 _ _) | (go_at_call 21; exact hc4 _ _))
              have S4 : Aside (SW enc w0 blk off dk (grow (wr.drewN nq) osq)) := SJ.out.grown nq osq
              clear la4 lb4 hc4 SJ
              generalize grow (wr.drewN nq) osq = w4 at S4 ⊢
              clear nq osq
              clear ei4 ej4
              go_wp2
              go_roundg (x - 1)
              case measure => omega
              case rel => exact ⟨x - 1, by first | rfl | go_num | (congr 1; omega), by omega, by omega, Nat.le_refl _, S4, (show Hid _ from by rw [← HS.out, scanDown_go (fun x => (ltOf cf) dk[a]! x) dk i2 x hc (by omega) HP]; exact rfl)⟩
            | false =>
              have HP : (fun x => (ltOf cf) dk[a]! x) dk[x]! = false := by show (ltOf cf) dk[a]! dk[x]! = false; rw [hlv]
              obtain ⟨iN5, hiN5⟩ : ∃ q, q = a := ⟨_, rfl⟩
              have ei5 : ((a : Int)).toNat = iN5 := by omega
              have pi5 : (0 : Int) ≤ (a : Int) := by omega
              have bi5 : (a : Int) < (d.size : Int) := by omega
              have ri5 : IntKind.i64.wrap ((a : Int)) = (a : Int) := by rw [IntKind.wrap_i64]; omega
              obtain ⟨jN5, hjN5⟩ : ∃ q, q = x := ⟨_, rfl⟩
              have ej5 : ((x : Int)).toNat = jN5 := by omega
              have pj5 : (0 : Int) ≤ (x : Int) := by omega
              have bj5 : (x : Int) < (d.size : Int) := by omega
              have rj5 : IntKind.i64.wrap ((x : Int)) = (x : Int) := by rw [IntKind.wrap_i64]; omega
              obtain ⟨x5, hx5⟩ : ∃ v9, v9 = dk[a]! := ⟨_, rfl⟩
              obtain ⟨y5, hy5⟩ : ∃ v9, v9 = dk[x]! := ⟨_, rfl⟩
              have la5 := SJ.out.cl R (by omega) (a) (by omega)
              have lb5 := SJ.out.cl R (by omega) (x) (by omega)
              rw [← hx5, ← hiN5] at la5
              rw [← hy5, ← hjN5] at lb5
              have hc5 := CmpM.at HC.out SJ.out (by omega) x5 y5
              have hv5 : ¬ cf x5 y5 < 0 := by rw [hx5, hy5]; exact of_decide_eq_false hlv
              have hd5 : decide (cf x5 y5 < 0) = false := decide_eq_false hv5
              clear hx5 hy5 hiN5 hjN5
              go_wp2_with fail
              go_quiet_grown (first | (go_at_fn 21; exact hc5 _ _) | (go_at_call 21; exact hc5 _ _))
              have S4 : Aside (SW enc w0 blk off dk (grow (wr.drewN nq) osq)) := SJ.out.grown nq osq
              clear la5 lb5 hc5 SJ
              generalize grow (wr.drewN nq) osq = w4 at S4 ⊢
              clear nq osq
              clear ei5 ej5
              go_wp2
              go_meet
              case rel => exact ⟨x, rfl, hx1, hx2, S4, (show Hid _ from by rw [← HS.out, scanDown_end (fun x => (ltOf cf) dk[a]! x) dk i2 x (Or.inr HP)]; exact rfl)⟩
          · have hcz : ¬ (i2 : Int) ≤ (x : Int) := by omega
            have hcd : decide ((i2 : Int) ≤ (x : Int)) = false := decide_eq_false hcz
            go_wp2_with fail
            go_big_region_o
            have S4 : Aside (SW enc w0 blk off dk wr.drew) := SJ.out.drew
            clear SJ
            generalize wr.drew = w4 at S4 ⊢
            go_wp2
            go_meet
            case rel => exact ⟨x, rfl, hx1, hx2, S4, (show Hid _ from by rw [← HS.out, scanDown_end (fun x => (ltOf cf) dk[a]! x) dk i2 x (Or.inl hc)]; exact rfl)⟩
      case rest =>
        clear S3
        obtain ⟨j2, rfl, hj1, hj2, S5, HJ2⟩ := hcut
        by_cases hlt : j2 < i2
        · have hltz : (j2 : Int) < (i2 : Int) := by omega
          go_wp2
          go_ret
          have e := partEq_break (ltOf cf) a i j dk HI2.out HJ2.out hlt
          have q := HO.out
          rw [e] at q
          have q' : partitionEqual (ltOf cf) d a b pivot = (i2, dk) := q.symm
          exact ⟨ret_int (by rw [q']), by rw [q']; exact S5.out⟩
        · have hltz : ¬ (j2 : Int) < (i2 : Int) := by omega
          have hij2 := scans_lt (ltOf cf) a i j dk (by omega) HI2.out HJ2.out (by omega)
          go_wp2_with fail
          obtain ⟨iN6, hiN6⟩ : ∃ q, q = i2 := ⟨_, rfl⟩
          have ei6 : ((i2 : Int)).toNat = iN6 := by omega
          have pi6 : (0 : Int) ≤ (i2 : Int) := by omega
          have bi6 : (i2 : Int) < (d.size : Int) := by omega
          have ri6 : IntKind.i64.wrap ((i2 : Int)) = (i2 : Int) := by rw [IntKind.wrap_i64]; omega
          obtain ⟨jN6, hjN6⟩ : ∃ q, q = j2 := ⟨_, rfl⟩
          have ej6 : ((j2 : Int)).toNat = jN6 := by omega
          have pj6 : (0 : Int) ≤ (j2 : Int) := by omega
          have bj6 : (j2 : Int) < (d.size : Int) := by omega
          have rj6 : IntKind.i64.wrap ((j2 : Int)) = (j2 : Int) := by rw [IntKind.wrap_i64]; omega
          obtain ⟨x6, hx6⟩ : ∃ v9, v9 = dk[i2]! := ⟨_, rfl⟩
          obtain ⟨y6, hy6⟩ : ∃ v9, v9 = dk[j2]! := ⟨_, rfl⟩
          have S6 : Aside (SW enc w0 blk off (swp dk (i2) (j2)) ((wc.setCell ⟨blk, off + iN6, none⟩ (enc y6)).setCell ⟨blk, off + jN6, none⟩ (enc x6)).drew) := by rw [hiN6, hjN6, hx6, hy6]; exact S5.out.swapped R (i2) (j2) (by omega) (by omega)
          have ca6 := S5.out.c1 R (by omega) (i2) (by omega)
          have cb6 := S5.out.c1 R (by omega) (j2) (by omega)
          have fa6 := S5.out.f1 R (by omega) (i2) (by omega)
          have fb6 := S5.out.f1 R (by omega) (j2) (by omega)
          obtain ⟨u6, cc6⟩ := S5.out.c2 R (by omega) (i2) (j2) (by omega) (by omega) (enc y6)
          rw [← hjN6, ← hiN6] at cc6
          rw [← hx6, ← hiN6] at ca6
          rw [← hy6, ← hjN6] at cb6
          rw [← hiN6] at fa6
          rw [← hjN6] at fb6
          clear S5 hx6 hy6 hiN6 hjN6
          go_wp2_with fail
          go_big_region_o
          clear ca6 cb6 cc6 fa6 fb6
          generalize ((wc.setCell ⟨blk, off + iN6, none⟩ (enc y6)).setCell ⟨blk, off + jN6, none⟩ (enc x6)).drew = w6 at S6 ⊢
          clear ei6 ej6
          go_wp2
          go_roundg (j2 - 1 + 1 - (i2 + 1))
          case measure => omega
          case rel => exact ⟨i2 + 1, j2 - 1, swp dk i2 j2, by go_num, by first | rfl | go_num | (congr 1; omega), by omega, by omega, by omega, Nat.le_refl _, by rw [size_swp]; exact hsk, S6, (show Hid _ from by rw [← HO.out, partEq_go (ltOf cf) a i j dk HI2.out HJ2.out (by omega)]; exact rfl)⟩
end
end Go.Proofs.Ytebielckdloncaa
