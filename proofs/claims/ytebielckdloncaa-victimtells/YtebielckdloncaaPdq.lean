/- The sort. -/
import Derived.Test.YtebielckdloncaaIns
import Derived.Test.YtebielckdloncaaHep
import Derived.Test.YtebielckdloncaaPin
import Derived.Test.YtebielckdloncaaRev
import Derived.Test.YtebielckdloncaaBrk
import Derived.Test.YtebielckdloncaaPiv
import Derived.Test.YtebielckdloncaaPeq
import Derived.Test.YtebielckdloncaaPar
import Derived.Sort.AssemblyPlain
import Derived.Deep.LoopGhost
import Derived.Deep.CutRange
import Derived.Deep.CutBlock
import Derived.Deep.DeepCutAuto
import Derived.Sort.WalkB12
import Derived.Sort.WalkA
import Derived.Sort.WalkB2
namespace Go.Proofs.Ytebielckdloncaa
open Go.Shelf Go.RowKit Go.Lib Go.Sort
set_option linter.unusedVariables false
set_option linter.unusedSimpArgs false
section
variable {α : Type} [Inhabited α] {enc : α → Value} {cf : α → α → Int} {C : Value} {w0 W : World} {blk off cap : Nat} {dk d0 : Array α}
set_option maxHeartbeats 30000000 in
set_option maxRecDepth 1000000 in
theorem pdq_any (hC : CmpM C enc cf blk off d0.size w0) (R : Row1 enc w0 blk off d0) (hO : SWO (ltOf cf)) :
    ∀ (N a b limit : Nat) (d : Array α) (w : World), b - a < N → d0.size = d.size → SW enc w0 blk off d w → a ≤ b → b ≤ d.size → d.size < 50 → limit ≤ 100 → Go.Sort.Below (ltOf cf) a b d →
    Calls Try.prog 22 #[.slice (some ⟨blk, off, none⟩) d.size cap, .int .i64 a, .int .i64 b, .int .i64 limit, .func (.func 21) #[C] #[]] w fun e w' => e = .returned (.tuple #[]) ∧ ∃ d', PermIn a b d d' ∧ SortedIn (ltOf cf) a b d' ∧ SW enc w0 blk off d' w' := by
  have mx := mixedT
  have HC : Aside (CmpM C enc cf blk off d0.size w0) := hC
  have hcl0 := R.hO.cells
  simp only [Value.cells] at hcl0
  have hst := R.hO.store Try.prog
  clear hC
  intro N
  induction N with
  | zero => intro _ _ _ _ _ h; exact absurd h (Nat.not_lt_zero _)
  | succ N ih =>
    intro a b limit d w hN hs S hab hb hsz hlimit hBel0
    go_enter Try.func22, Try.ntmps22
    go_wp2
    go_loopg [1, 2, 3, 10, 11] (b - a) (fun kx s1 s2 s3 s8 s9 wr => ∃ (a' b' lim : Nat) (wb wp : Bool) (dk : Array α), s1 = .int .i64 a' ∧ s2 = .int .i64 b' ∧ s3 = .int .i64 lim ∧ s8 = .bool wb ∧ s9 = .bool wp ∧
      a' ≤ b' ∧ b' ≤ d.size ∧ b' - a' ≤ kx ∧ kx ≤ b - a ∧ lim ≤ limit ∧ dk.size = d.size ∧ Go.Sort.Below (ltOf cf) a' b' dk ∧ SW enc w0 blk off dk wr ∧ Hid (∀ R, PermIn a' b' dk R → SortedIn (ltOf cf) a' b' R → PermIn a b d R ∧ SortedIn (ltOf cf) a b R))
    case atStart => exact ⟨a, b, limit, true, true, d, rfl, rfl, rfl, rfl, rfl, hab, hb, Nat.le_refl _, Nat.le_refl _, Nat.le_refl _, rfl, hBel0, S, (show Hid _ from fun R h1 h2 => ⟨h1, h2⟩)⟩
    case round =>
      clear S hBel0
      obtain ⟨a', b', lim, wb, wp, dk, rfl, rfl, rfl, rfl, rfl, hab', hb', hkx, hkN, hlim, hds, hBel, hAt, HK⟩ := hrel
      by_cases h12 : b' - a' ≤ 12
      · have h12z : (b' : Int) - (a' : Int) ≤ 12 := by omega
        have hc := insertion_any (cap := cap) HC.out R a' b' dk wr (by omega) hAt hab' (by omega) (by omega)
        rw [hds] at hc
        obtain ⟨p1, p2⟩ := insertionSort_holds (lt := ltOf cf) hO dk a' b' hab' (by omega)
        go_wp2_with (go_at_call 26; refine hc.mono ?_; rintro e w1 ⟨rfl, hw1⟩)
        first | go_end0 | ((try simp only [Exit.inBlock, Exit.then]); refine bodyPost_ret (results_none rfl _ _ _) rfl ?_)
        obtain ⟨t1, t2⟩ := HK.out _ p1 p2
        exact ⟨rfl, _, t1, t2, hw1⟩
      · have h12z : ¬ ((b' : Int) - (a' : Int) ≤ 12) := by omega
        by_cases hl0 : lim = 0
        · subst hl0
          have hc := heap_any (cap := cap) HC.out R a' b' dk wr (by omega) hAt hab' (by omega) (by omega)
          rw [hds] at hc
          obtain ⟨p1, p2⟩ := heapSort_holds (lt := ltOf cf) hO dk a' b' hab' (by omega)
          go_wp2_with (go_at_call 27; refine hc.mono ?_; rintro e w1 ⟨rfl, hw1⟩)
          first | go_end0 | ((try simp only [Exit.inBlock, Exit.then]); refine bodyPost_ret (results_none rfl _ _ _) rfl ?_)
          obtain ⟨t1, t2⟩ := HK.out _ p1 p2
          exact ⟨rfl, _, t1, t2, hw1⟩
        · have hl0z : ¬ ((lim : Int) = 0) := by omega
          go_upto_if 39 with fail
          go_cut [3] from 21 (fun s3 wc => ∃ (lm : Nat) (d1 : Array α), s3 = .int .i64 lm ∧ lm ≤ limit ∧ PermIn a' b' dk d1 ∧ SW enc w0 blk off d1 wc)
          case first =>
            cases wb
            · have hc := break_any (C := C) (cap := cap) R a' b' dk wr (by omega) hAt (by omega) (by omega) (by omega)
              rw [hds] at hc
              go_wp2_with (go_at_call 28; refine hc.mono ?_; rintro e w1 ⟨rfl, d1, p1, hw1⟩)
              go_meet
              case rel => exact ⟨lim - 1, d1, by first | rfl | (congr 1; omega), by omega, p1, hw1⟩
            · go_wp2_with fail
              go_meet
              case rel => exact ⟨lim, dk, rfl, hlim, permIn_refl dk a' b', hAt⟩
          case rest =>
            obtain ⟨lm, d1, rfl, hlm, p1, hAt1⟩ := hcut
            have hs1 : d1.size = d.size := p1.1.trans hds
            have HB1 := hBel.perm (by omega) p1
            have HK1 : Hid (∀ R, PermIn a' b' d1 R → SortedIn (ltOf cf) a' b' R → PermIn a b d R ∧ SortedIn (ltOf cf) a b R) := fun R h1 h2 => HK.out R (permIn_trans _ _ _ a' b' p1 h1) h2
            have hc17 := choose_any (cap := cap) HC.out R a' b' d1 wc (by omega) hAt1 (by omega) (by omega) (by omega)
            rw [hs1] at hc17
            clear HK hBel hAt p1 hAt1
            go_upto_if 56 with (go_at_call 29; refine hc17.mono ?_; rintro e w2 ⟨px, hh, rfl, hpx, hAt2⟩)
            clear hc17
            go_cut [13, 14] from 21 (fun s11 s12 wc => ∃ (pv : Nat) (hv : Int) (d2 : Array α), s11 = .int .i64 pv ∧ s12 = .int .i64 hv ∧ a' ≤ pv ∧ pv < b' ∧ PermIn a' b' d1 d2 ∧ SW enc w0 blk off d2 wc)
            case first =>
              have hp1 := hpx.out.1
              have hp2 := hpx.out.2
              by_cases hh2 : hh = 2
              · subst hh2
                have hc18 := reverse_any (C := C) (cap := cap) R a' b' d1 w2 (by omega) hAt2.out (by omega) (by omega) (by omega)
                rw [hs1] at hc18
                go_wp2_with (go_at_call 30; refine hc18.mono ?_; rintro e w3 ⟨rfl, d2, p2, hw3⟩)
                go_meet
                case rel => exact ⟨b' - 1 - (px - a'), 1, d2, by first | rfl | (congr 1; omega), rfl, by omega, by omega, p2, hw3⟩
              · go_wp2_with fail
                go_meet
                case rel => exact ⟨px, hh, d1, rfl, rfl, hp1, hp2, permIn_refl d1 a' b', hAt2.out⟩
            case rest =>
              clear hpx hAt2
              obtain ⟨pv, hv, d3, rfl, rfl, hpv1, hpv2, p2, hAt3⟩ := hcut
              have hs3 : d3.size = d.size := p2.1.trans hs1
              have hB3 := HB1.perm (by omega) p2
              have HK3 : Hid (∀ R, PermIn a' b' d3 R → SortedIn (ltOf cf) a' b' R → PermIn a b d R ∧ SortedIn (ltOf cf) a b R) := fun R h1 h2 => HK1.out R (permIn_trans _ _ _ a' b' p2 h1) h2
              clear HK1 HB1 p2
              go_upto_region 15 with fail
              go_cut [75] from 21 (fun s68 wx => ∃ t : Bool, s68 = .bool t ∧ wx = wc)
              case first =>
                cases wb <;> cases wp <;> by_cases hh3 : hv = 1 <;>
                  (go_wp2_with fail
                   go_meet
                   exact ⟨_, rfl, rfl⟩)
              case rest =>
                obtain ⟨t, rfl, rfl⟩ := hcut
                go_upto_if 75 with fail
                go_cut [] from 21 (fun wx => SW enc w0 blk off d3 wx)
                case first =>
                  cases t
                  · go_wp2_with fail
                    go_meet
                    case rel => exact hAt3
                  · have hc19 := partIns_any (cap := cap) HC.out R hO a' b' d3 wc (by omega) hAt3 (by omega) (by omega) (by omega)
                    rw [hs3] at hc19
                    go_wp2_with (go_at_call 31; refine hc19.mono ?_; rintro e w4 ⟨r, rfl, hw4, hsr⟩; have HSR := hide_it hsr; clear hsr; cases r)
                    · go_meet
                      exact hw4
                    · first | go_end0 | ((try simp only [Exit.inBlock, Exit.then]); refine bodyPost_ret (results_none rfl _ _ _) rfl ?_)
                      obtain ⟨t1, t2⟩ := HK3.out d3 (permIn_refl d3 a' b') (HSR.out (by first | rfl | trivial))
                      exact ⟨rfl, d3, t1, t2, hw4⟩
                case rest =>
                  have S5 : Aside (SW enc w0 blk off d3 wc) := hcut
                  clear hcut hAt3
                  rcases Nat.eq_zero_or_pos a' with ha0 | ha0
                  · have ha0z : decide ((a' : Int) > 0) = false := decide_eq_false (by omega)
                    have hn0 : ¬ (0 < a') := by omega
                    have hn0d : decide (0 < a') = false := decide_eq_false hn0
                    have hn0z : decide ((0 : Int) < (a' : Int)) = false := decide_eq_false (by omega)
                    clear ha0
                    go_wp2_with fail
                    go_big_region_o
                    have S6 : Aside (SW enc w0 blk off d3 wc.drew) := S5.out.drew
                    clear S5
                    generalize wc.drew = w6 at S6 ⊢
                    have hx0 := round_part hO (partition_holds (lt := ltOf cf)) hpv1 hpv2 (show b' ≤ d3.size by omega) hB3 rfl
                    have kP := part_any (cap := cap) HC.out R a' b' pv d3 w6 (by omega) S6.out hpv1 hpv2 (by omega) (by omega)
                    rw [hs3] at kP
                    obtain ⟨mid, hmid⟩ : ∃ m, m = (partition (ltOf cf) d3 a' b' pv).1 := ⟨_, rfl⟩
                    obtain ⟨ap2, hap2⟩ : ∃ m, m = (partition (ltOf cf) d3 a' b' pv).2.1 := ⟨_, rfl⟩
                    obtain ⟨d4, hd4⟩ : ∃ m, m = (partition (ltOf cf) d3 a' b' pv).2.2 := ⟨_, rfl⟩
                    rw [← hmid, ← hap2, ← hd4] at kP
                    have hx := round_part (mid := mid) (ap := ap2) (d4 := d4) hO (partition_holds (lt := ltOf cf)) hpv1 hpv2 (show b' ≤ d3.size by omega) hB3 (by rw [hmid, hap2, hd4])
                    clear hx0 hmid hap2 hd4
                    obtain ⟨r1, r2, r3, r4, r5, r6, r7⟩ := hx
                    have R6 : Aside _ := r6
                    have R7 : Aside _ := r7
                    have hs4 : d4.size = d.size := r3.trans hs3
                    clear r6 r7 r3
                    go_upto_if 125 with (go_at_call 33; refine kP.mono ?_; rintro e w7 ⟨rfl, hS7⟩)
                    have S7 : Aside (SW enc w0 blk off d4 w7) := hS7
                    clear kP hS7 S6
                    by_cases h4 : mid - a' < b' - mid
                    · have h4z : (mid : Int) - (a' : Int) < (b' : Int) - (mid : Int) := by omega
                      have hih := ih a' mid lm d4 w7 (by omega) (by omega) S7.out (by omega) (by omega) (by omega) (by omega) r4
                      rw [hs4] at hih
                      go_wp2_with (go_at_call 22; refine hih.mono ?_; rintro e w8 ⟨rfl, dL, pL, sL, hw8⟩)
                      go_roundg (b' - (mid + 1))
                      case measure => omega
                      case rel =>
                        obtain ⟨q1, q2⟩ := R6.out dL pL sL
                        exact ⟨mid + 1, b', lm, _, ap2, dL, by simp, rfl, rfl, rfl, rfl, by omega, by omega, Nat.le_refl _, by omega, by omega, by rw [pL.1, hs4], q1, hw8, (show Hid _ from fun R hR hS => by
                          obtain ⟨t1, t2⟩ := q2 R hR hS
                          exact HK3.out R t1 t2)⟩
                    · have h4z : ¬ ((mid : Int) - (a' : Int) < (b' : Int) - (mid : Int)) := by omega
                      have hih := ih (mid + 1) b' lm d4 w7 (by omega) (by omega) S7.out (by omega) (by omega) (by omega) (by omega) r5
                      rw [show ((mid + 1 : Nat) : Int) = (mid : Int) + 1 by omega, hs4] at hih
                      go_wp2_with (go_at_call 22; refine hih.mono ?_; rintro e w8 ⟨rfl, dL, pL, sL, hw8⟩)
                      go_roundg (mid - a')
                      case measure => omega
                      case rel =>
                        obtain ⟨q1, q2⟩ := R7.out dL pL sL
                        exact ⟨a', mid, lm, _, ap2, dL, rfl, rfl, rfl, rfl, rfl, by omega, by omega, Nat.le_refl _, by omega, by omega, by rw [pL.1, hs4], q1, hw8, (show Hid _ from fun R hR hS => by
                          obtain ⟨t1, t2⟩ := q2 R hR hS
                          exact HK3.out R t1 t2)⟩
                  · have ha0z : (a' : Int) > 0 := by omega
                    obtain ⟨ap, hap⟩ : ∃ q, q + 1 = a' := ⟨a' - 1, by omega⟩
                    have ha0d' : decide ((a' : Int) > 0) = true := decide_eq_true (by omega)
                    cases hlv : (ltOf cf) d3[a' - 1]! d3[pv]! with
                    | true =>
                      obtain ⟨iN1, hiN1⟩ : ∃ q, q = a' - 1 := ⟨_, rfl⟩
                      have ei1 : ((ap : Int)).toNat = iN1 := by omega
                      have pi1 : (0 : Int) ≤ (ap : Int) := by omega
                      have bi1 : (ap : Int) < (d.size : Int) := by omega
                      have ri1 : IntKind.i64.wrap ((ap : Int)) = (ap : Int) := by rw [IntKind.wrap_i64]; omega
                      obtain ⟨jN1, hjN1⟩ : ∃ q, q = pv := ⟨_, rfl⟩
                      have ej1 : ((pv : Int)).toNat = jN1 := by omega
                      have pj1 : (0 : Int) ≤ (pv : Int) := by omega
                      have bj1 : (pv : Int) < (d.size : Int) := by omega
                      have rj1 : IntKind.i64.wrap ((pv : Int)) = (pv : Int) := by rw [IntKind.wrap_i64]; omega
                      obtain ⟨x1, hx1⟩ : ∃ v9, v9 = d3[a' - 1]! := ⟨_, rfl⟩
                      obtain ⟨y1, hy1⟩ : ∃ v9, v9 = d3[pv]! := ⟨_, rfl⟩
                      have la1 := S5.out.cl R (by omega) (a' - 1) (by omega)
                      have lb1 := S5.out.cl R (by omega) (pv) (by omega)
                      rw [← hx1, ← hiN1] at la1
                      rw [← hy1, ← hjN1] at lb1
                      have hc1 := CmpM.at HC.out S5.out (by omega) x1 y1
                      have hv1 : cf x1 y1 < 0 := by rw [hx1, hy1]; exact of_decide_eq_true hlv
                      have hd1 : decide (cf x1 y1 < 0) = true := decide_eq_true hv1
                      clear hx1 hy1 hiN1 hjN1
                      have zw1 : wrap64 ((a' : Int) - 1) = (ap : Int) := (IntWalk.wrap64_in _ (by constructor <;> omega)).trans (by omega)
                      have zw2 : IntKind.i64.wrap ((a' : Int) - 1) = (ap : Int) := by rw [IntKind.wrap_i64]; omega
                      go_wp2_with fail
                      go_quiet_grown (first | (go_at_fn 21; exact hc1 _ _) | (go_at_call 21; exact hc1 _ _))
                      clear zw1 zw2
                      have S6 : Aside (SW enc w0 blk off d3 (grow (wc.drewN nq) osq)) := S5.out.grown nq osq
                      clear la1 lb1 hc1 S5
                      generalize grow (wc.drewN nq) osq = w6 at S6 ⊢
                      clear nq osq
                      clear ei1 ej1
                      have hx0 := round_part hO (partition_holds (lt := ltOf cf)) hpv1 hpv2 (show b' ≤ d3.size by omega) hB3 rfl
                      have kP := part_any (cap := cap) HC.out R a' b' pv d3 w6 (by omega) S6.out hpv1 hpv2 (by omega) (by omega)
                      rw [hs3] at kP
                      obtain ⟨mid, hmid⟩ : ∃ m, m = (partition (ltOf cf) d3 a' b' pv).1 := ⟨_, rfl⟩
                      obtain ⟨ap2, hap2⟩ : ∃ m, m = (partition (ltOf cf) d3 a' b' pv).2.1 := ⟨_, rfl⟩
                      obtain ⟨d4, hd4⟩ : ∃ m, m = (partition (ltOf cf) d3 a' b' pv).2.2 := ⟨_, rfl⟩
                      rw [← hmid, ← hap2, ← hd4] at kP
                      have hx := round_part (mid := mid) (ap := ap2) (d4 := d4) hO (partition_holds (lt := ltOf cf)) hpv1 hpv2 (show b' ≤ d3.size by omega) hB3 (by rw [hmid, hap2, hd4])
                      clear hx0 hmid hap2 hd4
                      obtain ⟨r1, r2, r3, r4, r5, r6, r7⟩ := hx
                      have R6 : Aside _ := r6
                      have R7 : Aside _ := r7
                      have hs4 : d4.size = d.size := r3.trans hs3
                      clear r6 r7 r3
                      go_upto_if 125 with (go_at_call 33; refine kP.mono ?_; rintro e w7 ⟨rfl, hS7⟩)
                      have S7 : Aside (SW enc w0 blk off d4 w7) := hS7
                      clear kP hS7 S6
                      by_cases h4 : mid - a' < b' - mid
                      · have h4z : (mid : Int) - (a' : Int) < (b' : Int) - (mid : Int) := by omega
                        have hih := ih a' mid lm d4 w7 (by omega) (by omega) S7.out (by omega) (by omega) (by omega) (by omega) r4
                        rw [hs4] at hih
                        go_wp2_with (go_at_call 22; refine hih.mono ?_; rintro e w8 ⟨rfl, dL, pL, sL, hw8⟩)
                        go_roundg (b' - (mid + 1))
                        case measure => omega
                        case rel =>
                          obtain ⟨q1, q2⟩ := R6.out dL pL sL
                          exact ⟨mid + 1, b', lm, _, ap2, dL, by simp, rfl, rfl, rfl, rfl, by omega, by omega, Nat.le_refl _, by omega, by omega, by rw [pL.1, hs4], q1, hw8, (show Hid _ from fun R hR hS => by
                            obtain ⟨t1, t2⟩ := q2 R hR hS
                            exact HK3.out R t1 t2)⟩
                      · have h4z : ¬ ((mid : Int) - (a' : Int) < (b' : Int) - (mid : Int)) := by omega
                        have hih := ih (mid + 1) b' lm d4 w7 (by omega) (by omega) S7.out (by omega) (by omega) (by omega) (by omega) r5
                        rw [show ((mid + 1 : Nat) : Int) = (mid : Int) + 1 by omega, hs4] at hih
                        go_wp2_with (go_at_call 22; refine hih.mono ?_; rintro e w8 ⟨rfl, dL, pL, sL, hw8⟩)
                        go_roundg (mid - a')
                        case measure => omega
                        case rel =>
                          obtain ⟨q1, q2⟩ := R7.out dL pL sL
                          exact ⟨a', mid, lm, _, ap2, dL, rfl, rfl, rfl, rfl, rfl, by omega, by omega, Nat.le_refl _, by omega, by omega, by rw [pL.1, hs4], q1, hw8, (show Hid _ from fun R hR hS => by
                            obtain ⟨t1, t2⟩ := q2 R hR hS
                            exact HK3.out R t1 t2)⟩
                    | false =>
                      obtain ⟨iN2, hiN2⟩ : ∃ q, q = a' - 1 := ⟨_, rfl⟩
                      have ei2 : ((ap : Int)).toNat = iN2 := by omega
                      have pi2 : (0 : Int) ≤ (ap : Int) := by omega
                      have bi2 : (ap : Int) < (d.size : Int) := by omega
                      have ri2 : IntKind.i64.wrap ((ap : Int)) = (ap : Int) := by rw [IntKind.wrap_i64]; omega
                      obtain ⟨jN2, hjN2⟩ : ∃ q, q = pv := ⟨_, rfl⟩
                      have ej2 : ((pv : Int)).toNat = jN2 := by omega
                      have pj2 : (0 : Int) ≤ (pv : Int) := by omega
                      have bj2 : (pv : Int) < (d.size : Int) := by omega
                      have rj2 : IntKind.i64.wrap ((pv : Int)) = (pv : Int) := by rw [IntKind.wrap_i64]; omega
                      obtain ⟨x2, hx2⟩ : ∃ v9, v9 = d3[a' - 1]! := ⟨_, rfl⟩
                      obtain ⟨y2, hy2⟩ : ∃ v9, v9 = d3[pv]! := ⟨_, rfl⟩
                      have la2 := S5.out.cl R (by omega) (a' - 1) (by omega)
                      have lb2 := S5.out.cl R (by omega) (pv) (by omega)
                      rw [← hx2, ← hiN2] at la2
                      rw [← hy2, ← hjN2] at lb2
                      have hc2 := CmpM.at HC.out S5.out (by omega) x2 y2
                      have hv2 : ¬ cf x2 y2 < 0 := by rw [hx2, hy2]; exact of_decide_eq_false hlv
                      have hd2 : decide (cf x2 y2 < 0) = false := decide_eq_false hv2
                      clear hx2 hy2 hiN2 hjN2
                      have zw1 : wrap64 ((a' : Int) - 1) = (ap : Int) := (IntWalk.wrap64_in _ (by constructor <;> omega)).trans (by omega)
                      have zw2 : IntKind.i64.wrap ((a' : Int) - 1) = (ap : Int) := by rw [IntKind.wrap_i64]; omega
                      go_wp2_with fail
                      go_quiet_grown (first | (go_at_fn 21; exact hc2 _ _) | (go_at_call 21; exact hc2 _ _))
                      clear zw1 zw2
                      have S6 : Aside (SW enc w0 blk off d3 (grow (wc.drewN nq) osq)) := S5.out.grown nq osq
                      clear la2 lb2 hc2 S5
                      generalize grow (wc.drewN nq) osq = w6 at S6 ⊢
                      clear nq osq
                      clear ei2 ej2
                      have kE := partEq_any (cap := cap) HC.out R a' b' pv d3 w6 (by omega) S6.out hpv1 hpv2 (by omega) (by omega)
                      rw [hs3] at kE
                      obtain ⟨mid, hmid⟩ : ∃ m, m = (partitionEqual (ltOf cf) d3 a' b' pv).1 := ⟨_, rfl⟩
                      obtain ⟨d4, hd4⟩ : ∃ m, m = (partitionEqual (ltOf cf) d3 a' b' pv).2 := ⟨_, rfl⟩
                      rw [← hmid, ← hd4] at kE
                      obtain ⟨r1, r2, r3, r4, r5⟩ := round_eq (mid := mid) (d4 := d4) hO (partitionEqual_holds (lt := ltOf cf)) (by omega) hpv1 hpv2 (show b' ≤ d3.size by omega) hB3 hlv (by rw [hmid, hd4])
                      have R5 : Aside _ := r5
                      have hs4 : d4.size = d.size := r3.trans hs3
                      clear hmid hd4 r5 r3
                      go_wp2_with (go_at_call 32; refine kE.mono ?_; rintro e w7 ⟨rfl, hS7⟩)
                      go_roundg (b' - mid)
                      case measure => omega
                      case rel => exact ⟨mid, b', lm, _, _, d4, rfl, rfl, rfl, rfl, rfl, by omega, by omega, Nat.le_refl _, by omega, by omega, hs4, r4, hS7, (show Hid _ from fun R hR hS => by
                        obtain ⟨t1, t2⟩ := R5.out R hR hS
                        exact HK3.out R t1 t2)⟩
end
end Go.Proofs.Ytebielckdloncaa
