/- RatioApart, walked. -/
import Derived.Test.YtgkogklbeclkgaaGro
import Derived.BigQuiet
import Derived.Deep.QuietTactic
import Derived.Deep.RegionHeld3
namespace Go.Proofs.Ytgkogklbeclkgaa
open Go.RowKit Go.Lib
open M
set_option linter.unusedVariables false
set_option linter.unusedSimpArgs false

set_option maxHeartbeats 8000000 in
theorem ratioApart_walk (l : List (Int × Int)) (la : Option Addr) (cap0 : Nat) (w : World) (hI : PairsIn w la l) (hl : l.length ≤ cap0) (hm : cap0 ≤ maxLen) : Calls Try.prog 7 #[.slice la l.length cap0] w fun e w' => e = .returned (.bool true) ∧ Below w.heap.size w w' := by
  unfold maxLen at hm
  obtain ⟨n, hn⟩ : ∃ n, l.length = n := ⟨_, rfl⟩
  have HN := hide_it hn
  have HI := hide_it hI
  obtain ⟨S, hS⟩ : ∃ S, shs l = S := ⟨_, rfl⟩
  have HS := hide_it hS
  obtain ⟨i0, hi, hz0, hz1, hz2⟩ := info_parts info25
  rw [hn]
  have hn63 : (n : Int) ≤ 9223372036854775807 := by omega
  clear hI hl hm hn hS
  obtain ⟨m, hm⟩ : ∃ m, min 30 n = m := ⟨_, rfl⟩
  have m30 : m ≤ 30 := by omega
  have mn : m ≤ n := by omega
  have HM : Hid (min 30 n = m) := hm
  clear hm
  go_enter Try.func7, Try.ntmps7
  go_wp2_with (go_at_call 9; refine (shown_any _).mono ?_; rintro e w1 ⟨rfl, hb1⟩; have H1 : Hid (Gr w w1 (S.take 0) none 0 0) := (show Gr w w1 (S.take 0) none 0 0 from ⟨hb1, hb1.size, rfl, .inl ⟨rfl, rfl⟩⟩); clear hb1; refine Hid.out ?_)
  refine hide_it ?_
  go_wp2
  go_loopw [4, 5] (fun v i wr => ∃ (k : Nat) (ao : Option Addr) (cap : Nat), i = .int .i64 k ∧ k ≤ m ∧ v = .slice ao k cap ∧ Hid (Gr w wr (S.take k) ao k cap)) (fun _ i _ => m - (intOf i).toNat)
  case atStart => exact ⟨0, none, 0, rfl, Nat.zero_le _, rfl, H1⟩
  case round =>
    obtain ⟨k, ao, cap, rfl, hkm, rfl, HG⟩ := hrel
    clear H1
    by_cases hlt : k < m
    · have hk1 : k < n := by omega
      have hk2 : k < 30 := by omega
      have hkl : k < l.length := by rw [HN.out]; exact hk1
      obtain ⟨b, o, rfl, hc⟩ := HI.out.get hkl
      obtain ⟨c0, c1⟩ := hc wr HG.out.1
      clear hc
      have HT := hide_it (shs_take hkl hk2)
      generalize l[k].1 = p at *
      generalize l[k].2 = q at *
      go_wp2_with (go_at_call 10; refine (pair_any _ _ _).mono ?_; rintro e w2 ⟨rfl, hb2⟩; have HG2 := hide_it (HG.out.below hb2); clear hb2; refine Hid.out ?_)
      have HA := hide_it ((HG2.out.below ((Below.refl _ _).alloc (Nat.le_refl _) (.cells #[.int .i64 (wei p), .int .i64 (cut q)] 26))).below ((Below.refl _ _).alloc (Nat.le_refl _) (.cells #[.complex .f64 (F (wei p)) (F (cut q))] 25)))
      rw [HS.out] at HT
      clear HG HG2 c0 c1
      refine hide_it ?_
      go_wp2_with (at_builtin; refine wpList_append_own _ rfl (.tmp 32) (.tmp 34) 39 rfl w.heap.size 25 i0 (.complex .f64 0 0) 1 16 Try.underlying39 hi hz0 hz1 hz2 rfl (by decide) _ _ _ rfl HA.out.2.2 ⟨w2.heap.size + 1, 0, none⟩ 1 1 [.complex .f64 (F (wei p)) (F (cut q))] rfl rfl (World.news_of_block (heap_alloc_at (by simp) _)) ?c2 ?c3 ?c4 ?c5 ?_)
      case c2 => intro u hu; simp at hu; subst hu; rfl
      case c3 => unfold maxLen; omega
      case c4 => omega
      case c5 => exact HA.out.2.1
      intro v' w3 hown' hgrow _
      obtain ⟨ao', cap', rfl⟩ := own_slice hown'
      have HG3 : Hid (Gr w w3 (S.take (k + 1)) ao' (k + 1) cap') := by
        refine ⟨HA.out.1.grown hgrow HA.out.2.1 (fun k hk => (HA.out.2.2.lt k hk).1), Nat.le_trans HA.out.2.1 hgrow.size, ?_⟩
        rw [HT.out, cl_app]
        exact hown'
      clear hown' hgrow HA
      go_wp2
      go_roundw
      case rel => exact ⟨k + 1, ao', cap', by go_num, by omega, rfl, HG3⟩
      case measure => simp [intOf]; omega
    · have e : k = m := by omega
      subst e
      have hSl : S.length = k := by rw [← HS.out, shs_len, HN.out]; exact HM.out
      have HG1 : Hid (Gr w wr S ao k cap) := by have := HG.out; rw [List.take_of_length_le (by omega)] at this; exact this
      have HOk : Hid (Shs S) := by rw [← HS.out]; exact shs_ok l
      have HL := hide_it hSl
      have e0 : (FloatKind.f64.format.order 0 0 == some Ordering.eq) = true := by rw [is_eq is_0 is_0]; rfl
      have HX : Hid ((k = n ∧ k < 30) ∨ k = 30) := by have := HM.out; show (k = n ∧ k < 30) ∨ k = 30; omega
      clear HG HI hi hz0 hz1 hz2 hSl HS HM hlt hkm
      by_cases hk0 : k = 0
      · subst hk0
        have hn0 : n = 0 := by have := HX.out; omega
        subst hn0
        go_wp2_with (go_at_call 18; refine (apart_none _ _ _).mono ?_; rintro e w' ⟨rfl, rfl⟩)
        go_ret
        exact ⟨rfl, HG1.out.1⟩
      · obtain ⟨g, rfl, hsh⟩ := own_sh HG1.out.2.2 (by omega) HL.out
        have HSh := hide_it hsh
        clear hsh
        have hk1 : 0 < k := by omega
        have hk2 : k ≤ 30 := by omega
        rcases (show ¬ (k : Int) < n ∨ ((k : Int) < n ∧ ¬ (k : Int) < 30) from by have := HX.out; omega) with hq | ⟨hq, hq2⟩
        all_goals
          clear HX hk0
          go_wp2_with (go_at_call 18; refine (apart_is S HOk.out g k cap _ (by omega) (by omega) HSh.out).mono ?_; rintro e w5 ⟨re, im, t, rfl, hAp, rfl⟩; have HAp := hide_it hAp; clear hAp; refine Hid.out ?_)
          have HB := hide_it (below_drewN HG1.out.1 t)
          have HC := hide_it (show ShIn (wr.drewN t) g k S from HSh.out)
          clear HG1 HSh
          generalize wr.drewN t = w5 at *
          obtain ⟨I, J, hI, hJ, hTop, hBot, hre, him⟩ := HAp.out
          have HTop := hide_it hTop
          have HBot := hide_it hBot
          have HRe := hide_it hre
          have HIm := hide_it him
          clear HAp hTop hBot hre him
          refine hide_it ?_
          by_cases h1 : k = 1
          · subst h1
            obtain rfl : I = J := by omega
            have e1 : (FloatKind.f64.format.order re 0 == some Ordering.eq) = true := by rw [is_eq HRe.out is_0]; simp
            have e2 : (FloatKind.f64.format.order im 0 == some Ordering.eq) = true := by rw [is_eq HIm.out is_0]; simp
            go_wp2
            go_ret
            exact ⟨rfl, HB.out⟩
          · have hk3 : ¬ (k : Int) ≤ 1 := by omega
            clear h1
            go_wp2
            go_loopw [9] (fun v wr2 => ∃ (i t : Nat), v = .int .i64 i ∧ i ≤ I ∧ wr2 = w5.drewN t) (fun v _ => k - (intOf v).toNat)
            case atStart => exact ⟨0, 0, rfl, Nat.zero_le _, rfl⟩
            case round =>
              obtain ⟨i, t, rfl, hi, rfl⟩ := hrel
              have hik : (i : Int) < k := by omega
              go_wp2
              go_loopw [10] (fun v wr3 => ∃ (j t : Nat), v = .int .i64 j ∧ j ≤ k ∧ (i < I ∨ j ≤ J) ∧ wr3 = w5.drewN t) (fun v _ => k - (intOf v).toNat)
              case atStart => exact ⟨0, t, rfl, Nat.zero_le _, .inr (Nat.zero_le _), rfl⟩
              case round =>
                obtain ⟨j, t, rfl, hj, hij, hw3⟩ := hrel
                obtain ⟨w6, rfl⟩ : ∃ W, W = wr := ⟨_, rfl⟩
                have HW3 := hide_it hw3.symm
                have HC3 := hide_it (show ShIn w6 g k S from by rw [hw3]; exact HC.out)
                clear hw3
                by_cases hlt : j < k
                · have ci := HC3.out i (by omega)
                  have cj := HC3.out j hlt
                  have pi := HOk.out i
                  have pj := HOk.out j
                  obtain ⟨r, s, hd, hr, hs⟩ := cdiff_is pi.1 pi.2.2 pj.1 pj.2.2
                  have hop := fun t w => run_complex_sum (P := Try.prog) w .sub (Or.inr rfl) t .f64 _ _ _ _ r s hd
                  have t1 := is_eq hr HRe.out
                  have t2 := is_eq hs HIm.out
                  clear pi pj hd hr hs
                  by_cases he : wA S i - wA S j = wA S I - wA S J ∧ cA S i - cA S j = cA S I - cA S J
                  · rw [decide_eq_true he.1] at t1
                    rw [decide_eq_true he.2] at t2
                    clear he
                    generalize hxi : F (wA S i) = xi at *
                    generalize hyi : F (cA S i) = yi at *
                    generalize hxj : F (wA S j) = xj at *
                    generalize hyj : F (cA S j) = yj at *
                    go_wp2
                    go_quiet ((simp only [hop]))
                    clear hop
                    have HXI := hide_it hxi
                    have HYI := hide_it hyi
                    have HXJ := hide_it hxj
                    have HYJ := hide_it hyj
                    clear hxi hyi hxj hyj
                    go_wp2
                    go_loopw [11, 12] (fun ok v wr4 => ∃ (q t : Nat) (bb : Bool), ok = .bool bb ∧ v = .int .i64 q ∧ q ≤ k ∧ Hid (i = I → j = J → bb = true) ∧ wr4 = w6.drewN t) (fun _ v _ => k - (intOf v).toNat)
                    case atStart => exact ⟨0, nq, true, rfl, rfl, Nat.zero_le _, fun _ _ => rfl, rfl⟩
                    case round =>
                      obtain ⟨q, t2', bb, rfl, rfl, hqk, hbb, hw4⟩ := hrel
                      obtain ⟨w7, rfl⟩ : ∃ W, W = wr := ⟨_, rfl⟩
                      have HW4 := hide_it hw4.symm
                      have HC4 := hide_it (show ShIn w7 g k S from by rw [hw4]; exact HC3.out)
                      clear hw4 ci cj
                      by_cases hlq : q < k
                      · have cq := HC4.out q hlq
                        have ci := HC4.out i (by omega)
                        have cj := HC4.out j hlt
                        rw [HXI.out, HYI.out] at ci
                        rw [HXJ.out, HYJ.out] at cj
                        have kc1 := fun W => compare_F W (HOk.out q).1 (HOk.out q).2.2 (HOk.out i).1 (HOk.out i).2.2
                        have kc2 := fun W => compare_F W (HOk.out j).1 (HOk.out j).2.2 (HOk.out q).1 (HOk.out q).2.2
                        rw [HXI.out, HYI.out] at kc1
                        rw [HXJ.out, HYJ.out] at kc2
                        have hz1 : i = I → cmB (wA S q) (cA S q) (wA S i) (cA S i) ≤ 0 := by rintro rfl; exact HTop.out q hlq
                        have hz2 : j = J → cmB (wA S j) (cA S j) (wA S q) (cA S q) ≤ 0 := by rintro rfl; exact HBot.out q hlq
                        generalize F (wA S q) = xq at *
                        generalize F (cA S q) = yq at *
                        generalize cmB (wA S q) (cA S q) (wA S i) (cA S i) = z1 at *
                        generalize cmB (wA S j) (cA S j) (wA S q) (cA S q) = z2 at *
                        have HZ1 := hide_it hz1
                        have HZ2 := hide_it hz2
                        clear hz1 hz2
                        cases bb with
                        | false =>
                          have HB2 : Hid (i = I → j = J → false = true) := hbb
                          go_wp2
                          go_quiet ((first | (go_at_call_of 15 (Value.complex .f64 xi yi); exact Calls.quiet_of_same (kc1 _)) | (go_at_call_of 15 (Value.complex .f64 xj yj); exact Calls.quiet_of_same (kc2 _))))
                          go_wp2
                          go_roundw
                          case rel => exact ⟨q + 1, t2' + nq, false, rfl, by go_num, by omega, HB2, by rw [← HW4.out, World.drewN_drewN]⟩
                          case measure => simp [intOf]; omega
                        | true =>
                          by_cases g1 : z1 ≤ 0
                          · by_cases g2 : z2 ≤ 0
                            · have d1 : decide (z1 ≤ 0) = true := by simpa using g1
                              have d2 : decide (z2 ≤ 0) = true := by simpa using g2
                              clear g1 g2
                              go_wp2
                              go_quiet ((first | (go_at_call_of 15 (Value.complex .f64 xi yi); exact Calls.quiet_of_same (kc1 _)) | (go_at_call_of 15 (Value.complex .f64 xj yj); exact Calls.quiet_of_same (kc2 _))))
                              go_wp2
                              go_roundw
                              case rel => exact ⟨q + 1, t2' + nq, true, rfl, by go_num, by omega, fun _ _ => rfl, by rw [← HW4.out, World.drewN_drewN]⟩
                              case measure => simp [intOf]; omega
                            · have d1 : decide (z1 ≤ 0) = true := by simpa using g1
                              have d2 : decide (z2 ≤ 0) = false := by simpa using g2
                              have HB2 : Hid (i = I → j = J → false = true) := fun _ h => absurd (HZ2.out h) g2
                              clear g1 g2
                              go_wp2
                              go_quiet ((first | (go_at_call_of 15 (Value.complex .f64 xi yi); exact Calls.quiet_of_same (kc1 _)) | (go_at_call_of 15 (Value.complex .f64 xj yj); exact Calls.quiet_of_same (kc2 _))))
                              go_wp2
                              go_roundw
                              case rel => exact ⟨q + 1, t2' + nq, false, rfl, by go_num, by omega, HB2, by rw [← HW4.out, World.drewN_drewN]⟩
                              case measure => simp [intOf]; omega
                          · have d1 : decide (z1 ≤ 0) = false := by simpa using g1
                            have HB2 : Hid (i = I → j = J → false = true) := fun h _ => absurd (HZ1.out h) g1
                            clear g1
                            go_wp2
                            go_quiet ((first | (go_at_call_of 15 (Value.complex .f64 xi yi); exact Calls.quiet_of_same (kc1 _)) | (go_at_call_of 15 (Value.complex .f64 xj yj); exact Calls.quiet_of_same (kc2 _))))
                            go_wp2
                            go_roundw
                            case rel => exact ⟨q + 1, t2' + nq, false, rfl, by go_num, by omega, HB2, by rw [← HW4.out, World.drewN_drewN]⟩
                            case measure => simp [intOf]; omega
                      · cases bb with
                        | true =>
                          go_wp2
                          go_ret
                          exact ⟨rfl, by rw [← HW4.out, ← HW3.out]; exact below_drewN (below_drewN HB.out _) _⟩
                        | false =>
                          have hne : ¬ (i = I ∧ j = J) := fun h => by have := hbb.out h.1 h.2; cases this
                          go_wp2
                          go_roundw
                          case rel => exact ⟨j + 1, t + t2', by go_num, by omega, by omega, by rw [← HW4.out, ← HW3.out, World.drewN_drewN]⟩
                          case measure => simp [intOf]; omega
                  · have hne : ¬ (i = I ∧ j = J) := by rintro ⟨rfl, rfl⟩; exact he ⟨rfl, rfl⟩
                    have t3 : ((FloatKind.f64.format.order r re == some Ordering.eq) && (FloatKind.f64.format.order s im == some Ordering.eq)) = false := by
                      rw [t1, t2, ← Bool.decide_and]; exact decide_eq_false he
                    clear he t1 t2
                    generalize F (wA S i) = xi at *
                    generalize F (cA S i) = yi at *
                    generalize F (wA S j) = xj at *
                    generalize F (cA S j) = yj at *
                    go_wp2
                    go_quiet ((simp only [hop]))
                    go_wp2
                    go_roundw
                    case rel => exact ⟨j + 1, t + nq, by go_num, by omega, by omega, by rw [← HW3.out, World.drewN_drewN]⟩
                    case measure => simp [intOf]; omega
                · have hiI : i < I := by omega
                  go_wp2
                  go_roundw
                  case rel => exact ⟨i + 1, t, by go_num, hiI, HW3.out.symm⟩
                  case measure => simp [intOf]; omega
end Go.Proofs.Ytgkogklbeclkgaa
