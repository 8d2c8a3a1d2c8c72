/- Reached of package prio. -/
import Derived.Test.YtmeeimfjibcncaaDoorCtr
namespace Go.Proofs.YtmeeimfjibcncaaDoor
open Go.RowKit
open M
set_option linter.unusedVariables false
set_option linter.unusedSimpArgs false

set_option maxRecDepth 1000000 in
set_option maxHeartbeats 4000000 in
theorem reachedP_any {w : World} {g eb n : Nat} {v : Value} {es : List E} (h : GM w g eb n v es) (hT : Tab w) (h0 : 0 < w.heap.size) {qa : Option Addr} {Q : List Rq} (hq : QIn w qa Q) (hm : Q.length ≤ 1000000) (qc : Nat) (t : Int) :
    Calls Tryd.prog 13 #[ptr g, .slice qa Q.length qc, .int .i64 t] w fun e w' => ∃ u, e = .returned u ∧ OwnI w' w.heap.size u (reachedL n es Q t Q.length) ∧ Below w.heap.size w w' := by
  have k1 := some_any g w
  have kr : ∀ (W : World) (a : Int), Below w.heap.size w W → Calls Tryd.prog 22 #[ptr g, .int .i64 a, .int .i64 t] W fun e w' => e = .returned (.bool (reachB n es a t)) ∧ Hid (Below W.heap.size W w') := fun W a hb => by
    refine (reaches_any (h.below hb) (tab_below hT h0 hb) (Nat.lt_of_lt_of_le h0 hb.size) a t).mono ?_
    rintro e w' ⟨rfl, hb2⟩
    exact ⟨rfl, hb2⟩
  have HQ := hide_it hq
  have HS := hide_it (reachedL_step n es Q t)
  have HZ := hide_it (reachedL_len n es Q t)
  obtain ⟨m, hmm⟩ : ∃ m, Q.length = m := ⟨_, rfl⟩
  have HM := hide_it hmm
  obtain ⟨i0, hi, hz0, hz1, hz2⟩ := info_parts info3
  obtain ⟨RL, hRL⟩ : ∃ RL, reachedL n es Q t = RL := ⟨_, rfl⟩
  have HR0 : Hid (RL 0 = []) := by unfold Hid; rw [← hRL]; rfl
  rw [hRL] at HS HZ
  rw [hmm] at hm ⊢
  rw [hRL]
  clear h hT hq hmm hRL
  go_enter Tryd.func13, Tryd.ntmps13
  go_wp2_with (go_at_call 26; refine k1.mono ?_; rintro e w1 ⟨rfl, hw1⟩; rw [hw1]; clear hw1 w1)
  clear k1
  go_loopw [7, 14] (fun u i W => Hid (Below w.heap.size w W) ∧ ∃ j : Nat, j ≤ m ∧ i = .int .i64 j ∧ Hid (OwnI W w.heap.size u (RL j))) (fun _ i _ => m - (intOf i).toNat)
  case atStart => exact ⟨Below.refl _ _, 0, Nat.zero_le _, rfl, by unfold Hid; rw [HR0.out]; exact owns_nil _ _⟩
  case round =>
    obtain ⟨hBr, j, hj, rfl, HO⟩ := hrel
    obtain ⟨w4, rfl⟩ : ∃ W, W = wr := ⟨_, rfl⟩
    by_cases hjm : j < m
    · have hjx : j < Q.length := by rw [HM.out]; exact hjm
      obtain ⟨rb, o, rfl, hrb, c0, c1, c2⟩ := (HQ.out.below hBr.out (Nat.le_refl _)) j hjx
      have HN := hide_it (HS.out j hjx)
      generalize Q[j] = q at *
      obtain ⟨rt, wt, pr⟩ := q
      simp only at c0 c1 c2 HN
      have hl := HZ.out j
      have hsz := hBr.out.size
      have kr' := kr (w4.alloc (.cells #[.int .i64 rt, .int .i64 wt, .int .i64 pr] 49)) rt (hBr.out.alloc hBr.out.size _)
      go_upto_region 6 with fail
      obtain ⟨w5, hw5⟩ : ∃ w5, w4.alloc (.cells #[.int .i64 rt, .int .i64 wt, .int .i64 pr] 49) = w5 := ⟨_, rfl⟩
      obtain ⟨c, hc⟩ : ∃ c, w4.heap.size = c := ⟨_, rfl⟩
      have d0 : w5.cell? ⟨c, 0, none⟩ = some (.int .i64 rt) := by rw [← hw5, ← hc]; simp
      have b5 : Hid (Below w4.heap.size w4 w5) := by unfold Hid; rw [← hw5]; exact (Below.refl _ _).alloc (Nat.le_refl _) _
      rw [hw5, hc]
      rw [hw5] at kr'
      clear hw5 hc c0 c1 c2 hrb kr HQ
      cases hR : reachB n es rt t with
      | true =>
        rw [hR] at kr' HN
        have HN' : Hid (RL (j + 1) = RL j ++ [j]) := by rw [HN.out]; rfl
        clear hR HN HM
        go_upto_region 7 with (go_at_call 22; refine kr'.mono ?_; rintro e w6 ⟨rfl, b6⟩)
        have HO6 : Hid (OwnI w6 w.heap.size u7 (RL j)) := owns_below (owns_below HO.out b5.out) b6.out
        have B6 : Hid (Below w.heap.size w w6) := (hBr.out.trans (b5.out.mono hsz)).trans (b6.out.mono (Nat.le_trans hsz b5.out.size))
        have hs6 : w.heap.size ≤ w6.heap.size := B6.out.size
        clear HO b5 b6 hBr kr' d0
        go_wp2_with (at_builtin; (refine wpList_append_tell _ rfl (.tmp 24) (.tmp 26) 38 rfl w.heap.size 3 i0 _ 1 8 Tryd.underlying38 hi hz0 hz1 hz2 rfl (by decide) _ (RL j).length ((RL j).map fun x => Value.int .i64 (x : Nat)) rfl (HO6.out.alloc _) ⟨_, 0, none⟩ 1 1 [.int .i64 j] rfl rfl (World.news_of_block (heap_alloc_at rfl _)) (by simp [Value.oneCell']) (by unfold maxLen; omega) (by omega) (by simp; omega) ?_; intro v' w2 hown' hgrow hfr; have hB2 := hide_it ((B6.out.alloc (by omega) _).grown hgrow (by simp; omega) (fun k hk => (HO6.out.lt k hk).1))))
        go_roundw
        case rel => exact ⟨hB2, j + 1, by omega, by go_num, by rw [HN'.out]; exact own_snoc hown'⟩
        case measure => simp [intOf]; omega
      | false =>
        rw [hR] at kr' HN
        have HN' : Hid (RL (j + 1) = RL j) := by rw [HN.out]; exact List.append_nil _
        clear hR HN HM
        go_wp2_with (go_at_call 22; refine kr'.mono ?_; rintro e w6 ⟨rfl, b6⟩)
        have HO6 : Hid (OwnI w6 w.heap.size u7 (RL j)) := owns_below (owns_below HO.out b5.out) b6.out
        have B6 : Hid (Below w.heap.size w w6) := (hBr.out.trans (b5.out.mono hsz)).trans (b6.out.mono (Nat.le_trans hsz b5.out.size))
        go_roundw
        case rel => exact ⟨B6, j + 1, by omega, by go_num, by rw [HN'.out]; exact HO6⟩
        case measure => simp [intOf]; omega
    · obtain rfl : j = m := by omega
      go_wp2
      go_ret
      exact ⟨_, rfl, HO.out, hBr.out⟩
end Go.Proofs.YtmeeimfjibcncaaDoor
