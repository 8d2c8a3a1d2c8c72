/- The document's own Reached. -/
import Derived.Test.YtmeeimfjibcncaaDoorPri
import Derived.Test.YtmeeimfjibcncaaDoorTlB
import Derived.Test.YtmeeimfjibcncaaDoorZro
namespace Go.Proofs.YtmeeimfjibcncaaDoor
open Go.RowKit
open M
set_option linter.unusedVariables false
set_option linter.unusedSimpArgs false

set_option maxRecDepth 1000000 in
set_option maxHeartbeats 4000000 in
theorem rreached_row {w : World} {r n : Nat} {v : Value} {es : List E} (h : RM w r n v es) (hn : n ≤ 64) (hg : ∀ e ∈ es, e.1 < n ∧ e.2 < n) (hle : es.length ≤ 1000000) {qa : Option Addr} {Q : List Rq} (hq : QIn w qa Q) (hm : Q.length ≤ 1000000) (qc : Nat) (t : Int) (ht : offB n t = false) :
    Calls Tryd.prog 14 #[ptr r, .slice qa Q.length qc, .int .i64 t] w fun e w' => ∃ u, e = .returned u ∧ OwnI w' w.heap.size u (reachedL n es Q t Q.length) ∧ Below w.heap.size w w' := by
  have kr : ∀ (W : World) (a : Int), Below w.heap.size w W → Calls Tryd.prog 27 #[ptr r, .int .i64 a, .int .i64 t] W fun e w' => e = .returned (.bool (reachB n es a t)) ∧ Hid (Below W.heap.size W w') := fun W a hb => by
    refine (rreaches_any (h.below hb) hn a t hg hle).mono ?_
    rintro e w' ⟨rfl, hb2⟩
    exact ⟨by rw [anyI_reach hn hg a t ht], hb2⟩
  have HQ := hide_it hq
  have HS := hide_it (reachedL_step n es Q t)
  have HZ := hide_it (reachedL_len n es Q t)
  obtain ⟨m, hmm⟩ : ∃ m, Q.length = m := ⟨_, rfl⟩
  have HM := hide_it hmm
  obtain ⟨i0, hi, hz0, hz1, hz2⟩ := info_parts info3
  obtain ⟨RL, hRL⟩ : ∃ RL, reachedL n es Q t = RL := ⟨_, rfl⟩
  have HR0 : Hid (RL 0 = []) := by unfold Hid; rw [← hRL]; rfl
  rw [hRL] at HS HZ
  rw [hmm] at hm ⊢
  rw [hRL]
  have hb0 : Hid (Below w.heap.size w (w.alloc (.cells #[] 3))) := (Below.refl _ _).alloc (Nat.le_refl _) _
  have hst : Hid (OwnI (w.alloc (.cells #[] 3)) w.heap.size (.slice (some ⟨w.heap.size, 0, none⟩) 0 0) (RL 0)) := by unfold Hid; rw [HR0.out]; exact World.ownsRow_made w #[] 0 (Nat.le_refl _) (by simp [maxLen]) (by simp)
  clear h hq hg hmm hRL ht
  go_enter Tryd.func14, Tryd.ntmps14
  go_wp2
  go_loopw [7, 8] (fun u i W => Hid (Below w.heap.size w W) ∧ ∃ j : Nat, j ≤ m ∧ i = .int .i64 j ∧ Hid (OwnI W w.heap.size u (RL j))) (fun _ i _ => m - (intOf i).toNat)
  case atStart => exact ⟨hb0, 0, Nat.zero_le _, rfl, hst⟩
  case round =>
    obtain ⟨hBr, j, hj, rfl, HO⟩ := hrel
    obtain ⟨w4, rfl⟩ : ∃ W, W = wr := ⟨_, rfl⟩
    by_cases hjm : j < m
    · have hjx : j < Q.length := by rw [HM.out]; exact hjm
      obtain ⟨rb, o, rfl, hrb, c0, -, -⟩ := (HQ.out.below hBr.out (Nat.le_refl _)) j hjx
      have HN := hide_it (HS.out j hjx)
      generalize Q[j] = q at *
      obtain ⟨rt, wt, pr⟩ := q
      simp only at c0 HN
      have hl := HZ.out j
      have hsz := hBr.out.size
      have kr' := kr w4 rt hBr.out
      cases hR : reachB n es rt t with
      | true =>
        rw [hR] at kr' HN
        have HN' : Hid (RL (j + 1) = RL j ++ [j]) := by rw [HN.out]; rfl
        clear hR HN HM
        go_upto_region 7 with (go_at_call 27; refine kr'.mono ?_; rintro e w6 ⟨rfl, b6⟩)
        have HO6 : Hid (OwnI w6 w.heap.size u7 (RL j)) := owns_below HO.out b6.out
        have B6 : Hid (Below w.heap.size w w6) := hBr.out.trans (b6.out.mono hsz)
        have hs6 : w.heap.size ≤ w6.heap.size := B6.out.size
        clear HO b6 hBr kr' c0
        go_wp2_with (at_builtin; (refine wpList_append_tell _ rfl (.tmp 26) (.tmp 28) 38 rfl w.heap.size 3 i0 _ 1 8 Tryd.underlying38 hi hz0 hz1 hz2 rfl (by decide) _ (RL j).length ((RL j).map fun x => Value.int .i64 (x : Nat)) rfl (HO6.out.alloc _) ⟨_, 0, none⟩ 1 1 [.int .i64 j] rfl rfl (World.news_of_block (heap_alloc_at rfl _)) (by simp [Value.oneCell']) (by unfold maxLen; omega) (by omega) (by simp; omega) ?_; intro v' w2 hown' hgrow hfr; have hB2 := hide_it ((B6.out.alloc (by omega) _).grown hgrow (by simp; omega) (fun k hk => (HO6.out.lt k hk).1))))
        go_roundw
        case rel => exact ⟨hB2, j + 1, by omega, by go_num, by rw [HN'.out]; exact own_snoc hown'⟩
        case measure => simp [intOf]; omega
      | false =>
        rw [hR] at kr' HN
        have HN' : Hid (RL (j + 1) = RL j) := by rw [HN.out]; exact List.append_nil _
        clear hR HN HM
        go_wp2_with (go_at_call 27; refine kr'.mono ?_; rintro e w6 ⟨rfl, b6⟩)
        have HO6 : Hid (OwnI w6 w.heap.size u7 (RL j)) := owns_below HO.out b6.out
        have B6 : Hid (Below w.heap.size w w6) := hBr.out.trans (b6.out.mono hsz)
        go_roundw
        case rel => exact ⟨B6, j + 1, by omega, by go_num, by rw [HN'.out]; exact HO6⟩
        case measure => simp [intOf]; omega
    · obtain rfl : j = m := by omega
      go_wp2
      go_ret
      exact ⟨_, rfl, HO.out, hBr.out⟩
end Go.Proofs.YtmeeimfjibcncaaDoor
