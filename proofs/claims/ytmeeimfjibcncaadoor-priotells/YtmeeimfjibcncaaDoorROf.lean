/- The document's own Of. -/
import Derived.Test.YtmeeimfjibcncaaDoorRRd
import Derived.Lib.MinMax
import Derived.Deep.DeepCutAuto
namespace Go.Proofs.YtmeeimfjibcncaaDoor
open Go.RowKit
open M
set_option linter.unusedVariables false
set_option linter.unusedSimpArgs false

theorem own_snocZ {w : World} {base : Nat} {v : Value} {xs : List Int} {x : Int} (h : w.ownsRow base 3 1 v (xs.length + 1) (xs.map (fun x => Value.int .i64 x) ++ [.int .i64 x])) : OwnZ w base v (xs ++ [x]) := by
  show w.ownsRow base 3 1 v (xs ++ [x]).length ((xs ++ [x]).map _)
  rw [List.length_append, List.map_append]
  exact h
theorem ofL_take (n : Nat) (es : List E) (Q : List Rq) (t : Nat) (h : t < n) : (ofL n es Q).take (t + 1) = (ofL n es Q).take t ++ [prioOf n es Q t] := by
  have hl : t < (ofL n es Q).length := by simp [ofL]; exact h
  rw [List.take_succ_eq_append_getElem hl]
  simp [ofL]

set_option maxRecDepth 1000000 in
set_option maxHeartbeats 4000000 in
theorem rof_any {w : World} {r n : Nat} {v : Value} {es : List E} (h : RM w r n v es) (hn : n ≤ 64) (hg : ∀ e ∈ es, e.1 < n ∧ e.2 < n) (hle : es.length ≤ 1000000) {qa : Option Addr} {Q : List Rq} (hq : QIn w qa Q) (hm : Q.length ≤ 1000000) (qc : Nat) :
    Calls Tryd.prog 16 #[ptr r, .slice qa Q.length qc] w fun e w' => ∃ u, e = .returned u ∧ OwnZ w' w.heap.size u (ofL n es Q) ∧ Below w.heap.size w w' := by
  have kr : ∀ (W : World) (t : Nat), t < n → Below w.heap.size w W → Calls Tryd.prog 14 #[ptr r, .slice qa Q.length qc, .int .i64 t] W fun e w' => ∃ ao cap, e = .returned (.slice ao (reachedL n es Q t Q.length).length cap) ∧ Hid (ZAt w' (.slice ao (reachedL n es Q t Q.length).length cap) (zs (reachedL n es Q t Q.length)) ∧ Below W.heap.size W w') := fun W t ht hb => by
    refine (rreached_row (h.below hb) hn hg hle (hq.below hb (Nat.le_refl _)) hm qc t (by simp [offB]; omega)).mono ?_
    rintro e w' ⟨u, rfl, ho, hb2⟩
    have s := own_zat (own_z ho)
    obtain ⟨ao, cap', rfl⟩ := s.form
    rw [zs_len] at s ⊢
    exact ⟨ao, cap', rfl, s, hb2⟩
  have HQ := hide_it hq
  have HC : Hid (∀ W, Below w.heap.size w W → W.cell? ⟨r, 0, none⟩ = some (.int .i64 n)) := fun W hb => (h.below hb).c0
  have HPK := hide_it (fun t : Nat => pick_reached n es Q t Q.length (Nat.le_refl _))
  simp only [List.take_length] at HPK
  have HTK := hide_it (ofL_take n es Q)
  have HRM := hide_it (fun (t : Nat) (i : Nat) (h : i ∈ reachedL n es Q (t : Int) Q.length) => (reachedL_mem n es Q (t : Int) h).1)
  have HRL := hide_it (fun t : Nat => reachedL_len n es Q (t : Int) Q.length)
  obtain ⟨m, hmm⟩ : ∃ m, Q.length = m := ⟨_, rfl⟩
  have HM := hide_it hmm
  obtain ⟨i0, hi, hz0, hz1, hz2⟩ := info_parts info3
  have HZL : Hid ((ofL n es Q).length = n) := by unfold Hid; simp [ofL]
  obtain ⟨Z, hZ⟩ : ∃ Z, ofL n es Q = Z := ⟨_, rfl⟩
  obtain ⟨P, hP⟩ : ∃ P, prioOf n es Q = P := ⟨_, rfl⟩
  rw [hZ] at HTK HZL
  rw [hP] at HTK HPK
  have hRLd : ∃ RL : Nat → List Nat, (fun t : Nat => reachedL n es Q (t : Int) Q.length) = RL := ⟨_, rfl⟩
  obtain ⟨RL, hRL⟩ := hRLd
  have hRL2 : ∀ t : Nat, reachedL n es Q (t : Int) Q.length = RL t := fun t => congrFun hRL t
  simp only [hRL2] at kr HPK HRM HRL
  rw [hmm] at hm kr ⊢
  rw [hZ]
  have hb0 : Hid (Below w.heap.size w (w.alloc (.cells #[] 3))) := (Below.refl _ _).alloc (Nat.le_refl _) _
  have hst : Hid (OwnZ (w.alloc (.cells #[] 3)) w.heap.size (.slice (some ⟨w.heap.size, 0, none⟩) 0 0) (Z.take 0)) := World.ownsRow_made w #[] 0 (Nat.le_refl _) (by simp [maxLen]) (by simp)
  clear h hq hg hmm hZ hP hRL hRL2
  go_enter Tryd.func16, Tryd.ntmps16
  go_wp2
  go_loopw [5, 6] (fun u i W => Hid (Below w.heap.size w W) ∧ ∃ t : Nat, t ≤ n ∧ i = .int .i64 t ∧ Hid (OwnZ W w.heap.size u (Z.take t))) (fun _ i _ => n - (intOf i).toNat)
  case atStart => exact ⟨hb0, 0, Nat.zero_le _, rfl, hst⟩
  case round =>
    obtain ⟨hBr, t, ht, rfl, HO⟩ := hrel
    obtain ⟨w4, rfl⟩ : ∃ W, W = wr := ⟨_, rfl⟩
    have c0 := HC.out _ hBr.out
    by_cases htn : t < n
    · have kr' := kr w4 t htn hBr.out
      have hsz := hBr.out.size
      have HPt := hide_it (HPK.out t)
      have HTt := hide_it (HTK.out t htn)
      have HRt := hide_it (HRM.out t)
      have hRl := HRL.out t
      rw [HM.out] at hRl
      generalize RL t = L at *
      generalize P t = pt at *
      obtain ⟨l, hl⟩ : ∃ l, L.length = l := ⟨_, rfl⟩
      have HLl := hide_it hl
      rw [hl] at kr' hRl
      clear hl
      have hzl : (Z.take t).length ≤ 64 := by rw [List.length_take]; omega
      go_upto_region 8 with (go_at_call 14; refine kr'.mono ?_; rintro e w6 ⟨ao, cap, rfl, s6⟩)
      have HO6 : Hid (OwnZ w6 w.heap.size u5 (Z.take t)) := owns_below HO.out s6.out.2
      have B6 : Hid (Below w.heap.size w w6) := hBr.out.trans (s6.out.2.mono hsz)
      have hs6 : w.heap.size ≤ w6.heap.size := B6.out.size
      clear HO hBr kr' c0
      go_loop [7, 9] (fun p i => ∃ k : Nat, k ≤ l ∧ i = .int .i64 k ∧ p = .int .i64 (pickL Q (L.take k) (-1))) (fun _ i => l - (intOf i).toNat)
      case atStart => exact ⟨0, Nat.zero_le _, rfl, rfl⟩
      case round =>
        obtain ⟨k, hk, rfl, rfl⟩ := hrel
        by_cases hkl : k < l
        · have hkx : k < L.length := by rw [HLl.out]; exact hkl
          obtain ⟨ra, rfl, _, c1⟩ := s6.out.1.at k (by rw [zs_len]; exact hkx)
          rw [zs_at] at c1
          have hy := HRt.out _ (List.getElem_mem hkx)
          have HS := hide_it (pickL_take Q L (-1) k hkx hy)
          obtain ⟨rb, o, rfl, _, -, -, c2⟩ := (HQ.out.below B6.out (Nat.le_refl _)) _ hy
          rw [HM.out] at hy
          generalize Q[L[k]] = q at *
          obtain ⟨rt, wt, pr⟩ := q
          simp only at c2 HS
          generalize L[k] = y at *
          generalize pickL Q (L.take k) (-1) = p0 at *
          have hyI : (y : Int) < m := by omega
          go_wp2
          go_round
          case rel => exact ⟨k + 1, by omega, by go_num, by rw [HS.out]⟩
          case measure => simp [intOf]; omega
        · have e : L.take k = L := List.take_of_length_le (by rw [HLl.out]; omega)
          rw [e, HPt.out]
          clear e
          go_wp2_with (at_builtin; (refine wpList_append_tell _ rfl (.tmp 39) (.tmp 41) 38 rfl w.heap.size 3 i0 _ 1 8 Tryd.underlying38 hi hz0 hz1 hz2 rfl (by decide) _ (Z.take t).length ((Z.take t).map fun x => Value.int .i64 x) rfl (HO6.out.alloc _) ⟨_, 0, none⟩ 1 1 [.int .i64 pt] rfl rfl (World.news_of_block (heap_alloc_at rfl _)) (by simp [Value.oneCell']) (by unfold maxLen; omega) (by omega) (by simp; omega) ?_; intro v' w2 hown' hgrow hfr; have hB2 := hide_it ((B6.out.alloc (by omega) _).grown hgrow (by simp; omega) (fun k hk => (HO6.out.lt k hk).1))))
          go_roundw
          case rel => exact ⟨hB2, t + 1, by omega, by go_num, by rw [HTt.out]; exact own_snocZ hown'⟩
          case measure => simp [intOf]; omega
    · obtain rfl : t = n := by omega
      have e : Z.take t = Z := List.take_of_length_le (by rw [HZL.out]; exact Nat.le_refl _)
      rw [e] at HO
      clear e
      go_wp2
      go_ret
      exact ⟨_, rfl, HO.out, hBr.out⟩
end Go.Proofs.YtmeeimfjibcncaaDoor
