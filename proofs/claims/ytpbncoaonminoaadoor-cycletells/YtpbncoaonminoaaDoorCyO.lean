/- On: who is on a circle. -/
import Derived.Test.YtpbncoaonminoaaDoorCyA
namespace Go.Proofs.YtpbncoaonminoaaDoor
open Go.RowKit
open M
set_option linter.unusedVariables false
set_option linter.unusedSimpArgs false

set_option maxRecDepth 1000000 in
set_option maxHeartbeats 2000000 in
theorem back_any {w : World} {g eb n : Nat} {v : Value} {es : List E} (h : GM w g eb n v es) (hT : Tab w) (h0 : 0 < w.heap.size) (c1 c2 : Nat) (x t : Int) (R : Bool) (hR : reachB n es x t = R)
    (hc1 : w.cell? ⟨c1, 0, none⟩ = some (ptr g)) (hc2 : w.cell? ⟨c2, 0, none⟩ = some (.int .i64 t)) :
    Calls Tryd.prog 37 #[.int .i64 x, ptr c1, ptr c2] w fun e w' => e = .returned (.bool R) ∧ Below w.heap.size w w' := by
  have k := reaches_any h hT h0 x t
  rw [hR] at k
  clear h hT hR
  go_enter Tryd.func37, Tryd.ntmps37
  go_wp2_with (go_at_call 21; refine k.mono ?_; rintro e w' ⟨rfl, hb⟩)
  go_ret
  exact ⟨rfl, hb⟩

set_option maxRecDepth 1000000 in
set_option maxHeartbeats 2000000 in
theorem backs_any {w : World} {g eb n : Nat} {v va : Value} {es : List E} (h : GM w g eb n v es) (hT : Tab w) (h0 : 0 < w.heap.size) (c1 c2 : Nat) (t : Int) (xs : List Nat) (ha : IAt w va xs) (hl : xs.length ≤ 1000000)
    (hc1 : w.cell? ⟨c1, 0, none⟩ = some (ptr g)) (hc2 : w.cell? ⟨c2, 0, none⟩ = some (.int .i64 t)) :
    Calls Tryd.prog 44 #[va, .func (.func 37) #[] #[ptr c1, ptr c2]] w fun e w' => (∃ z : Int, e = .returned (.int .i64 z) ∧ Hid (decide (0 ≤ z) = xs.any (fun x => reachB n es x t))) ∧ Hid (Below w.heap.size w w') := by
  obtain ⟨ao, cap, rfl, hca⟩ := ha
  obtain ⟨m, hm⟩ : ∃ m, xs.length = m := ⟨_, rfl⟩
  have HM := hide_it hm
  have HA := hide_it hca
  have HG := hide_it h
  have HT := hide_it hT
  have l1 := World.block_lt_of_cell? w _ hc1
  have l2 := World.block_lt_of_cell? w _ hc2
  rw [hm] at hl ⊢
  clear hm hca h hT
  go_enter Tryd.func44, Tryd.ntmps44
  go_wp2
  go_loopw [8] (fun i W => Hid (Below w.heap.size w W) ∧ ∃ k : Nat, k ≤ m ∧ i = .int .i64 k ∧ Hid ((xs.take k).any (fun x => reachB n es x t) = false)) (fun i _ => m - (intOf i).toNat)
  case atStart => exact ⟨Below.refl _ _, 0, Nat.zero_le _, rfl, by simp [Hid]⟩
  case round =>
    obtain ⟨hBr, k, hk, rfl, HR⟩ := hrel
    by_cases hlt : k < m
    · have hlx : k < xs.length := by rw [HM.out]; exact hlt
      obtain ⟨r, rfl, hr, hcx⟩ := HA.out k hlx
      rw [← hBr.out.cell (p := ⟨r, k, none⟩) hr] at hcx
      have HX : Hid ((xs.take (k + 1)).any (fun x => reachB n es x t) = ((xs.take k).any (fun x => reachB n es x t) || reachB n es xs[k] t)) := by
        unfold Hid
        rw [List.take_succ_eq_append_getElem hlx, List.any_append]; simp
      have HB : Hid (reachB n es xs[k] t = true → xs.any (fun x => reachB n es x t) = true) := fun hb => List.any_eq_true.2 ⟨_, List.getElem_mem hlx, hb⟩
      have d1 : wr.cell? ⟨c1, 0, none⟩ = some (ptr g) := by rw [hBr.out.cell (p := ⟨c1, 0, none⟩) l1]; exact hc1
      have d2 : wr.cell? ⟨c2, 0, none⟩ = some (.int .i64 t) := by rw [hBr.out.cell (p := ⟨c2, 0, none⟩) l2]; exact hc2
      generalize xs[k] = z at *
      have hs := hBr.out.size
      have kk := back_any (HG.out.below hBr.out) (tab_below HT.out h0 hBr.out) (by omega) c1 c2 z t _ rfl d1 d2
      cases hz : reachB n es z t with
      | true =>
        rw [hz] at kk
        have HB' := hide_it (HB.out hz)
        clear hz HB HX hc1 hc2 d1 d2
        go_wp2_with (go_at_call 37; refine kk.mono ?_; rintro e w' ⟨rfl, hb⟩)
        go_ret
        exact ⟨⟨_, rfl, by unfold Hid; rw [HB'.out]; simp⟩, hBr.out.trans (hb.mono hs)⟩
      | false =>
        rw [hz] at kk
        have HX' : Hid ((xs.take (k + 1)).any (fun x => reachB n es x t) = false) := by unfold Hid; rw [HX.out, HR.out, hz]; rfl
        clear hz HB HX hc1 hc2 d1 d2
        go_wp2_with (go_at_call 37; refine kk.mono ?_; rintro e w' ⟨rfl, hb⟩)
        go_roundw
        case rel => exact ⟨hBr.out.trans (hb.mono hs), k + 1, by omega, by go_num, HX'⟩
        case measure => simp [intOf]; omega
    · clear hc1 hc2
      go_wp2
      go_ret
      have e := HR.out
      rw [List.take_of_length_le (by rw [HM.out]; omega)] at e
      exact ⟨⟨_, rfl, by unfold Hid; rw [e]; rfl⟩, hBr⟩
theorem backs_bool {w : World} {g eb n : Nat} {v va : Value} {es : List E} (h : GM w g eb n v es) (hT : Tab w) (h0 : 0 < w.heap.size) (c1 c2 : Nat) (t : Int) (xs : List Nat) (ha : IAt w va xs) (hl : xs.length ≤ 1000000)
    (hc1 : w.cell? ⟨c1, 0, none⟩ = some (ptr g)) (hc2 : w.cell? ⟨c2, 0, none⟩ = some (.int .i64 t)) (R : Bool) (hR : xs.any (fun x => reachB n es x t) = R) :
    Calls Tryd.prog 36 #[va, .func (.func 37) #[] #[ptr c1, ptr c2]] w fun e w' => e = .returned (.bool R) ∧ Hid (Below w.heap.size w w') := by
  have k := backs_any h hT h0 c1 c2 t xs ha hl hc1 hc2
  rw [hR] at k
  clear h hT ha hl hc1 hc2 hR
  go_enter Tryd.func36, Tryd.ntmps36
  go_wp2_with (go_at_call 44; refine k.mono ?_; rintro e w' ⟨⟨z, rfl, HZ⟩, HB⟩)
  go_ret
  exact ⟨ret_bool HZ.out, HB⟩

theorem on_eq {n : Nat} {es : List E} (hg : ∀ e ∈ es, e.1 < n ∧ e.2 < n) (t : Nat) (ht : t < n) : (outs es (t : Int)).any (fun x => reachB n es x t) = onB es t := by
  unfold onB
  have : ∀ x ∈ outs es (t : Int), reachB n es x t = rB es x t := by
    intro x hx
    have := (hg _ (mem_outs.1 hx)).2
    simp at this
    unfold reachB
    simp [offB]
    intro _
    omega
  rw [Bool.eq_iff_iff, List.any_eq_true, List.any_eq_true]
  constructor
  · rintro ⟨x, h1, h2⟩
    exact ⟨x, h1, by rw [← this x h1]; exact h2⟩
  · rintro ⟨x, h1, h2⟩
    exact ⟨x, h1, by rw [this x h1]; exact h2⟩

set_option maxRecDepth 1000000 in
set_option maxHeartbeats 4000000 in
theorem on_any {w : World} {g eb n : Nat} {v : Value} {es : List E} (h : GM w g eb n v es) (hT : Tab w) (h0 : 0 < w.heap.size) (hle : es.length ≤ 1000000) :
    Calls Tryd.prog 19 #[ptr g] w fun e w' => ∃ u, e = .returned u ∧ OwnI w' w.heap.size u (onL es n) ∧ Below w.heap.size w w' := by
  have hn := h.hn
  have HG := hide_it h
  have HT := hide_it hT
  have hmf : ∀ (fn : Fn) (first cap : Array Value) (w : World), (Instr.makeFunc fn first cap).run Tryd.prog w = .ok (.func fn first cap) w := fun _ _ _ _ => rfl
  obtain ⟨i0, hi, hz0, hz1, hz2⟩ := info_parts info3
  have hb0 : Below w.heap.size w (w.alloc (.cells #[ptr g] 24)) := (Below.refl _ _).alloc (Nat.le_refl _) _
  have kt := tasks_any g eb n (w.alloc (.cells #[ptr g] 24)) hn (h.below hb0).c1
  have cb : (w.alloc (.cells #[ptr g] 24)).cell? ⟨w.heap.size, 0, none⟩ = some (ptr g) := by simp
  have hs0 : (w.alloc (.cells #[ptr g] 24)).heap.size = w.heap.size + 1 := by simp
  have HB0 := hide_it hb0
  have HS0 := hide_it hs0
  have HCB := hide_it cb
  clear h hT hb0 hs0 cb
  go_enter Tryd.func19, Tryd.ntmps19
  go_wp2_with (go_at_call 29; refine kt.mono ?_; rintro e w' ⟨rfl, rfl⟩)
  go_loopw [3, 7] (fun u i W => Hid (Below w.heap.size w W) ∧ Hid (w.heap.size < W.heap.size) ∧ W.cell? ⟨w.heap.size, 0, none⟩ = some (ptr g) ∧ ∃ k : Nat, k ≤ n ∧ i = .int .i64 k ∧ Hid (OwnI W (w.heap.size + 1) u (onL es k))) (fun _ i _ => n - (intOf i).toNat)
  case atStart => exact ⟨HB0, by unfold Hid; rw [HS0.out]; omega, HCB.out, 0, Nat.zero_le _, rfl, owns_nil _ _⟩
  case round =>
    obtain ⟨hBr, hSr, hcr, k, hk, rfl, HO⟩ := hrel
    by_cases hlt : k < n
    · have hba : Below wr.heap.size wr (wr.alloc (.cells #[.int .i64 k] 3)) := (Below.refl _ _).alloc (Nat.le_refl _) _
      have ca : (wr.alloc (.cells #[.int .i64 k] 3)).cell? ⟨w.heap.size, 0, none⟩ = some (ptr g) := by rw [hba.cell (p := ⟨w.heap.size, 0, none⟩) hSr.out]; exact hcr
      have cb : (wr.alloc (.cells #[.int .i64 k] 3)).cell? ⟨wr.heap.size, 0, none⟩ = some (.int .i64 k) := by simp
      have HL : Hid (wr.heap.size < (wr.alloc (.cells #[.int .i64 k] 3)).heap.size) := by unfold Hid; simp
      have hB1 := hide_it (hBr.out.trans (hba.mono hBr.out.size))
      have HO1 := hide_it (owns_below HO.out hba)
      have hsz : w.heap.size ≤ wr.heap.size := hBr.out.size
      have hsz1 := hBr.out.size
      have HOL := hide_it (outs_len es (k : Int))
      have HON := hide_it (on_eq HG.out.good k hlt)
      have HTK := hide_it (onL_take es k)
      have hln := onL_len es k
      have hsz2 := hB1.out.size
      obtain ⟨W1, hW1⟩ : ∃ W1, wr.alloc (.cells #[.int .i64 k] 3) = W1 := ⟨_, rfl⟩
      have ko := out_any (HG.out.below hB1.out) (k : Int) hle
      have hSr2 : Hid (w.heap.size < (wr.alloc (.cells #[.int .i64 k] 3)).heap.size) := Nat.lt_of_lt_of_le hSr.out hba.size
      have kc : ∀ W2 u, Below (wr.alloc (.cells #[.int .i64 k] 3)).heap.size (wr.alloc (.cells #[.int .i64 k] 3)) W2 → OwnI W2 (wr.alloc (.cells #[.int .i64 k] 3)).heap.size u (outs es (k : Int)) → Calls Tryd.prog 36 #[u, .func (.func 37) #[] #[ptr w.heap.size, ptr wr.heap.size]] W2 fun e w' => e = .returned (.bool (onB es k)) ∧ Hid (Below W2.heap.size W2 w' ∧ w'.cell? ⟨wr.heap.size, 0, none⟩ = some (.int .i64 k)) := by
        intro W2 u hb2 ho2
        have hb3 := hB1.out.trans (hb2.mono hB1.out.size)
        have q2 : W2.cell? ⟨wr.heap.size, 0, none⟩ = some (.int .i64 k) := by rw [hb2.cell (p := ⟨wr.heap.size, 0, none⟩) HL.out]; exact cb
        refine (backs_bool (HG.out.below hb3) (tab_below HT.out h0 hb3) (Nat.lt_of_lt_of_le h0 hb3.size) w.heap.size wr.heap.size (k : Int) (outs es (k : Int)) (own_iat ho2) (Nat.le_trans HOL.out hle) (by rw [hb2.cell (p := ⟨w.heap.size, 0, none⟩) hSr2.out]; exact ca) q2 _ HON.out).mono ?_
        rintro e w' ⟨rfl, hb⟩
        refine ⟨rfl, hb.out, ?_⟩
        rw [hb.out.cell (p := ⟨wr.heap.size, 0, none⟩) (World.block_lt_of_cell? W2 _ q2)]
        exact q2
      rw [hW1] at ca cb HL hB1 HO1 ko hSr2 kc hsz2
      have HW := hide_it hW1
      clear hW1 hba hcr
      cases hon : onB es k with
      | true =>
        rw [hon] at kc HTK
        rw [if_pos rfl] at HTK
        clear hon HON
        go_wp2_with (first | (rw [HW.out]) | (go_at_call 24; refine ko.mono ?_; rintro e w5 ⟨u5, rfl, ho5, hb5⟩) | (go_at_call 36; refine (kc _ _ hb5 ho5).mono ?_; rintro e w6 ⟨rfl, h6⟩; have q6 := h6.out.2) | (at_builtin; (refine wpList_append_tell _ rfl (.tmp 15) (.tmp 17) 33 rfl (w.heap.size + 1) 3 i0 _ 1 8 Tryd.underlying33 hi hz0 hz1 hz2 rfl (by decide) _ (onL es k).length ((onL es k).map fun x => Value.int .i64 (x : Nat)) rfl ((owns_below (owns_below HO1.out hb5) h6.out.1).alloc _) ⟨_, 0, none⟩ 1 1 [.int .i64 k] rfl rfl (World.news_of_block (heap_alloc_at rfl _)) (by simp [Value.oneCell']) (by unfold maxLen; omega) (by omega) (by have := hb5.size; have := h6.out.1.size; have := hSr2.out; simp; omega) ?_; intro v' w2 hown' hgrow hfr)))
        go_roundw
        case rel =>
          have s5 := hb5.size
          have s6 := h6.out.1.size
          have sl := hSr2.out
          have hC : Below (w.heap.size + 1) W1 w2 := ((((hb5.mono (by omega)).trans (h6.out.1.mono (by omega))).alloc (by omega) _).grown hgrow (by simp; omega) (fun k hk => (HO1.out.lt k hk).1))
          refine ⟨hB1.out.trans (hC.mono (by omega)), ?_, ?_, k + 1, by omega, by go_num, ?_⟩
          · have := hC.size; unfold Hid; omega
          · rw [hC.cell (p := ⟨w.heap.size, 0, none⟩) (by show w.heap.size < w.heap.size + 1; omega)]; exact ca
          · unfold Hid
            rw [HTK.out]
            exact own_snoc hown'
        case measure => simp [intOf]; omega
      | false =>
        rw [hon] at kc HTK
        rw [if_neg Bool.false_ne_true] at HTK
        clear hon HON
        go_wp2_with (first | (rw [HW.out]) | (go_at_call 24; refine ko.mono ?_; rintro e w5 ⟨u5, rfl, ho5, hb5⟩) | (go_at_call 36; refine (kc _ _ hb5 ho5).mono ?_; rintro e w6 ⟨rfl, h6⟩; have q6 := h6.out.2))
        go_roundw
        case rel =>
          have s5 := hb5.size
          have s6 := h6.out.1.size
          have sl := hSr2.out
          have hC : Below (w.heap.size + 1) W1 w6 := (hb5.mono (by omega)).trans (h6.out.1.mono (by omega))
          refine ⟨hB1.out.trans (hC.mono (by omega)), ?_, ?_, k + 1, by omega, by go_num, ?_⟩
          · have := hC.size; unfold Hid; omega
          · rw [hC.cell (p := ⟨w.heap.size, 0, none⟩) (by show w.heap.size < w.heap.size + 1; omega)]; exact ca
          · unfold Hid
            rw [HTK.out]
            exact owns_below (owns_below HO1.out hb5) h6.out.1
        case measure => simp [intOf]; omega
    · go_wp2
      go_ret
      have e : n = k := by omega
      subst e
      exact ⟨_, rfl, owns_base HO.out (fun k hk => by have := (HO.out.lt k hk).1; omega), hBr.out⟩
end Go.Proofs.YtpbncoaonminoaaDoor
