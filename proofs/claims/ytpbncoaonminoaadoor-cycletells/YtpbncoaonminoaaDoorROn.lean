/- The document's On. -/
import Derived.Test.YtpbncoaonminoaaDoorRPa
import Derived.Test.YtpbncoaonminoaaDoorCyO
namespace Go.Proofs.YtpbncoaonminoaaDoor
open Go.RowKit
open M
set_option linter.unusedVariables false
set_option linter.unusedSimpArgs false

theorem rreach_in2 {w : World} {r n : Nat} {v : Value} {es : List E} (h : RM w r n v es) (hn : n ≤ 64) (hg : ∀ e ∈ es, e.1 < n ∧ e.2 < n) (hle : es.length ≤ 1000000) (x y : Nat) (hx : x < n) (hy : y < n) :
    Calls Tryd.prog 38 #[ptr r, .int .i64 x, .int .i64 y] w fun e w' => e = .returned (.bool (rB es x y)) ∧ Below w.heap.size w w' := by
  refine (rreaches_any h hn (x : Int) (y : Int) hg hle).mono ?_
  rintro e w' ⟨rfl, hb⟩
  refine ⟨ret_bool ?_, hb⟩
  rw [anyI_reach hn hg _ _ (by simp [offB]; omega)]
  unfold reachB
  have : [(x : Int), (y : Int)].any (offB n) = false := by simp [offB]; omega
  rw [this]
  simp

set_option maxRecDepth 1000000 in
set_option maxHeartbeats 8000000 in
theorem ron_any {w : World} {r n : Nat} {v : Value} {es : List E} (h : RM w r n v es) (hn : n ≤ 64) (hg : ∀ e ∈ es, e.1 < n ∧ e.2 < n) (hle : es.length ≤ 1000000) :
    Calls Tryd.prog 20 #[ptr r] w fun e w' => ∃ u, e = .returned u ∧ OwnI w' w.heap.size u (onL es n) ∧ Below w.heap.size w w' := by
  obtain ⟨i0, hi, hz0, hz1, hz2⟩ := info_parts info3
  have HG := hide_it hg
  have HR := hide_it h
  have HN := hide_it (own_new w)
  have HB0 := hide_it ((Below.refl w.heap.size w).alloc (Nat.le_refl _) (.cells #[] 3))
  clear h hg
  go_enter Tryd.func20, Tryd.ntmps20
  go_wp2
  go_loopw [3, 4] (fun u i W => ∃ k : Nat, k ≤ n ∧ i = .int .i64 k ∧ Hid (OwnI W w.heap.size u (onL es k)) ∧ Hid (Below w.heap.size w W)) (fun _ i _ => n - (intOf i).toNat)
  case atStart => exact ⟨0, Nat.zero_le _, rfl, HN, HB0⟩
  case round =>
    obtain ⟨k, hk, rfl, HO, HB⟩ := hrel
    clear HN HB0
    have c0 := (HR.out.below HB.out).c0
    have hs := HB.out.size
    by_cases hlt : k < n
    · have ko := rout_any (HR.out.below HB.out) (k : Int) hle
      obtain ⟨L, hL⟩ : ∃ L, outs es (k : Int) = L := ⟨_, rfl⟩
      have HLm : Hid (∀ y ∈ L, y < n) := fun y hy => by
        rw [← hL] at hy
        exact (HG.out _ (mem_outs.1 hy)).2
      have hLl : L.length ≤ 1000000 := by rw [← hL]; exact Nat.le_trans (outs_len es (k : Int)) hle
      have HTK := hide_it (onL_take es k)
      have hln := onL_len es k
      have HON : Hid (onB es k = L.any (fun x => rB es x k)) := by rw [← hL]; rfl
      rw [hL] at ko
      clear hL
      go_wp2_with (go_at_call 35; refine ko.mono ?_; rintro e w3 ⟨u3, rfl, ho3, hb3⟩; have HO3 := hide_it (owns_base (base' := w.heap.size) ho3 (fun q hq => by have := (ho3.lt q hq).1; omega)); obtain ⟨ao3, cap3, rfl, _⟩ := own_iat ho3; clear ho3)
      have HO4 := hide_it (owns_below HO.out hb3)
      have HB4 := hide_it (HB.out.trans (hb3.mono hs))
      clear ko HO HB hb3 c0
      go_loopw [6, 7] (fun on i W => ∃ j : Nat, j ≤ L.length ∧ i = .int .i64 j ∧ on = .bool ((L.take j).any (fun x => rB es x k)) ∧ Hid (OwnI W w.heap.size u3 (onL es k)) ∧ Hid (OwnI W w.heap.size (.slice ao3 L.length cap3) L) ∧ Hid (Below w.heap.size w W)) (fun _ i _ => L.length - (intOf i).toNat)
      case atStart => exact ⟨0, Nat.zero_le _, rfl, by simp, HO4, HO3, HB4⟩
      case round =>
        obtain ⟨j, hj, rfl, rfl, HO5, HL5, HB5⟩ := hrel
        clear HO4 HO3 HB4
        have hs5 := HB5.out.size
        by_cases hjl : j < L.length
        · obtain ⟨rb, rfl, hrb, c1⟩ := (own_at HL5.out).2 j hjl
          have hy := HLm.out _ (List.getElem_mem hjl)
          have kr := rreach_in2 (HR.out.below HB5.out) hn HG.out hle L[j] k hy hlt
          have HST : Hid ((L.take (j + 1)).any (fun x => rB es x k) = ((L.take j).any (fun x => rB es x k) || rB es L[j] k)) := by
            unfold Hid
            rw [List.take_succ_eq_append_getElem hjl, List.any_append]
            simp
          generalize L[j] = z at *
          generalize rB es z k = bz at *
          cases hon : (L.take j).any (fun x => rB es x k) with
          | true =>
            rw [hon] at HST
            clear hon
            go_wp2_with (go_at_call 38; refine kr.mono ?_; rintro e w6 ⟨rfl, hb6⟩)
            go_roundw
            case rel => exact ⟨j + 1, by omega, by go_num, by rw [HST.out]; rfl, owns_below HO5.out hb6, owns_below HL5.out hb6, HB5.out.trans (hb6.mono hs5)⟩
            case measure => simp [intOf]; omega
          | false =>
            rw [hon] at HST
            clear hon
            go_wp2_with (go_at_call 38; refine kr.mono ?_; rintro e w6 ⟨rfl, hb6⟩)
            go_roundw
            case rel => exact ⟨j + 1, by omega, by go_num, by rw [HST.out]; rfl, owns_below HO5.out hb6, owns_below HL5.out hb6, HB5.out.trans (hb6.mono hs5)⟩
            case measure => simp [intOf]; omega
        · have e1 : (L.take j).any (fun x => rB es x k) = onB es k := by rw [List.take_of_length_le (by omega)]; exact HON.out.symm
          rw [e1]
          clear e1
          cases hon : onB es k with
          | true =>
            rw [hon] at HTK
            rw [if_pos rfl] at HTK
            clear hon HON
            go_wp2_with (at_builtin; (refine wpList_append_tell _ rfl (.tmp 39) (.tmp 41) 33 rfl w.heap.size 3 i0 _ 1 8 Tryd.underlying33 hi hz0 hz1 hz2 rfl (by decide) _ (onL es k).length ((onL es k).map fun x => Value.int .i64 (x : Nat)) rfl (HO5.out.alloc _) ⟨_, 0, none⟩ 1 1 [.int .i64 k] rfl rfl (World.news_of_block (heap_alloc_at rfl _)) (by simp [Value.oneCell']) (by unfold maxLen; omega) (by omega) (by simp; omega) ?_; intro v' w2 hown' hgrow hfr))
            go_roundw
            case rel => exact ⟨k + 1, by omega, by go_num, by unfold Hid; rw [HTK.out]; exact own_snoc hown', (HB5.out.alloc (by omega) _).grown hgrow (by simp; omega) (fun q hq => (HO5.out.lt q hq).1)⟩
            case measure => simp [intOf]; omega
          | false =>
            rw [hon] at HTK
            rw [if_neg Bool.false_ne_true] at HTK
            clear hon HON
            go_wp2
            go_roundw
            case rel => exact ⟨k + 1, by omega, by go_num, by unfold Hid; rw [HTK.out]; exact HO5.out, HB5⟩
            case measure => simp [intOf]; omega
    · obtain rfl : k = n := by omega
      go_wp2
      go_ret
      exact ⟨_, rfl, HO.out, HB.out⟩
end Go.Proofs.YtpbncoaonminoaaDoor
