/- What Name, form, numbers and op of the document's own Parse answer. -/
import Derived.Test.YtgjfhfjmdkhllaaDoorRefM
import Derived.Test.YtgjfhfjmdkhllaaDoorRefC
import Derived.Test.YtgjfhfjmdkhllaaDoorNam
import Derived.Deep.RegionHeld
import Derived.BigRegion
import Derived.BigQuiet
namespace Go.Proofs.YtgjfhfjmdkhllaaDoor
open Go.RowKit
open M
set_option linter.unusedVariables false
set_option linter.unusedSimpArgs false

/-- The first words of a config's form. -/
def cfgW (k : Nat) : List (List UInt8) := [99, 111, 110, 102, 105, 103] :: (names.take k).flatMap (fun x => [x, [78]])
theorem cfgW_len (k : Nat) (hk : k ≤ 10) : (cfgW k).length = 1 + 2 * k := by
  have : k = 0 ∨ k = 1 ∨ k = 2 ∨ k = 3 ∨ k = 4 ∨ k = 5 ∨ k = 6 ∨ k = 7 ∨ k = 8 ∨ k = 9 ∨ k = 10 := by omega
  rcases this with rfl | rfl | rfl | rfl | rfl | rfl | rfl | rfl | rfl | rfl | rfl <;> rfl
theorem cfgW_snoc (k : Nat) (hk : k < 10) : cfgW (k + 1) = cfgW k ++ [names[k]'(by exact hk), [78]] := by
  have : k = 0 ∨ k = 1 ∨ k = 2 ∨ k = 3 ∨ k = 4 ∨ k = 5 ∨ k = 6 ∨ k = 7 ∨ k = 8 ∨ k = 9 := by omega
  rcases this with rfl | rfl | rfl | rfl | rfl | rfl | rfl | rfl | rfl | rfl <;> rfl
theorem cfgW_ten : cfgW 10 = words forms[0] := by kernel_rfl

set_option maxRecDepth 1000000 in
set_option maxHeartbeats 4000000 in
theorem form_config (fourth : List UInt8) (w : World) :
    Calls Tryd.prog 33 #[strV wConfig, strV fourth] w fun e w' => ∃ v, e = .returned v ∧ w'.ownsRow w.heap.size 9 1 v (words forms[0]).length ((words forms[0]).map strV) ∧ Below w.heap.size w w' := by
  obtain ⟨i9, hi9, hy0, hy1, hy2⟩ := info_parts info9
  unfold wConfig
  go_enter Tryd.func33, Tryd.ntmps33
  go_wp2
  go_loopw [5, 6] (fun v i wr => ∃ k : Nat, i = .int .i64 k ∧ k ≤ 10 ∧ Hid (wr.ownsRow w.heap.size 9 1 v (1 + 2 * k) ((cfgW k).map strV)) ∧ Below w.heap.size w wr) (fun _ i _ => 10 - (intOf i).toNat)
  case atStart => exact ⟨0, rfl, by omega, own_made (w := w) (base := w.heap.size) (e := 9) [strV [99, 111, 110, 102, 105, 103]] (Nat.le_refl _) (by unfold maxLen; decide), (Below.refl _ _).alloc (Nat.le_refl _) _⟩
  case round =>
    obtain ⟨k, rfl, hk, hon, hbr⟩ := hrel
    have hsz := hbr.size
    by_cases hlt : k < 10
    · have kn := name_any k hlt wr
      have HS : Hid (cfgW (k + 1) = cfgW k ++ [names[k]'(by exact hlt), [78]]) := cfgW_snoc k hlt
      generalize names[k]'(by exact hlt) = nm at *
      go_wp2_with (first | (go_at_call 24; refine kn.mono ?_; rintro e w5 ⟨rfl, hb5⟩; have hs5 := hb5.size; have ho5 := ownsRow_later hon.out hb5) | (at_builtin; refine wpList_append_own _ rfl (.tmp 15) (.tmp 18) 49 rfl w.heap.size 9 i9 _ 1 16 Tryd.underlying49 hi9 hy0 hy1 hy2 rfl (by decide) _ _ _ rfl (ho5.alloc _) ⟨w5.heap.size, 0, none⟩ 2 2 [strV nm, strV [78]] rfl rfl (World.news_of_block (heap_alloc_new w5 _)) (by intro u hu; simp at hu; rcases hu with rfl | rfl <;> rfl) (by unfold maxLen; omega) (by omega) (by simp; omega) ?_; intro v6 w6 ho6 hg6 _))
      go_roundw
      case rel =>
        refine ⟨k + 1, by go_num, by omega, ?_, (((hbr.trans (hb5.mono hsz)).alloc (by omega) _)).grown hg6 (by simp; omega) (fun q hq => (ho5.lt q hq).1)⟩
        show w6.ownsRow _ _ _ _ _ _
        rw [HS.out, List.map_append]
        exact ho6
      case measure => simp [intOf]; omega
    · have hke : k = 10 := by omega
      subst hke
      go_wp2
      go_ret
      refine ⟨_, rfl, ?_, hbr⟩
      have := hon.out
      rw [cfgW_ten] at this
      exact this

set_option maxRecDepth 1000000 in
set_option maxHeartbeats 4000000 in
theorem form_any (first fourth : List UInt8) (w : World) (m : Fm) (hm : refFm first fourth = m) :
    Calls Tryd.prog 33 #[strV first, strV fourth] w fun e w' => ∃ v, e = .returned v ∧ w'.ownsRow w.heap.size 9 1 v (words m).length ((words m).map strV) ∧ Below w.heap.size w w' := by
  unfold refFm at hm
  by_cases h_config : first = wConfig
  · subst h_config
    rw [if_pos rfl] at hm
    subst hm
    exact form_config fourth w
  · rw [if_neg h_config] at hm
    have d_config : (first == [99, 111, 110, 102, 105, 103]) = false := beq_eq_false_iff_ne.2 h_config
    clear h_config
    by_cases h_task : first = wTask
    · subst h_task
      rw [if_pos rfl] at hm
      subst hm
      unfold wTask
      go_enter Tryd.func33, Tryd.ntmps33
      go_wp2
      go_ret
      exact ⟨_, rfl, own_made (w := w) (base := w.heap.size) (e := 9) ((words forms[1]).map strV) (Nat.le_refl _) (by unfold maxLen; decide +kernel), (Below.refl _ _).alloc (Nat.le_refl _) _⟩
    · rw [if_neg h_task] at hm
      have d_task : (first == [116, 97, 115, 107]) = false := beq_eq_false_iff_ne.2 h_task
      clear h_task
      by_cases h_submit : first = wSubmit
      · subst h_submit
        rw [if_pos rfl] at hm
        subst hm
        unfold wSubmit
        go_enter Tryd.func33, Tryd.ntmps33
        go_wp2
        go_ret
        exact ⟨_, rfl, own_made (w := w) (base := w.heap.size) (e := 9) ((words forms[2]).map strV) (Nat.le_refl _) (by unfold maxLen; decide +kernel), (Below.refl _ _).alloc (Nat.le_refl _) _⟩
      · rw [if_neg h_submit] at hm
        have d_submit : (first == [115, 117, 98, 109, 105, 116]) = false := beq_eq_false_iff_ne.2 h_submit
        clear h_submit
        by_cases h_cancel : first = wCancel
        · subst h_cancel
          rw [if_pos rfl] at hm
          subst hm
          unfold wCancel
          go_enter Tryd.func33, Tryd.ntmps33
          go_wp2
          go_ret
          exact ⟨_, rfl, own_made (w := w) (base := w.heap.size) (e := 9) ((words forms[3]).map strV) (Nat.le_refl _) (by unfold maxLen; decide +kernel), (Below.refl _ _).alloc (Nat.le_refl _) _⟩
        · rw [if_neg h_cancel] at hm
          have d_cancel : (first == [99, 97, 110, 99, 101, 108]) = false := beq_eq_false_iff_ne.2 h_cancel
          clear h_cancel
          by_cases h_query : first = wQuery
          · subst h_query
            rw [if_pos rfl] at hm
            subst hm
            unfold wQuery
            go_enter Tryd.func33, Tryd.ntmps33
            go_wp2
            go_ret
            exact ⟨_, rfl, own_made (w := w) (base := w.heap.size) (e := 9) ((words forms[9]).map strV) (Nat.le_refl _) (by unfold maxLen; decide +kernel), (Below.refl _ _).alloc (Nat.le_refl _) _⟩
          · rw [if_neg h_query] at hm
            have d_query : (first == [113, 117, 101, 114, 121]) = false := beq_eq_false_iff_ne.2 h_query
            clear h_query
            by_cases h_tick : first = wTick
            · subst h_tick
              rw [if_pos rfl] at hm
              subst hm
              unfold wTick
              go_enter Tryd.func33, Tryd.ntmps33
              go_wp2
              go_ret
              exact ⟨_, rfl, own_made (w := w) (base := w.heap.size) (e := 9) ((words forms[4]).map strV) (Nat.le_refl _) (by unfold maxLen; decide +kernel), (Below.refl _ _).alloc (Nat.le_refl _) _⟩
            · rw [if_neg h_tick] at hm
              have d_tick : (first == [116, 105, 99, 107]) = false := beq_eq_false_iff_ne.2 h_tick
              clear h_tick
              by_cases h_dispatch : first = wDispatch
              · subst h_dispatch
                rw [if_pos rfl] at hm
                subst hm
                unfold wDispatch
                go_enter Tryd.func33, Tryd.ntmps33
                go_wp2
                go_ret
                exact ⟨_, rfl, own_made (w := w) (base := w.heap.size) (e := 9) ((words forms[5]).map strV) (Nat.le_refl _) (by unfold maxLen; decide +kernel), (Below.refl _ _).alloc (Nat.le_refl _) _⟩
              · rw [if_neg h_dispatch] at hm
                have d_dispatch : (first == [100, 105, 115, 112, 97, 116, 99, 104]) = false := beq_eq_false_iff_ne.2 h_dispatch
                clear h_dispatch
                by_cases h_answer : first = wAnswer
                · subst h_answer
                  rw [if_pos rfl] at hm
                  unfold wAnswer
                  by_cases h_need : fourth = wNeed
                  · subst h_need
                    rw [if_pos rfl] at hm
                    subst hm
                    unfold wNeed
                    go_enter Tryd.func33, Tryd.ntmps33
                    go_wp2
                    go_ret
                    exact ⟨_, rfl, own_made (w := w) (base := w.heap.size) (e := 9) ((words forms[8]).map strV) (Nat.le_refl _) (by unfold maxLen; decide +kernel), (Below.refl _ _).alloc (Nat.le_refl _) _⟩
                  · rw [if_neg h_need] at hm
                    have d_need : (fourth == [110, 101, 101, 100]) = false := beq_eq_false_iff_ne.2 h_need
                    by_cases h_fail : fourth = wFail
                    · subst h_fail
                      rw [if_pos rfl] at hm
                      subst hm
                      clear d_need h_need
                      unfold wFail
                      go_enter Tryd.func33, Tryd.ntmps33
                      go_wp2
                      go_ret
                      exact ⟨_, rfl, own_made (w := w) (base := w.heap.size) (e := 9) ((words forms[7]).map strV) (Nat.le_refl _) (by unfold maxLen; decide +kernel), (Below.refl _ _).alloc (Nat.le_refl _) _⟩
                    · rw [if_neg h_fail] at hm
                      subst hm
                      have d_fail : (fourth == [102, 97, 105, 108]) = false := beq_eq_false_iff_ne.2 h_fail
                      clear h_need h_fail
                      go_enter Tryd.func33, Tryd.ntmps33
                      go_wp2
                      go_ret
                      exact ⟨_, rfl, own_made (w := w) (base := w.heap.size) (e := 9) ((words forms[6]).map strV) (Nat.le_refl _) (by unfold maxLen; decide +kernel), (Below.refl _ _).alloc (Nat.le_refl _) _⟩
                · rw [if_neg h_answer] at hm
                  have d_answer : (first == [97, 110, 115, 119, 101, 114]) = false := beq_eq_false_iff_ne.2 h_answer
                  clear h_answer
                  subst hm
                  go_enter Tryd.func33, Tryd.ntmps33
                  go_wp2
                  go_ret
                  exact ⟨_, rfl, World.ownsRow_nil _ _ _ _, Below.refl _ _⟩

end Go.Proofs.YtgjfhfjmdkhllaaDoor
