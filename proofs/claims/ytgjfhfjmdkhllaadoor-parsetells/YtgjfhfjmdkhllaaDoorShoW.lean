/- What the statements' own look 'shown' answers: true (the walk). -/
import Derived.Test.YtgjfhfjmdkhllaaDoorShow
import Derived.WalkSmall
namespace Go.Proofs.YtgjfhfjmdkhllaaDoor
open Go.RowKit
open M
set_option linter.unusedVariables false
set_option linter.unusedSimpArgs false

theorem s_one : ((⟨headL.toArray⟩ : ByteArray) ++ ⟨#[116, 97, 115, 107, 32, 49, 32, 50, 10, 115, 117, 98, 109, 105, 116, 32, 48, 32, 49, 32, 51, 10, 97, 110, 115, 119, 101, 114, 32, 48, 32, 49, 32, 110, 101, 101, 100, 32, 52, 10]⟩) = ⟨(headL ++ tail1).toArray⟩ := ba_app headL tail1
theorem s_two : ((⟨headL.toArray⟩ : ByteArray) ++ ⟨#[10, 99, 97, 110, 99, 101, 108, 32, 48, 32, 48]⟩) = ⟨(headL ++ tail2).toArray⟩ := ba_app headL tail2
theorem l_one : ((⟨headL.toArray⟩ : ByteArray) ++ ⟨#[116, 97, 115, 107, 32, 49, 32, 50, 10, 115, 117, 98, 109, 105, 116, 32, 48, 32, 49, 32, 51, 10, 97, 110, 115, 119, 101, 114, 32, 48, 32, 49, 32, 110, 101, 101, 100, 32, 52, 10]⟩).toList = headL ++ tail1 := by rw [s_one, ByteArray.toList_eq]
theorem len_head : headL.length = 98 := by decide +kernel
theorem len_one : (headL ++ tail1).length ≤ 1000000 := by decide +kernel
theorem len_two : (headL ++ tail2).length ≤ 1000000 := by decide +kernel

set_option maxRecDepth 1000000 in
set_option maxHeartbeats 4000000 in
theorem shown_any (w : World) (hT : Tabs w) : Calls Tryd.prog 9 #[] w fun e w' => e = .returned (.bool true) ∧ Below w.heap.size w w' := by
  obtain ⟨cap1, w1, hcv1, hby1, hc1, hm1, hb1⟩ := conv_bytes w _ _ s_one len_one
  have k1 := parse_first (some ⟨w.heap.size, 0, none⟩) cap1 w1 (hT.on hb1 hT.big) hc1 hm1 hby1
  have HB1 : Hid (Below w.heap.size w w1) := hb1
  have HM1 : Hid (cap1 ≤ maxLen) := hm1
  clear hb1 hby1 hm1
  generalize hn1 : (headL ++ tail1).length = n1 at *
  have HT : Hid (Tabs w) := hT
  clear hT hn1
  go_enter Tryd.func9, Tryd.ntmps9
  go_wp2_with (first | (go_at_call 16; refine (head_any _).mono ?_; rintro e W ⟨rfl, hW⟩; rw [hW]; clear hW) | (go_at_call 10; refine k1.mono ?_; rintro e w2 ⟨tg, tc, og, oc, rfl, hti, hoi, hb2⟩; refine Hid.out ?_))
  have HB2 : Hid (Below w.heap.size w w2) := HB1.out.trans (hb2.mono HB1.out.size)
  have hT2 : Tabs w2 := HT.out.on HB2.out HT.out.big
  have hs2 := HB2.out.size
  obtain ⟨cap2, w3, hcv2, hby2, hc2, hm2, hb3⟩ := conv_bytes (w2.alloc (.cells #[.int .i64 10, .int .i64 2, .int .i64 3, .int .i64 4, .int .i64 2, .int .i64 1, .int .i64 5, .int .i64 2, .int .i64 8, .int .i64 7, .slice (some ⟨tg, 0, none⟩) 1 tc, .slice (some ⟨og, 0, none⟩) 2 oc] 29)) _ _ s_two len_two
  have k2 := parse_bad _ cap2 _ w3 ((hT2.alloc _).on hb3 (hT2.alloc _).big) hc2 hm2 hby2 3 2 parse_2
  have e29 : w3.heap[w2.heap.size]? = some (.cells #[.int .i64 10, .int .i64 2, .int .i64 3, .int .i64 4, .int .i64 2, .int .i64 1, .int .i64 5, .int .i64 2, .int .i64 8, .int .i64 7, .slice (some ⟨tg, 0, none⟩) 1 tc, .slice (some ⟨og, 0, none⟩) 2 oc] 29 (0, 0)) := by rw [hb3.block _ (by simp)]; exact heap_alloc_new w2 _
  have HT3 : Hid (Tabs w3) := (hT2.alloc _).on hb3 (hT2.alloc _).big
  have hsz : (w2.alloc (.cells #[.int .i64 10, .int .i64 2, .int .i64 3, .int .i64 4, .int .i64 2, .int .i64 1, .int .i64 5, .int .i64 2, .int .i64 8, .int .i64 7, .slice (some ⟨tg, 0, none⟩) 1 tc, .slice (some ⟨og, 0, none⟩) 2 oc] 29)).heap.size = w2.heap.size + 1 := by simp
  rw [hsz] at hcv2 k2 hb3
  have HB3 : Hid (Below w2.heap.size w2 w3) := ((Below.refl _ _).alloc (Nat.le_refl _) _).trans (hb3.mono (by omega))
  have hs3 := HB3.out.size
  have hs3' := hb3.size
  simp at hs3'
  have E29 : Hid (w3.heap[w2.heap.size]? = some (.cells #[.int .i64 10, .int .i64 2, .int .i64 3, .int .i64 4, .int .i64 2, .int .i64 1, .int .i64 5, .int .i64 2, .int .i64 8, .int .i64 7, .slice (some ⟨tg, 0, none⟩) 1 tc, .slice (some ⟨og, 0, none⟩) 2 oc] 29 (0, 0))) := e29
  generalize hn2 : (headL ++ tail2).length = n2 at *
  clear hb2 hT2 hb3 hby2 hm2 e29 hsz hn2 k1 hcv1 HB1 HM1
  refine hide_it ?_
  go_wp2_with (first | (go_at_call 16; refine (head_any _).mono ?_; rintro e W ⟨rfl, hW⟩; rw [hW]; clear hW) | (go_at_call 10; refine k2.mono ?_; rintro e w4 ⟨ta, tc2, oa, oc2, rfl, hb4⟩; refine Hid.out ?_))
  have E4 : Hid (w4.heap[w2.heap.size]? = some (.cells #[.int .i64 10, .int .i64 2, .int .i64 3, .int .i64 4, .int .i64 2, .int .i64 1, .int .i64 5, .int .i64 2, .int .i64 8, .int .i64 7, .slice (some ⟨tg, 0, none⟩) 1 tc, .slice (some ⟨og, 0, none⟩) 2 oc] 29 (0, 0))) := by show _ = _; rw [hb4.block _ (by omega)]; exact E29.out
  have HB4 : Hid (Below w2.heap.size w2 w4) := HB3.out.trans (hb4.mono hs3)
  have HT4 : Hid (Tabs w4) := HT3.out.on hb4 HT3.out.big
  have hs4 := hb4.size
  have k3 : ∀ ob : Obj, Calls Tryd.prog 10 #[.slice none 0 0] (w4.alloc ob) fun e w' => ∃ ta tc oa oc, e = .returned (.tuple #[.agg #[.int .i64 0, .int .i64 0, .int .i64 0, .int .i64 0, .int .i64 0, .int .i64 0, .int .i64 0, .int .i64 0, .int .i64 0, .int .i64 0, .slice ta 0 tc, .slice oa 0 oc], .int .i64 0, .int .i64 2]) ∧ Below w4.heap.size w4 w' := fun ob => by
    refine (parse_bad none 0 [] (w4.alloc ob) (HT4.out.alloc _) (by simp) (by unfold maxLen; omega) (fun i hi => by simp at hi) 0 2 parse_3).mono ?_
    rintro e w' ⟨a1, a2, a3, a4, rfl, h⟩
    exact ⟨a1, a2, a3, a4, rfl, ((Below.refl _ _).alloc (Nat.le_refl _) _).trans (h.mono (by simp))⟩
  clear k2 hcv2 hb4
  refine hide_it ?_
  go_wp2_with (go_at_call 10; refine (k3 _).mono ?_; rintro e w5 ⟨ta3, tc3, oa3, oc3, rfl, hb5⟩; refine Hid.out ?_)
  have hs5 := hb5.size
  obtain ⟨w6, hw6⟩ : ∃ w6, w6 = w5.alloc (.cells #[.int .i64 0, .int .i64 0, .int .i64 0, .int .i64 0, .int .i64 0, .int .i64 0, .int .i64 0, .int .i64 0, .int .i64 0, .int .i64 0, .slice ta3 0 tc3, .slice oa3 0 oc3] 29) := ⟨_, rfl⟩
  have hb6 : Below w5.heap.size w5 w6 := by rw [hw6]; exact (Below.refl _ _).alloc (Nat.le_refl _) _
  have E6 : w6.heap[w2.heap.size]? = some (.cells #[.int .i64 10, .int .i64 2, .int .i64 3, .int .i64 4, .int .i64 2, .int .i64 1, .int .i64 5, .int .i64 2, .int .i64 8, .int .i64 7, .slice (some ⟨tg, 0, none⟩) 1 tc, .slice (some ⟨og, 0, none⟩) 2 oc] 29 (0, 0)) := by rw [hb6.block _ (by omega), hb5.block _ (by omega)]; exact E4.out
  have HB6 : Below w2.heap.size w2 w6 := (HB4.out.trans (hb5.mono (by omega))).trans (hb6.mono (by omega))
  have hT6 : Tabs w6 := HT4.out.on (hb5.trans (hb6.mono hs5)) HT4.out.big
  have kT := text_good 10 2 3 4 2 1 5 2 8 7 file1 rfl (some ⟨tg, 0, none⟩) (some ⟨og, 0, none⟩) tc oc w6 hT6 (hti.out.below HB6 (Nat.le_refl _)) (hoi.out.below HB6 (Nat.le_refl _)) (by decide) (by decide) _ text_1
  have kT2 : Calls Tryd.prog 14 #[.agg #[.int .i64 10, .int .i64 2, .int .i64 3, .int .i64 4, .int .i64 2, .int .i64 1, .int .i64 5, .int .i64 2, .int .i64 8, .int .i64 7, .slice (some ⟨tg, 0, none⟩) 1 tc, .slice (some ⟨og, 0, none⟩) 2 oc]] w6 fun e w' => e = .returned (.tuple #[strV (headL ++ tail1), .int .i64 0]) ∧ Below w6.heap.size w6 w' := kT
  have HTI : Hid (TasksIn w6 (some ⟨tg, 0, none⟩) [(1, 2)]) := hti.out.below HB6 (Nat.le_refl _)
  have HOI : Hid (OpsIn w6 (some ⟨og, 0, none⟩) [⟨1, 0, 1, 3, 0⟩, ⟨5, 0, 1, 3, 4⟩]) := hoi.out.below HB6 (Nat.le_refl _)
  obtain ⟨a0, a1, a2, a3, a4, a5, a6, a7, a8, a9, a10, a11, _⟩ := cells12 E6
  have HB7 : Hid (Below w.heap.size w w6) := HB2.out.trans (HB6.mono hs2)
  have kT3 : Calls Tryd.prog 14 #[.agg #[.int .i64 10, .int .i64 2, .int .i64 3, .int .i64 4, .int .i64 2, .int .i64 1, .int .i64 5, .int .i64 2, .int .i64 8, .int .i64 7, .slice (some ⟨tg, 0, none⟩) 1 tc, .slice (some ⟨og, 0, none⟩) 2 oc]] w6 fun e w7 => e = .returned (.tuple #[strV (headL ++ tail1), .int .i64 0]) ∧ Hid (Below w.heap.size w w7) ∧ w7.cell? ⟨w2.heap.size, 9, none⟩ = some (.int .i64 7) ∧ w7.cell? ⟨w2.heap.size, 10, none⟩ = some (.slice (some ⟨tg, 0, none⟩) 1 tc) ∧ w7.cell? ⟨w2.heap.size, 11, none⟩ = some (.slice (some ⟨og, 0, none⟩) 2 oc) ∧ w7.cell? ⟨tg, 1, none⟩ = some (.int .i64 2) ∧ w7.cell? ⟨og, 0, none⟩ = some (.int .i64 1) ∧ w7.cell? ⟨og, 3, none⟩ = some (.int .i64 3) ∧ w7.cell? ⟨og, 8, none⟩ = some (.int .i64 3) ∧ w7.cell? ⟨og, 9, none⟩ = some (.int .i64 4) := by
    refine kT2.mono ?_
    rintro e w7 ⟨rfl, hb7⟩
    have E7 : w7.heap[w2.heap.size]? = some (.cells #[.int .i64 10, .int .i64 2, .int .i64 3, .int .i64 4, .int .i64 2, .int .i64 1, .int .i64 5, .int .i64 2, .int .i64 8, .int .i64 7, .slice (some ⟨tg, 0, none⟩) 1 tc, .slice (some ⟨og, 0, none⟩) 2 oc] 29 (0, 0)) := by rw [hb7.block _ (block_lt E6)]; exact E6
    obtain ⟨_, _, _, _, _, _, _, _, _, b9, b10, b11, _⟩ := cells12 E7
    obtain ⟨_, _, h1, _, _, t2⟩ := (HTI.out.below hb7 (Nat.le_refl _)) 0 (by decide)
    cases h1
    obtain ⟨_, _, h1, _, o1, _, _, o2, _⟩ := (HOI.out.below hb7 (Nat.le_refl _)) 0 (by decide)
    cases h1
    obtain ⟨_, _, h1, _, _, _, _, o3, o4⟩ := (HOI.out.below hb7 (Nat.le_refl _)) 1 (by decide)
    cases h1
    exact ⟨rfl, HB7.out.trans (hb7.mono HB7.out.size), b9, b10, b11, t2, o1, o2, o3, o4⟩
  clear hb5 hb6 E6 HB6 hT6 kT kT2 HTI HOI HB7 k3 E4 HB4 HT4 hti hoi E29 HB3 HT3
  subst hw6
  refine hide_it ?_
  go_wp2_with (first | (go_at_call 14; refine kT3.mono ?_; rintro e w7 ⟨rfl, hB7, p9, p10, p11, q1, q2, q3, q4, q5⟩) | (go_at_call 16; refine (head_any _).mono ?_; rintro e W ⟨rfl, hW⟩; rw [hW]; clear hW))
  all_goals first
    | (go_ret; exact ⟨ret_bool (by rw [l_one]; exact beq_self_eq_true _), hB7.out⟩)
    | (exfalso; have := len_head; omega)

end Go.Proofs.YtgjfhfjmdkhllaaDoor
