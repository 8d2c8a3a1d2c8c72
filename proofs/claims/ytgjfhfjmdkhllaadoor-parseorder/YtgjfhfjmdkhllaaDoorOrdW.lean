/- ParseOrder: the walk. -/
import Derived.Test.YtgjfhfjmdkhllaaDoorFew
import Derived.Test.YtgjfhfjmdkhllaaDoorOrdM
namespace Go.Proofs.YtgjfhfjmdkhllaaDoor
open Go.RowKit
open M
set_option linter.unusedVariables false
set_option linter.unusedSimpArgs false

set_option maxRecDepth 1000000 in
set_option maxHeartbeats 8000000 in
theorem order_walk (x0 x1 x2 x3 x4 x5 x6 x7 x8 x9 : Int) (f : Fl) (ta oa : Option Addr) (tc oc : Nat) (w : World) (v : Value) (hT : Tabs w) (hI : InF w v f x0 x1 x2 x3 x4 x5 x6 x7 x8 x9 ta oa tc oc) :
    Calls Tryd.prog 6 #[v] w fun e w' => e = .returned (.bool true) ∧ Below w.heap.size w w' := by
  obtain ⟨rfl, hcf, hti0, hoi0, ⟨tl1, tl2⟩, ⟨ol1, ol2⟩, _, _, _⟩ := hI
  obtain ⟨hg1, hg2⟩ := fewF_len f
  have hgc : (fewF f).cfg = [x0, x1, x2, x3, x4, x5, x6, x7, x8, x9] := hcf
  have hti : TasksIn w ta (fewF f).tasks := hti0.take 70
  have hoi : OpsIn w oa (fewF f).ops := hoi0.take 200
  have hm1 : (fewF f).tasks.length ≤ 70 := by omega
  have hm2 : (fewF f).ops.length ≤ 200 := by omega
  have hbx : Below w.heap.size w (w.alloc (.cells #[.int .i64 x0, .int .i64 x1, .int .i64 x2, .int .i64 x3, .int .i64 x4, .int .i64 x5, .int .i64 x6, .int .i64 x7, .int .i64 x8, .int .i64 x9, .slice ta f.tasks.length tc, .slice oa f.ops.length oc] 29)) := (Below.refl _ _).alloc (Nat.le_refl _) _
  have kS : Calls Tryd.prog 9 #[] (w.alloc (.cells #[.int .i64 x0, .int .i64 x1, .int .i64 x2, .int .i64 x3, .int .i64 x4, .int .i64 x5, .int .i64 x6, .int .i64 x7, .int .i64 x8, .int .i64 x9, .slice ta f.tasks.length tc, .slice oa f.ops.length oc] 29)) fun e w1 => e = .returned (.bool true) ∧ Hid (Below w.heap.size w w1) ∧ Hid (w1.heap[w.heap.size]? = some (.cells #[.int .i64 x0, .int .i64 x1, .int .i64 x2, .int .i64 x3, .int .i64 x4, .int .i64 x5, .int .i64 x6, .int .i64 x7, .int .i64 x8, .int .i64 x9, .slice ta f.tasks.length tc, .slice oa f.ops.length oc] 29 (0, 0))) := by
    refine (shown_any _ (hT.alloc _)).mono ?_
    rintro e w1 ⟨rfl, hb⟩
    exact ⟨rfl, hbx.trans (hb.mono hbx.size), by show _ = _; rw [hb.block _ (by simp)]; exact heap_alloc_new w _⟩
  have kF : ∀ w1, Below w.heap.size w w1 → w1.heap[w.heap.size]? = some (.cells #[.int .i64 x0, .int .i64 x1, .int .i64 x2, .int .i64 x3, .int .i64 x4, .int .i64 x5, .int .i64 x6, .int .i64 x7, .int .i64 x8, .int .i64 x9, .slice ta f.tasks.length tc, .slice oa f.ops.length oc] 29 (0, 0)) → Calls Tryd.prog 13 #[.agg #[.int .i64 x0, .int .i64 x1, .int .i64 x2, .int .i64 x3, .int .i64 x4, .int .i64 x5, .int .i64 x6, .int .i64 x7, .int .i64 x8, .int .i64 x9, .slice ta f.tasks.length tc, .slice oa f.ops.length oc]] w1 fun e w2 => e = .returned (.agg #[.int .i64 x0, .int .i64 x1, .int .i64 x2, .int .i64 x3, .int .i64 x4, .int .i64 x5, .int .i64 x6, .int .i64 x7, .int .i64 x8, .int .i64 x9, .slice ta (fewF f).tasks.length tc, .slice oa (fewF f).ops.length oc]) ∧ Hid (Below w.heap.size w w2) ∧ Hid (w2.heap[w.heap.size]? = some (.cells #[.int .i64 x0, .int .i64 x1, .int .i64 x2, .int .i64 x3, .int .i64 x4, .int .i64 x5, .int .i64 x6, .int .i64 x7, .int .i64 x8, .int .i64 x9, .slice ta f.tasks.length tc, .slice oa f.ops.length oc] 29 (0, 0))) := fun w1 h1 h2 => by
    rw [hg1, hg2]
    refine (few_any x0 x1 x2 x3 x4 x5 x6 x7 x8 x9 f.tasks.length f.ops.length ta oa tc oc w1 tl1 ol1 tl2 ol2).mono ?_
    rintro e w2 ⟨rfl, hb⟩
    exact ⟨rfl, h1.trans (hb.mono h1.size), by show _ = _; rw [hb.block _ (block_lt h2)]; exact h2⟩
  have hfO : (fewF f).ops.length ≤ 4096 := by omega
  generalize fewF f = g at *
  clear hg1 hg2 hti0 hoi0 hbx hcf
  generalize f.tasks.length = n1 at *
  generalize f.ops.length = n2 at *
  clear tl1 tl2 ol1 ol2
  cases hR : textF g with
  | none =>
    have kT : ∀ w2, Below w.heap.size w w2 → w2.heap[w.heap.size]? = some (.cells #[.int .i64 x0, .int .i64 x1, .int .i64 x2, .int .i64 x3, .int .i64 x4, .int .i64 x5, .int .i64 x6, .int .i64 x7, .int .i64 x8, .int .i64 x9, .slice ta n1 tc, .slice oa n2 oc] 29 (0, 0)) → Calls Tryd.prog 14 #[.agg #[.int .i64 x0, .int .i64 x1, .int .i64 x2, .int .i64 x3, .int .i64 x4, .int .i64 x5, .int .i64 x6, .int .i64 x7, .int .i64 x8, .int .i64 x9, .slice ta g.tasks.length tc, .slice oa g.ops.length oc]] (put12 w2 w.heap.size (.int .i64 x0) (.int .i64 x1) (.int .i64 x2) (.int .i64 x3) (.int .i64 x4) (.int .i64 x5) (.int .i64 x6) (.int .i64 x7) (.int .i64 x8) (.int .i64 x9) (.slice ta g.tasks.length tc) (.slice oa g.ops.length oc)) fun e w4 => e = .returned (.tuple #[.string ⟨#[]⟩, .int .i64 1]) ∧ Hid (Below w.heap.size w w4) ∧ Hid (w4.heap[w.heap.size]? = some (.cells #[.int .i64 x0, .int .i64 x1, .int .i64 x2, .int .i64 x3, .int .i64 x4, .int .i64 x5, .int .i64 x6, .int .i64 x7, .int .i64 x8, .int .i64 x9, .slice ta g.tasks.length tc, .slice oa g.ops.length oc] 29 (0, 0))) := fun w2 h1 h2 => by
      obtain ⟨p1, p2⟩ := put_file (Nat.le_refl _) h1 h2 (.int .i64 x0) (.int .i64 x1) (.int .i64 x2) (.int .i64 x3) (.int .i64 x4) (.int .i64 x5) (.int .i64 x6) (.int .i64 x7) (.int .i64 x8) (.int .i64 x9) (.slice ta g.tasks.length tc) (.slice oa g.ops.length oc)
      refine (text_no x0 x1 x2 x3 x4 x5 x6 x7 x8 x9 g hgc ta oa tc oc _ (hT.on p2 hT.big) (hti.below p2 (Nat.le_refl _)) (hoi.below p2 (Nat.le_refl _)) hfO hR).mono ?_
      rintro e w4 ⟨rfl, hb⟩
      exact ⟨rfl, p2.trans (hb.mono p2.size), by show _ = _; rw [hb.block _ (block_lt p1)]; exact p1⟩
  
    clear hgc hti hoi hR
    go_enter Tryd.func6, Tryd.ntmps6
    go_wp2_with (first | (go_at_call 9; refine kS.mono ?_; rintro e w1 ⟨rfl, hB1, hE1⟩; obtain ⟨a0, a1, a2, a3, a4, a5, a6, a7, a8, a9, a10, a11, fz⟩ := cells12 hE1.out) | (go_at_call 13; refine (kF w1 hB1.out hE1.out).mono ?_; rintro e w2 ⟨rfl, hB2, hE2⟩; clear a0 a1 a2 a3 a4 a5 a6 a7 a8 a9 a10 a11 fz; obtain ⟨a0, a1, a2, a3, a4, a5, a6, a7, a8, a9, a10, a11, fz⟩ := cells12 hE2.out) | (go_at_call 14; refine (kT w2 hB2.out hE2.out).mono ?_; rintro e w4 ⟨rfl, hB4, hE4⟩; clear a0 a1 a2 a3 a4 a5 a6 a7 a8 a9 a10 a11 fz))
    go_ret
    exact ⟨rfl, hB4.out⟩
  | some r =>
    have kT : ∀ w2, Below w.heap.size w w2 → w2.heap[w.heap.size]? = some (.cells #[.int .i64 x0, .int .i64 x1, .int .i64 x2, .int .i64 x3, .int .i64 x4, .int .i64 x5, .int .i64 x6, .int .i64 x7, .int .i64 x8, .int .i64 x9, .slice ta n1 tc, .slice oa n2 oc] 29 (0, 0)) → Calls Tryd.prog 14 #[.agg #[.int .i64 x0, .int .i64 x1, .int .i64 x2, .int .i64 x3, .int .i64 x4, .int .i64 x5, .int .i64 x6, .int .i64 x7, .int .i64 x8, .int .i64 x9, .slice ta g.tasks.length tc, .slice oa g.ops.length oc]] (put12 w2 w.heap.size (.int .i64 x0) (.int .i64 x1) (.int .i64 x2) (.int .i64 x3) (.int .i64 x4) (.int .i64 x5) (.int .i64 x6) (.int .i64 x7) (.int .i64 x8) (.int .i64 x9) (.slice ta g.tasks.length tc) (.slice oa g.ops.length oc)) fun e w4 => e = .returned (.tuple #[.string ⟨r.toArray⟩, .int .i64 0]) ∧ Hid (Below w.heap.size w w4) ∧ Hid (w4.heap[w.heap.size]? = some (.cells #[.int .i64 x0, .int .i64 x1, .int .i64 x2, .int .i64 x3, .int .i64 x4, .int .i64 x5, .int .i64 x6, .int .i64 x7, .int .i64 x8, .int .i64 x9, .slice ta g.tasks.length tc, .slice oa g.ops.length oc] 29 (0, 0))) := fun w2 h1 h2 => by
      obtain ⟨p1, p2⟩ := put_file (Nat.le_refl _) h1 h2 (.int .i64 x0) (.int .i64 x1) (.int .i64 x2) (.int .i64 x3) (.int .i64 x4) (.int .i64 x5) (.int .i64 x6) (.int .i64 x7) (.int .i64 x8) (.int .i64 x9) (.slice ta g.tasks.length tc) (.slice oa g.ops.length oc)
      refine (text_some x0 x1 x2 x3 x4 x5 x6 x7 x8 x9 g hgc ta oa tc oc _ (hT.on p2 hT.big) (hti.below p2 (Nat.le_refl _)) (hoi.below p2 (Nat.le_refl _)) r hR).mono ?_
      rintro e w4 ⟨rfl, hb⟩
      exact ⟨rfl, p2.trans (hb.mono p2.size), by show _ = _; rw [hb.block _ (block_lt p1)]; exact p1⟩
  
    have hG0 : g.tasks.length ≤ 64 ∧ fileOut g = some r := by
      unfold textF at hR
      split at hR
      · cases hR
      · exact ⟨by omega, hR⟩
    obtain ⟨hgt, hfo⟩ := hG0
    obtain ⟨hG, hrB⟩ := fileOut_gd (by rw [hgc]; rfl) hfo
    have hrl := fileB_len hG
    have hrl2 : r.length ≤ 20000 := by rw [hrB]; omega
    have hR1 : parseF (tickL ++ r) = ⟨noFile, 1, 2⟩ := by rw [hrB]; exact order_tick hG (by rw [List.length_append]; have : tickL.length = 5 := rfl; omega)
    obtain ⟨cap1, wF1, hcv1, hpr1⟩ := conv_all ((⟨#[116, 105, 99, 107, 10]⟩ : ByteArray) ++ ⟨r.toArray⟩) _ (ba_app tickL r) (by rw [List.length_append]; have := len_head; have : tickL.length = 5 := rfl; have : taskL.length = 14 := rfl; have : whatL.length = 7 := rfl; omega)
    have HP1 := hide_it hpr1
    obtain ⟨n3, hn1⟩ : ∃ n, (tickL ++ r).length = n := ⟨_, rfl⟩
    obtain ⟨l1, hl1⟩ : ∃ l : Nat, l = 1 := ⟨_, rfl⟩
    rw [← hl1] at hR1
    have HR1 := hide_it hR1
    rw [hn1] at hcv1
    clear hpr1 hR1
    have kP1 : ∀ W, Below w.heap.size w W → Calls Tryd.prog 10 #[.slice (some ⟨W.heap.size, 0, none⟩) n3 (cap1 W)] (wF1 W) fun e W' => ∃ ta tc oa oc, e = .returned (.tuple #[.agg #[.int .i64 0, .int .i64 0, .int .i64 0, .int .i64 0, .int .i64 0, .int .i64 0, .int .i64 0, .int .i64 0, .int .i64 0, .int .i64 0, .slice ta 0 tc, .slice oa 0 oc], .int .i64 l1, .int .i64 2]) ∧ Hid (Below w.heap.size w W') := fun W hW => by
      obtain ⟨p1, p2, p3, p4⟩ := HP1.out W
      have hb : Below w.heap.size w (wF1 W) := hW.trans (p4.mono hW.size)
      have := parse_bad _ _ _ (wF1 W) (hT.on hb hT.big) p2 p3 p1 l1 2 HR1.out
      rw [hn1] at this
      refine this.mono ?_
      rintro e W' ⟨a1, a2, a3, a4, rfl, h⟩
      exact ⟨a1, a2, a3, a4, rfl, hb.trans (h.mono hb.size)⟩
    have kQ1 : ∀ (W : World) (ob : Obj), Below w.heap.size w W → Calls Tryd.prog 10 #[.slice (some ⟨W.heap.size + 1, 0, none⟩) n3 (cap1 (W.alloc ob))] (wF1 (W.alloc ob)) _ := fun W ob hW => by
      have := kP1 (W.alloc ob) (hW.alloc hW.size _)
      rw [show (W.alloc ob).heap.size = W.heap.size + 1 by simp] at this
      exact this
    have hR2 : parseF (r ++ headL) = ⟨noFile, 1 + (1 + g.tasks.length + g.ops.length), 2⟩ := by rw [hrB]; exact order_head hG (by omega) (by omega) (by rw [List.length_append]; have := len_head; omega)
    obtain ⟨cap2, wF2, hcv2, hpr2⟩ := conv_all ((⟨r.toArray⟩ : ByteArray) ++ ⟨headL.toArray⟩) _ (ba_app r headL) (by rw [List.length_append]; have := len_head; have : tickL.length = 5 := rfl; have : taskL.length = 14 := rfl; have : whatL.length = 7 := rfl; omega)
    have HP2 := hide_it hpr2
    obtain ⟨n4, hn2⟩ : ∃ n, (r ++ headL).length = n := ⟨_, rfl⟩
    obtain ⟨l2, hl2⟩ : ∃ l : Nat, l = 1 + (1 + g.tasks.length + g.ops.length) := ⟨_, rfl⟩
    rw [← hl2] at hR2
    have HR2 := hide_it hR2
    rw [hn2] at hcv2
    clear hpr2 hR2
    have kP2 : ∀ W, Below w.heap.size w W → Calls Tryd.prog 10 #[.slice (some ⟨W.heap.size, 0, none⟩) n4 (cap2 W)] (wF2 W) fun e W' => ∃ ta tc oa oc, e = .returned (.tuple #[.agg #[.int .i64 0, .int .i64 0, .int .i64 0, .int .i64 0, .int .i64 0, .int .i64 0, .int .i64 0, .int .i64 0, .int .i64 0, .int .i64 0, .slice ta 0 tc, .slice oa 0 oc], .int .i64 l2, .int .i64 2]) ∧ Hid (Below w.heap.size w W') := fun W hW => by
      obtain ⟨p1, p2, p3, p4⟩ := HP2.out W
      have hb : Below w.heap.size w (wF2 W) := hW.trans (p4.mono hW.size)
      have := parse_bad _ _ _ (wF2 W) (hT.on hb hT.big) p2 p3 p1 l2 2 HR2.out
      rw [hn2] at this
      refine this.mono ?_
      rintro e W' ⟨a1, a2, a3, a4, rfl, h⟩
      exact ⟨a1, a2, a3, a4, rfl, hb.trans (h.mono hb.size)⟩
    have kQ2 : ∀ (W : World) (ob : Obj), Below w.heap.size w W → Calls Tryd.prog 10 #[.slice (some ⟨W.heap.size + 1, 0, none⟩) n4 (cap2 (W.alloc ob))] (wF2 (W.alloc ob)) _ := fun W ob hW => by
      have := kP2 (W.alloc ob) (hW.alloc hW.size _)
      rw [show (W.alloc ob).heap.size = W.heap.size + 1 by simp] at this
      exact this
    have hR3 : parseF (r ++ taskL) = ⟨noFile, 2 + (1 + g.tasks.length + g.ops.length), 2⟩ := by rw [hrB]; exact order_task hG (by omega) (by omega) (by rw [List.length_append]; have : taskL.length = 14 := rfl; omega)
    obtain ⟨cap3, wF3, hcv3, hpr3⟩ := conv_all ((⟨r.toArray⟩ : ByteArray) ++ ⟨#[116, 105, 99, 107, 10, 116, 97, 115, 107, 32, 49, 32, 49, 10]⟩) _ (ba_app r taskL) (by rw [List.length_append]; have := len_head; have : tickL.length = 5 := rfl; have : taskL.length = 14 := rfl; have : whatL.length = 7 := rfl; omega)
    have HP3 := hide_it hpr3
    obtain ⟨n5, hn3⟩ : ∃ n, (r ++ taskL).length = n := ⟨_, rfl⟩
    obtain ⟨l3, hl3⟩ : ∃ l : Nat, l = 2 + (1 + g.tasks.length + g.ops.length) := ⟨_, rfl⟩
    rw [← hl3] at hR3
    have HR3 := hide_it hR3
    rw [hn3] at hcv3
    clear hpr3 hR3
    have kP3 : ∀ W, Below w.heap.size w W → Calls Tryd.prog 10 #[.slice (some ⟨W.heap.size, 0, none⟩) n5 (cap3 W)] (wF3 W) fun e W' => ∃ ta tc oa oc, e = .returned (.tuple #[.agg #[.int .i64 0, .int .i64 0, .int .i64 0, .int .i64 0, .int .i64 0, .int .i64 0, .int .i64 0, .int .i64 0, .int .i64 0, .int .i64 0, .slice ta 0 tc, .slice oa 0 oc], .int .i64 l3, .int .i64 2]) ∧ Hid (Below w.heap.size w W') := fun W hW => by
      obtain ⟨p1, p2, p3, p4⟩ := HP3.out W
      have hb : Below w.heap.size w (wF3 W) := hW.trans (p4.mono hW.size)
      have := parse_bad _ _ _ (wF3 W) (hT.on hb hT.big) p2 p3 p1 l3 2 HR3.out
      rw [hn3] at this
      refine this.mono ?_
      rintro e W' ⟨a1, a2, a3, a4, rfl, h⟩
      exact ⟨a1, a2, a3, a4, rfl, hb.trans (h.mono hb.size)⟩
    have kQ3 : ∀ (W : World) (ob : Obj), Below w.heap.size w W → Calls Tryd.prog 10 #[.slice (some ⟨W.heap.size + 1, 0, none⟩) n5 (cap3 (W.alloc ob))] (wF3 (W.alloc ob)) _ := fun W ob hW => by
      have := kP3 (W.alloc ob) (hW.alloc hW.size _)
      rw [show (W.alloc ob).heap.size = W.heap.size + 1 by simp] at this
      exact this
    have hR4 : parseF (r ++ whatL) = ⟨noFile, 3 + (1 + g.tasks.length + g.ops.length), 2⟩ := by rw [hrB]; exact order_what hG (by omega) (by omega) (by rw [List.length_append]; have : whatL.length = 7 := rfl; omega)
    obtain ⟨cap4, wF4, hcv4, hpr4⟩ := conv_all ((⟨r.toArray⟩ : ByteArray) ++ ⟨#[10, 10, 119, 104, 97, 116, 10]⟩) _ (ba_app r whatL) (by rw [List.length_append]; have := len_head; have : tickL.length = 5 := rfl; have : taskL.length = 14 := rfl; have : whatL.length = 7 := rfl; omega)
    have HP4 := hide_it hpr4
    obtain ⟨n6, hn4⟩ : ∃ n, (r ++ whatL).length = n := ⟨_, rfl⟩
    obtain ⟨l4, hl4⟩ : ∃ l : Nat, l = 3 + (1 + g.tasks.length + g.ops.length) := ⟨_, rfl⟩
    rw [← hl4] at hR4
    have HR4 := hide_it hR4
    rw [hn4] at hcv4
    clear hpr4 hR4
    have kP4 : ∀ W, Below w.heap.size w W → Calls Tryd.prog 10 #[.slice (some ⟨W.heap.size, 0, none⟩) n6 (cap4 W)] (wF4 W) fun e W' => ∃ ta tc oa oc, e = .returned (.tuple #[.agg #[.int .i64 0, .int .i64 0, .int .i64 0, .int .i64 0, .int .i64 0, .int .i64 0, .int .i64 0, .int .i64 0, .int .i64 0, .int .i64 0, .slice ta 0 tc, .slice oa 0 oc], .int .i64 l4, .int .i64 2]) ∧ Hid (Below w.heap.size w W') := fun W hW => by
      obtain ⟨p1, p2, p3, p4⟩ := HP4.out W
      have hb : Below w.heap.size w (wF4 W) := hW.trans (p4.mono hW.size)
      have := parse_bad _ _ _ (wF4 W) (hT.on hb hT.big) p2 p3 p1 l4 2 HR4.out
      rw [hn4] at this
      refine this.mono ?_
      rintro e W' ⟨a1, a2, a3, a4, rfl, h⟩
      exact ⟨a1, a2, a3, a4, rfl, hb.trans (h.mono hb.size)⟩
    have kQ4 : ∀ (W : World) (ob : Obj), Below w.heap.size w W → Calls Tryd.prog 10 #[.slice (some ⟨W.heap.size + 1, 0, none⟩) n6 (cap4 (W.alloc ob))] (wF4 (W.alloc ob)) _ := fun W ob hW => by
      have := kP4 (W.alloc ob) (hW.alloc hW.size _)
      rw [show (W.alloc ob).heap.size = W.heap.size + 1 by simp] at this
      exact this
    clear hG hrB hrl hfo hR hgc hti hoi HP1 HP2 HP3 HP4 HR1 HR2 HR3 HR4 hn1 hn2 hn3 hn4
    have hsR : (⟨r.toArray⟩ : ByteArray).size = r.length := ba_size rfl
    have hsH : (⟨headL.toArray⟩ : ByteArray).size = headL.length := ba_size rfl
    have hlH := len_head
    have kH : ∀ W, Calls Tryd.prog 16 #[] W fun e w' => e = .returned (.string ⟨headL.toArray⟩) ∧ w' = W := head_any
    generalize (⟨r.toArray⟩ : ByteArray) = sR at *
    generalize (⟨headL.toArray⟩ : ByteArray) = sH at *
    have z1 : ¬ 9223372036854775807 < 5 + sR.size := by omega
    have z2 : ¬ 9223372036854775807 < sR.size + sH.size := by omega
    have z3 : ¬ 9223372036854775807 < sR.size + 14 := by omega
    have z4 : ¬ 9223372036854775807 < sR.size + 7 := by omega
    clear hsR hsH hlH
    have D1 : Hid (((l1 : Nat) : Int) = 1) := by show _ = _; omega
    have D2 : Hid (((l2 : Nat) : Int) = 1 + (g.tasks.length : Int) + (g.ops.length : Int) + 1) := by show _ = _; omega
    have D3 : Hid (((l3 : Nat) : Int) = 1 + (g.tasks.length : Int) + (g.ops.length : Int) + 2) := by show _ = _; omega
    have D4 : Hid (((l4 : Nat) : Int) = 1 + (g.tasks.length : Int) + (g.ops.length : Int) + 3) := by show _ = _; omega
    clear hl1 hl2 hl3 hl4
    generalize g.tasks.length = t1 at *
    generalize g.ops.length = t2 at *
    go_enter Tryd.func6, Tryd.ntmps6
    go_wp2_with (first | (go_at_call 9; refine kS.mono ?_; rintro e w1 ⟨rfl, hB1, hE1⟩; obtain ⟨a0, a1, a2, a3, a4, a5, a6, a7, a8, a9, a10, a11, fz⟩ := cells12 hE1.out) | (go_at_call 13; refine (kF w1 hB1.out hE1.out).mono ?_; rintro e w2 ⟨rfl, hB2, hE2⟩; clear a0 a1 a2 a3 a4 a5 a6 a7 a8 a9 a10 a11 fz; obtain ⟨a0, a1, a2, a3, a4, a5, a6, a7, a8, a9, a10, a11, fz⟩ := cells12 hE2.out) | (go_at_call 14; refine (kT w2 hB2.out hE2.out).mono ?_; rintro e w4 ⟨rfl, hB4, hE4⟩; clear a0 a1 a2 a3 a4 a5 a6 a7 a8 a9 a10 a11 fz; obtain ⟨a0, a1, a2, a3, a4, a5, a6, a7, a8, a9, a10, a11, fz⟩ := cells12 hE4.out; refine Hid.out ?_))
    refine hide_it ?_
    go_wp2_with (go_at_call 10; refine (kP1 _ hB4.out).mono ?_; rintro e w5 ⟨ta5, tc5, oa5, oc5, rfl, hB5⟩; refine Hid.out ?_)
    refine hide_it ?_
    go_wp2_with (first | (go_at_call 16; refine (kH _).mono ?_; rintro e W ⟨rfl, hW⟩; rw [hW]; clear hW) | (go_at_call 10; refine (kQ2 _ _ hB5.out).mono ?_; rintro e w6 ⟨ta6, tc6, oa6, oc6, rfl, hB6⟩; refine Hid.out ?_))
    refine hide_it ?_
    go_wp2_with (go_at_call 10; refine (kQ3 _ _ hB6.out).mono ?_; rintro e w7 ⟨ta7, tc7, oa7, oc7, rfl, hB7⟩; refine Hid.out ?_)
    refine hide_it ?_
    go_wp2_with (go_at_call 10; refine (kQ4 _ _ hB7.out).mono ?_; rintro e w8 ⟨ta8, tc8, oa8, oc8, rfl, hB8⟩; refine Hid.out ?_)
    refine hide_it ?_
    have d1 := D1.out
    have d2 := D2.out
    have d3 := D3.out
    have d4 := D4.out
    clear kP1 kP2 kP3 kP4 kQ1 kQ2 kQ3 kQ4 hcv1 hcv2 hcv3 hcv4 kS kF kT kH
    go_wp2
    go_ret
    exact ⟨rfl, hB8.out.alloc hB8.out.size _⟩

end Go.Proofs.YtgjfhfjmdkhllaaDoor
