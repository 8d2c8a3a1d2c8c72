/- ParseTexts: the walk. -/
import Derived.Test.YtgjfhfjmdkhllaaDoorTxRa
import Derived.Test.YtgjfhfjmdkhllaaDoorTxRb
import Derived.Test.YtgjfhfjmdkhllaaDoorFew
namespace Go.Proofs.YtgjfhfjmdkhllaaDoor
open Go.RowKit
open M
set_option linter.unusedVariables false
set_option linter.unusedSimpArgs false

theorem refT_any (x0 x1 x2 x3 x4 x5 x6 x7 x8 x9 : Int) (f : Fl) (ta oa : Option Addr) (tc oc : Nat) (w : World) (hcf : f.cfg = [x0, x1, x2, x3, x4, x5, x6, x7, x8, x9]) (hti : TasksIn w ta f.tasks) (hoi : OpsIn w oa f.ops) (hl1 : f.tasks.length ≤ 70) (hl2 : f.ops.length ≤ 200) (hbc : ∀ n ∈ f.cfg, i64B n) (hbt : ∀ t ∈ f.tasks, i64B t.1 ∧ i64B t.2) (RS : List UInt8) (RE : Int) (hR : (textF f = some RS ∧ RE = 0) ∨ (textF f = none ∧ RS = [] ∧ RE = 1)) :
    Calls Tryd.prog 15 #[.agg #[.int .i64 x0, .int .i64 x1, .int .i64 x2, .int .i64 x3, .int .i64 x4, .int .i64 x5, .int .i64 x6, .int .i64 x7, .int .i64 x8, .int .i64 x9, .slice ta f.tasks.length tc, .slice oa f.ops.length oc]] w fun e w' => e = .returned (.tuple #[strV RS, .int .i64 RE]) ∧ Below w.heap.size w w' := by
  by_cases h : f.tasks.length ≤ 64
  · exact refT_fits x0 x1 x2 x3 x4 x5 x6 x7 x8 x9 f ta oa tc oc _ _ rfl rfl w hcf hti hoi hl1 hl2 hbc hbt h RS RE hR
  · exact refT_not x0 x1 x2 x3 x4 x5 x6 x7 x8 x9 f ta oa tc oc _ _ rfl rfl w hcf hti hoi hl1 hl2 hbc hbt h RS RE hR

set_option maxRecDepth 1000000 in
set_option maxHeartbeats 2000000 in
theorem texts_walk (x0 x1 x2 x3 x4 x5 x6 x7 x8 x9 : Int) (f : Fl) (ta oa : Option Addr) (tc oc : Nat) (w : World) (v : Value) (hT : Tabs w) (hI : InF w v f x0 x1 x2 x3 x4 x5 x6 x7 x8 x9 ta oa tc oc) :
    Calls Tryd.prog 4 #[v] w fun e w' => e = .returned (.bool true) ∧ Below w.heap.size w w' := by
  have hbc0 := hI.bc
  have hbt0 := hI.bt
  obtain ⟨rfl, hcf, hti0, hoi0, ⟨tl1, tl2⟩, ⟨ol1, ol2⟩, _, _, _⟩ := hI
  obtain ⟨hg1, hg2⟩ := fewF_len f
  have hgc : (fewF f).cfg = [x0, x1, x2, x3, x4, x5, x6, x7, x8, x9] := hcf
  have hti : TasksIn w ta (fewF f).tasks := hti0.take 70
  have hoi : OpsIn w oa (fewF f).ops := hoi0.take 200
  have hm1 : (fewF f).tasks.length ≤ 70 := by omega
  have hm2 : (fewF f).ops.length ≤ 200 := by omega
  have hbx : Below w.heap.size w (w.alloc (.cells #[.int .i64 x0, .int .i64 x1, .int .i64 x2, .int .i64 x3, .int .i64 x4, .int .i64 x5, .int .i64 x6, .int .i64 x7, .int .i64 x8, .int .i64 x9, .slice ta f.tasks.length tc, .slice oa f.ops.length oc] 29)) := (Below.refl _ _).alloc (Nat.le_refl _) _
  have kS : Calls Tryd.prog 9 #[] (w.alloc (.cells #[.int .i64 x0, .int .i64 x1, .int .i64 x2, .int .i64 x3, .int .i64 x4, .int .i64 x5, .int .i64 x6, .int .i64 x7, .int .i64 x8, .int .i64 x9, .slice ta f.tasks.length tc, .slice oa f.ops.length oc] 29)) fun e w1 => e = .returned (.bool true) ∧ Hid (Below w.heap.size w w1) ∧ Hid (w1.heap[w.heap.size]? = some (.cells #[.int .i64 x0, .int .i64 x1, .int .i64 x2, .int .i64 x3, .int .i64 x4, .int .i64 x5, .int .i64 x6, .int .i64 x7, .int .i64 x8, .int .i64 x9, .slice ta f.tasks.length tc, .slice oa f.ops.length oc] 29 (0, 0))) := by
    refine (shown_any _ (hT.alloc _)).mono ?_
    rintro e w1 ⟨rfl, hb⟩
    exact ⟨rfl, hbx.trans (hb.mono hbx.size), by show _ = _; rw [hb.block _ (by simp)]; exact heap_alloc_new w _⟩
  have kF : ∀ w1, Below w.heap.size w w1 → w1.heap[w.heap.size]? = some (.cells #[.int .i64 x0, .int .i64 x1, .int .i64 x2, .int .i64 x3, .int .i64 x4, .int .i64 x5, .int .i64 x6, .int .i64 x7, .int .i64 x8, .int .i64 x9, .slice ta f.tasks.length tc, .slice oa f.ops.length oc] 29 (0, 0)) → Calls Tryd.prog 13 #[.agg #[.int .i64 x0, .int .i64 x1, .int .i64 x2, .int .i64 x3, .int .i64 x4, .int .i64 x5, .int .i64 x6, .int .i64 x7, .int .i64 x8, .int .i64 x9, .slice ta f.tasks.length tc, .slice oa f.ops.length oc]] w1 fun e w2 => e = .returned (.agg #[.int .i64 x0, .int .i64 x1, .int .i64 x2, .int .i64 x3, .int .i64 x4, .int .i64 x5, .int .i64 x6, .int .i64 x7, .int .i64 x8, .int .i64 x9, .slice ta (fewF f).tasks.length tc, .slice oa (fewF f).ops.length oc]) ∧ Hid (Below w.heap.size w w2) ∧ Hid (w2.heap[w.heap.size]? = some (.cells #[.int .i64 x0, .int .i64 x1, .int .i64 x2, .int .i64 x3, .int .i64 x4, .int .i64 x5, .int .i64 x6, .int .i64 x7, .int .i64 x8, .int .i64 x9, .slice ta f.tasks.length tc, .slice oa f.ops.length oc] 29 (0, 0))) := fun w1 h1 h2 => by
    rw [hg1, hg2]
    refine (few_any x0 x1 x2 x3 x4 x5 x6 x7 x8 x9 f.tasks.length f.ops.length ta oa tc oc w1 tl1 ol1 tl2 ol2).mono ?_
    rintro e w2 ⟨rfl, hb⟩
    exact ⟨rfl, h1.trans (hb.mono h1.size), by show _ = _; rw [hb.block _ (block_lt h2)]; exact h2⟩
  have hfO : (fewF f).ops.length ≤ 4096 := by omega
  have hbc : ∀ n ∈ (fewF f).cfg, i64B n := hbc0
  have hbt : ∀ t ∈ (fewF f).tasks, i64B t.1 ∧ i64B t.2 := fun t ht => hbt0 t (List.mem_of_mem_take ht)
  clear hbc0 hbt0
  generalize fewF f = g at *
  clear hg1 hg2 hti0 hoi0 hbx hcf
  generalize f.tasks.length = n1 at *
  generalize f.ops.length = n2 at *
  clear tl1 tl2 ol1 ol2
  cases hR : textF g with
  | none =>
    have kT : ∀ w2, Below w.heap.size w w2 → w2.heap[w.heap.size]? = some (.cells #[.int .i64 x0, .int .i64 x1, .int .i64 x2, .int .i64 x3, .int .i64 x4, .int .i64 x5, .int .i64 x6, .int .i64 x7, .int .i64 x8, .int .i64 x9, .slice ta n1 tc, .slice oa n2 oc] 29 (0, 0)) → Calls Tryd.prog 14 #[.agg #[.int .i64 x0, .int .i64 x1, .int .i64 x2, .int .i64 x3, .int .i64 x4, .int .i64 x5, .int .i64 x6, .int .i64 x7, .int .i64 x8, .int .i64 x9, .slice ta g.tasks.length tc, .slice oa g.ops.length oc]] (put12 w2 w.heap.size (.int .i64 x0) (.int .i64 x1) (.int .i64 x2) (.int .i64 x3) (.int .i64 x4) (.int .i64 x5) (.int .i64 x6) (.int .i64 x7) (.int .i64 x8) (.int .i64 x9) (.slice ta g.tasks.length tc) (.slice oa g.ops.length oc)) fun e w4 => e = .returned (.tuple #[.string ⟨#[]⟩, .int .i64 1]) ∧ Hid (Below w.heap.size w w4) ∧ Hid (w4.heap[w.heap.size]? = some (.cells #[.int .i64 x0, .int .i64 x1, .int .i64 x2, .int .i64 x3, .int .i64 x4, .int .i64 x5, .int .i64 x6, .int .i64 x7, .int .i64 x8, .int .i64 x9, .slice ta g.tasks.length tc, .slice oa g.ops.length oc] 29 (0, 0))) := fun w2 h1 h2 => by
      obtain ⟨p1, p2⟩ := put_file (Nat.le_refl _) h1 h2 (.int .i64 x0) (.int .i64 x1) (.int .i64 x2) (.int .i64 x3) (.int .i64 x4) (.int .i64 x5) (.int .i64 x6) (.int .i64 x7) (.int .i64 x8) (.int .i64 x9) (.slice ta g.tasks.length tc) (.slice oa g.ops.length oc)
      refine (text_no x0 x1 x2 x3 x4 x5 x6 x7 x8 x9 g hgc ta oa tc oc _ (hT.on p2 hT.big) (hti.below p2 (Nat.le_refl _)) (hoi.below p2 (Nat.le_refl _)) hfO hR).mono ?_
      rintro e w4 ⟨rfl, hb⟩
      exact ⟨rfl, p2.trans (hb.mono p2.size), by show _ = _; rw [hb.block _ (block_lt p1)]; exact p1⟩
  
    have kX : ∀ w4, Below w.heap.size w w4 → Calls Tryd.prog 15 #[.agg #[.int .i64 x0, .int .i64 x1, .int .i64 x2, .int .i64 x3, .int .i64 x4, .int .i64 x5, .int .i64 x6, .int .i64 x7, .int .i64 x8, .int .i64 x9, .slice ta g.tasks.length tc, .slice oa g.ops.length oc]] w4 fun e w5 => e = .returned (.tuple #[.string ⟨#[]⟩, .int .i64 1]) ∧ Hid (Below w.heap.size w w5) := fun w4 h1 => by
      refine (refT_any x0 x1 x2 x3 x4 x5 x6 x7 x8 x9 g ta oa tc oc w4 hgc (hti.below h1 (Nat.le_refl _)) (hoi.below h1 (Nat.le_refl _)) hm1 hm2 hbc hbt _ 1 (.inr ⟨hR, rfl, rfl⟩)).mono ?_
      rintro e w5 ⟨rfl, hb⟩
      exact ⟨rfl, h1.trans (hb.mono h1.size)⟩
  
    clear hgc hti hoi hR hbc hbt
    generalize g.tasks.length = t1 at *
    generalize g.ops.length = t2 at *
    go_enter Tryd.func4, Tryd.ntmps4
    go_wp2_with (first | (go_at_call 9; refine kS.mono ?_; rintro e w1 ⟨rfl, hB1, hE1⟩; obtain ⟨a0, a1, a2, a3, a4, a5, a6, a7, a8, a9, a10, a11, fz⟩ := cells12 hE1.out) | (go_at_call 13; refine (kF w1 hB1.out hE1.out).mono ?_; rintro e w2 ⟨rfl, hB2, hE2⟩; clear a0 a1 a2 a3 a4 a5 a6 a7 a8 a9 a10 a11 fz; obtain ⟨a0, a1, a2, a3, a4, a5, a6, a7, a8, a9, a10, a11, fz⟩ := cells12 hE2.out) | (go_at_call 14; refine (kT w2 hB2.out hE2.out).mono ?_; rintro e w4 ⟨rfl, hB4, hE4⟩; clear a0 a1 a2 a3 a4 a5 a6 a7 a8 a9 a10 a11 fz; obtain ⟨a0, a1, a2, a3, a4, a5, a6, a7, a8, a9, a10, a11, fz⟩ := cells12 hE4.out) | (go_at_call 15; refine (kX _ hB4.out).mono ?_; rintro e w5 ⟨rfl, hB5⟩))
    go_ret
    exact ⟨rfl, hB5.out⟩
  | some r =>
    have kT : ∀ w2, Below w.heap.size w w2 → w2.heap[w.heap.size]? = some (.cells #[.int .i64 x0, .int .i64 x1, .int .i64 x2, .int .i64 x3, .int .i64 x4, .int .i64 x5, .int .i64 x6, .int .i64 x7, .int .i64 x8, .int .i64 x9, .slice ta n1 tc, .slice oa n2 oc] 29 (0, 0)) → Calls Tryd.prog 14 #[.agg #[.int .i64 x0, .int .i64 x1, .int .i64 x2, .int .i64 x3, .int .i64 x4, .int .i64 x5, .int .i64 x6, .int .i64 x7, .int .i64 x8, .int .i64 x9, .slice ta g.tasks.length tc, .slice oa g.ops.length oc]] (put12 w2 w.heap.size (.int .i64 x0) (.int .i64 x1) (.int .i64 x2) (.int .i64 x3) (.int .i64 x4) (.int .i64 x5) (.int .i64 x6) (.int .i64 x7) (.int .i64 x8) (.int .i64 x9) (.slice ta g.tasks.length tc) (.slice oa g.ops.length oc)) fun e w4 => e = .returned (.tuple #[.string ⟨r.toArray⟩, .int .i64 0]) ∧ Hid (Below w.heap.size w w4) ∧ Hid (w4.heap[w.heap.size]? = some (.cells #[.int .i64 x0, .int .i64 x1, .int .i64 x2, .int .i64 x3, .int .i64 x4, .int .i64 x5, .int .i64 x6, .int .i64 x7, .int .i64 x8, .int .i64 x9, .slice ta g.tasks.length tc, .slice oa g.ops.length oc] 29 (0, 0))) := fun w2 h1 h2 => by
      obtain ⟨p1, p2⟩ := put_file (Nat.le_refl _) h1 h2 (.int .i64 x0) (.int .i64 x1) (.int .i64 x2) (.int .i64 x3) (.int .i64 x4) (.int .i64 x5) (.int .i64 x6) (.int .i64 x7) (.int .i64 x8) (.int .i64 x9) (.slice ta g.tasks.length tc) (.slice oa g.ops.length oc)
      refine (text_some x0 x1 x2 x3 x4 x5 x6 x7 x8 x9 g hgc ta oa tc oc _ (hT.on p2 hT.big) (hti.below p2 (Nat.le_refl _)) (hoi.below p2 (Nat.le_refl _)) r hR).mono ?_
      rintro e w4 ⟨rfl, hb⟩
      exact ⟨rfl, p2.trans (hb.mono p2.size), by show _ = _; rw [hb.block _ (block_lt p1)]; exact p1⟩
  
    have kX : ∀ w4, Below w.heap.size w w4 → Calls Tryd.prog 15 #[.agg #[.int .i64 x0, .int .i64 x1, .int .i64 x2, .int .i64 x3, .int .i64 x4, .int .i64 x5, .int .i64 x6, .int .i64 x7, .int .i64 x8, .int .i64 x9, .slice ta g.tasks.length tc, .slice oa g.ops.length oc]] w4 fun e w5 => e = .returned (.tuple #[.string ⟨r.toArray⟩, .int .i64 0]) ∧ Hid (Below w.heap.size w w5) := fun w4 h1 => by
      refine (refT_any x0 x1 x2 x3 x4 x5 x6 x7 x8 x9 g ta oa tc oc w4 hgc (hti.below h1 (Nat.le_refl _)) (hoi.below h1 (Nat.le_refl _)) hm1 hm2 hbc hbt _ 0 (.inl ⟨hR, rfl⟩)).mono ?_
      rintro e w5 ⟨rfl, hb⟩
      exact ⟨rfl, h1.trans (hb.mono h1.size)⟩
  
    clear hgc hti hoi hR hbc hbt
    generalize (⟨r.toArray⟩ : ByteArray) = sR at *
    generalize g.tasks.length = t1 at *
    generalize g.ops.length = t2 at *
    go_enter Tryd.func4, Tryd.ntmps4
    go_wp2_with (first | (go_at_call 9; refine kS.mono ?_; rintro e w1 ⟨rfl, hB1, hE1⟩; obtain ⟨a0, a1, a2, a3, a4, a5, a6, a7, a8, a9, a10, a11, fz⟩ := cells12 hE1.out) | (go_at_call 13; refine (kF w1 hB1.out hE1.out).mono ?_; rintro e w2 ⟨rfl, hB2, hE2⟩; clear a0 a1 a2 a3 a4 a5 a6 a7 a8 a9 a10 a11 fz; obtain ⟨a0, a1, a2, a3, a4, a5, a6, a7, a8, a9, a10, a11, fz⟩ := cells12 hE2.out) | (go_at_call 14; refine (kT w2 hB2.out hE2.out).mono ?_; rintro e w4 ⟨rfl, hB4, hE4⟩; clear a0 a1 a2 a3 a4 a5 a6 a7 a8 a9 a10 a11 fz; obtain ⟨a0, a1, a2, a3, a4, a5, a6, a7, a8, a9, a10, a11, fz⟩ := cells12 hE4.out) | (go_at_call 15; refine (kX _ hB4.out).mono ?_; rintro e w5 ⟨rfl, hB5⟩))
    go_ret
    exact ⟨rfl, hB5.out⟩

end Go.Proofs.YtgjfhfjmdkhllaaDoor
