/- ParseBack: the walk. -/
import Derived.Test.YtgjfhfjmdkhllaaDoorBakC
namespace Go.Proofs.YtgjfhfjmdkhllaaDoor
open Go.RowKit
open M
set_option linter.unusedVariables false
set_option linter.unusedSimpArgs false

set_option maxRecDepth 1000000 in
set_option maxHeartbeats 1500000 in
theorem back_none_bad (x0 x1 x2 x3 x4 x5 x6 x7 x8 x9 : Int) (f : Fl) (ta oa : Option Addr) (tc oc : Nat) (w : World) (v : Value) (hT : Tabs w) (hI : InF w v f x0 x1 x2 x3 x4 x5 x6 x7 x8 x9 ta oa tc oc) (ba : Option Addr) (bs : List UInt8) (bc : Nat) (hbl0 : bs.length ≤ bc) (hbc : bc ≤ maxLen) (hby0 : Bytes w ba bs) (ln : Nat) (E : Int) (hE0 : E ≠ 0) (hPE : parseF (bs.take 4000) = ⟨noFile, ln, E⟩) (hno : textF (fewF f) = none) :
    Calls Tryd.prog 5 #[v, .slice ba bs.length bc] w fun e w' => e = .returned (.bool true) ∧ Below w.heap.size w w' := by
  have hmin : ∀ ts t W, (Builtin.min_ ts t #[.int .i64 (bs.length : Int), .int .i64 4000]).run Tryd.prog W = .ok (.int .i64 ((min 4000 bs.length : Nat) : Int)) W := min_is bs.length 4000
  have hby : Bytes w ba (bs.take 4000) := hby0.take 4000
  have hbl : (bs.take 4000).length ≤ bc := by simp; omega
  obtain ⟨mb, hmb⟩ : ∃ mb, (bs.take 4000).length = mb := ⟨_, rfl⟩
  have hmb2 : min 4000 bs.length = mb := by rw [← hmb]; simp
  rw [hmb2] at hmin
  have hmbc : mb ≤ bc := by omega
  have hbcI : bc ≤ 9223372036854775807 := by unfold maxLen at hbc; omega
  obtain ⟨rfl, hcf, hti0, hoi0, ⟨tl1, tl2⟩, ⟨ol1, ol2⟩, _, _, _⟩ := hI
  obtain ⟨hg1, hg2⟩ := fewF_len f
  have hgc : (fewF f).cfg = [x0, x1, x2, x3, x4, x5, x6, x7, x8, x9] := hcf
  have hti : TasksIn w ta (fewF f).tasks := hti0.take 70
  have hoi : OpsIn w oa (fewF f).ops := hoi0.take 200
  have hm1 : (fewF f).tasks.length ≤ 70 := by omega
  have hm2 : (fewF f).ops.length ≤ 200 := by omega
  have hbx : Below w.heap.size w (w.alloc (.cells #[.int .i64 x0, .int .i64 x1, .int .i64 x2, .int .i64 x3, .int .i64 x4, .int .i64 x5, .int .i64 x6, .int .i64 x7, .int .i64 x8, .int .i64 x9, .slice ta f.tasks.length tc, .slice oa f.ops.length oc] 29)) := (Below.refl _ _).alloc (Nat.le_refl _) _
  have kS : Calls Tryd.prog 9 #[] (w.alloc (.cells #[.int .i64 x0, .int .i64 x1, .int .i64 x2, .int .i64 x3, .int .i64 x4, .int .i64 x5, .int .i64 x6, .int .i64 x7, .int .i64 x8, .int .i64 x9, .slice ta f.tasks.length tc, .slice oa f.ops.length oc] 29)) fun e w1 => e = .returned (.bool true) ∧ Hid (Below w.heap.size w w1) ∧ Hid (w1.heap[w.heap.size]? = some (.cells #[.int .i64 x0, .int .i64 x1, .int .i64 x2, .int .i64 x3, .int .i64 x4, .int .i64 x5, .int .i64 x6, .int .i64 x7, .int .i64 x8, .int .i64 x9, .slice ta f.tasks.length tc, .slice oa f.ops.length oc] 29 (0, 0))) := by
    refine (shown_any _ (hT.alloc _)).mono ?_
    rintro e w1 ⟨rfl, hb⟩
    exact ⟨rfl, hbx.trans (hb.mono hbx.size), by show _ = _; rw [hb.block _ (by simp)]; exact heap_alloc_new w _⟩
  have kF : ∀ w1, Below w.heap.size w w1 → w1.heap[w.heap.size]? = some (.cells #[.int .i64 x0, .int .i64 x1, .int .i64 x2, .int .i64 x3, .int .i64 x4, .int .i64 x5, .int .i64 x6, .int .i64 x7, .int .i64 x8, .int .i64 x9, .slice ta f.tasks.length tc, .slice oa f.ops.length oc] 29 (0, 0)) → Calls Tryd.prog 13 #[.agg #[.int .i64 x0, .int .i64 x1, .int .i64 x2, .int .i64 x3, .int .i64 x4, .int .i64 x5, .int .i64 x6, .int .i64 x7, .int .i64 x8, .int .i64 x9, .slice ta f.tasks.length tc, .slice oa f.ops.length oc]] w1 fun e w2 => e = .returned (.agg #[.int .i64 x0, .int .i64 x1, .int .i64 x2, .int .i64 x3, .int .i64 x4, .int .i64 x5, .int .i64 x6, .int .i64 x7, .int .i64 x8, .int .i64 x9, .slice ta (fewF f).tasks.length tc, .slice oa (fewF f).ops.length oc]) ∧ Hid (Below w.heap.size w w2) ∧ Hid (w2.heap[w.heap.size]? = some (.cells #[.int .i64 x0, .int .i64 x1, .int .i64 x2, .int .i64 x3, .int .i64 x4, .int .i64 x5, .int .i64 x6, .int .i64 x7, .int .i64 x8, .int .i64 x9, .slice ta f.tasks.length tc, .slice oa f.ops.length oc] 29 (0, 0))) := fun w1 h1 h2 => by
    rw [hg1, hg2]
    refine (few_any x0 x1 x2 x3 x4 x5 x6 x7 x8 x9 f.tasks.length f.ops.length ta oa tc oc w1 tl1 ol1 tl2 ol2).mono ?_
    rintro e w2 ⟨rfl, hb⟩
    exact ⟨rfl, h1.trans (hb.mono h1.size), by show _ = _; rw [hb.block _ (block_lt h2)]; exact h2⟩
  have hfO : (fewF f).ops.length ≤ 4096 := by omega
  have hR := hno
  clear hno
  generalize fewF f = g at *
  clear hg1 hg2 hti0 hoi0 hbx hcf
  generalize f.tasks.length = n1 at *
  generalize f.ops.length = n2 at *
  clear tl1 tl2 ol1 ol2
  have kT : ∀ w2, Below w.heap.size w w2 → w2.heap[w.heap.size]? = some (.cells #[.int .i64 x0, .int .i64 x1, .int .i64 x2, .int .i64 x3, .int .i64 x4, .int .i64 x5, .int .i64 x6, .int .i64 x7, .int .i64 x8, .int .i64 x9, .slice ta n1 tc, .slice oa n2 oc] 29 (0, 0)) → Calls Tryd.prog 14 #[.agg #[.int .i64 x0, .int .i64 x1, .int .i64 x2, .int .i64 x3, .int .i64 x4, .int .i64 x5, .int .i64 x6, .int .i64 x7, .int .i64 x8, .int .i64 x9, .slice ta g.tasks.length tc, .slice oa g.ops.length oc]] (put12 w2 w.heap.size (.int .i64 x0) (.int .i64 x1) (.int .i64 x2) (.int .i64 x3) (.int .i64 x4) (.int .i64 x5) (.int .i64 x6) (.int .i64 x7) (.int .i64 x8) (.int .i64 x9) (.slice ta g.tasks.length tc) (.slice oa g.ops.length oc)) fun e w4 => e = .returned (.tuple #[.string ⟨#[]⟩, .int .i64 1]) ∧ Hid (Below w.heap.size w w4) ∧ Hid (w4.heap[w.heap.size]? = some (.cells #[.int .i64 x0, .int .i64 x1, .int .i64 x2, .int .i64 x3, .int .i64 x4, .int .i64 x5, .int .i64 x6, .int .i64 x7, .int .i64 x8, .int .i64 x9, .slice ta g.tasks.length tc, .slice oa g.ops.length oc] 29 (0, 0))) := fun w2 h1 h2 => by
    obtain ⟨p1, p2⟩ := put_file (Nat.le_refl _) h1 h2 (.int .i64 x0) (.int .i64 x1) (.int .i64 x2) (.int .i64 x3) (.int .i64 x4) (.int .i64 x5) (.int .i64 x6) (.int .i64 x7) (.int .i64 x8) (.int .i64 x9) (.slice ta g.tasks.length tc) (.slice oa g.ops.length oc)
    refine (text_no x0 x1 x2 x3 x4 x5 x6 x7 x8 x9 g hgc ta oa tc oc _ (hT.on p2 hT.big) (hti.below p2 (Nat.le_refl _)) (hoi.below p2 (Nat.le_refl _)) hfO hR).mono ?_
    rintro e w4 ⟨rfl, hb⟩
    exact ⟨rfl, p2.trans (hb.mono p2.size), by show _ = _; rw [hb.block _ (block_lt p1)]; exact p1⟩
  have kB : ∀ W, Below w.heap.size w W → Calls Tryd.prog 10 #[.slice ba mb bc] W fun e w7 => ∃ tb td ob od, e = .returned (.tuple #[.agg #[.int .i64 0, .int .i64 0, .int .i64 0, .int .i64 0, .int .i64 0, .int .i64 0, .int .i64 0, .int .i64 0, .int .i64 0, .int .i64 0, .slice tb 0 td, .slice ob 0 od], .int .i64 ln, .int .i64 E]) ∧ Hid (Below w.heap.size w w7) := fun W hW => by
    have := parse_bad ba bc _ W (hT.on hW hT.big) hbl hbc (hby.below hW) ln E hPE
    rw [hmb] at this
    refine this.mono ?_
    rintro e w' ⟨a1, a2, a3, a4, rfl, h⟩
    exact ⟨a1, a2, a3, a4, rfl, hW.trans (h.mono hW.size)⟩
  have hE1 : (E != 0) = true := bne_iff_ne.2 hE0
  have hln : (0 : Int) ≤ (ln : Int) := by omega
  clear hgc hti hoi hR hby hby0 hPE hmb hmb2 hbl hbl0 hE0
  generalize g.tasks.length = t1 at *
  generalize g.ops.length = t2 at *
  generalize bs.length = nb at *
  go_enter Tryd.func5, Tryd.ntmps5
  go_wp2_with (first | (go_at_call 9; refine kS.mono ?_; rintro e w1 ⟨rfl, hB1, hE1⟩; obtain ⟨a0, a1, a2, a3, a4, a5, a6, a7, a8, a9, a10, a11, fz⟩ := cells12 hE1.out) | (go_at_call 13; refine (kF w1 hB1.out hE1.out).mono ?_; rintro e w2 ⟨rfl, hB2, hE2⟩; clear a0 a1 a2 a3 a4 a5 a6 a7 a8 a9 a10 a11 fz; obtain ⟨a0, a1, a2, a3, a4, a5, a6, a7, a8, a9, a10, a11, fz⟩ := cells12 hE2.out) | (go_at_call 14; refine (kT w2 hB2.out hE2.out).mono ?_; rintro e w4 ⟨rfl, hB4, hE4⟩; clear a0 a1 a2 a3 a4 a5 a6 a7 a8 a9 a10 a11 fz; obtain ⟨a0, a1, a2, a3, a4, a5, a6, a7, a8, a9, a10, a11, fz⟩ := cells12 hE4.out; refine Hid.out ?_))
  clear a0 a1 a2 a3 a4 a5 a6 a7 a8 a9 a10 a11 fz kS kF kT
  refine hide_it ?_
  go_wp2_with (go_at_call 10; refine (kB _ hB4.out).mono ?_; rintro e w7 ⟨tb, td, ob, od, rfl, hB7⟩)
  go_ret
  exact ⟨rfl, hB7.out.alloc hB7.out.size _⟩

end Go.Proofs.YtgjfhfjmdkhllaaDoor
