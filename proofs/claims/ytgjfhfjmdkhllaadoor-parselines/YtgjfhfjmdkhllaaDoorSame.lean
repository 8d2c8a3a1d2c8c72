/- What 'same' answers of two files that are the same. -/
import Derived.Test.YtgjfhfjmdkhllaaDoorFew
import Derived.BigQuiet
namespace Go.Proofs.YtgjfhfjmdkhllaaDoor
open Go.RowKit
open M
set_option linter.unusedVariables false
set_option linter.unusedSimpArgs false

theorem below_drewQ {B : Nat} {a w : World} (h : Below B a w) (q : Nat) : Below B a (w.drewN q) := ⟨h.os, h.tape, h.output, h.size, h.block⟩

set_option maxRecDepth 1000000 in
set_option maxHeartbeats 4000000 in
theorem same_true (x0 x1 x2 x3 x4 x5 x6 x7 x8 x9 : Int) (f : Fl) (n1 n2 : Nat) (hn1 : f.tasks.length = n1) (hn2 : f.ops.length = n2) (ta oa tb ob : Option Addr) (tc oc td od : Nat) (w : World) (h1 : TasksIn w ta f.tasks) (h2 : OpsIn w oa f.ops) (h3 : TasksIn w tb f.tasks) (h4 : OpsIn w ob f.ops) (hl1 : n1 ≤ 1000000) (hl2 : n2 ≤ 1000000) :
    Calls Tryd.prog 12 #[.agg #[.int .i64 x0, .int .i64 x1, .int .i64 x2, .int .i64 x3, .int .i64 x4, .int .i64 x5, .int .i64 x6, .int .i64 x7, .int .i64 x8, .int .i64 x9, .slice ta n1 tc, .slice oa n2 oc], .agg #[.int .i64 x0, .int .i64 x1, .int .i64 x2, .int .i64 x3, .int .i64 x4, .int .i64 x5, .int .i64 x6, .int .i64 x7, .int .i64 x8, .int .i64 x9, .slice tb n1 td, .slice ob n2 od]] w fun e w' => e = .returned (.bool true) ∧ Below w.heap.size w w' := by
  have HB0 : Hid (Below w.heap.size w ((w.alloc (.cells #[.int .i64 x0, .int .i64 x1, .int .i64 x2, .int .i64 x3, .int .i64 x4, .int .i64 x5, .int .i64 x6, .int .i64 x7, .int .i64 x8, .int .i64 x9, .slice ta n1 tc, .slice oa n2 oc] 29)).alloc (.cells #[.int .i64 x0, .int .i64 x1, .int .i64 x2, .int .i64 x3, .int .i64 x4, .int .i64 x5, .int .i64 x6, .int .i64 x7, .int .i64 x8, .int .i64 x9, .slice tb n1 td, .slice ob n2 od] 33))) := Joins.below_alloc2 w _ _
  have HX0 : Hid (((w.alloc (.cells #[.int .i64 x0, .int .i64 x1, .int .i64 x2, .int .i64 x3, .int .i64 x4, .int .i64 x5, .int .i64 x6, .int .i64 x7, .int .i64 x8, .int .i64 x9, .slice ta n1 tc, .slice oa n2 oc] 29)).alloc (.cells #[.int .i64 x0, .int .i64 x1, .int .i64 x2, .int .i64 x3, .int .i64 x4, .int .i64 x5, .int .i64 x6, .int .i64 x7, .int .i64 x8, .int .i64 x9, .slice tb n1 td, .slice ob n2 od] 33)).heap[w.heap.size]? = some (.cells #[.int .i64 x0, .int .i64 x1, .int .i64 x2, .int .i64 x3, .int .i64 x4, .int .i64 x5, .int .i64 x6, .int .i64 x7, .int .i64 x8, .int .i64 x9, .slice ta n1 tc, .slice oa n2 oc] 29 (0, 0))) := by
    show _ = _
    rw [Below.heap_alloc _ _ _ (by simp)]
    exact heap_alloc_new w _
  have HY0 : Hid (((w.alloc (.cells #[.int .i64 x0, .int .i64 x1, .int .i64 x2, .int .i64 x3, .int .i64 x4, .int .i64 x5, .int .i64 x6, .int .i64 x7, .int .i64 x8, .int .i64 x9, .slice ta n1 tc, .slice oa n2 oc] 29)).alloc (.cells #[.int .i64 x0, .int .i64 x1, .int .i64 x2, .int .i64 x3, .int .i64 x4, .int .i64 x5, .int .i64 x6, .int .i64 x7, .int .i64 x8, .int .i64 x9, .slice tb n1 td, .slice ob n2 od] 33)).heap[w.heap.size + 1]? = some (.cells #[.int .i64 x0, .int .i64 x1, .int .i64 x2, .int .i64 x3, .int .i64 x4, .int .i64 x5, .int .i64 x6, .int .i64 x7, .int .i64 x8, .int .i64 x9, .slice tb n1 td, .slice ob n2 od] 33 (0, 0))) := heap_alloc2_new w _ _
  have HN1 := hide_it hn1
  have HN2 := hide_it hn2
  have HT1 := hide_it h1
  have HT2 := hide_it h3
  have HO1 := hide_it h2
  have HO2 := hide_it h4
  clear h1 h2 h3 h4 hn1 hn2
  go_enter Tryd.func12, Tryd.ntmps12
  go_wp2
  go_loopw [5] (fun i wr => ∃ k : Nat, i = .int .i64 k ∧ k ≤ n1 ∧ Hid (Below w.heap.size w wr) ∧ Hid (wr.heap[w.heap.size]? = some (.cells #[.int .i64 x0, .int .i64 x1, .int .i64 x2, .int .i64 x3, .int .i64 x4, .int .i64 x5, .int .i64 x6, .int .i64 x7, .int .i64 x8, .int .i64 x9, .slice ta n1 tc, .slice oa n2 oc] 29 (0, 0))) ∧ Hid (wr.heap[w.heap.size + 1]? = some (.cells #[.int .i64 x0, .int .i64 x1, .int .i64 x2, .int .i64 x3, .int .i64 x4, .int .i64 x5, .int .i64 x6, .int .i64 x7, .int .i64 x8, .int .i64 x9, .slice tb n1 td, .slice ob n2 od] 33 (0, 0)))) (fun i _ => n1 - (intOf i).toNat)
  case atStart => exact ⟨0, rfl, by omega, HB0, HX0, HY0⟩
  case round =>
    obtain ⟨k, rfl, hk, hB, hX, hY⟩ := hrel
    clear HB0 HX0 HY0
    obtain ⟨a0, a1, a2, a3, a4, a5, a6, a7, a8, a9, a10, a11, _⟩ := cells12 hX.out
    obtain ⟨b0, b1, b2, b3, b4, b5, b6, b7, b8, b9, b10, b11, _⟩ := cells12 hY.out
    by_cases hlt : k < n1
    · have hltI : (k : Int) < (n1 : Int) := by omega
      have hk0 : (0 : Int) ≤ (k : Int) := by omega
      have hlt' : k < f.tasks.length := by rw [HN1.out]; exact hlt
      obtain ⟨p1, q1, rfl, _, c0, c1⟩ := (HT1.out.below hB.out (Nat.le_refl _)) k hlt'
      obtain ⟨p2, q2, rfl, _, e0, e1⟩ := (HT2.out.below hB.out (Nat.le_refl _)) k hlt'
      generalize f.tasks[k].1 = y0 at *
      generalize f.tasks[k].2 = y1 at *
      go_wp2
      go_quiet (fail)
      all_goals go_wp2
      go_roundw
      case rel => exact ⟨k + 1, by go_num, by omega, below_drewQ hB.out _, hX, hY⟩
      case measure => simp [intOf]; omega
    · have hltI : ¬ (k : Int) < (n1 : Int) := by omega
      go_wp2
      obtain ⟨wo, rfl⟩ : ∃ W : World, W = wr := ⟨_, rfl⟩
      clear a0 a1 a2 a3 a4 a5 a6 a7 a8 a9 a10 a11 b0 b1 b2 b3 b4 b5 b6 b7 b8 b9 b10 b11
      go_loopw [6] (fun i wr => ∃ k : Nat, i = .int .i64 k ∧ k ≤ n2 ∧ Hid (Below w.heap.size w wr) ∧ Hid (wr.heap[w.heap.size]? = some (.cells #[.int .i64 x0, .int .i64 x1, .int .i64 x2, .int .i64 x3, .int .i64 x4, .int .i64 x5, .int .i64 x6, .int .i64 x7, .int .i64 x8, .int .i64 x9, .slice ta n1 tc, .slice oa n2 oc] 29 (0, 0))) ∧ Hid (wr.heap[w.heap.size + 1]? = some (.cells #[.int .i64 x0, .int .i64 x1, .int .i64 x2, .int .i64 x3, .int .i64 x4, .int .i64 x5, .int .i64 x6, .int .i64 x7, .int .i64 x8, .int .i64 x9, .slice tb n1 td, .slice ob n2 od] 33 (0, 0)))) (fun i _ => n2 - (intOf i).toNat)
      case atStart => exact ⟨0, rfl, by omega, hB, hX, hY⟩
      case round =>
        clear hk hlt hltI hB hX hY
        obtain ⟨k2, rfl, hk, hB, hX, hY⟩ := hrel
        obtain ⟨a0, a1, a2, a3, a4, a5, a6, a7, a8, a9, a10, a11, _⟩ := cells12 hX.out
        obtain ⟨b0, b1, b2, b3, b4, b5, b6, b7, b8, b9, b10, b11, _⟩ := cells12 hY.out
        by_cases hlt : k2 < n2
        · have hltI : (k2 : Int) < (n2 : Int) := by omega
          have hk0 : (0 : Int) ≤ (k2 : Int) := by omega
          have hlt' : k2 < f.ops.length := by rw [HN2.out]; exact hlt
          obtain ⟨p1, q1, rfl, _, c0, c1, c2, c3, c4⟩ := (HO1.out.below hB.out (Nat.le_refl _)) k2 hlt'
          obtain ⟨p2, q2, rfl, _, e0, e1, e2, e3, e4⟩ := (HO2.out.below hB.out (Nat.le_refl _)) k2 hlt'
          generalize f.ops[k2] = oo at *
          go_wp2
          go_quiet (fail)
          all_goals go_wp2
          go_roundw
          case rel => exact ⟨k2 + 1, by go_num, by omega, below_drewQ hB.out _, hX, hY⟩
          case measure => simp [intOf]; omega
        · have hltI : ¬ (k2 : Int) < (n2 : Int) := by omega
          go_wp2
          go_ret
          exact ⟨rfl, hB.out⟩

end Go.Proofs.YtgjfhfjmdkhllaaDoor
