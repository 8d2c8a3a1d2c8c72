/-
  The statement ParseTexts of package millwrightlaw03 is proved, as the tied card that is given: for every input the call returns true, and each argument reads afterwards as it read before.
-/
import Derived.Test.YtgjfhfjmdkhllaaDoorLaid
import Derived.Test.YtgjfhfjmdkhllaaDoorTie
import Derived.Test.YtgjfhfjmdkhllaaDoorCards
import Derived.SevenTiedAt
import Derived.Test.YtgjfhfjmdkhllaaDoorTxRa
import Derived.Test.YtgjfhfjmdkhllaaDoorTxRb
import Derived.Test.YtgjfhfjmdkhllaaDoorFew
namespace Go.Proofs.YtgjfhfjmdkhllaaDoor
open Go.RowKit
open M
set_option linter.unusedVariables false
set_option linter.unusedSimpArgs false

theorem refT_any (x0 x1 x2 x3 x4 x5 x6 x7 x8 x9 : Int) (f : Fl) (ta oa : Option Addr) (tc oc : Nat) (w : World) (hcf : f.cfg = [x0, x1, x2, x3, x4, x5, x6, x7, x8, x9]) (hti : TasksIn w ta f.tasks) (hoi : OpsIn w oa f.ops) (hl1 : f.tasks.length ≤ 70) (hl2 : f.ops.length ≤ 200) (hbc : ∀ n ∈ f.cfg, i64B n) (hbt : ∀ t ∈ f.tasks, i64B t.1 ∧ i64B t.2) (RS : List UInt8) (RE : Int) (hR : (textF f = some RS ∧ RE = 0) ∨ (textF f = none ∧ RS = [] ∧ RE = 1)) :
    Calls Tryd.prog 15 #[.agg #[.int .i64 x0, .int .i64 x1, .int .i64 x2, .int .i64 x3, .int .i64 x4, .int .i64 x5, .int .i64 x6, .int .i64 x7, .int .i64 x8, .int .i64 x9, .slice ta f.tasks.length tc, .slice oa f.ops.length oc]] w fun e w' => e = .returned (.tuple #[strV RS, .int .i64 RE]) ∧ Below w.heap.size w w' := by
  by_cases h : f.tasks.length ≤ 64
  · exact refT_fits x0 x1 x2 x3 x4 x5 x6 x7 x8 x9 f ta oa tc oc _ _ rfl rfl w hcf hti hoi hl1 hl2 hbc hbt h RS RE hR
  · exact refT_not x0 x1 x2 x3 x4 x5 x6 x7 x8 x9 f ta oa tc oc _ _ rfl rfl w hcf hti hoi hl1 hl2 hbc hbt h RS RE hR

set_option maxRecDepth 1000000 in
set_option maxHeartbeats 2000000 in
theorem texts_walk (x0 x1 x2 x3 x4 x5 x6 x7 x8 x9 : Int) (f : Fl) (ta oa : Option Addr) (tc oc : Nat) (w : World) (v : Value) (hT : Tabs w) (hI : InF w v f x0 x1 x2 x3 x4 x5 x6 x7 x8 x9 ta oa tc oc) :
    Calls Tryd.prog 4 #[v] w fun e w' => e = .returned (.bool true) ∧ Below w.heap.size w w' := by
  have hbc0 := hI.bc
  have hbt0 := hI.bt
  obtain ⟨rfl, hcf, hti0, hoi0, ⟨tl1, tl2⟩, ⟨ol1, ol2⟩, _, _, _⟩ := hI
  obtain ⟨hg1, hg2⟩ := fewF_len f
  have hgc : (fewF f).cfg = [x0, x1, x2, x3, x4, x5, x6, x7, x8, x9] := hcf
  have hti : TasksIn w ta (fewF f).tasks := hti0.take 70
  have hoi : OpsIn w oa (fewF f).ops := hoi0.take 200
  have hm1 : (fewF f).tasks.length ≤ 70 := by omega
  have hm2 : (fewF f).ops.length ≤ 200 := by omega
  have hbx : Below w.heap.size w (w.alloc (.cells #[.int .i64 x0, .int .i64 x1, .int .i64 x2, .int .i64 x3, .int .i64 x4, .int .i64 x5, .int .i64 x6, .int .i64 x7, .int .i64 x8, .int .i64 x9, .slice ta f.tasks.length tc, .slice oa f.ops.length oc] 29)) := (Below.refl _ _).alloc (Nat.le_refl _) _
  have kS : Calls Tryd.prog 9 #[] (w.alloc (.cells #[.int .i64 x0, .int .i64 x1, .int .i64 x2, .int .i64 x3, .int .i64 x4, .int .i64 x5, .int .i64 x6, .int .i64 x7, .int .i64 x8, .int .i64 x9, .slice ta f.tasks.length tc, .slice oa f.ops.length oc] 29)) fun e w1 => e = .returned (.bool true) ∧ Hid (Below w.heap.size w w1) ∧ Hid (w1.heap[w.heap.size]? = some (.cells #[.int .i64 x0, .int .i64 x1, .int .i64 x2, .int .i64 x3, .int .i64 x4, .int .i64 x5, .int .i64 x6, .int .i64 x7, .int .i64 x8, .int .i64 x9, .slice ta f.tasks.length tc, .slice oa f.ops.length oc] 29 (0, 0))) := by
    refine (shown_any _ (hT.alloc _)).mono ?_
    rintro e w1 ⟨rfl, hb⟩
    exact ⟨rfl, hbx.trans (hb.mono hbx.size), by show _ = _; rw [hb.block _ (by simp)]; exact heap_alloc_new w _⟩
  have kF : ∀ w1, Below w.heap.size w w1 → w1.heap[w.heap.size]? = some (.cells #[.int .i64 x0, .int .i64 x1, .int .i64 x2, .int .i64 x3, .int .i64 x4, .int .i64 x5, .int .i64 x6, .int .i64 x7, .int .i64 x8, .int .i64 x9, .slice ta f.tasks.length tc, .slice oa f.ops.length oc] 29 (0, 0)) → Calls Tryd.prog 13 #[.agg #[.int .i64 x0, .int .i64 x1, .int .i64 x2, .int .i64 x3, .int .i64 x4, .int .i64 x5, .int .i64 x6, .int .i64 x7, .int .i64 x8, .int .i64 x9, .slice ta f.tasks.length tc, .slice oa f.ops.length oc]] w1 fun e w2 => e = .returned (.agg #[.int .i64 x0, .int .i64 x1, .int .i64 x2, .int .i64 x3, .int .i64 x4, .int .i64 x5, .int .i64 x6, .int .i64 x7, .int .i64 x8, .int .i64 x9, .slice ta (fewF f).tasks.length tc, .slice oa (fewF f).ops.length oc]) ∧ Hid (Below w.heap.size w w2) ∧ Hid (w2.heap[w.heap.size]? = some (.cells #[.int .i64 x0, .int .i64 x1, .int .i64 x2, .int .i64 x3, .int .i64 x4, .int .i64 x5, .int .i64 x6, .int .i64 x7, .int .i64 x8, .int .i64 x9, .slice ta f.tasks.length tc, .slice oa f.ops.length oc] 29 (0, 0))) := fun w1 h1 h2 => by
    rw [hg1, hg2]
    refine (few_any x0 x1 x2 x3 x4 x5 x6 x7 x8 x9 f.tasks.length f.ops.length ta oa tc oc w1 tl1 ol1 tl2 ol2).mono ?_
    rintro e w2 ⟨rfl, hb⟩
    exact ⟨rfl, h1.trans (hb.mono h1.size), by show _ = _; rw [hb.block _ (block_lt h2)]; exact h2⟩
  have hfO : (fewF f).ops.length ≤ 4096 := by omega
  have hbc : ∀ n ∈ (fewF f).cfg, i64B n := hbc0
  have hbt : ∀ t ∈ (fewF f).tasks, i64B t.1 ∧ i64B t.2 := fun t ht => hbt0 t (List.mem_of_mem_take ht)
  clear hbc0 hbt0
  generalize fewF f = g at *
  clear hg1 hg2 hti0 hoi0 hbx hcf
  generalize f.tasks.length = n1 at *
  generalize f.ops.length = n2 at *
  clear tl1 tl2 ol1 ol2
  cases hR : textF g with
  | none =>
    have kT : ∀ w2, Below w.heap.size w w2 → w2.heap[w.heap.size]? = some (.cells #[.int .i64 x0, .int .i64 x1, .int .i64 x2, .int .i64 x3, .int .i64 x4, .int .i64 x5, .int .i64 x6, .int .i64 x7, .int .i64 x8, .int .i64 x9, .slice ta n1 tc, .slice oa n2 oc] 29 (0, 0)) → Calls Tryd.prog 14 #[.agg #[.int .i64 x0, .int .i64 x1, .int .i64 x2, .int .i64 x3, .int .i64 x4, .int .i64 x5, .int .i64 x6, .int .i64 x7, .int .i64 x8, .int .i64 x9, .slice ta g.tasks.length tc, .slice oa g.ops.length oc]] (put12 w2 w.heap.size (.int .i64 x0) (.int .i64 x1) (.int .i64 x2) (.int .i64 x3) (.int .i64 x4) (.int .i64 x5) (.int .i64 x6) (.int .i64 x7) (.int .i64 x8) (.int .i64 x9) (.slice ta g.tasks.length tc) (.slice oa g.ops.length oc)) fun e w4 => e = .returned (.tuple #[.string ⟨#[]⟩, .int .i64 1]) ∧ Hid (Below w.heap.size w w4) ∧ Hid (w4.heap[w.heap.size]? = some (.cells #[.int .i64 x0, .int .i64 x1, .int .i64 x2, .int .i64 x3, .int .i64 x4, .int .i64 x5, .int .i64 x6, .int .i64 x7, .int .i64 x8, .int .i64 x9, .slice ta g.tasks.length tc, .slice oa g.ops.length oc] 29 (0, 0))) := fun w2 h1 h2 => by
      obtain ⟨p1, p2⟩ := put_file (Nat.le_refl _) h1 h2 (.int .i64 x0) (.int .i64 x1) (.int .i64 x2) (.int .i64 x3) (.int .i64 x4) (.int .i64 x5) (.int .i64 x6) (.int .i64 x7) (.int .i64 x8) (.int .i64 x9) (.slice ta g.tasks.length tc) (.slice oa g.ops.length oc)
      refine (text_no x0 x1 x2 x3 x4 x5 x6 x7 x8 x9 g hgc ta oa tc oc _ (hT.on p2 hT.big) (hti.below p2 (Nat.le_refl _)) (hoi.below p2 (Nat.le_refl _)) hfO hR).mono ?_
      rintro e w4 ⟨rfl, hb⟩
      exact ⟨rfl, p2.trans (hb.mono p2.size), by show _ = _; rw [hb.block _ (block_lt p1)]; exact p1⟩
  
    have kX : ∀ w4, Below w.heap.size w w4 → Calls Tryd.prog 15 #[.agg #[.int .i64 x0, .int .i64 x1, .int .i64 x2, .int .i64 x3, .int .i64 x4, .int .i64 x5, .int .i64 x6, .int .i64 x7, .int .i64 x8, .int .i64 x9, .slice ta g.tasks.length tc, .slice oa g.ops.length oc]] w4 fun e w5 => e = .returned (.tuple #[.string ⟨#[]⟩, .int .i64 1]) ∧ Hid (Below w.heap.size w w5) := fun w4 h1 => by
      refine (refT_any x0 x1 x2 x3 x4 x5 x6 x7 x8 x9 g ta oa tc oc w4 hgc (hti.below h1 (Nat.le_refl _)) (hoi.below h1 (Nat.le_refl _)) hm1 hm2 hbc hbt _ 1 (.inr ⟨hR, rfl, rfl⟩)).mono ?_
      rintro e w5 ⟨rfl, hb⟩
      exact ⟨rfl, h1.trans (hb.mono h1.size)⟩
  
    clear hgc hti hoi hR hbc hbt
    generalize g.tasks.length = t1 at *
    generalize g.ops.length = t2 at *
    go_enter Tryd.func4, Tryd.ntmps4
    go_wp2_with (first | (go_at_call 9; refine kS.mono ?_; rintro e w1 ⟨rfl, hB1, hE1⟩; obtain ⟨a0, a1, a2, a3, a4, a5, a6, a7, a8, a9, a10, a11, fz⟩ := cells12 hE1.out) | (go_at_call 13; refine (kF w1 hB1.out hE1.out).mono ?_; rintro e w2 ⟨rfl, hB2, hE2⟩; clear a0 a1 a2 a3 a4 a5 a6 a7 a8 a9 a10 a11 fz; obtain ⟨a0, a1, a2, a3, a4, a5, a6, a7, a8, a9, a10, a11, fz⟩ := cells12 hE2.out) | (go_at_call 14; refine (kT w2 hB2.out hE2.out).mono ?_; rintro e w4 ⟨rfl, hB4, hE4⟩; clear a0 a1 a2 a3 a4 a5 a6 a7 a8 a9 a10 a11 fz; obtain ⟨a0, a1, a2, a3, a4, a5, a6, a7, a8, a9, a10, a11, fz⟩ := cells12 hE4.out) | (go_at_call 15; refine (kX _ hB4.out).mono ?_; rintro e w5 ⟨rfl, hB5⟩))
    go_ret
    exact ⟨rfl, hB5.out⟩
  | some r =>
    have kT : ∀ w2, Below w.heap.size w w2 → w2.heap[w.heap.size]? = some (.cells #[.int .i64 x0, .int .i64 x1, .int .i64 x2, .int .i64 x3, .int .i64 x4, .int .i64 x5, .int .i64 x6, .int .i64 x7, .int .i64 x8, .int .i64 x9, .slice ta n1 tc, .slice oa n2 oc] 29 (0, 0)) → Calls Tryd.prog 14 #[.agg #[.int .i64 x0, .int .i64 x1, .int .i64 x2, .int .i64 x3, .int .i64 x4, .int .i64 x5, .int .i64 x6, .int .i64 x7, .int .i64 x8, .int .i64 x9, .slice ta g.tasks.length tc, .slice oa g.ops.length oc]] (put12 w2 w.heap.size (.int .i64 x0) (.int .i64 x1) (.int .i64 x2) (.int .i64 x3) (.int .i64 x4) (.int .i64 x5) (.int .i64 x6) (.int .i64 x7) (.int .i64 x8) (.int .i64 x9) (.slice ta g.tasks.length tc) (.slice oa g.ops.length oc)) fun e w4 => e = .returned (.tuple #[.string ⟨r.toArray⟩, .int .i64 0]) ∧ Hid (Below w.heap.size w w4) ∧ Hid (w4.heap[w.heap.size]? = some (.cells #[.int .i64 x0, .int .i64 x1, .int .i64 x2, .int .i64 x3, .int .i64 x4, .int .i64 x5, .int .i64 x6, .int .i64 x7, .int .i64 x8, .int .i64 x9, .slice ta g.tasks.length tc, .slice oa g.ops.length oc] 29 (0, 0))) := fun w2 h1 h2 => by
      obtain ⟨p1, p2⟩ := put_file (Nat.le_refl _) h1 h2 (.int .i64 x0) (.int .i64 x1) (.int .i64 x2) (.int .i64 x3) (.int .i64 x4) (.int .i64 x5) (.int .i64 x6) (.int .i64 x7) (.int .i64 x8) (.int .i64 x9) (.slice ta g.tasks.length tc) (.slice oa g.ops.length oc)
      refine (text_some x0 x1 x2 x3 x4 x5 x6 x7 x8 x9 g hgc ta oa tc oc _ (hT.on p2 hT.big) (hti.below p2 (Nat.le_refl _)) (hoi.below p2 (Nat.le_refl _)) r hR).mono ?_
      rintro e w4 ⟨rfl, hb⟩
      exact ⟨rfl, p2.trans (hb.mono p2.size), by show _ = _; rw [hb.block _ (block_lt p1)]; exact p1⟩
  
    have kX : ∀ w4, Below w.heap.size w w4 → Calls Tryd.prog 15 #[.agg #[.int .i64 x0, .int .i64 x1, .int .i64 x2, .int .i64 x3, .int .i64 x4, .int .i64 x5, .int .i64 x6, .int .i64 x7, .int .i64 x8, .int .i64 x9, .slice ta g.tasks.length tc, .slice oa g.ops.length oc]] w4 fun e w5 => e = .returned (.tuple #[.string ⟨r.toArray⟩, .int .i64 0]) ∧ Hid (Below w.heap.size w w5) := fun w4 h1 => by
      refine (refT_any x0 x1 x2 x3 x4 x5 x6 x7 x8 x9 g ta oa tc oc w4 hgc (hti.below h1 (Nat.le_refl _)) (hoi.below h1 (Nat.le_refl _)) hm1 hm2 hbc hbt _ 0 (.inl ⟨hR, rfl⟩)).mono ?_
      rintro e w5 ⟨rfl, hb⟩
      exact ⟨rfl, h1.trans (hb.mono h1.size)⟩
  
    clear hgc hti hoi hR hbc hbt
    generalize (⟨r.toArray⟩ : ByteArray) = sR at *
    generalize g.tasks.length = t1 at *
    generalize g.ops.length = t2 at *
    go_enter Tryd.func4, Tryd.ntmps4
    go_wp2_with (first | (go_at_call 9; refine kS.mono ?_; rintro e w1 ⟨rfl, hB1, hE1⟩; obtain ⟨a0, a1, a2, a3, a4, a5, a6, a7, a8, a9, a10, a11, fz⟩ := cells12 hE1.out) | (go_at_call 13; refine (kF w1 hB1.out hE1.out).mono ?_; rintro e w2 ⟨rfl, hB2, hE2⟩; clear a0 a1 a2 a3 a4 a5 a6 a7 a8 a9 a10 a11 fz; obtain ⟨a0, a1, a2, a3, a4, a5, a6, a7, a8, a9, a10, a11, fz⟩ := cells12 hE2.out) | (go_at_call 14; refine (kT w2 hB2.out hE2.out).mono ?_; rintro e w4 ⟨rfl, hB4, hE4⟩; clear a0 a1 a2 a3 a4 a5 a6 a7 a8 a9 a10 a11 fz; obtain ⟨a0, a1, a2, a3, a4, a5, a6, a7, a8, a9, a10, a11, fz⟩ := cells12 hE4.out) | (go_at_call 15; refine (kX _ hB4.out).mono ?_; rintro e w5 ⟨rfl, hB5⟩))
    go_ret
    exact ⟨rfl, hB5.out⟩

end Go.Proofs.YtgjfhfjmdkhllaaDoor
namespace Go.Proofs.YtgjfhfjmdkhllaaDoor
namespace ParseTexts
open Go Go.ChangeShapes Go.WideShapes Go.ChangeAt Go.WideMaps Go.WideElems Go.RowKit
open Go.ChangeMaps (open_string shut_string)
open M
set_option linter.unusedVariables false
set_option linter.unusedSimpArgs false

set_option maxRecDepth 100000 in
theorem lifted (os : Os) (started : os.Started) (H : Type) (enc : TypeId × Value → H) :
    ReturnsInHanded {} Tryd.checked os 4 .any (fun w args => (Rows.parseTextsSpec.pre enc Tryd.prog Tryd.f4 [] false w args ∧ laidMetH Tryd.prog laid6 w) ∧ sizedMet enc Tryd.prog Tryd.f4 (OpenSpec.ofChange Rows.parseTextsSpec) false w args)
      (Rows.parseTextsSpec.post enc Tryd.prog Tryd.f4 false true false false) := by
  refine returnsInHanded_of_change_and (C := Tryd.checked) (X := fun w _ => laidMetH Tryd.prog laid6 w) (fun _ _ _ hh h => h.of_heap hh) own started (by kernel_rfl) Tryd.func4
    (ChangeSpec.witness_shaped (enc := enc) (C := Tryd.checked) (os := os) (X := fun w _ => laidMetH Tryd.prog laid6 w) false (World.doorLaid Tryd.prog 63 os) #[.agg #[.int .i64 0, .int .i64 0, .int .i64 0, .int .i64 0, .int .i64 0, .int .i64 0, .int .i64 0, .int .i64 0, .int .i64 0, .int .i64 0, .slice none 0 0, .slice none 0 0]] 8 rfl (World.shaped_of_RefB (by kernel_rfl) (by kernel_rfl)) (by kernel_rfl) (by kernel_rfl) (by kernel_rfl) (door_met os _)) ?_
  intro W base args ds gs before hval0 hW _ _ hL _
  have hval : ∀ (j : Nat) t v, Tryd.f4.params[j]? = some t → args[j]? = some v → Value.okWide Tryd.prog W .any base t v := hval0
  have hW' := hW
  obtain ⟨p, q, hA0, hV, rfl, hfz, hnd⟩ := hW
  have hA : DataW.TrodAll enc Tryd.prog W 0 (fun _ => true) true Tryd.f4.params.toList args.toList ds p := hA0
  rw [Tryd.params4] at hA hval
  obtain ⟨v0, vs0, d0, ds0, p0, q0, hargs, rfl, rfl, h0, r0⟩ := trodAll_cons hA
  obtain ⟨rfl, rfl, rfl⟩ := trodAll_nil r0
  obtain rfl : args = #[v0] := by cases args; simp_all
  obtain ⟨rfl, rfl⟩ := trodVars_none hV
  have hT := tabs_of_laid hL
  have lt0 : ∀ x ∈ p0, x.block < W.heap.size := by obtain ⟨m, hm⟩ := h0; exact DataW.trod_lt m _ _ _ hm
  obtain ⟨f0, x0, x1, x2, x3, x4, x5, x6, x7, x8, x9, ta0, oa0, tc0, oc0, hI0⟩ := arg_file (hval 0 29 v0 rfl rfl) h0
  clear hA0 hval0
  refine (texts_walk x0 x1 x2 x3 x4 x5 x6 x7 x8 x9 f0 ta0 oa0 tc0 oc0 W v0 hT hI0).mono fun e W' ⟨he, bel⟩ => ?_
  subst he
  exact ⟨_, rfl, _, _, _, [], _, [], hW', trodAll_mk1 (shut_bool Tryd.underlying4 _), (trodAll_cons_mk (Below.trod laidOut (by kernel_rfl) (of_decide_eq_true (by kernel_rfl)) h0 bel lt0) trodAll_mk0), rfl, bel.frame _, fun h => by cases h⟩

theorem row_holds : Rows.ParseTextsSaid :=
  OpenClaim.holds_of_wide 4 Tryd.f4 rfl rfl rfl rfl rfl rfl rfl ⟨rfl, rfl, rfl, rfl, rfl⟩ rfl rfl rfl rfl rfl (by kernel_rfl) Tryd.func4 (by kernel_rfl)
    (of_decide_eq_true (by kernel_rfl)) (by unfold Func.isWrapper; first | (rw [if_pos (by decide +kernel)]; kernel_rfl) | (rw [if_neg (by decide +kernel)]; exact ⟨rfl, rfl⟩))
    (fun os started H enc _ => lifted os started H enc)

end ParseTexts

theorem parseTexts_card_holds : Rows.ParseTextsCardSaid :=
  Claim7.holds_tied_plain_at .later [] [.data, .data, .data, .listed, .data, .data] true (true, "f6973eccdf76c5c7e84992e0aa7d3da30d1361763d481eb51b7dbcf846ef7376") true
    ParseTexts.row_holds (fun _ h => by cases h) (by kernel_rfl) (fun _ h => by cases h) parseTexts_row_tie rfl ⟨rfl, rfl⟩ (by kernel_rfl) rfl
    (fun f fn hf hfn => by
      obtain rfl : f = 4 := Option.some.inj ((show Tryd.prog.funcNamed "millwright/millwrightlaw03.ParseTexts" = some 4 by kernel_rfl).symm.trans hf) |>.symm
      obtain rfl : fn = Tryd.f4 := (Option.some.inj (Tryd.func4.symm.trans hfn)).symm
      exact ⟨by kernel_rfl, fun j t ht => by
        rw [Tryd.params4] at ht
        have hm : t ∈ [29] := by simpa using Array.mem_of_getElem? ht
        have hall : ([29].all fun u => !Tryd.prog.wantsStandIn u) = true := by kernel_rfl
        exact (show Tryd.prog.wantsStandIn t = false by simpa using List.all_eq_true.1 hall t hm)⟩)
    (by kernel_rfl)
#print axioms parseTexts_card_holds
end Go.Proofs.YtgjfhfjmdkhllaaDoor
