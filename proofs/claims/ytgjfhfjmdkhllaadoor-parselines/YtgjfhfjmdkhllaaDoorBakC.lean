/- ParseBack: the walk. -/
import Derived.Test.YtgjfhfjmdkhllaaDoorSame
import Derived.Test.YtgjfhfjmdkhllaaDoorBakM
namespace Go.Proofs.YtgjfhfjmdkhllaaDoor
open Go.RowKit
open M
set_option linter.unusedVariables false
set_option linter.unusedSimpArgs false

theorem Bytes.take {w : World} {a : Option Addr} {bs : List UInt8} (h : Bytes w a bs) (k : Nat) : Bytes w a (bs.take k) := by
  intro i hi
  have hi' : i < bs.length := by simp at hi; omega
  obtain ⟨b, o, h1, h2⟩ := h i hi'
  exact ⟨b, o, h1, by rw [List.getElem_take]; exact h2⟩

/-- Parse, at bytes that are a file. -/
theorem parse_file (x0 x1 x2 x3 x4 x5 x6 x7 x8 x9 : Int) (a : Option Addr) (cap : Nat) (bs : List UInt8) (w : World) (hT : Tabs w) (hcap : bs.length ≤ cap) (hcm : cap ≤ maxLen) (hb : Bytes w a bs) (f : Fl) (hc : f.cfg = [x0, x1, x2, x3, x4, x5, x6, x7, x8, x9]) (l : Nat) (E : Int) (hR : parseF bs = ⟨f, l, E⟩) :
    Calls Tryd.prog 10 #[.slice a bs.length cap] w fun e w2 => ∃ ta tc oa oc, e = .returned (.tuple #[.agg #[.int .i64 x0, .int .i64 x1, .int .i64 x2, .int .i64 x3, .int .i64 x4, .int .i64 x5, .int .i64 x6, .int .i64 x7, .int .i64 x8, .int .i64 x9, .slice ta f.tasks.length tc, .slice oa f.ops.length oc], .int .i64 l, .int .i64 E]) ∧ TasksIn w2 ta f.tasks ∧ OpsIn w2 oa f.ops ∧ Below w.heap.size w w2 := by
  refine (parse_bytes a cap bs w hT hcap hcm hb).mono ?_
  rw [hR]
  rintro e w' ⟨vt, vo, rfl, h⟩
  obtain ⟨ta, tc, rfl⟩ := own_slice h.ts
  obtain ⟨oa, oc, rfl⟩ := own_slice h.os
  refine ⟨ta, tc, oa, oc, ?_, tasks_own h.ts, ops_own h.os, h.bel⟩
  unfold fileA
  rw [hc]
  rfl

/-- A file in a variable. -/
structure FAt (W : World) (b : Nat) (f : Fl) (x0 x1 x2 x3 x4 x5 x6 x7 x8 x9 : Int) (ta oa : Option Addr) (tc oc : Nat) : Prop where
  blk : W.heap[b]? = some (.cells #[.int .i64 x0, .int .i64 x1, .int .i64 x2, .int .i64 x3, .int .i64 x4, .int .i64 x5, .int .i64 x6, .int .i64 x7, .int .i64 x8, .int .i64 x9, .slice ta f.tasks.length tc, .slice oa f.ops.length oc] 29 (0, 0))
  ts : TasksIn W ta f.tasks
  os : OpsIn W oa f.ops
theorem FAt.below {W W' : World} {b : Nat} {f : Fl} {x0 x1 x2 x3 x4 x5 x6 x7 x8 x9 : Int} {ta oa : Option Addr} {tc oc : Nat} (h : FAt W b f x0 x1 x2 x3 x4 x5 x6 x7 x8 x9 ta oa tc oc) (hb : Below W.heap.size W W') : FAt W' b f x0 x1 x2 x3 x4 x5 x6 x7 x8 x9 ta oa tc oc :=
  ⟨by rw [hb.block _ (block_lt h.blk)]; exact h.blk, h.ts.below hb (Nat.le_refl _), h.os.below hb (Nat.le_refl _)⟩
theorem FAt.mk29 {W : World} {f : Fl} (x0 x1 x2 x3 x4 x5 x6 x7 x8 x9 : Int) {ta oa : Option Addr} (tc oc : Nat) (h1 : TasksIn W ta f.tasks) (h2 : OpsIn W oa f.ops) : FAt (W.alloc (.cells #[.int .i64 x0, .int .i64 x1, .int .i64 x2, .int .i64 x3, .int .i64 x4, .int .i64 x5, .int .i64 x6, .int .i64 x7, .int .i64 x8, .int .i64 x9, .slice ta f.tasks.length tc, .slice oa f.ops.length oc] 29)) W.heap.size f x0 x1 x2 x3 x4 x5 x6 x7 x8 x9 ta oa tc oc :=
  ⟨heap_alloc_new W _, h1.below ((Below.refl _ _).alloc (Nat.le_refl _) _) (Nat.le_refl _), h2.below ((Below.refl _ _).alloc (Nat.le_refl _) _) (Nat.le_refl _)⟩

theorem alloc_bel (W : World) (ob : Obj) : Below W.heap.size W (W.alloc ob) := (Below.refl _ _).alloc (Nat.le_refl _) _

end Go.Proofs.YtgjfhfjmdkhllaaDoor
