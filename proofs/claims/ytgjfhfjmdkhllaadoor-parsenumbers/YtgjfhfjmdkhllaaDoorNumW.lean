/- ParseNumbers: the walk. -/
import Derived.Test.YtgjfhfjmdkhllaaDoorNumL
import Derived.Test.YtgjfhfjmdkhllaaDoorNumT
import Derived.Test.YtgjfhfjmdkhllaaDoorShoW
import Derived.Deep.DeepCutAuto
import Derived.Deep.RegionHeld3
import Derived.Laws.BitsLemmas
namespace Go.Proofs.YtgjfhfjmdkhllaaDoor
open Go.RowKit
open M
set_option linter.unusedVariables false
set_option linter.unusedSimpArgs false

theorem i64_and16 (n : Int) : bits .and .i64 n 65535 = n % 65536 := by
  have h : (BitVec.ofInt 64 65535).toNat = 2 ^ 16 - 1 := by decide
  have key : (BitVec.ofInt 64 n &&& BitVec.ofInt 64 65535).toNat = (n % ((2 ^ 64 : Nat) : Int)).toNat % 2 ^ 16 := by
    rw [BitVec.toNat_and, BitVec.toNat_ofInt, h, Nat.and_two_pow_sub_one_eq_mod]
  show IntKind.i64.wrap ((BitVec.ofInt 64 n &&& BitVec.ofInt 64 65535).toNat : Nat) = n % 65536
  rw [key, IntKind.wrap_i64]
  omega
theorem i64_and31 (n : Int) : bits .and .i64 n 2147483647 = n % 2147483648 := by
  have h : (BitVec.ofInt 64 2147483647).toNat = 2 ^ 31 - 1 := by decide
  have key : (BitVec.ofInt 64 n &&& BitVec.ofInt 64 2147483647).toNat = (n % ((2 ^ 64 : Nat) : Int)).toNat % 2 ^ 31 := by
    rw [BitVec.toNat_and, BitVec.toNat_ofInt, h, Nat.and_two_pow_sub_one_eq_mod]
  show IntKind.i64.wrap ((BitVec.ofInt 64 n &&& BitVec.ofInt 64 2147483647).toNat : Nat) = n % 2147483648
  rw [key, IntKind.wrap_i64]
  omega

/-- A file as a variable holds it. -/
def RowsAt (W : World) (g : Nat) (f : Fl) : Prop := ∃ x0 x1 x2 x3 x4 x5 x6 x7 x8 x9 ta tc oa oc, W.heap[g]? = some (.cells #[.int .i64 x0, .int .i64 x1, .int .i64 x2, .int .i64 x3, .int .i64 x4, .int .i64 x5, .int .i64 x6, .int .i64 x7, .int .i64 x8, .int .i64 x9, .slice ta f.tasks.length tc, .slice oa f.ops.length oc] 29 (0, 0)) ∧ f.cfg = [x0, x1, x2, x3, x4, x5, x6, x7, x8, x9] ∧ TasksIn W ta f.tasks ∧ OpsIn W oa f.ops
theorem RowsAt.below {W W' : World} {g : Nat} {f : Fl} (h : RowsAt W g f) {B : Nat} (hb : Below B W W') (hB : W.heap.size ≤ B) : RowsAt W' g f := by
  obtain ⟨x0, x1, x2, x3, x4, x5, x6, x7, x8, x9, ta, tc, oa, oc, h1, h2, h3, h4⟩ := h
  exact ⟨x0, x1, x2, x3, x4, x5, x6, x7, x8, x9, ta, tc, oa, oc, by rw [hb.block _ (Nat.lt_of_lt_of_le (block_lt h1) hB)]; exact h1, h2, h3.below hb hB, h4.below hb hB⟩
theorem rows_new {W0 w2 : World} {f : Fl} {x0 x1 x2 x3 x4 x5 x6 x7 x8 x9 : Int} {ta oa : Option Addr} {tc oc : Nat} (h : Back W0 w2 f (.slice ta f.tasks.length tc) (.slice oa f.ops.length oc)) (hc : f.cfg = [x0, x1, x2, x3, x4, x5, x6, x7, x8, x9]) : RowsAt (w2.alloc (.cells #[.int .i64 x0, .int .i64 x1, .int .i64 x2, .int .i64 x3, .int .i64 x4, .int .i64 x5, .int .i64 x6, .int .i64 x7, .int .i64 x8, .int .i64 x9, .slice ta f.tasks.length tc, .slice oa f.ops.length oc] 29)) w2.heap.size f :=
  ⟨x0, x1, x2, x3, x4, x5, x6, x7, x8, x9, ta, tc, oa, oc, heap_alloc_new w2 _, hc, (tasks_own h.ts).below ((Below.refl _ _).alloc (Nat.le_refl _) _) (Nat.le_refl _), (ops_own h.os).below ((Below.refl _ _).alloc (Nat.le_refl _) _) (Nat.le_refl _)⟩
theorem rows_put {W0 w2 : World} {f : Fl} {x0 x1 x2 x3 x4 x5 x6 x7 x8 x9 : Int} {ta oa : Option Addr} {tc oc g : Nat} (h : Back W0 w2 f (.slice ta f.tasks.length tc) (.slice oa f.ops.length oc)) (hc : f.cfg = [x0, x1, x2, x3, x4, x5, x6, x7, x8, x9]) (g1 : w2.heap[g]? = some (.cells #[.int .i64 0, .int .i64 0, .int .i64 0, .int .i64 0, .int .i64 0, .int .i64 0, .int .i64 0, .int .i64 0, .int .i64 0, .int .i64 0, .slice none 0 0, .slice none 0 0] 29 (0, 0))) : RowsAt (put12 w2 g (.int .i64 x0) (.int .i64 x1) (.int .i64 x2) (.int .i64 x3) (.int .i64 x4) (.int .i64 x5) (.int .i64 x6) (.int .i64 x7) (.int .i64 x8) (.int .i64 x9) (.slice ta f.tasks.length tc) (.slice oa f.ops.length oc)) g f :=
  have hp := put12_block g1 (.int .i64 x0) (.int .i64 x1) (.int .i64 x2) (.int .i64 x3) (.int .i64 x4) (.int .i64 x5) (.int .i64 x6) (.int .i64 x7) (.int .i64 x8) (.int .i64 x9) (.slice ta f.tasks.length tc) (.slice oa f.ops.length oc)
  have hon := put12_only w2 g (.int .i64 x0) (.int .i64 x1) (.int .i64 x2) (.int .i64 x3) (.int .i64 x4) (.int .i64 x5) (.int .i64 x6) (.int .i64 x7) (.int .i64 x8) (.int .i64 x9) (.slice ta f.tasks.length tc) (.slice oa f.ops.length oc)
  have p1 := h.ts.kept hon.grown (.inr (own_ne h.ts g1 (by decide)))
  have p2 := h.os.kept hon.grown (.inr (own_ne h.os g1 (by decide)))
  ⟨x0, x1, x2, x3, x4, x5, x6, x7, x8, x9, ta, tc, oa, oc, hp, hc, tasks_own p1, ops_own p2⟩

/-- Parse, with its file written out. -/
theorem parse_rows (a : Option Addr) (cap : Nat) (bs : List UInt8) (w : World) (hT : Tabs w) (hcap : bs.length ≤ cap) (hcm : cap ≤ maxLen) (hb : Bytes w a bs) (f : Fl) (l : Nat) (E : Int) (hR : parseF bs = ⟨f, l, E⟩) :
    Calls Tryd.prog 10 #[.slice a bs.length cap] w fun e w2 => ∃ x0 x1 x2 x3 x4 x5 x6 x7 x8 x9 ta tc oa oc, e = .returned (.tuple #[.agg #[.int .i64 x0, .int .i64 x1, .int .i64 x2, .int .i64 x3, .int .i64 x4, .int .i64 x5, .int .i64 x6, .int .i64 x7, .int .i64 x8, .int .i64 x9, .slice ta f.tasks.length tc, .slice oa f.ops.length oc], .int .i64 l, .int .i64 E]) ∧ Hid (f.cfg = [x0, x1, x2, x3, x4, x5, x6, x7, x8, x9]) ∧ Hid (Back w w2 f (.slice ta f.tasks.length tc) (.slice oa f.ops.length oc)) := by
  refine (parse_bytes a cap bs w hT hcap hcm hb).mono ?_
  rw [hR]
  rintro e w' ⟨vt, vo, rfl, h⟩
  obtain ⟨ta, tc, rfl⟩ := own_slice h.ts
  obtain ⟨oa, oc, rfl⟩ := own_slice h.os
  obtain ⟨x0, x1, x2, x3, x4, x5, x6, x7, x8, x9, hx⟩ := list10 h.cfg
  refine ⟨x0, x1, x2, x3, x4, x5, x6, x7, x8, x9, ta, tc, oa, oc, ?_, hx, h⟩
  unfold fileA
  rw [hx]
  rfl

/-- The three places where the file's variable may be made: ahead of the bytes, behind them, and last. -/
theorem parse_O1 (wr W6 : World) (J : List UInt8) (cap : Nat) (hT : Tabs wr) (hb6 : Below (wr.heap.size + 1) (wr.alloc (.cells #[.int .i64 0, .int .i64 0, .int .i64 0, .int .i64 0, .int .i64 0, .int .i64 0, .int .i64 0, .int .i64 0, .int .i64 0, .int .i64 0, .slice none 0 0, .slice none 0 0] 29)).drew W6) (hby : Bytes W6 (some ⟨wr.heap.size + 1, 0, none⟩) J) (hcap : J.length ≤ cap) (hcm : cap ≤ maxLen) (f : Fl) (l : Nat) (E : Int) (hR : parseF J = ⟨f, l, E⟩) :
    Calls Tryd.prog 10 #[.slice (some ⟨wr.heap.size + 1, 0, none⟩) J.length cap] W6 fun e w2 => ∃ x0 x1 x2 x3 x4 x5 x6 x7 x8 x9 ta tc oa oc, e = .returned (.tuple #[.agg #[.int .i64 x0, .int .i64 x1, .int .i64 x2, .int .i64 x3, .int .i64 x4, .int .i64 x5, .int .i64 x6, .int .i64 x7, .int .i64 x8, .int .i64 x9, .slice ta f.tasks.length tc, .slice oa f.ops.length oc], .int .i64 l, .int .i64 E]) ∧ Hid (f.cfg = [x0, x1, x2, x3, x4, x5, x6, x7, x8, x9]) ∧ Hid (Back W6 w2 f (.slice ta f.tasks.length tc) (.slice oa f.ops.length oc)) ∧ Hid (w2.heap[wr.heap.size]? = some (.cells #[.int .i64 0, .int .i64 0, .int .i64 0, .int .i64 0, .int .i64 0, .int .i64 0, .int .i64 0, .int .i64 0, .int .i64 0, .int .i64 0, .slice none 0 0, .slice none 0 0] 29 (0, 0))) ∧ Hid (Below wr.heap.size wr w2) ∧ w2.cell? ⟨wr.heap.size, 0, none⟩ = some (.int .i64 0) ∧ w2.cell? ⟨wr.heap.size, 1, none⟩ = some (.int .i64 0) ∧ w2.cell? ⟨wr.heap.size, 2, none⟩ = some (.int .i64 0) ∧ w2.cell? ⟨wr.heap.size, 3, none⟩ = some (.int .i64 0) ∧ w2.cell? ⟨wr.heap.size, 4, none⟩ = some (.int .i64 0) ∧ w2.cell? ⟨wr.heap.size, 5, none⟩ = some (.int .i64 0) ∧ w2.cell? ⟨wr.heap.size, 6, none⟩ = some (.int .i64 0) ∧ w2.cell? ⟨wr.heap.size, 7, none⟩ = some (.int .i64 0) ∧ w2.cell? ⟨wr.heap.size, 8, none⟩ = some (.int .i64 0) ∧ w2.cell? ⟨wr.heap.size, 9, none⟩ = some (.int .i64 0) ∧ w2.cell? ⟨wr.heap.size, 10, none⟩ = some (.slice none 0 0) ∧ w2.cell? ⟨wr.heap.size, 11, none⟩ = some (.slice none 0 0) ∧ ∀ j, w2.frozen? ⟨wr.heap.size, j, none⟩ = false := by
  have hB0 : Below wr.heap.size wr W6 := (((Below.refl _ wr).alloc (Nat.le_refl _) _).drew).trans (hb6.mono (by omega))
  refine (parse_rows _ cap J W6 (hT.on hB0 hT.big) hcap hcm hby f l E hR).mono ?_
  rintro e w2 ⟨x0, x1, x2, x3, x4, x5, x6, x7, x8, x9, ta, tc, oa, oc, rfl, hc, h⟩
  have h6 : W6.heap[wr.heap.size]? = some (.cells #[.int .i64 0, .int .i64 0, .int .i64 0, .int .i64 0, .int .i64 0, .int .i64 0, .int .i64 0, .int .i64 0, .int .i64 0, .int .i64 0, .slice none 0 0, .slice none 0 0] 29 (0, 0)) := by
    rw [hb6.block _ (by omega)]
    exact heap_alloc_new wr _
  have h2 : w2.heap[wr.heap.size]? = some (.cells #[.int .i64 0, .int .i64 0, .int .i64 0, .int .i64 0, .int .i64 0, .int .i64 0, .int .i64 0, .int .i64 0, .int .i64 0, .int .i64 0, .slice none 0 0, .slice none 0 0] 29 (0, 0)) := by
    rw [h.out.bel.block _ (block_lt h6)]; exact h6
  exact ⟨x0, x1, x2, x3, x4, x5, x6, x7, x8, x9, ta, tc, oa, oc, rfl, hc, h, h2, hB0.trans (h.out.bel.mono hB0.size), cells12 h2⟩
theorem parse_O3 (wr W6 : World) (J : List UInt8) (cap : Nat) (hT : Tabs wr) (hb6 : Below wr.heap.size wr.drew W6) (hby : Bytes W6 (some ⟨wr.heap.size, 0, none⟩) J) (hcap : J.length ≤ cap) (hcm : cap ≤ maxLen) (f : Fl) (l : Nat) (E : Int) (hR : parseF J = ⟨f, l, E⟩) :
    Calls Tryd.prog 10 #[.slice (some ⟨wr.heap.size, 0, none⟩) J.length cap] (W6.alloc (.cells #[.int .i64 0, .int .i64 0, .int .i64 0, .int .i64 0, .int .i64 0, .int .i64 0, .int .i64 0, .int .i64 0, .int .i64 0, .int .i64 0, .slice none 0 0, .slice none 0 0] 29)) fun e w2 => ∃ x0 x1 x2 x3 x4 x5 x6 x7 x8 x9 ta tc oa oc, e = .returned (.tuple #[.agg #[.int .i64 x0, .int .i64 x1, .int .i64 x2, .int .i64 x3, .int .i64 x4, .int .i64 x5, .int .i64 x6, .int .i64 x7, .int .i64 x8, .int .i64 x9, .slice ta f.tasks.length tc, .slice oa f.ops.length oc], .int .i64 l, .int .i64 E]) ∧ Hid (f.cfg = [x0, x1, x2, x3, x4, x5, x6, x7, x8, x9]) ∧ Hid (Back (W6.alloc (.cells #[.int .i64 0, .int .i64 0, .int .i64 0, .int .i64 0, .int .i64 0, .int .i64 0, .int .i64 0, .int .i64 0, .int .i64 0, .int .i64 0, .slice none 0 0, .slice none 0 0] 29)) w2 f (.slice ta f.tasks.length tc) (.slice oa f.ops.length oc)) ∧ Hid (w2.heap[W6.heap.size]? = some (.cells #[.int .i64 0, .int .i64 0, .int .i64 0, .int .i64 0, .int .i64 0, .int .i64 0, .int .i64 0, .int .i64 0, .int .i64 0, .int .i64 0, .slice none 0 0, .slice none 0 0] 29 (0, 0))) ∧ Hid (Below wr.heap.size wr w2 ∧ wr.heap.size ≤ W6.heap.size) ∧ w2.cell? ⟨W6.heap.size, 0, none⟩ = some (.int .i64 0) ∧ w2.cell? ⟨W6.heap.size, 1, none⟩ = some (.int .i64 0) ∧ w2.cell? ⟨W6.heap.size, 2, none⟩ = some (.int .i64 0) ∧ w2.cell? ⟨W6.heap.size, 3, none⟩ = some (.int .i64 0) ∧ w2.cell? ⟨W6.heap.size, 4, none⟩ = some (.int .i64 0) ∧ w2.cell? ⟨W6.heap.size, 5, none⟩ = some (.int .i64 0) ∧ w2.cell? ⟨W6.heap.size, 6, none⟩ = some (.int .i64 0) ∧ w2.cell? ⟨W6.heap.size, 7, none⟩ = some (.int .i64 0) ∧ w2.cell? ⟨W6.heap.size, 8, none⟩ = some (.int .i64 0) ∧ w2.cell? ⟨W6.heap.size, 9, none⟩ = some (.int .i64 0) ∧ w2.cell? ⟨W6.heap.size, 10, none⟩ = some (.slice none 0 0) ∧ w2.cell? ⟨W6.heap.size, 11, none⟩ = some (.slice none 0 0) ∧ ∀ j, w2.frozen? ⟨W6.heap.size, j, none⟩ = false := by
  have hB0 : Below wr.heap.size wr W6 := ((Below.refl _ wr).drew).trans hb6
  have hB1 : Below wr.heap.size wr (W6.alloc (.cells #[.int .i64 0, .int .i64 0, .int .i64 0, .int .i64 0, .int .i64 0, .int .i64 0, .int .i64 0, .int .i64 0, .int .i64 0, .int .i64 0, .slice none 0 0, .slice none 0 0] 29)) := hB0.alloc hB0.size _
  have hby2 : Bytes (W6.alloc (.cells #[.int .i64 0, .int .i64 0, .int .i64 0, .int .i64 0, .int .i64 0, .int .i64 0, .int .i64 0, .int .i64 0, .int .i64 0, .int .i64 0, .slice none 0 0, .slice none 0 0] 29)) (some ⟨wr.heap.size, 0, none⟩) J := hby.below ((Below.refl _ _).alloc (Nat.le_refl _) _)
  refine (parse_rows _ cap J _ (hT.on hB1 hT.big) hcap hcm hby2 f l E hR).mono ?_
  rintro e w2 ⟨x0, x1, x2, x3, x4, x5, x6, x7, x8, x9, ta, tc, oa, oc, rfl, hc, h⟩
  have h2 : w2.heap[W6.heap.size]? = some (.cells #[.int .i64 0, .int .i64 0, .int .i64 0, .int .i64 0, .int .i64 0, .int .i64 0, .int .i64 0, .int .i64 0, .int .i64 0, .int .i64 0, .slice none 0 0, .slice none 0 0] 29 (0, 0)) := by
    rw [h.out.bel.block _ (by simp)]
    exact heap_alloc_new W6 _
  exact ⟨x0, x1, x2, x3, x4, x5, x6, x7, x8, x9, ta, tc, oa, oc, rfl, hc, h, h2, ⟨hB1.trans (h.out.bel.mono hB1.size), hB0.size⟩, cells12 h2⟩
theorem parse_O4 (wr W6 : World) (J : List UInt8) (cap : Nat) (hT : Tabs wr) (hb6 : Below wr.heap.size wr.drew W6) (hby : Bytes W6 (some ⟨wr.heap.size, 0, none⟩) J) (hcap : J.length ≤ cap) (hcm : cap ≤ maxLen) (f : Fl) (l : Nat) (E : Int) (hR : parseF J = ⟨f, l, E⟩) :
    Calls Tryd.prog 10 #[.slice (some ⟨wr.heap.size, 0, none⟩) J.length cap] W6 fun e w2 => ∃ x0 x1 x2 x3 x4 x5 x6 x7 x8 x9 ta tc oa oc, e = .returned (.tuple #[.agg #[.int .i64 x0, .int .i64 x1, .int .i64 x2, .int .i64 x3, .int .i64 x4, .int .i64 x5, .int .i64 x6, .int .i64 x7, .int .i64 x8, .int .i64 x9, .slice ta f.tasks.length tc, .slice oa f.ops.length oc], .int .i64 l, .int .i64 E]) ∧ Hid (f.cfg = [x0, x1, x2, x3, x4, x5, x6, x7, x8, x9]) ∧ Hid (Back W6 w2 f (.slice ta f.tasks.length tc) (.slice oa f.ops.length oc)) ∧ Hid (Below wr.heap.size wr w2) := by
  have hB0 : Below wr.heap.size wr W6 := ((Below.refl _ wr).drew).trans hb6
  refine (parse_rows _ cap J _ (hT.on hB0 hT.big) hcap hcm hby f l E hR).mono ?_
  rintro e w2 ⟨x0, x1, x2, x3, x4, x5, x6, x7, x8, x9, ta, tc, oa, oc, rfl, hc, h⟩
  exact ⟨x0, x1, x2, x3, x4, x5, x6, x7, x8, x9, ta, tc, oa, oc, rfl, hc, h, hB0.trans (h.out.bel.mono hB0.size)⟩

end Go.Proofs.YtgjfhfjmdkhllaaDoor
