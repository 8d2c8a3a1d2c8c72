/- What the statements' own look 'shown' answers: true. -/
import Derived.Test.YtgjfhfjmdkhllaaDoorShoM
import Derived.Test.YtgjfhfjmdkhllaaDoorPars
import Derived.Laws.IdiomStrings
namespace Go.Proofs.YtgjfhfjmdkhllaaDoor
open Go.RowKit
open M
set_option linter.unusedVariables false
set_option linter.unusedSimpArgs false

theorem hide_it {p : Prop} (h : p) : Hid p := h
theorem ba_of {s : ByteArray} {l : List UInt8} (h : s.data.toList = l) : s = ⟨l.toArray⟩ := by
  subst h
  simp
theorem ba_size {s : ByteArray} {l : List UInt8} (h : s.data.toList = l) : s.size = l.length := by
  subst h
  exact (Array.length_toList).symm
theorem ba_app (a b : List UInt8) : (⟨a.toArray⟩ : ByteArray) ++ ⟨b.toArray⟩ = ⟨(a ++ b).toArray⟩ := ba_of (by simp)

/-- A string's bytes in a row of their own. -/
theorem conv_bytes (w : World) (S : ByteArray) (J : List UInt8) (hS : S = ⟨J.toArray⟩) (hJ : J.length ≤ 1000000) :
    ∃ cap w6, (convert 9 22 (.string S)).run Tryd.prog w = .ok (.slice (some ⟨w.heap.size, 0, none⟩) J.length cap) w6 ∧ Bytes w6 (some ⟨w.heap.size, 0, none⟩) J ∧ J.length ≤ cap ∧ cap ≤ maxLen ∧ Below w.heap.size w w6 := by
  have hsz : S.size = J.length := by rw [hS]; exact ba_size rfl
  have hr := run_bytes_of_string (P := Tryd.prog) w 9 22 5 S Tryd.underlying9 Tryd.underlying22 Tryd.underlying5
  rw [hsz] at hr
  refine ⟨_, _, hr, fun i hi => ⟨_, _, rfl, ?_⟩, grownCap_ge _ _ _ _, grownCap_le_maxLen _ _ _ _ (by unfold maxLen; omega), ((Below.refl _ w).drew).alloc (Nat.le_refl _) _⟩
  have hi' : i < S.data.size := by rw [hS]; simpa using hi
  rw [Nat.zero_add]
  have hc := World.cell?_alloc_mark w.drew (bytesRow S (grownCap w J.length 0 5)) 5 ((bytesRow S (grownCap w J.length 0 5)).size, (bytesRow S (grownCap w J.length 0 5)).size + 1) i
  have hh : w.drew.heap.size = w.heap.size := rfl
  rw [hh] at hc
  rw [hc, bytesRow_at S _ i hi']
  subst hS
  simp

set_option maxRecDepth 1000000 in
theorem head_any (w : World) : Calls Tryd.prog 16 #[] w fun e w' => e = .returned (strV headL) ∧ w' = w := by
  go_enter Tryd.func16, Tryd.ntmps16
  go_wp2
  go_ret
  exact ⟨rfl, rfl⟩

/-- Rows that a file handed back owns. -/
theorem tasks_own {w : World} {base : Nat} {a : Option Addr} {cap : Nat} {ts : List (Int × Int)} (h : w.ownsRow base 51 2 (.slice a ts.length cap) ts.length (taskCells ts)) : TasksIn w a ts := by
  intro i hi
  obtain ⟨g, c, hv, h1, h2⟩ := h.form (by omega)
  cases hv
  have hc : ∀ (l : List (Int × Int)) (j : Nat) (hj : j < l.length), (taskCells l)[j * 2]? = some (.int .i64 l[j].1) ∧ (taskCells l)[j * 2 + 1]? = some (.int .i64 l[j].2) := by
    intro l
    induction l with
    | nil => intro j hj; simp at hj
    | cons t l ih =>
      intro j hj
      have e : taskCells (t :: l) = [.int .i64 t.1, .int .i64 t.2] ++ taskCells l := by simp [taskCells]
      cases j with
      | zero => rw [e]; exact ⟨rfl, rfl⟩
      | succ j =>
        obtain ⟨q1, q2⟩ := ih j (by simpa using hj)
        rw [e]
        refine ⟨?_, ?_⟩
        · rw [List.getElem?_append_right (by simp; omega)]
          simpa [show (j + 1) * 2 - 2 = j * 2 by omega] using q1
        · rw [List.getElem?_append_right (by simp; omega)]
          simpa [show (j + 1) * 2 + 1 - 2 = j * 2 + 1 by omega] using q2
  obtain ⟨q1, q2⟩ := hc ts i hi
  have r1 := h.cells (g := g) rfl _ _ q1
  have r2 := h.cells (g := g) rfl _ _ q2
  rw [Addr.add_lit] at r1 r2
  exact ⟨g, 0, rfl, h2, r1, by rw [show 0 + i * 2 + 1 = 0 + (i * 2 + 1) by omega]; exact r2⟩
theorem ops_own {w : World} {base : Nat} {a : Option Addr} {cap : Nat} {os : List Oz} (h : w.ownsRow base 46 5 (.slice a os.length cap) os.length (opCells os)) : OpsIn w a os := by
  intro i hi
  obtain ⟨g, c, hv, h1, h2⟩ := h.form (by omega)
  cases hv
  have hc : ∀ (l : List Oz) (j : Nat) (hj : j < l.length), (opCells l)[j * 5]? = some (.int .i64 l[j].kind) ∧ (opCells l)[j * 5 + 1]? = some (.int .i64 l[j].a) ∧ (opCells l)[j * 5 + 2]? = some (.int .i64 l[j].b) ∧ (opCells l)[j * 5 + 3]? = some (.int .i64 l[j].c) ∧ (opCells l)[j * 5 + 4]? = some (.int .i64 l[j].d) := by
    intro l
    induction l with
    | nil => intro j hj; simp at hj
    | cons t l ih =>
      intro j hj
      have e : opCells (t :: l) = [.int .i64 t.kind, .int .i64 t.a, .int .i64 t.b, .int .i64 t.c, .int .i64 t.d] ++ opCells l := by simp [opCells, opA]
      cases j with
      | zero => rw [e]; exact ⟨rfl, rfl, rfl, rfl, rfl⟩
      | succ j =>
        obtain ⟨q1, q2, q3, q4, q5⟩ := ih j (by simpa using hj)
        rw [e]
        refine ⟨?_, ?_, ?_, ?_, ?_⟩
        · rw [List.getElem?_append_right (by simp; omega)]
          simpa [show (j + 1) * 5 - 5 = j * 5 by omega] using q1
        · rw [List.getElem?_append_right (by simp; omega)]
          simpa [show (j + 1) * 5 + 1 - 5 = j * 5 + 1 by omega] using q2
        · rw [List.getElem?_append_right (by simp; omega)]
          simpa [show (j + 1) * 5 + 2 - 5 = j * 5 + 2 by omega] using q3
        · rw [List.getElem?_append_right (by simp; omega)]
          simpa [show (j + 1) * 5 + 3 - 5 = j * 5 + 3 by omega] using q4
        · rw [List.getElem?_append_right (by simp; omega)]
          simpa [show (j + 1) * 5 + 4 - 5 = j * 5 + 4 by omega] using q5
  obtain ⟨q1, q2, q3, q4, q5⟩ := hc os i hi
  have r1 := h.cells (g := g) rfl _ _ q1
  have r2 := h.cells (g := g) rfl _ _ q2
  have r3 := h.cells (g := g) rfl _ _ q3
  have r4 := h.cells (g := g) rfl _ _ q4
  have r5 := h.cells (g := g) rfl _ _ q5
  rw [Addr.add_lit] at r1 r2 r3 r4 r5
  exact ⟨g, 0, rfl, h2, r1, by rw [Nat.add_assoc]; exact r2, by rw [Nat.add_assoc]; exact r3, by rw [Nat.add_assoc]; exact r4, by rw [Nat.add_assoc]; exact r5⟩

/-- Parse at bytes that are no file. -/
theorem parse_bad (a : Option Addr) (cap : Nat) (bs : List UInt8) (w : World) (hT : Tabs w) (hcap : bs.length ≤ cap) (hcm : cap ≤ maxLen) (hb : Bytes w a bs) (l : Nat) (E : Int) (hR : parseF bs = ⟨noFile, l, E⟩) :
    Calls Tryd.prog 10 #[.slice a bs.length cap] w fun e w' => ∃ ta tc oa oc, e = .returned (.tuple #[.agg #[.int .i64 0, .int .i64 0, .int .i64 0, .int .i64 0, .int .i64 0, .int .i64 0, .int .i64 0, .int .i64 0, .int .i64 0, .int .i64 0, .slice ta 0 tc, .slice oa 0 oc], .int .i64 l, .int .i64 E]) ∧ Below w.heap.size w w' := by
  refine (parse_bytes a cap bs w hT hcap hcm hb).mono ?_
  rw [hR]
  rintro e w' ⟨vt, vo, rfl, h⟩
  obtain ⟨ta, tc, rfl⟩ := own_slice h.ts
  obtain ⟨oa, oc, rfl⟩ := own_slice h.os
  exact ⟨ta, tc, oa, oc, rfl, h.bel⟩

theorem parse_first (a : Option Addr) (cap : Nat) (w : World) (hT : Tabs w) (hcap : (headL ++ tail1).length ≤ cap) (hcm : cap ≤ maxLen) (hb : Bytes w a (headL ++ tail1)) :
    Calls Tryd.prog 10 #[.slice a (headL ++ tail1).length cap] w fun e w' => ∃ tg tc og oc, e = .returned (.tuple #[.agg #[.int .i64 10, .int .i64 2, .int .i64 3, .int .i64 4, .int .i64 2, .int .i64 1, .int .i64 5, .int .i64 2, .int .i64 8, .int .i64 7, .slice (some ⟨tg, 0, none⟩) 1 tc, .slice (some ⟨og, 0, none⟩) 2 oc], .int .i64 0, .int .i64 0]) ∧ Hid (TasksIn w' (some ⟨tg, 0, none⟩) [(1, 2)]) ∧ Hid (OpsIn w' (some ⟨og, 0, none⟩) [⟨1, 0, 1, 3, 0⟩, ⟨5, 0, 1, 3, 4⟩]) ∧ Below w.heap.size w w' := by
  refine (parse_bytes a cap _ w hT hcap hcm hb).mono ?_
  rw [parse_1]
  rintro e w' ⟨vt, vo, rfl, h⟩
  obtain ⟨tg, tc, rfl, _⟩ := h.ts.form (by decide)
  obtain ⟨og, oc, rfl, _⟩ := h.os.form (by decide)
  exact ⟨tg, tc, og, oc, rfl, tasks_own h.ts, ops_own h.os, h.bel⟩

end Go.Proofs.YtgjfhfjmdkhllaaDoor
