/- take of the document's own Parse: a file in memory; the lines that are wrong. -/
import Derived.Test.YtgjfhfjmdkhllaaDoorRefN
import Derived.Test.YtgjfhfjmdkhllaaDoorRefO
import Derived.Test.YtgjfhfjmdkhllaaDoorRefP
import Derived.Test.YtgjfhfjmdkhllaaDoorRefQ
import Derived.Test.YtgjfhfjmdkhllaaDoorLinQ
namespace Go.Proofs.YtgjfhfjmdkhllaaDoor
open Go.RowKit
open M
set_option linter.unusedVariables false
set_option linter.unusedSimpArgs false

/-- A file of the document's own Parse in block g; its rows are from B on. -/
structure FileR (w : World) (g B : Nat) (f : Fl) (vt vo : Value) : Prop where
  blk : w.heap[g]? = some (.cells (fileA f vt vo) 33 (0, 0))
  ts : w.ownsRow B 51 2 vt f.tasks.length (taskCells f.tasks)
  os : w.ownsRow B 46 5 vo f.ops.length (opCells f.ops)
  cfg : f.cfg.length = 10
theorem FileR.below {w w' : World} {g B : Nat} {f : Fl} {vt vo : Value} (h : FileR w g B f vt vo) (hb : Below w.heap.size w w') : FileR w' g B f vt vo :=
  ⟨by rw [hb.block g (block_lt h.blk)]; exact h.blk, own_below h.ts hb (fun k hk => (h.ts.lt k hk).2), own_below h.os hb (fun k hk => (h.os.lt k hk).2), h.cfg⟩

/-- The fourth token's word, as take finds it. -/
def H3 (w : World) (b o n : Nat) (F : List UInt8) : Prop :=
  (n ≤ 3 ∧ F = []) ∨ (3 < n ∧ ∃ (k3 : Int) (t3 : List UInt8), w.cell? ⟨b, o + 9, none⟩ = some (.int .i64 k3) ∧ w.cell? ⟨b, o + 10, none⟩ = some (strV t3) ∧ ((k3 = 1 ∧ F = t3) ∨ ((k3 == 1) = false ∧ F = [])))
theorem h3_of {w : World} {b o : Nat} {l : List Tok} (h : TAt w b o l) : H3 w b o l.length (fourthF l) := by
  match l, h with
  | [], _ => exact Or.inl ⟨by simp, rfl⟩
  | [_], _ => exact Or.inl ⟨by simp, rfl⟩
  | [_, _], _ => exact Or.inl ⟨by simp, rfl⟩
  | [_, _, _], _ => exact Or.inl ⟨by simp, rfl⟩
  | _ :: _ :: _ :: t :: r, h =>
    obtain ⟨a, b', _⟩ := h 3 (by simp)
    refine Or.inr ⟨by simp, t.kind, t.text, a, b', ?_⟩
    by_cases hk : t.kind = 1
    · exact Or.inl ⟨by rw [hk]; rfl, by simp [fourthF, hk]⟩
    · exact Or.inr ⟨by simp; omega, by simp [fourthF, hk]⟩

/-- What form has answered. -/
structure FormOk (w w1 : World) (gx cx : Nat) (ws : List (List UInt8)) : Prop where
  own : w1.ownsRow w.heap.size 9 1 (.slice (some ⟨gx, 0, none⟩) ws.length cx) ws.length (ws.map strV)
  lt : gx < w1.heap.size
  bel : Below w.heap.size w w1
theorem form_some (first fourth : List UInt8) (w : World) (m : Fm) (hm : refFm first fourth = m) (hw : 0 < (words m).length) :
    Calls Tryd.prog 33 #[strV first, strV fourth] w fun e w' => ∃ gx cx, e = .returned (.slice (some ⟨gx, 0, none⟩) (words m).length cx) ∧ Hid (FormOk w w' gx cx (words m)) := by
  refine (form_any first fourth w m hm).mono ?_
  rintro e w' ⟨v, rfl, ho, hb⟩
  obtain ⟨gx, cx, rfl, h1, h2⟩ := ho.form (by omega)
  exact ⟨gx, cx, rfl, ho, h2, hb⟩
theorem form_none (first fourth : List UInt8) (w : World) (hm : (refFm first fourth).part = 0) :
    Calls Tryd.prog 33 #[strV first, strV fourth] w fun e w' => ∃ a cx, e = .returned (.slice a 0 cx) ∧ Hid (Below w.heap.size w w') := by
  have hn : refFm first fourth = noForm := by
    unfold refFm at hm ⊢
    repeat' split at hm
    all_goals first | (cases hm; done) | simp_all
  refine (form_any first fourth w noForm hn).mono ?_
  rintro e w' ⟨v, rfl, ho, hb⟩
  obtain ⟨a, cap, rfl⟩ := own_slice ho
  exact ⟨a, cap, rfl, hb⟩

set_option maxRecDepth 1000000 in
set_option maxHeartbeats 4000000 in
/-- No form: a line that is wrong. -/
theorem take_none (g b o n cap : Nat) (ahead K : Int) (X F : List UInt8) (w : World) (hn0 : 0 < n) (hn1 : n ≤ cap) (hn2 : cap ≤ maxLen) (c0 : w.cell? ⟨b, o, none⟩ = some (.int .i64 K)) (c1 : w.cell? ⟨b, o + 1, none⟩ = some (strV X)) (h3 : H3 w b o n F) (hm : (refFm X F).part = 0) :
    Calls Tryd.prog 21 #[ptr g 0, .slice (some ⟨b, o, none⟩) n cap, .int .i64 ahead] w fun e w' => e = .returned (.int .i64 2) ∧ Below w.heap.size w w' := by
  unfold maxLen at hn2
  have kF := form_none X F w hm
  clear hm
  by_cases hk : K = 1
  · subst hk
    rcases h3 with ⟨h3, rfl⟩ | ⟨h3, k3, t3, c9, c10, ⟨rfl, rfl⟩ | ⟨d3, rfl⟩⟩
    all_goals
      go_enter Tryd.func21, Tryd.ntmps21
      go_wp2_with (go_at_call 33; refine kF.mono ?_; rintro e w1 ⟨a, cx, rfl, hb⟩; have q0 : w1.cell? ⟨b, o, none⟩ = some (.int .i64 1) := (by rw [hb.out.cell (p := ⟨b, o, none⟩) (World.block_lt_of_cell? w _ c0)]; exact c0))
      go_ret
      exact ⟨rfl, hb.out⟩
  · have hk' : (K == 1) = false := by simp [hk]
    have hk2 : (K != 1) = true := by simp [hk]
    rcases h3 with ⟨h3, rfl⟩ | ⟨h3, k3, t3, c9, c10, ⟨rfl, rfl⟩ | ⟨d3, rfl⟩⟩
    all_goals
      go_enter Tryd.func21, Tryd.ntmps21
      go_wp2_with (go_at_call 33; refine kF.mono ?_; rintro e w1 ⟨a, cx, rfl, hb⟩; have q0 : w1.cell? ⟨b, o, none⟩ = some (.int .i64 K) := (by rw [hb.out.cell (p := ⟨b, o, none⟩) (World.block_lt_of_cell? w _ c0)]; exact c0))
      go_ret
      exact ⟨rfl, hb.out⟩
end Go.Proofs.YtgjfhfjmdkhllaaDoor
