/- The steps of a life that are counted: Start, Stop, Miss. -/
import Derived.Test.YtjdgndbdoceifaaStp
import Derived.Deep.RegionHeld3
import Derived.Deep.CutRange
import Derived.Deep.CutBlock
namespace Go.Proofs.Ytjdgndbdoceifaa
open Go.RowKit
open M
set_option linter.unusedVariables false
set_option linter.unusedSimpArgs false

section
variable {B : Nat} {w0 w : World} {b : Nat} {T P : Int} {x : Lf} {R : List (Nat × Obj)}
theorem LX.turn2 (h : LX B w0 w b T P x R) (i j : Nat) (u v : Value) {y : Lf} (hy : Inv T P y) (e : ((#[Value.int .i64 x.s, .int .i64 x.e, .int .i64 x.m, .int .i64 x.p, .int .i64 T, .int .i64 P] : Array Value).setIfInBounds i u).setIfInBounds j v = #[.int .i64 y.s, .int .i64 y.e, .int .i64 y.m, .int .i64 y.p, .int .i64 T, .int .i64 P]) : LX B w0 ((w.setCell ⟨b, i, none⟩ u).setCell ⟨b, j, none⟩ v) b T P y R := by
  refine ⟨(h.bel.setCell h.le u).setCell h.le v, h.le, h.lo, ?_, hy, fun p hp => ?_⟩
  · rw [heap_setCell_at (heap_setCell_at h.blk u) v, e]
  · obtain ⟨z1, z2, z3⟩ := h.row p hp
    exact ⟨by rw [Below.heap_setCell _ _ _ _ z3, Below.heap_setCell _ _ _ _ z3]; exact z1, z2, z3⟩
/-- A step that is counted: become, and then counted. -/
theorem countNew (h : LX B w0 w b T P x R) (k y j v : Nat) (hk : k ≤ 10) (l : List Nat) (hf : x.s ∈ l → ¬ (k = 2 ∧ P ≤ x.p)) (hl : l.length = 1) (hm : may k x.s = decide (x.s ∈ l)) (hj : j = 1 ∨ j = 2 ∨ j = 3)
    (hv : (#[Value.int .i64 x.s, .int .i64 x.e, .int .i64 x.m, .int .i64 x.p, .int .i64 T, .int .i64 P] : Array Value)[j]? = some (.int .i64 v)) (hb : v ≤ 1000000)
    (hx : x.s ∈ l → ((#[Value.int .i64 x.s, .int .i64 x.e, .int .i64 x.m, .int .i64 x.p, .int .i64 T, .int .i64 P] : Array Value).setIfInBounds 0 (.int .i64 y)).setIfInBounds j (.int .i64 (v + 1 : Nat)) = #[.int .i64 (nx T k x).s, .int .i64 (nx T k x).e, .int .i64 (nx T k x).m, .int .i64 (nx T k x).p, .int .i64 T, .int .i64 P]) :
    ∃ (E : Int) (W2 : World), (Calls Try.prog 33 #[ptr b, .int .i64 y, .slice (some ⟨w.heap.size, 0, none⟩) 1 1] (w.alloc (.cells (rowOf l) 3)) fun e w' => e = .returned (.int .i64 E) ∧ w' = W2) ∧
      Calls Try.prog 34 #[ptr b, .pointer (some ⟨b, j, none⟩), .int .i64 E] W2 fun e w' => e = .returned (.int .i64 (er P k x)) ∧ Hid (LX B w0 w' b T P (st T P k x) R) := by
  have ha := (h.alloc (.cells (rowOf l) 3)).drop (R' := R) (fun p hp => List.mem_cons_of_mem _ hp)
  by_cases hs : x.s ∈ l
  · have h1 : may k x.s = true := by simpa [hs] using hm
    have hi := h.inv.st (k := k) hk
    refine ⟨0, _, (becomeNew h l 1 y hl (by omega)).mono (by rintro e w' ⟨rfl, rfl⟩; rw [if_pos hs, if_pos hs]; exact ⟨rfl, rfl⟩), ?_⟩
    have hc : ((w.alloc (.cells (rowOf l) 3)).setCell ⟨b, 0, none⟩ (.int .i64 y)).cell? ⟨b, j, none⟩ = some (.int .i64 v) := by
      rw [cell_of_row _ b j _ _ _ (heap_setCell_at ha.blk _), Array.getElem?_setIfInBounds]
      rw [if_neg (by omega)]
      exact hv
    have hfz : ((w.alloc (.cells (rowOf l) 3)).setCell ⟨b, 0, none⟩ (.int .i64 y)).frozen? ⟨b, j, none⟩ = false := by
      have := heap_setCell_at (o := 0) ha.blk (.int .i64 y)
      simp [World.frozen?, this]
    refine (counted_any _ b j v 0 hb hc hfz).mono ?_
    rintro e w' ⟨rfl, rfl⟩
    rw [er_yes h1 (hf hs), if_pos rfl]
    rw [st_yes h1 (hf hs)] at hi ⊢
    exact ⟨rfl, ha.turn2 0 j _ _ hi (hx hs)⟩
  · have h1 : may k x.s = false := by simpa [hs] using hm
    refine ⟨(8 : Nat), _, (becomeNew h l 1 y hl (by omega)).mono (by rintro e w' ⟨rfl, rfl⟩; rw [if_neg hs, if_neg hs]; exact ⟨rfl, rfl⟩), ?_⟩
    have hc : (w.alloc (.cells (rowOf l) 3)).cell? ⟨b, j, none⟩ = some (.int .i64 v) := by
      rw [cell_of_row _ b j _ _ _ ha.blk]; exact hv
    refine (counted_any _ b j v 8 hb hc (ha.free j)).mono ?_
    rintro e w' ⟨rfl, rfl⟩
    rw [er_no h1, st_no h1, if_neg (by omega)]
    exact ⟨rfl, ha⟩

set_option maxRecDepth 1000000 in
theorem start_any (h : LX B w0 w b T P x R) (he : x.e ≤ 1000000) : Calls Try.prog 21 #[ptr b] w fun e w' => e = .returned (.int .i64 (er P 1 x)) ∧ Hid (LX B w0 w' b T P (st T P 1 x) R) := by
  obtain ⟨E, W2, k1, k2⟩ := countNew (h.below (w' := w.drew) ((Below.refl _ _).drew)) 1 2 1 x.e (by omega) [1] (fun _ => by omega) rfl (decide_eq_decide.2 (by simp)) (.inl rfl) rfl he (fun _ => rfl)
  replace k1 : Calls Try.prog 33 #[ptr b, .int .i64 2, .slice (some ⟨w.heap.size, 0, none⟩) 1 1] (w.drew.alloc (.cells #[.int .i64 1] 3)) fun e w' => e = .returned (.int .i64 E) ∧ w' = W2 := k1
  clear h
  generalize er P 1 x = G at *
  generalize st T P 1 x = X at *
  go_enter Try.func21, Try.ntmps21
  go_upto_region 1 with fail
  (go_region_held3 (fun V => True) (first | trivial | go_keep) (first | (go_at_call 33; refine k1.mono ?_; rintro e w3 ⟨rfl, rfl⟩) | (go_at_call 34; refine k2.mono ?_; rintro e w4 ⟨rfl, s⟩)))
  go_wp2
  go_ret
  exact ⟨rfl, s⟩
end
end Go.Proofs.Ytjdgndbdoceifaa
