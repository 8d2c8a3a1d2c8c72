/- Has, Out and In of package graph; ints. -/
import Derived.Test.YtipkgoghodkbfaaDoorAdN
import Derived.Deep.QuietTactic
import Derived.BigQuiet
namespace Go.Proofs.YtipkgoghodkbfaaDoor
open Go.RowKit
open M
set_option linter.unusedVariables false
set_option linter.unusedSimpArgs false

def hasB (n : Nat) (es : List E) (a b : Int) : Bool := (!([a, b].any (offB n))) && decide ((a.toNat, b.toNat) ∈ es)

/-- Edges in a slice. -/
def EAt (w : World) (ao : Option Addr) (es : List E) : Prop := ∀ i (h : i < es.length), ∃ r, ao = some ⟨r, 0, none⟩ ∧ r < w.heap.size ∧ w.cell? ⟨r, i * 2, none⟩ = some (.int .i64 (es[i].1 : Nat)) ∧ w.cell? ⟨r, i * 2 + 1, none⟩ = some (.int .i64 (es[i].2 : Nat))
theorem EAt.below {w w' : World} {ao : Option Addr} {es : List E} (h : EAt w ao es) (hb : Below w.heap.size w w') : EAt w' ao es := by
  intro i hi
  obtain ⟨r, h1, h2, h3, h4⟩ := h i hi
  exact ⟨r, h1, Nat.lt_of_lt_of_le h2 hb.size, by rw [hb.cell (p := ⟨r, _, none⟩) h2]; exact h3, by rw [hb.cell (p := ⟨r, _, none⟩) h2]; exact h4⟩
theorem own_eat {w : World} {base : Nat} {v : Value} {es : List E} {T : TypeId} (h : w.ownsRow base T 2 v es.length (ecells es)) : ∃ ao cap, v = .slice ao es.length cap ∧ EAt w ao es := by
  rcases h.2 with ⟨rfl, hz⟩ | ⟨r, cap, cur, rfl, hb, hg, _⟩
  · exact ⟨none, 0, by rw [hz], fun i hi => by omega⟩
  · refine ⟨some ⟨r, 0, none⟩, cap, rfl, fun i hi => ⟨r, rfl, block_lt hg, ?_, ?_⟩⟩
    · have := h.cells (g := r) rfl (i * 2) _ (ecells_at es i hi).1
      simpa [Addr.add_lit] using this
    · have := h.cells (g := r) rfl (i * 2 + 1) _ (ecells_at es i hi).2
      simpa [Addr.add_lit] using this

theorem owns_nil (w : World) (base : Nat) : OwnI w base (.slice none 0 0) [] := World.ownsRow_nil _ _ _ _
theorem outs_take (es : List E) (a : Int) (k : Nat) (h : k < es.length) : outs (es.take (k + 1)) a = if (es[k].1 : Int) = a then outs (es.take k) a ++ [es[k].2] else outs (es.take k) a := by
  unfold outs
  rw [List.take_succ_eq_append_getElem h, List.filter_append, List.map_append]
  by_cases hc : (es[k].1 : Int) = a
  · simp [hc]
  · simp [hc]
theorem outs_len (es : List E) (a : Int) : (outs es a).length ≤ es.length := by unfold outs; simp; exact List.length_filter_le _ _
theorem own_snoc {w : World} {base : Nat} {v : Value} {xs : List Nat} {x : Nat} (h : w.ownsRow base 3 1 v (xs.length + 1) (xs.map (fun x => Value.int .i64 (x : Nat)) ++ [.int .i64 x])) : OwnI w base v (xs ++ [x]) := by
  show w.ownsRow base 3 1 v (xs ++ [x]).length ((xs ++ [x]).map _)
  rw [List.length_append, List.map_append]
  exact h

theorem ins_take (es : List E) (a : Int) (k : Nat) (h : k < es.length) : ins (es.take (k + 1)) a = if (es[k].2 : Int) = a then ins (es.take k) a ++ [es[k].1] else ins (es.take k) a := by
  unfold ins
  rw [List.take_succ_eq_append_getElem h, List.filter_append, List.map_append]
  by_cases hc : (es[k].2 : Int) = a
  · simp [hc]
  · simp [hc]
theorem ins_len (es : List E) (a : Int) : (ins es a).length ≤ es.length := by unfold ins; simp; exact List.length_filter_le _ _

end Go.Proofs.YtipkgoghodkbfaaDoor
