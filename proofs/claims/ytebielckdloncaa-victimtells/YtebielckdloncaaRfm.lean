/- The best of those that are left, as mathematics; who is gone, in memory. -/
import Derived.Test.YtebielckdloncaaRfa
namespace Go.Proofs.Ytebielckdloncaa
open Go.RowKit
open M
set_option linter.unusedVariables false
set_option linter.unusedSimpArgs false

/-- The best so far of those of whom P holds, or -1. -/
def BestP (l : List R) (P : Nat → Bool) (k : Nat) (b : Int) : Prop :=
  (b = -1 ∧ ∀ j, j < k → P j = false) ∨ ∃ p : Nat, b = p ∧ p < k ∧ P p = true ∧ ∀ j, j < k → P j = true → j ≠ p → plt l p j
section
variable {l : List R} {P : Nat → Bool} {k : Nat} {b : Int} {p : Nat}
theorem bp_start : BestP l P 0 (-1) := .inl ⟨rfl, fun j hj => by omega⟩
theorem bp_skip (h : BestP l P k b) (hm : P k = false) : BestP l P (k + 1) b := by
  rcases h with ⟨h1, h2⟩ | ⟨i, h1, h2, h3, h4⟩
  · refine .inl ⟨h1, fun j hj => ?_⟩
    by_cases e : j = k
    · subst e; exact hm
    · exact h2 j (by omega)
  · refine .inr ⟨i, h1, by omega, h3, fun j hj hj2 hj3 => ?_⟩
    by_cases e : j = k
    · subst e; rw [hm] at hj2; cases hj2
    · exact h4 j (by omega) hj2 hj3
theorem bp_first (h : BestP l P k (-1)) (hm : P k = true) : BestP l P (k + 1) (k : Int) := by
  rcases h with ⟨_, h2⟩ | ⟨i, h1, _⟩
  · refine .inr ⟨k, rfl, by omega, hm, fun j hj hj2 hj3 => ?_⟩
    rw [h2 j (by omega)] at hj2; cases hj2
  · omega
theorem bp_get (h : BestP l P k b) (hb : ¬ b < 0) : ∃ p : Nat, b = p ∧ p < k := by
  rcases h with ⟨h1, _⟩ | ⟨i, h1, h2, _⟩
  · omega
  · exact ⟨i, h1, h2⟩
theorem bp_neg (h : BestP l P k b) (hb : b < 0) : b = -1 := by
  rcases h with ⟨h1, _⟩ | ⟨i, h1, h2, _⟩
  · exact h1
  · omega
theorem bp_take (h : BestP l P k (p : Int)) (hm : P k = true) (hr : rlt (at' l k) (at' l p)) : BestP l P (k + 1) (k : Int) := by
  rcases h with ⟨h1, _⟩ | ⟨i, h1, h2, h3, h4⟩
  · omega
  · obtain rfl : p = i := by omega
    have hk : plt l k p := .inl hr
    refine .inr ⟨k, rfl, by omega, hm, fun j hj hj2 hj3 => ?_⟩
    by_cases e : j = p
    · subst e; exact hk
    · exact plt_trans hk (h4 j (by omega) hj2 e)
theorem bp_keep (h : BestP l P k (p : Int)) (hr : ¬ rlt (at' l k) (at' l p)) : BestP l P (k + 1) (p : Int) := by
  rcases h with ⟨h1, _⟩ | ⟨i, h1, h2, h3, h4⟩
  · omega
  · obtain rfl : p = i := by omega
    refine .inr ⟨p, rfl, by omega, h3, fun j hj hj2 hj3 => ?_⟩
    by_cases e : j = k
    · subst e
      exact .inr ⟨hr, h2⟩
    · exact h4 j (by omega) hj2 hj3
end

/-- Who is left: a victim that was not taken. -/
def leftB (l : List R) (prio most : Int) (k : Nat) (j : Nat) : Bool := mayB prio most (at' l j) && !decide (j ∈ (vics l prio most).take k)
theorem best_none {l : List R} {prio most : Int} {k : Nat} {b : Int} (h : BestP l (leftB l prio most k) l.length b) (hb : b < 0) : (vics l prio most).drop k = [] := by
  have v := vics_vic l prio most
  rcases h with ⟨h1, h2⟩ | ⟨i, h1, _⟩
  · rw [List.eq_nil_iff_forall_not_mem]
    intro i hi
    obtain ⟨a, m⟩ := (v.mem i).1 (List.mem_of_mem_drop hi)
    have q := h2 i a
    unfold leftB at q
    rw [m] at q
    simp at q
    have nd := v.nodup
    rw [← List.take_append_drop k (vics l prio most), List.nodup_append] at nd
    exact nd.2.2 i q i hi rfl
  · omega
theorem best_some {l : List R} {prio most : Int} {k : Nat} {p : Nat} (h : BestP l (leftB l prio most k) l.length (p : Int)) : ∃ hk : k < (vics l prio most).length, (vics l prio most)[k] = p := by
  have v := vics_vic l prio most
  rcases h with ⟨h1, h2⟩ | ⟨i, h1, h2, h3, h4⟩
  · omega
  · obtain rfl : p = i := by omega
    unfold leftB at h3
    simp only [Bool.and_eq_true, Bool.not_eq_true', decide_eq_false_iff_not] at h3
    have hp : p ∈ vics l prio most := (v.mem p).2 ⟨h2, h3.1⟩
    have hd : p ∈ (vics l prio most).drop k := by
      have q := hp
      rw [← List.take_append_drop k (vics l prio most), List.mem_append] at q
      rcases q with q | q
      · exact absurd q h3.2
      · exact q
    have hk : k < (vics l prio most).length := by
      rcases Nat.lt_or_ge k (vics l prio most).length with q | q
      · exact q
      · rw [List.drop_eq_nil_of_le q] at hd; simp at hd
    refine ⟨hk, ?_⟩
    have e := List.drop_eq_getElem_cons hk
    have nd := v.nodup
    have o := v.ord
    rw [← List.take_append_drop k (vics l prio most)] at nd o
    have o2 := (List.pairwise_append.1 o).2.1
    have n2 := List.nodup_append.1 nd
    rw [e] at o2 hd
    by_cases q : (vics l prio most)[k] = p
    · exact q
    · have hm : (vics l prio most)[k] ∈ vics l prio most := List.getElem_mem hk
      obtain ⟨a1, a2⟩ := (v.mem _).1 hm
      have hq : leftB l prio most k (vics l prio most)[k] = true := by
        unfold leftB
        rw [a2]
        have z : ¬ (vics l prio most)[k] ∈ (vics l prio most).take k := fun z => n2.2.2 _ z _ (by rw [e]; exact List.mem_cons_self) rfl
        rw [decide_eq_false z]
        rfl
      have c1 := h4 _ a1 hq q
      have hd2 : p ∈ (vics l prio most).drop (k + 1) := by
        rcases List.mem_cons.1 hd with z | z
        · exact absurd z.symm q
        · exact z
      exact absurd ((List.pairwise_cons.1 o2).1 p hd2) (plt_asymm c1)
theorem left_next {l : List R} {prio most : Int} {k : Nat} (hk : k < (vics l prio most).length) : (vics l prio most).take (k + 1) = (vics l prio most).take k ++ [(vics l prio most)[k]] := List.take_succ_eq_append_getElem hk

/-- Who is gone, in memory. -/
def GoneAt (W : World) (gb n : Nat) (G : List Nat) : Prop := W.heap[gb]? = some (.cells ((List.range n).map (fun j => Value.bool (decide (j ∈ G)))).toArray 4)
theorem GoneAt.cell {W : World} {gb n : Nat} {G : List Nat} (h : GoneAt W gb n G) {j : Nat} (hj : j < n) : W.cell? ⟨gb, j, none⟩ = some (.bool (decide (j ∈ G))) := by
  rw [cell_of_row W gb j _ _ _ h]
  simp [hj]
theorem GoneAt.put {W : World} {gb n p : Nat} {G : List Nat} (h : GoneAt W gb n G) (hp : p < n) : GoneAt (W.setCell ⟨gb, p, none⟩ (.bool true)) gb n (G ++ [p]) := by
  unfold GoneAt
  rw [heap_setCell_at h]
  congr 1
  congr 1
  apply Array.ext_getElem?
  intro j
  by_cases hj : j < n
  · by_cases e : p = j
    · subst e; simp [hj]
    · have e' : ¬ j = p := fun q => e q.symm
      simp [Array.getElem?_setIfInBounds, e, e', hj]
  · simp [Array.getElem?_setIfInBounds, hj]
end Go.Proofs.Ytebielckdloncaa
