/- By as many rounds as there are tasks all that is reached is seen: mathematics. -/
import Derived.Test.YtipkgoghodkbfaaDoorMat
namespace Go.Proofs.YtipkgoghodkbfaaDoor.M
set_option linter.unusedVariables false
set_option linter.unusedSimpArgs false

def cnt (n : Nat) (p : Nat → Bool) : Nat := (List.range n).countP p
theorem cnt_le (n : Nat) (p : Nat → Bool) : cnt n p ≤ n := by
  unfold cnt
  have := List.countP_le_length (p := p) (l := List.range n)
  simpa using this
theorem rounds_closed {es : List E} {n a : Nat} (ha : a < n) (hg : ∀ e ∈ es, e.1 < n ∧ e.2 < n) (p : Nat → Bool) (hp : p a = true) : ∀ k, Cl es (rounds es p k) ∨ k + 1 ≤ cnt n (rounds es p k)
  | 0 => by
    right
    have : 0 < cnt n p := List.countP_pos_iff.2 ⟨a, List.mem_range.2 ha, hp⟩
    exact this
  | k + 1 => by
    rcases rounds_closed ha hg p hp k with h | h
    · left
      show Cl es (pass es (rounds es p k))
      rw [pass_closed es _ h]
      exact h
    · by_cases hc : Cl es (rounds es p k)
      · left
        show Cl es (pass es (rounds es p k))
        rw [pass_closed es _ hc]
        exact hc
      · right
        unfold Cl at hc
        have hex : ∃ e, e ∈ es ∧ rounds es p k e.1 = true ∧ rounds es p k e.2 = false := by
          apply Classical.byContradiction
          intro hn
          apply hc
          intro e he h1
          cases h2 : rounds es p k e.2 with
          | true => rfl
          | false => exact absurd ⟨e, he, h1, h2⟩ hn
        obtain ⟨e, he, h1, h2⟩ := hex
        have := countP_lt (List.range n) (rounds es p k) (pass es (rounds es p k)) (fun i hi => pass_le es _ i hi) e.2 (List.mem_range.2 (hg e he).2) h2 (pass_edge es _ e he h1)
        show k + 1 + 1 ≤ cnt n (pass es (rounds es p k))
        unfold cnt at *
        omega
/-- All that is reached, and no more. -/
theorem rounds_all {es : List E} {n a : Nat} (ha : a < n) (hg : ∀ e ∈ es, e.1 < n ∧ e.2 < n) : rounds es (markB (fun _ => false) a) n = rB es a := by
  have hp : markB (fun _ => false) a a = true := by simp [markB]
  have hc : Cl es (rounds es (markB (fun _ => false) a) n) := by
    rcases rounds_closed ha hg _ hp n with h | h
    · exact h
    · have := cnt_le n (rounds es (markB (fun _ => false) a) n); omega
  funext i
  rw [Bool.eq_iff_iff, rB_iff]
  constructor
  · refine rounds_sound _ ?_ n i
    intro j hj
    have : j = a := by simpa [markB] using hj
    subst this
    exact Rch.refl _ _
  · intro hr
    exact hr.closed (fun x => rounds es (markB (fun _ => false) a) n x = true) (rounds_le _ a hp n) (fun x y hx he => hc (x, y) he hx)
theorem rise_upto {es : List E} {n a : Nat} (ha : a < n) (hn : n ≤ 64) (hg : ∀ e ∈ es, e.1 < n ∧ e.2 < n) : rise (rset es a) = (List.range' 0 n).filter (rB es a) := by
  unfold rise
  have hsp : List.range' 0 64 = List.range' 0 n ++ List.range' n (64 - n) := by
    have a1 : List.range' 0 64 = List.range' 0 (n + (64 - n)) := by congr 1; omega
    rw [a1, ← List.range'_append_1, Nat.zero_add]
  rw [hsp, List.filter_append]
  have e1 : (List.range' n (64 - n)).filter (fun i => (rset es a).testBit i) = [] := by
    rw [List.filter_eq_nil_iff]
    intro i hi
    have h1 := List.mem_range'_1.1 hi
    rw [rset_bit _ _ _ (by omega), rB_iff]
    intro hr
    have := hr.closed (fun x => x < n) ha (fun x y _ he => (hg _ he).2)
    omega
  rw [e1, List.append_nil]
  apply List.filter_congr
  intro i hi
  have h1 := List.mem_range'_1.1 hi
  rw [rset_bit _ _ _ (by omega)]
theorem range_take (p : Nat → Bool) (k : Nat) : (List.range' 0 (k + 1)).filter p = if p k = true then (List.range' 0 k).filter p ++ [k] else (List.range' 0 k).filter p := by
  have e : List.range' 0 (k + 1) = List.range' 0 k ++ [k] := by
    rw [← List.range'_append_1]
    simp
  rw [e, List.filter_append]
  by_cases h : p k = true
  · simp [h]
  · simp [h]
theorem range_len (p : Nat → Bool) (k : Nat) : ((List.range' 0 k).filter p).length ≤ k := by
  refine Nat.le_trans (List.length_filter_le _ _) (by simp)
end Go.Proofs.YtipkgoghodkbfaaDoor.M
