/- Members that joined one by one: their ids are 0, 1, ..; rows of wants of theirs. -/
import Derived.Test.YtlhkahincnchjaaSho
namespace Go.Proofs.Ytlhkahincnchjaa
open Go.RowKit
open M
set_option linter.unusedVariables false
set_option linter.unusedSimpArgs false

theorem wr_nat {j : Nat} (h : j ≤ 1000000) : IntKind.i64.wrap ((j : Int) + 1) = (j : Int) + 1 ∧ wrap64 ((j : Int) + 1) = (j : Int) + 1 := ⟨by rw [IntKind.wrap_i64]; omega, by unfold wrap64; omega⟩
theorem wr_int {z : Int} (h : -1000000000000 ≤ z ∧ z ≤ 1000000000000) : IntKind.i64.wrap z = z ∧ wrap64 z = z := ⟨by rw [IntKind.wrap_i64]; omega, by unfold wrap64; omega⟩
theorem tmod_nat (j k : Nat) : (j : Int).tmod (k : Int) = ((j % k : Nat) : Int) := by
  rw [Int.tmod_eq_emod_of_nonneg (Int.natCast_nonneg j)]
  rfl
theorem tmod_succ (j k : Nat) : ((j : Int) + 1).tmod (k : Int) = (((j + 1) % k : Nat) : Int) := tmod_nat (j + 1) k

/-- So many joined. -/
structure Jn (Q : Int) (k : Nat) (wf : Nat → Int) (x : Tn) : Prop where
  q : x.q = Q
  n : x.n = k
  k0 : x.k = 0
  I : ∀ j, j < k → x.I j = j
  W : ∀ j, j < k → x.W j = wf j
  C : ∀ j, j < k → x.C j = 0
theorem jn_zero (q : Int) (wf : Nat → Int) {Q : Int} (h : min (max q 1) 1048576 = Q) : Jn Q 0 wf (mk0 q) := ⟨h, rfl, rfl, fun j hj => by omega, fun j hj => by omega, fun j hj => by omega⟩
theorem plc_neg {x : Tn} {id : Int} (h : ∀ j, j < x.n → x.I j ≠ id) : ¬ 0 ≤ plc x id := by rw [plc_not h]; omega
theorem jn_join {Q : Int} {k : Nat} {wf : Nat → Int} {x : Tn} (h : Jn Q k wf x) (hw : 1 ≤ wf k ∧ wf k ≤ 100) : joinE x k (wf k) = 0 ∧ Jn Q (k + 1) wf (joinX x k (wf k)) := by
  have hp : ¬ 0 ≤ plc x (k : Int) := plc_neg (fun j hj => by rw [h.n] at hj; rw [h.I j hj]; omega)
  have e : joinE x k (wf k) = 0 := by unfold joinE; rw [if_neg (by omega), if_neg hp]
  refine ⟨e, ?_⟩
  unfold joinX
  rw [if_pos e]
  refine ⟨h.q, by show x.n + 1 = k + 1; rw [h.n], h.k0, fun j hj => ?_, fun j hj => ?_, fun j hj => ?_⟩
  · show upd x.I x.n k j = j
    rw [h.n]
    by_cases q : j = k
    · subst q; rw [upd_same]
    · rw [upd_other _ _ q]; exact h.I j (by omega)
  · show upd x.W x.n (wf k) j = wf j
    rw [h.n]
    by_cases q : j = k
    · subst q; rw [upd_same]
    · rw [upd_other _ _ q]; exact h.W j (by omega)
  · show upd x.C x.n 0 j = 0
    rw [h.n]
    by_cases q : j = k
    · subst q; rw [upd_same]
    · rw [upd_other _ _ q]; exact h.C j (by omega)
theorem jn_gd {Q : Int} {k : Nat} {wf : Nat → Int} {x : Tn} (h : Jn Q k wf x) (hQ : 1 ≤ Q ∧ Q ≤ 1048576) (hw : ∀ j, j < k → 1 ≤ wf j ∧ wf j ≤ 100) {M : Int} (hM : 1 ≤ M) (hk : k ≤ 1000000) : Gd M k x := by
  have hn := h.n
  refine ⟨⟨by rw [h.q]; exact hQ.1, by rw [h.q]; exact hQ.2, fun j hj => ?_, fun j hj => ?_, fun j hj _ => ?_, fun hj => ?_, fun hj => ?_, fun e => h.k0⟩, by omega, fun j hj => ?_⟩
  · rw [h.W j (by omega)]; exact hw j (by omega)
  · rw [h.C j (by omega)]; omega
  · rw [h.C j (by omega)]; omega
  · have h1 := hw x.k (by omega)
    have := gain_bnd hQ.1 hQ.2 h1.1 h1.2
    rw [h.C _ (by omega), h.q, h.W _ (by omega)]; omega
  · rw [h.k0]; exact hj
  · rw [h.I j (by omega)]; unfold i64B; omega

/-- Wants of the first n members, one each. -/
def wrow (n : Nat) (f : Nat → Int) : List Wn := (List.range n).map fun (j : Nat) => ((j : Int), f j)
theorem wrow_succ (n : Nat) (f : Nat → Int) : wrow (n + 1) f = wrow n f ++ [((n : Int), f n)] := by simp [wrow, List.range_succ]
theorem wrow_len (n : Nat) (f : Nat → Int) : (wrow n f).length = n := by simp [wrow]
theorem wrow_cost (n : Nat) (f : Nat → Int) (hf : ∀ j, j < n → 1 ≤ f j ∧ f j ≤ 1048576) (j : Nat) : costOf (wrow n f) (j : Int) = if j < n then f j else 0 := by
  induction n with
  | zero => rfl
  | succ n ih =>
    rw [wrow_succ, costOf_app, ih (fun i hi => hf i (by omega))]
    by_cases h : j < n
    · have := hf j (by omega)
      rw [if_pos h, if_neg (by omega), if_pos (by omega)]
    · rw [if_neg h, if_pos rfl, costOf_cons]
      by_cases e : j = n
      · subst e
        rw [if_pos ⟨rfl, hf j (by omega)⟩, if_pos (by omega)]
      · rw [if_neg (fun q => e (by have := q.1; simp only at this; omega)), if_neg (by omega)]
        rfl
theorem wrow_other (n : Nat) (f : Nat → Int) {id : Int} (h : ∀ j, j < n → (j : Int) ≠ id) : costOf (wrow n f) id = 0 := by
  induction n with
  | zero => rfl
  | succ n ih =>
    rw [wrow_succ, costOf_app, ih (fun i hi => h i (by omega)), if_pos rfl, costOf_cons, if_neg (fun q => h n (by omega) q.1)]
    rfl
theorem wrow_ids (n : Nat) (f : Nat → Int) (hn : n ≤ 1000000) : ∀ p ∈ wrow n f, i64B p.1 := by
  intro p hp
  unfold wrow at hp
  obtain ⟨j, hj, rfl⟩ := List.mem_map.1 hp
  have := List.mem_range.1 hj
  unfold i64B
  show _ ≤ (j : Int) ∧ (j : Int) ≤ _
  omega
theorem wrow_max (n : Nat) (f : Nat → Int) {M : Int} (hM : 0 ≤ M) (hf : ∀ j, j < n → f j ≤ M) (id : Int) : costOf (wrow n f) id ≤ M := by
  refine costOf_max hM (fun p hp _ _ => ?_) id
  unfold wrow at hp
  obtain ⟨j, hj, rfl⟩ := List.mem_map.1 hp
  exact hf j (List.mem_range.1 hj)
theorem wrow_congr {n : Nat} {f g : Nat → Int} (h : ∀ j, j < n → f j = g j) : wrow n f = wrow n g := by
  unfold wrow
  exact List.map_congr_left fun j hj => by rw [h j (List.mem_range.1 hj)]
/-- What the members want. -/
theorem costs_wrow {n : Nat} {f : Nat → Int} (hf : ∀ j, j < n → 1 ≤ f j ∧ f j ≤ 1048576) {x : Tn} {j : Nat} (hI : x.I j = j) (hj : j < n) : costs (wrow n f) x j = f j := by
  unfold costs
  rw [hI, wrow_cost n f hf, if_pos hj]
end Go.Proofs.Ytlhkahincnchjaa
