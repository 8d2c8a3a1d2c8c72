/- There is an order just if nobody is on a circle: mathematics. -/
import Derived.Test.YtpbncoaonminoaaDoorCyR
namespace Go.Proofs.YtpbncoaonminoaaDoor
open M
set_option linter.unusedVariables false
set_option linter.unusedSimpArgs false

theorem ordL_stuck (es : List E) (n : Nat) : ∀ f S, n ≤ S.length + f → (ordL es n f S).length < n → ∀ i, i < n → nextP es (ordL es n f S) i = false
  | 0, S, h, hl => by
    have : (ordL es n 0 S).length = S.length := rfl
    omega
  | f + 1, S, h, hl => by
    have e : ordL es n (f + 1) S = (match nextO es n S with | none => S | some t => ordL es n f (S ++ [t])) := rfl
    cases q : nextO es n S with
    | none =>
      rw [q] at e
      rw [e]
      intro i hi
      have := List.find?_eq_none.1 q i (List.mem_range.2 hi)
      simpa using this
    | some t =>
      rw [q] at e
      rw [e] at hl ⊢
      exact ordL_stuck es n f (S ++ [t]) (by simp; omega) hl
theorem ordL_oi (es : List E) (n : Nat) : ∀ f S, (∀ t ∈ S, t < n) → S.Nodup → Topo es S → (∀ t ∈ ordL es n f S, t < n) ∧ (ordL es n f S).Nodup ∧ Topo es (ordL es n f S)
  | 0, S, h1, h2, h3 => ⟨h1, h2, h3⟩
  | f + 1, S, h1, h2, h3 => by
    have e : ordL es n (f + 1) S = (match nextO es n S with | none => S | some t => ordL es n f (S ++ [t])) := rfl
    cases q : nextO es n S with
    | none =>
      rw [q] at e
      rw [e]
      exact ⟨h1, h2, h3⟩
    | some t =>
      rw [q] at e
      rw [e]
      have hp : nextP es S t = true := by simpa using List.find?_some q
      have ht : t < n := by simpa using List.mem_of_find?_eq_some q
      have hn := (nextP_iff.1 hp).1
      refine ordL_oi es n f (S ++ [t]) (fun u hu => ?_) ?_ (h3.snoc hp)
      · rcases List.mem_append.1 hu with hu | hu
        · exact h1 u hu
        · simp at hu; omega
      · rw [List.nodup_append]
        refine ⟨h2, by simp, fun x hx y hy e2 => ?_⟩
        simp at hy
        subst hy e2
        exact hn hx
theorem ordS_oi (es : List E) (n : Nat) : (∀ t ∈ ordS es n, t < n) ∧ (ordS es n).Nodup ∧ Topo es (ordS es n) := ordL_oi es n n [] (by simp) (by simp) (Topo.nil es)
theorem ordS_len (es : List E) (n : Nat) : (ordS es n).length ≤ n := nodup_len (ordS_oi es n).1 (ordS_oi es n).2.1
/-- As many tasks as there are: all of them. -/
theorem all_in {n : Nat} {S : List Nat} (h1 : ∀ t ∈ S, t < n) (h2 : S.Nodup) (hl : n ≤ S.length) {x : Nat} (hx : x < n) : x ∈ S := by
  apply Classical.byContradiction
  intro hn
  have := nodup_len (n := n) (S := x :: S) (fun t ht => by
    rcases List.mem_cons.1 ht with rfl | ht
    · exact hx
    · exact h1 t ht) (List.nodup_cons.2 ⟨hn, h2⟩)
  simp at this
  omega
theorem len_all : ∀ (n : Nat) (S : List Nat), (∀ t, t < n → t ∈ S) → n ≤ S.length
  | 0, S, _ => Nat.zero_le _
  | n + 1, S, h => by
    have h1 := h n (by omega)
    have h2 := len_all n (S.erase n) (fun t ht => (List.mem_erase_of_ne (by omega)).2 (h t (by omega)))
    rw [List.length_erase, if_pos h1] at h2
    have : 0 < S.length := List.length_pos_of_mem h1
    omega
theorem sub_le {a b : Nat} (h : ∀ i, a.testBit i = true → b.testBit i = true) : a ≤ b := by
  have e : a = a &&& b := by
    apply Nat.eq_of_testBit_eq
    intro i
    rw [Nat.testBit_and]
    cases q : a.testBit i with
    | false => rfl
    | true => rw [h i q]; rfl
  rw [e]
  exact Nat.and_le_right
theorem topo_idx {es : List E} {S : List Nat} (ht : Topo es S) (hnd : S.Nodup) {x y : Nat} (hx : x ∈ S) (he : (x, y) ∈ es) : S.idxOf y < S.idxOf x := by
  obtain ⟨pre, post, rfl⟩ := List.append_of_mem hx
  have hy := ht pre x post rfl y he
  have hxp : x ∉ pre := by
    rw [List.nodup_append] at hnd
    intro h
    exact hnd.2.2 x h x (by simp) rfl
  rw [List.idxOf_append, if_pos hy, List.idxOf_append, if_neg hxp]
  have := List.idxOf_lt_length_of_mem hy
  omega
theorem order_none {es : List E} {n : Nat} (hg : ∀ e ∈ es, e.1 < n ∧ e.2 < n) (hl : n ≤ (ordS es n).length) : onL es n = [] := by
  obtain ⟨h1, h2, h3⟩ := ordS_oi es n
  apply List.eq_nil_iff_forall_not_mem.2
  intro t ht
  obtain ⟨htn, hon⟩ := onL_mem.1 ht
  obtain ⟨x, he, hr⟩ := onB_iff.1 hon
  have hx : x < n := (hg _ he).2
  have i1 := topo_idx h3 h2 (all_in h1 h2 hl htn) he
  have i2 : (ordS es n).idxOf t ≤ (ordS es n).idxOf x := by
    refine (hr.closed (fun u => u < n ∧ (ordS es n).idxOf u ≤ (ordS es n).idxOf x) ⟨hx, Nat.le_refl _⟩ ?_).2
    intro u v hu huv
    have := topo_idx h3 h2 (all_in h1 h2 hl hu.1) huv
    exact ⟨(hg _ huv).2, by omega⟩
  omega
theorem order_some {es : List E} {n : Nat} (hn : n ≤ 64) (hg : ∀ e ∈ es, e.1 < n ∧ e.2 < n) (hl : (ordS es n).length < n) : onL es n ≠ [] := by
  have hst := ordL_stuck es n n [] (by simp) hl
  have hst' : ∀ i, i < n → nextP es (ordS es n) i = false := hst
  generalize ordS es n = S at *
  have hex : ∃ t, t < n ∧ t ∉ S := by
    apply Classical.byContradiction
    intro hne
    have := len_all n S (fun t ht => by
      apply Classical.byContradiction
      intro h
      exact hne ⟨t, ht, h⟩)
    omega
  have hmin : ∀ k, (∃ t, t < n ∧ t ∉ S ∧ rset es t = k) → ∃ t, t < n ∧ t ∉ S ∧ ∀ u, u < n → u ∉ S → rset es t ≤ rset es u := by
    intro k
    induction k using Nat.strongRecOn with
    | _ k ih =>
      rintro ⟨t, h1, h2, h3⟩
      by_cases hb : ∃ u, u < n ∧ u ∉ S ∧ rset es u < k
      · obtain ⟨u, u1, u2, u3⟩ := hb
        exact ih _ u3 ⟨u, u1, u2, rfl⟩
      · refine ⟨t, h1, h2, fun u u1 u2 => ?_⟩
        rw [h3]
        exact Nat.le_of_not_lt (fun h => hb ⟨u, u1, u2, h⟩)
  obtain ⟨t0, h1, h2⟩ := hex
  obtain ⟨t, ht, hts, hm⟩ := hmin _ ⟨t0, h1, h2, rfl⟩
  have hnx := hst' t ht
  have hsucc : ∃ y, (t, y) ∈ es ∧ y ∉ S := by
    apply Classical.byContradiction
    intro hne
    have : nextP es S t = true := nextP_iff.2 ⟨hts, fun x hx => by
      apply Classical.byContradiction
      intro h
      exact hne ⟨x, hx, h⟩⟩
    rw [hnx] at this
    cases this
  obtain ⟨y, he, hys⟩ := hsucc
  have hyn : y < n := (hg _ he).2
  have hle : rset es y ≤ rset es t := sub_le (fun i hi => by
    have hi64 := bit_lt (rset_lt es y) hi
    rw [rset_bit _ _ _ hi64] at hi ⊢
    rw [rB_iff] at hi ⊢
    exact ((Rch.refl es t).tail he).trans hi)
  have heq : rset es y = rset es t := Nat.le_antisymm hle (hm y hyn hys)
  have hb : (rset es y).testBit t = true := by
    rw [heq, rset_bit _ _ _ (by omega), rB_iff]
    exact Rch.refl _ _
  rw [rset_bit _ _ _ (by omega), rB_iff] at hb
  intro hnil
  have : t ∈ onL es n := onL_mem.2 ⟨ht, onB_iff.2 ⟨y, he, hb⟩⟩
  rw [hnil] at this
  cases this
theorem order_on {es : List E} {n : Nat} (hn : n ≤ 64) (hg : ∀ e ∈ es, e.1 < n ∧ e.2 < n) : orderB es n = decide ((onL es n).length = 0) := by
  unfold orderB
  by_cases hl : n ≤ (ordS es n).length
  · rw [order_none hg hl, decide_eq_true hl]; rfl
  · rw [decide_eq_false hl, decide_eq_false (fun e => order_some hn hg (by omega) (List.eq_nil_of_length_eq_zero e))]
theorem order_yes {es : List E} {n : Nat} (h : orderB es n = true) : orderL es n = ordS es n ∧ (orderL es n).length = n := by
  have hl : n ≤ (ordS es n).length := of_decide_eq_true h
  have := ordS_len es n
  unfold orderL
  rw [if_neg (by omega)]
  exact ⟨rfl, by omega⟩
theorem order_no {es : List E} {n : Nat} (h : orderB es n = false) : orderL es n = [] := by
  have hl : ¬ n ≤ (ordS es n).length := of_decide_eq_false h
  unfold orderL
  rw [if_pos (by omega)]
theorem orderL_lt (es : List E) (n : Nat) : (∀ t ∈ orderL es n, t < n) ∧ (orderL es n).Nodup ∧ (orderL es n).length ≤ n := by
  unfold orderL
  split
  · exact ⟨by simp, by simp, by simp⟩
  · exact ⟨(ordS_oi es n).1, (ordS_oi es n).2.1, ordS_len es n⟩

/-- Each one's place, as far as the row was gone through; 0: none. -/
def plF (S : List Nat) (k t : Nat) : Int := if t ∈ S.take k then ((S.idxOf t : Nat) : Int) + 1 else 0
theorem idx_at {S : List Nat} (hnd : S.Nodup) {k : Nat} (hk : k < S.length) : S.idxOf S[k] = k := by
  have h1 : S.idxOf S[k] < S.length := List.idxOf_lt_length_of_mem (List.getElem_mem hk)
  have h2 : S[S.idxOf S[k]] = S[k] := List.getElem_idxOf h1
  rcases Nat.lt_trichotomy (S.idxOf S[k]) k with q | q | q
  · exact absurd h2 (List.pairwise_iff_getElem.1 hnd _ _ h1 hk q)
  · exact q
  · exact absurd h2.symm (List.pairwise_iff_getElem.1 hnd _ _ hk h1 q)
theorem not_take {S : List Nat} (hnd : S.Nodup) {k : Nat} (hk : k < S.length) : S[k] ∉ S.take k := by
  intro h
  obtain ⟨j, hj, e⟩ := List.getElem_of_mem h
  rw [List.getElem_take] at e
  have hj2 : j < k := by simp at hj; omega
  exact List.pairwise_iff_getElem.1 hnd j k (by omega) hk hj2 e
theorem plF_zero {S : List Nat} (hnd : S.Nodup) {k : Nat} (hk : k < S.length) : plF S k S[k] = 0 := by
  unfold plF
  rw [if_neg (not_take hnd hk)]
theorem plF_step {S : List Nat} (hnd : S.Nodup) {k : Nat} (hk : k < S.length) (t : Nat) : plF S (k + 1) t = if t = S[k] then (k : Int) + 1 else plF S k t := by
  unfold plF
  rw [List.take_succ_eq_append_getElem hk]
  by_cases e : t = S[k]
  · rw [if_pos e, if_pos (List.mem_append_right _ (by rw [e]; exact List.mem_singleton.2 rfl)), e, idx_at hnd hk]
  · rw [if_neg e]
    by_cases h : t ∈ S.take k
    · rw [if_pos h, if_pos (List.mem_append_left _ h)]
    · rw [if_neg h, if_neg (fun q => by
        rcases List.mem_append.1 q with q | q
        · exact h q
        · exact e (List.mem_singleton.1 q))]
theorem plF_all {S : List Nat} {k t : Nat} (hk : S.length ≤ k) (ht : t ∈ S) : plF S k t = ((S.idxOf t : Nat) : Int) + 1 := by
  unfold plF
  rw [List.take_of_length_le hk, if_pos ht]
theorem plF_bound (S : List Nat) (k t : Nat) : 0 ≤ plF S k t ∧ plF S k t ≤ S.length + 1 := by
  unfold plF
  have := List.idxOf_le_length (l := S) (a := t)
  split <;> omega
end Go.Proofs.YtpbncoaonminoaaDoor
