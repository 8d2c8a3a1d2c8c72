/- Who is active and who waits, as mathematics. -/
import Derived.Test.YtjmdalpffhfdfaaProg
namespace Go.Proofs.Ytjmdalpffhfdfaa
namespace M

/-- How many may be active, how many may wait; those that are active, those that wait. -/
structure Ad where
  a : Int
  q : Int
  A : List Int
  Q : List Int

/-- What holds of each. -/
structure Inv (x : Ad) : Prop where
  a1 : 1 ≤ x.a
  q0 : 0 ≤ x.q
  aM : x.a ≤ 9223372036854775807
  qM : x.q ≤ 9223372036854775807
  la : (x.A.length : Int) ≤ x.a
  lq : (x.Q.length : Int) ≤ x.q
  full : x.Q ≠ [] → (x.A.length : Int) = x.a
  nd : (x.A ++ x.Q).Nodup

def siz (x : Ad) : Nat := x.A.length + x.Q.length
/-- State. -/
def sI (x : Ad) (id : Int) : Int := if id ∈ x.A then 1 else 0
def sB (x : Ad) (id : Int) : Bool := decide (id ∈ x.A ∨ id ∈ x.Q)
/-- Add. -/
def te (x : Ad) (id : Int) : Int := if id ∈ x.A ∨ id ∈ x.Q then 8 else if (x.A.length : Int) < x.a then 0 else if (x.Q.length : Int) < x.q then 0 else 4
def ts (x : Ad) (id : Int) : Int := if id ∈ x.A ∨ id ∈ x.Q then 0 else if (x.A.length : Int) < x.a then 1 else 0
def tx (x : Ad) (id : Int) : Ad := if id ∈ x.A ∨ id ∈ x.Q then x else if (x.A.length : Int) < x.a then ⟨x.a, x.q, x.A ++ [id], x.Q⟩ else if (x.Q.length : Int) < x.q then ⟨x.a, x.q, x.A, x.Q ++ [id]⟩ else x
/-- End. -/
def ee (x : Ad) (id : Int) : Int := if id ∈ x.A ∨ id ∈ x.Q then 0 else 6
def es (x : Ad) (id : Int) : Int := if id ∈ x.Q then -1 else if id ∈ x.A then x.Q.head?.getD (-1) else 0
def ex (x : Ad) (id : Int) : Ad := if id ∈ x.Q then ⟨x.a, x.q, x.A, x.Q.erase id⟩ else if id ∈ x.A then ⟨x.a, x.q, x.A.erase id ++ x.Q.head?.toList, x.Q.tail⟩ else x

def mk0 (a q : Int) : Ad := ⟨max a 1, max q 0, [], []⟩
theorem inv_mk0 {a q : Int} (ha : a ≤ 9223372036854775807) (hq : q ≤ 9223372036854775807) : Inv (mk0 a q) :=
  ⟨by simp only [mk0]; omega, by simp only [mk0]; omega, by simp only [mk0]; omega, by simp only [mk0]; omega, by simp only [mk0, List.length_nil]; omega, by simp only [mk0, List.length_nil]; omega, fun h => absurd rfl h, List.nodup_nil⟩

theorem Inv.nA {x : Ad} (h : Inv x) : x.A.Nodup := (List.nodup_append.1 h.nd).1
theorem Inv.nQ {x : Ad} (h : Inv x) : x.Q.Nodup := (List.nodup_append.1 h.nd).2.1
theorem Inv.dis {x : Ad} (h : Inv x) {id : Int} (ha : id ∈ x.A) : ¬ id ∈ x.Q := fun hq => (List.nodup_append.1 h.nd).2.2 id ha id hq rfl
theorem Inv.qempty {x : Ad} (h : Inv x) (hl : (x.A.length : Int) < x.a) : x.Q = [] := by
  by_cases e : x.Q = []
  · exact e
  · have := h.full e; omega

theorem all_tx {x : Ad} (h : Inv x) (id : Int) : (tx x id).A ++ (tx x id).Q = if te x id = 0 then (x.A ++ x.Q) ++ [id] else x.A ++ x.Q := by
  unfold tx te
  by_cases h1 : id ∈ x.A ∨ id ∈ x.Q
  · simp [h1]
  · by_cases h2 : (x.A.length : Int) < x.a
    · rw [if_neg h1, if_pos h2, if_neg h1, if_pos h2]; simp [h.qempty h2]
    · by_cases h3 : (x.Q.length : Int) < x.q
      · simp [h1, h2, h3]
      · simp [h1, h2, h3]
theorem inv_tx {x : Ad} (h : Inv x) (id : Int) : Inv (tx x id) := by
  unfold tx
  by_cases h1 : id ∈ x.A ∨ id ∈ x.Q
  · rw [if_pos h1]; exact h
  · rw [if_neg h1]
    have hn : ∀ z ∈ x.A ++ x.Q, z ≠ id := fun z hz e => h1 (by rw [← e]; exact List.mem_append.1 hz)
    have hnd : ((x.A ++ x.Q) ++ [id]).Nodup := List.nodup_append.2 ⟨h.nd, by simp, fun z hz y hy => by rw [List.mem_singleton.1 hy]; exact hn z hz⟩
    by_cases h2 : (x.A.length : Int) < x.a
    · rw [if_pos h2]
      have hq := h.qempty h2
      rw [hq, List.append_nil] at hnd
      exact ⟨h.a1, h.q0, h.aM, h.qM, by simp only [List.length_append, List.length_singleton]; omega, h.lq, fun e => absurd hq e, by simp only; rw [hq, List.append_nil]; exact hnd⟩
    · rw [if_neg h2]
      by_cases h3 : (x.Q.length : Int) < x.q
      · rw [if_pos h3]
        have := h.la
        exact ⟨h.a1, h.q0, h.aM, h.qM, h.la, by simp only [List.length_append, List.length_singleton]; omega, fun _ => by simp only; omega, by simp only; rw [← List.append_assoc]; exact hnd⟩
      · rw [if_neg h3]; exact h
theorem siz_tx {x : Ad} (h : Inv x) (id : Int) : siz (tx x id) ≤ siz x + 1 := by
  have := congrArg List.length (all_tx h id)
  unfold siz
  simp only [List.length_append] at this
  split at this <;> simp only [List.length_append, List.length_singleton] at this <;> omega

theorem all_ex {x : Ad} (h : Inv x) (id : Int) : (ex x id).A ++ (ex x id).Q = (x.A ++ x.Q).erase id := by
  unfold ex
  by_cases hq : id ∈ x.Q
  · rw [if_pos hq]
    have : ¬ id ∈ x.A := fun e => h.dis e hq
    simp only
    rw [List.erase_append_right _ this]
  · rw [if_neg hq]
    by_cases ha : id ∈ x.A
    · rw [if_pos ha, List.erase_append_left _ ha]
      simp only
      cases hx : x.Q with
      | nil => simp
      | cons n r => simp
    · rw [if_neg ha, List.erase_of_not_mem (by simp [ha, hq])]
theorem inv_ex {x : Ad} (h : Inv x) (id : Int) : Inv (ex x id) := by
  have hall := all_ex h id
  have hnd : ((ex x id).A ++ (ex x id).Q).Nodup := by rw [hall]; exact h.nd.erase _
  have hla := h.la
  have hlq := h.lq
  unfold ex at hnd ⊢
  by_cases hq : id ∈ x.Q
  · rw [if_pos hq] at hnd ⊢
    have hl := List.length_erase_of_mem hq
    exact ⟨h.a1, h.q0, h.aM, h.qM, h.la, by simp only; omega, fun _ => h.full (List.ne_nil_of_mem hq), hnd⟩
  · rw [if_neg hq] at hnd ⊢
    by_cases ha : id ∈ x.A
    · rw [if_pos ha] at hnd ⊢
      have hl := List.length_erase_of_mem ha
      have h0 := List.length_pos_of_mem ha
      cases hx : x.Q with
      | nil =>
        rw [hx] at hnd hlq
        exact ⟨h.a1, h.q0, h.aM, h.qM, by simp only [List.head?_nil, Option.toList_none, List.append_nil]; omega, by simpa using hlq, fun e => absurd rfl e, hnd⟩
      | cons n r =>
        have hf := h.full (by rw [hx]; simp)
        rw [hx] at hnd hlq
        simp only [List.length_cons] at hlq
        exact ⟨h.a1, h.q0, h.aM, h.qM, by simp only [List.head?_cons, Option.toList_some, List.length_append, List.length_singleton]; omega, by simp only [List.tail_cons]; omega, fun e => by simp only [List.head?_cons, Option.toList_some, List.length_append, List.length_singleton]; omega, hnd⟩
    · rw [if_neg ha]; exact h
theorem siz_ex {x : Ad} (h : Inv x) (id : Int) : siz (ex x id) ≤ siz x := by
  have := congrArg List.length (all_ex h id)
  have h2 := List.length_erase_le (a := id) (l := x.A ++ x.Q)
  unfold siz
  simp only [List.length_append] at this h2
  omega
theorem tx_ne {x : Ad} {id : Int} (h : te x id ≠ 0) : tx x id = x := by
  unfold te at h; unfold tx
  split at h
  · rename_i q; rw [if_pos q]
  · rename_i q
    rw [if_neg q]
    split at h
    · omega
    · rename_i q2
      rw [if_neg q2]
      split at h
      · omega
      · rename_i q3; rw [if_neg q3]
theorem ex_ne {x : Ad} {id : Int} (h : ee x id ≠ 0) : ex x id = x := by
  unfold ee at h; unfold ex
  split at h
  · omega
  · rename_i q
    rw [if_neg (fun e => q (.inr e)), if_neg (fun e => q (.inl e))]
theorem ex_ab (x : Ad) (id : Int) : (ex x id).a = x.a ∧ (ex x id).q = x.q := by
  unfold ex; split
  · exact ⟨rfl, rfl⟩
  · split <;> exact ⟨rfl, rfl⟩
theorem tx_ab (x : Ad) (id : Int) : (tx x id).a = x.a ∧ (tx x id).q = x.q := by
  unfold tx; split
  · exact ⟨rfl, rfl⟩
  · split
    · exact ⟨rfl, rfl⟩
    · split <;> exact ⟨rfl, rfl⟩

/-- Where an id stands; -1: nowhere. -/
def ix (L : List Int) (id : Int) : Int := if id ∈ L then (L.idxOf id : Nat) else -1
theorem ix_not {L : List Int} {id : Int} (h : ¬ id ∈ L) : ix L id = -1 := if_neg h
theorem ix_mem {L : List Int} {id : Int} (h : id ∈ L) : ∃ k : Nat, ix L id = k ∧ k < L.length ∧ L.erase id = L.take k ++ L.drop (k + 1) ∧ L[k]? = some id := by
  refine ⟨L.idxOf id, if_pos h, List.idxOf_lt_length_of_mem h, ?_, ?_⟩
  · rw [List.erase_eq_eraseIdx_of_idxOf (i := L.idxOf id) rfl, List.eraseIdx_eq_take_drop_succ]
  · rw [List.getElem?_eq_getElem (List.idxOf_lt_length_of_mem h)]
    simp
theorem ix_first {L : List Int} {id : Int} {k : Nat} (h : L[k]? = some id) (hb : ∀ j, j < k → L[j]? ≠ some id) : ix L id = k := by
  have hm : id ∈ L := List.mem_of_getElem? h
  obtain ⟨j, h1, h2, _, h4⟩ := ix_mem hm
  rw [h1]
  have a1 : ¬ j < k := fun q => hb j q h4
  have a2 : ¬ k < j := fun q => by
    have e : ix L id = (L.idxOf id : Nat) := if_pos hm
    have hlt := List.idxOf_lt_length_of_mem hm
    obtain ⟨hk, e2⟩ := List.getElem?_eq_some_iff.1 h
    have := List.not_of_lt_findIdx (p := (· == id)) (xs := L) (i := k) (by
      have : L.idxOf id = j := by omega
      unfold List.idxOf at this
      omega)
    simp [e2] at this
  omega
theorem ix_none {L : List Int} {id : Int} (h : ∀ j, j < L.length → L[j]? ≠ some id) : ix L id = -1 := by
  refine ix_not (fun hm => ?_)
  obtain ⟨j, _, h2, _, h4⟩ := ix_mem hm
  exact h j h2 h4
theorem ix_ge {L : List Int} {id : Int} : (decide (0 ≤ ix L id)) = decide (id ∈ L) := by
  by_cases h : id ∈ L
  · obtain ⟨k, e, _⟩ := ix_mem h
    rw [e]; simp [h]
  · rw [ix_not h]; simp [h]
end M
end Go.Proofs.Ytjmdalpffhfdfaa
