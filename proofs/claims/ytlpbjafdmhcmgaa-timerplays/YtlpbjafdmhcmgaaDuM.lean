/- What is due: the ids whose time is at most now, in order; what remains. -/
import Derived.Test.YtlpbjafdmhcmgaaWri
namespace Go.Proofs.Ytlpbjafdmhcmgaa
open Go.RowKit
open M
set_option linter.unusedVariables false
set_option linter.unusedSimpArgs false

/-- An id's time, 0 if it has none. -/
def kS (S : Nat → Option Int) (x : Nat) : Int := (S x).getD 0
theorem kS_of {S : Nat → Option Int} {x : Nat} {y : Int} (h : S x = some y) : kS S x = y := by simp [kS, h]
theorem lt_irr {K : Nat → Int} {a : Nat} : ¬ ltP K a a := by unfold ltP; omega
theorem lt_asym {K : Nat → Int} {a b : Nat} (h : ltP K a b) : ¬ ltP K b a := by unfold ltP at *; omega
theorem lt_tr {K : Nat → Int} {a b c : Nat} (h : ltP K a b) (k : ltP K b c) : ltP K a c := by unfold ltP at *; omega

/-- L is what is due at now. -/
structure Due (n : Nat) (S : Nat → Option Int) (now : Int) (L : List Nat) : Prop where
  mem : ∀ x, x ∈ L ↔ x < n ∧ ∃ y, S x = some y ∧ y ≤ now
  ord : L.Pairwise (ltP (kS S))
/-- What remains. -/
def dueS (S : Nat → Option Int) (now : Int) (x : Nat) : Option Int := match S x with
  | some y => if y ≤ now then none else some y
  | none => none
theorem dueS_some {S : Nat → Option Int} {now : Int} {x : Nat} {y : Int} : dueS S now x = some y ↔ S x = some y ∧ now < y := by
  unfold dueS
  cases h : S x with
  | none => simp
  | some u =>
    by_cases q : u ≤ now
    · simp [q]; intro e; omega
    · simp [q]; intro e; omega
theorem dueS_none {S : Nat → Option Int} {now : Int} {x : Nat} : dueS S now x = none ↔ S x = none ∨ ∃ y, S x = some y ∧ y ≤ now := by
  unfold dueS
  cases h : S x with
  | none => simp
  | some u =>
    by_cases q : u ≤ now
    · simp [q]
    · simp [q]

/-- Rows in one order, of the same ids, are one. -/
theorem ord_uniq {K : Nat → Int} : ∀ {l l' : List Nat}, l.Pairwise (ltP K) → l'.Pairwise (ltP K) → (∀ x, x ∈ l ↔ x ∈ l') → l = l'
  | [], [], _, _, _ => rfl
  | [], b :: l', _, _, h => by have := (h b).2 (by simp); simp at this
  | a :: l, [], _, _, h => by have := (h a).1 (by simp); simp at this
  | a :: l, b :: l', h1, h2, h => by
    rw [List.pairwise_cons] at h1 h2
    have e : a = b := by
      rcases List.mem_cons.1 ((h a).1 (by simp)) with q | q
      · exact q
      · rcases List.mem_cons.1 ((h b).2 (by simp)) with q' | q'
        · exact q'.symm
        · exact absurd (h2.1 a q) (lt_asym (h1.1 b q'))
    subst e
    congr 1
    refine ord_uniq h1.2 h2.2 (fun x => ⟨fun hx => ?_, fun hx => ?_⟩)
    · rcases List.mem_cons.1 ((h x).1 (List.mem_cons_of_mem _ hx)) with q | q
      · subst q; exact absurd (h1.1 x hx) lt_irr
      · exact q
    · rcases List.mem_cons.1 ((h x).2 (List.mem_cons_of_mem _ hx)) with q | q
      · subst q; exact absurd (h2.1 x hx) lt_irr
      · exact q
theorem Due.uniq {n : Nat} {S : Nat → Option Int} {now : Int} {L L' : List Nat} (h : Due n S now L) (h' : Due n S now L') : L = L' := ord_uniq h.ord h'.ord (fun x => (h.mem x).trans (h'.mem x).symm)
theorem Due.congr {n : Nat} {S S' : Nat → Option Int} {now : Int} {L : List Nat} (h : Due n S now L) (hs : ∀ x, x < n → S' x = S x) : Due n S' now L := by
  refine ⟨fun x => (h.mem x).trans ⟨fun q => ⟨q.1, by rw [hs x q.1]; exact q.2⟩, fun q => ⟨q.1, by rw [← hs x q.1]; exact q.2⟩⟩, ?_⟩
  refine h.ord.imp_of_mem (fun {a b} ha hb q => ?_)
  have h1 := hs a ((h.mem a).1 ha).1
  have h2 := hs b ((h.mem b).1 hb).1
  unfold ltP kS at *
  rw [h1, h2]
  exact q
theorem Due.lt {n : Nat} {S : Nat → Option Int} {now : Int} {L : List Nat} (h : Due n S now L) {i : Nat} (hi : i < L.length) : L[i] < n := ((h.mem _).1 (List.getElem_mem hi)).1
theorem Due.has {n : Nat} {S : Nat → Option Int} {now : Int} {L : List Nat} (h : Due n S now L) {i : Nat} (hi : i < L.length) : ∃ y, S L[i] = some y ∧ y ≤ now := ((h.mem _).1 (List.getElem_mem hi)).2
theorem Due.step {n : Nat} {S : Nat → Option Int} {now : Int} {L : List Nat} (h : Due n S now L) {i : Nat} (hi : i + 1 < L.length) {y z : Int} (h1 : S L[i] = some y) (h2 : S L[i + 1] = some z) : y < z ∨ (y = z ∧ L[i] < L[i + 1]) := by
  have := List.pairwise_iff_getElem.1 h.ord i (i + 1) (by omega) hi (by omega)
  unfold ltP at this
  rw [kS_of h1, kS_of h2] at this
  exact this
theorem Due.nil {n : Nat} {S : Nat → Option Int} {now : Int} {L : List Nat} (h : Due n S now L) : L = [] ↔ ∀ x y, x < n → S x = some y → now < y := by
  constructor
  · rintro rfl x y hx hs
    have := (h.mem x).2
    simp at this
    exact this hx y hs
  · intro q
    apply List.eq_nil_iff_forall_not_mem.2
    intro x hx
    obtain ⟨h1, y, h2, h3⟩ := (h.mem x).1 hx
    have := q x y h1 h2
    omega

/-- On the way: L is taken out, S' remains. -/
structure DI (n : Nat) (S : Nat → Option Int) (now : Int) (S' : Nat → Option Int) (L : List Nat) : Prop where
  sub : ∀ x ∈ L, x < n ∧ ∃ y, S x = some y ∧ y ≤ now
  rest : ∀ x, x < n → S' x = if x ∈ L then none else S x
  ord : L.Pairwise (ltP (kS S))
  below : ∀ x ∈ L, ∀ z u, z < n → S' z = some u → ltP (kS S) x z
  len : L.length + cnt (fun x => (S' x).isSome) n = cnt (fun x => (S x).isSome) n
theorem DI.start (n : Nat) (S : Nat → Option Int) (now : Int) : DI n S now S [] := ⟨fun x hx => by simp at hx, fun x _ => by simp, List.Pairwise.nil, fun x hx => by simp at hx, by simp⟩
theorem DI.step {n : Nat} {S : Nat → Option Int} {now : Int} {S' : Nat → Option Int} {L : List Nat} (h : DI n S now S' L) {x : Nat} {y : Int} (hf : Fst n S' x y) (hy : y ≤ now) : DI n S now (upS S' x none) (L ++ [x]) := by
  have hx := hf.lt
  have hr := h.rest x hx
  have hnot : x ∉ L := fun q => by rw [if_pos q, hf.is] at hr; cases hr
  rw [if_neg hnot, hf.is] at hr
  have back : ∀ z u, z < n → upS S' x none z = some u → z ≠ x ∧ S' z = some u ∧ S z = some u := by
    intro z u hz hu
    have e : z ≠ x := fun e => by subst e; rw [upS_is] at hu; cases hu
    rw [upS_ne _ _ e] at hu
    have := h.rest z hz
    rw [hu] at this
    refine ⟨e, hu, ?_⟩
    by_cases q : z ∈ L
    · rw [if_pos q] at this; cases this
    · rw [if_neg q] at this; exact this.symm
  refine ⟨fun z hz => ?_, fun z hz => ?_, ?_, fun z hz v u hv hu => ?_, ?_⟩
  · rcases List.mem_append.1 hz with q | q
    · exact h.sub z q
    · rw [List.mem_singleton.1 q]; exact ⟨hx, y, hr.symm, hy⟩
  · by_cases e : z = x
    · subst e; rw [upS_is]; simp
    · rw [upS_ne _ _ e, h.rest z hz]; simp [e]
  · rw [List.pairwise_append]
    exact ⟨h.ord, by simp, fun a ha b hb => by rw [List.mem_singleton.1 hb]; exact h.below a ha x y hx hf.is⟩
  · obtain ⟨e, h1, h2⟩ := back v u hv hu
    rcases List.mem_append.1 hz with q | q
    · exact h.below z q v u hv h1
    · rw [List.mem_singleton.1 q]
      have := hf.le v u hv h1
      unfold ltP
      rw [kS_of hr.symm, kS_of h2]
      omega
  · have := cnt_set (p := fun z => (upS S' x none z).isSome) (q := fun z => (S' z).isSome) hx (fun z hz e => by simp [upS_ne _ _ e]) (by simp [upS_is]) (by simp [hf.is])
    have h0 := h.len
    simp only [List.length_append, List.length_singleton]
    omega
theorem DI.stop {n : Nat} {S : Nat → Option Int} {now : Int} {S' : Nat → Option Int} {L : List Nat} (h : DI n S now S' L) (he : ∀ x y, x < n → S' x = some y → now < y) : Due n S now L ∧ (∀ x, x < n → dueS S now x = S' x) := by
  have mem : ∀ x, x ∈ L ↔ x < n ∧ ∃ y, S x = some y ∧ y ≤ now := by
    intro x
    refine ⟨h.sub x, fun ⟨hx, y, hs, hy⟩ => ?_⟩
    by_cases q : x ∈ L
    · exact q
    · have := h.rest x hx
      rw [if_neg q, hs] at this
      have := he x y hx this
      omega
  refine ⟨⟨mem, h.ord⟩, fun x hx => ?_⟩
  rw [h.rest x hx]
  by_cases q : x ∈ L
  · rw [if_pos q]
    exact dueS_none.2 (.inr ((mem x).1 q).2)
  · rw [if_neg q]
    cases hs : S x with
    | none => exact dueS_none.2 (.inl hs)
    | some u =>
      refine dueS_some.2 ⟨hs, ?_⟩
      rcases (by omega : now < u ∨ u ≤ now) with r | r
      · exact r
      · exact absurd ((mem x).2 ⟨hx, u, hs, r⟩) q
theorem DI.emp {n : Nat} {S : Nat → Option Int} {now : Int} {S' : Nat → Option Int} {L : List Nat} (h : DI n S now S' L) (he : Emp n S') : Due n S now L ∧ (∀ x, x < n → dueS S now x = S' x) := h.stop (fun x y hx hs => by rw [he x hx] at hs; cases hs)
theorem DI.fst {n : Nat} {S : Nat → Option Int} {now : Int} {S' : Nat → Option Int} {L : List Nat} (h : DI n S now S' L) {x : Nat} {y : Int} (hf : Fst n S' x y) (hy : now < y) : Due n S now L ∧ (∀ x, x < n → dueS S now x = S' x) := h.stop (fun z u hz hs => by have := hf.le z u hz hs; omega)

/-- As many as there were are due, or remain. -/
def cntS (n : Nat) (S : Nat → Option Int) : Nat := cnt (fun x => (S x).isSome) n
theorem cntS_le (n : Nat) (S : Nat → Option Int) : cntS n S ≤ n := cnt_le _ _
theorem cntS_congr {n : Nat} {S S' : Nat → Option Int} (h : ∀ x, x < n → S' x = S x) : cntS n S' = cntS n S := cnt_congr (fun x hx => by rw [h x hx])
theorem cntS_emp {n : Nat} {S : Nat → Option Int} (h : Emp n S) : cntS n S = 0 := cnt_zero.2 (fun x hx => by rw [h x hx]; rfl)
theorem emp_cntS {n : Nat} {S : Nat → Option Int} (h : cntS n S = 0) : Emp n S := fun x hx => by
  have := cnt_zero.1 h x hx
  cases hs : S x with
  | none => rfl
  | some u => rw [hs] at this; cases this
end Go.Proofs.Ytlpbjafdmhcmgaa
