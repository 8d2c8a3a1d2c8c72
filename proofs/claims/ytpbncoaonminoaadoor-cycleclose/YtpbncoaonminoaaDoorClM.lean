/- An edge makes circles just if it closes one: mathematics. -/
import Derived.Test.YtpbncoaonminoaaDoorCyT
namespace Go.Proofs.YtpbncoaonminoaaDoor
open Go.RowKit
open M
set_option linter.unusedVariables false
set_option linter.unusedSimpArgs false

theorem mem_add {n : Nat} {es : List E} {A B : Nat} (hA : A < n) (hB : B < n) (e : E) : e ∈ addE n es (A : Int) (B : Int) ↔ e ∈ es ∨ e = (A, B) := by
  unfold addE
  have : [(A : Int), (B : Int)].any (offB n) = false := by simp [offB]; omega
  rw [this]
  simp only [Bool.not_false, if_true, Int.toNat_natCast]
  by_cases h : (A, B) ∈ es
  · rw [if_pos h]
    constructor
    · exact .inl
    · rintro (q | rfl)
      · exact q
      · exact h
  · rw [if_neg h]
    simp
theorem on_mono {es fs : List E} (h : ∀ e ∈ es, e ∈ fs) {t : Nat} (ht : onB es t = true) : onB fs t = true := by
  obtain ⟨x, h1, h2⟩ := onB_iff.1 ht
  exact onB_iff.2 ⟨x, h _ h1, h2.mono h⟩
theorem rch_add {es fs : List E} {A B : Nat} (hf : ∀ e, e ∈ fs ↔ e ∈ es ∨ e = (A, B)) {x y : Nat} (h : Rch fs x y) : Rch es x y ∨ (Rch es x A ∧ Rch es B y) := by
  refine h.closed (fun u => Rch es x u ∨ (Rch es x A ∧ Rch es B u)) (.inl (Rch.refl _ _)) ?_
  intro u v hu he
  rcases (hf _).1 he with q | q
  · rcases hu with hu | ⟨h1, h2⟩
    · exact .inl (hu.tail q)
    · exact .inr ⟨h1, h2.tail q⟩
  · have e1 : u = A := congrArg Prod.fst q
    have e2 : v = B := congrArg Prod.snd q
    subst e1 e2
    rcases hu with hu | ⟨h1, h2⟩
    · exact .inr ⟨hu, Rch.refl _ _⟩
    · exact .inr ⟨h1, Rch.refl _ _⟩
theorem PS.from {es : List E} {n a b : Nat} {L : List Nat} (h : PS es n a b L) : ∀ i (hi : i < L.length), Rch es a L[i]
  | 0, hi => by rw [h.head]; exact Rch.refl _ _
  | i + 1, hi => (PS.from h i (by omega)).tail (h.edges hi)
def nxt (L : List Nat) (i : Nat) : Nat := if i + 1 < L.length then i + 1 else 0
theorem nxt_lt {L : List Nat} {i : Nat} (hi : i < L.length) : nxt L i < L.length := by unfold nxt; split <;> omega
/-- What the law takes of the graphs. -/
structure ClW (es fs : List E) (n : Nat) (p was is : List Nat) : Prop where
  il : is.length ≤ n
  pl : p.length ≤ n
  wl : was.length ≤ n
  ilt : ∀ i (h : i < is.length), is[i] < n
  plt : ∀ i (h : i < p.length), p[i] < n
  wlt : ∀ i (h : i < was.length), was[i] < n
  pin : ∀ i (h : i < p.length), p[i] ∈ is
  win : ∀ i (h : i < was.length), was[i] ∈ is
  pe : ∀ i (h : i < p.length), (p[i], p[nxt p i]'(nxt_lt h)) ∈ fs
  eq : p.length = 0 → was = is
theorem clW {es : List E} {n A B : Nat} (hg : ∀ e ∈ es, e.1 < n ∧ e.2 < n) (hA : A < n) (hB : B < n) : ClW es (addE n es (A : Int) (B : Int)) n (pathG es n (B : Int) (A : Int)) (onL es n) (onL (addE n es (A : Int) (B : Int)) n) := by
  have hf := mem_add (es := es) hA hB
  generalize addE n es (A : Int) (B : Int) = fs at *
  have hs : ∀ e ∈ es, e ∈ fs := fun e he => (hf e).2 (.inl he)
  have hAB : (A, B) ∈ fs := (hf _).2 (.inr rfl)
  have lt : ∀ (gs : List E) i (h : i < (onL gs n).length), (onL gs n)[i] < n := fun gs i h => (onL_mem.1 (List.getElem_mem h)).1
  have win : ∀ i (h : i < (onL es n).length), (onL es n)[i] ∈ onL fs n := fun i h => by
    obtain ⟨h1, h2⟩ := onL_mem.1 (List.getElem_mem h)
    exact onL_mem.2 ⟨h1, on_mono hs h2⟩
  rcases path_cases hg (B : Int) (A : Int) with ⟨h, h2⟩ | ⟨h2, x, y, hx, hy, hxn, hyn, h⟩
  · rw [h]
    have hnr : ¬ Rch es B A := by
      intro hr
      have : reachB n es (B : Int) (A : Int) = true := by
        unfold reachB
        have e : [(B : Int), (A : Int)].any (offB n) = false := by simp [offB]; omega
        rw [e]
        simpa using (rB_iff _ _ _).2 hr
      rw [h2] at this
      cases this
    refine ⟨onL_len _ _, by simp, onL_len _ _, lt fs, fun i h => by simp at h, lt es, fun i h => by simp at h, win, fun i h => by simp at h, fun _ => ?_⟩
    unfold onL
    apply List.filter_congr
    intro t _
    rw [Bool.eq_iff_iff]
    refine ⟨on_mono hs, fun ht => ?_⟩
    obtain ⟨x, h3, h4⟩ := onB_iff.1 ht
    rcases (hf _).1 h3 with q | q
    · rcases rch_add hf h4 with r | ⟨r1, r2⟩
      · exact onB_iff.2 ⟨x, q, r⟩
      · exact absurd ((r2.tail q).trans r1) hnr
    · have e1 : t = A := congrArg Prod.fst q
      have e2 : x = B := congrArg Prod.snd q
      subst e1 e2
      rcases rch_add hf h4 with r | ⟨r1, r2⟩
      · exact absurd r hnr
      · exact absurd r1 hnr
  · have e1 : x = B := by omega
    have e2 : y = A := by omega
    subst e1 e2
    generalize pathG es n (x : Int) (y : Int) = p at *
    have hne := h.ne
    refine ⟨onL_len _ _, h.len hg, onL_len _ _, lt fs, fun i hi => (h.at hi).1, lt es, fun i hi => ?_, win, fun i hi => ?_, fun hz => by omega⟩
    · refine onL_mem.2 ⟨(h.at hi).1, onB_iff.2 ?_⟩
      have h0i : Rch fs x p[i] := (h.from i hi).mono hs
      by_cases hl : i + 1 < p.length
      · exact ⟨p[i + 1], hs _ (h.edges hl), (((h.at hl).2.rch.mono hs).tail hAB).trans h0i⟩
      · have : p[i] = y := by
          have hi2 : p.length - 1 = i := by omega
          have := h.last (by omega)
          simpa [hi2] using this
        refine ⟨x, by rw [this]; exact hAB, h0i⟩
    · by_cases hl : i + 1 < p.length
      · have : nxt p i = i + 1 := by unfold nxt; rw [if_pos hl]
        simp only [this]
        exact hs _ (h.edges hl)
      · have e0 : nxt p i = 0 := by unfold nxt; rw [if_neg hl]
        have : p[i] = y := by
          have hi2 : p.length - 1 = i := by omega
          have := h.last (by omega)
          simpa [hi2] using this
        simp only [e0]
        rw [this, h.head]
        exact hAB
/-- Who was seen, as far as the row was gone through. -/
def seenB (L : List Nat) (k t : Nat) : Bool := decide (t ∈ L.take k)
theorem seenB_step {L : List Nat} {k : Nat} (hk : k < L.length) (t : Nat) : seenB L (k + 1) t = (seenB L k t || decide (t = L[k])) := by
  unfold seenB
  rw [List.take_succ_eq_append_getElem hk, Bool.eq_iff_iff]
  simp only [decide_eq_true_eq, Bool.or_eq_true]
  rw [List.mem_append, List.mem_singleton]
theorem seenB_all {L : List Nat} {k t : Nat} (hk : L.length ≤ k) (ht : t ∈ L) : seenB L k t = true := by
  unfold seenB
  rw [List.take_of_length_le hk]
  exact decide_eq_true ht
end Go.Proofs.YtpbncoaonminoaaDoor
