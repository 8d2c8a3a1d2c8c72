/- The document's own row and what the timer has. -/
import Derived.Test.YtlpbjafdmhcmgaaRfC
namespace Go.Proofs.Ytlpbjafdmhcmgaa
open Go.RowKit
open M
set_option linter.unusedVariables false
set_option linter.unusedSimpArgs false

theorem ltI_irr {p : It} : ¬ ltI p p := by unfold ltI; omega
theorem ltI_tr {p q r : It} (h : ltI p q) (k : ltI q r) : ltI p r := by unfold ltI at *; omega
theorem ltI_tot {p q : It} (h : ¬ ltI p q) (hne : p.1 ≠ q.1) : ltI q p := by unfold ltI at *; omega

/-- The row says what the timer has, in order. -/
structure RS (N : Nat) (S : Nat → Option Int) (L : List It) : Prop where
  of : ∀ p ∈ L, ∃ x : Nat, p.1 = x ∧ x < N ∧ S x = some p.2
  into : ∀ x y, x < N → S x = some y → ((x : Int), y) ∈ L
  ord : L.Pairwise ltI
def idsL (L : List It) : List Nat := L.map fun p => p.1.toNat
section
variable {N : Nat} {S S' : Nat → Option Int} {L : List It}
theorem RS.start (N : Nat) : RS N (fun _ => none) [] := ⟨fun p hp => by simp at hp, fun x y _ h => by simp at h, List.Pairwise.nil⟩
theorem RS.congr (h : RS N S L) (hs : ∀ x, x < N → S' x = S x) : RS N S' L := ⟨fun p hp => by
  obtain ⟨x, h1, h2, h3⟩ := h.of p hp
  exact ⟨x, h1, h2, by rw [hs x h2]; exact h3⟩, fun x y hx hy => h.into x y hx (by rw [← hs x hx]; exact hy), h.ord⟩
theorem RS.uniq (h : RS N S L) {p q : It} (hp : p ∈ L) (hq : q ∈ L) (e : p.1 = q.1) : p = q := by
  obtain ⟨x, h1, _, h3⟩ := h.of p hp
  obtain ⟨z, k1, _, k3⟩ := h.of q hq
  have : x = z := by omega
  subst this
  rw [h3] at k3
  exact Prod.ext e (by injection k3)
theorem RS.ids (h : RS N S L) : (idsL L).Nodup ∧ ∀ x, x ∈ idsL L ↔ x < N ∧ (S x).isSome = true := by
  refine ⟨?_, fun x => ?_⟩
  · unfold idsL
    unfold List.Nodup
    rw [List.pairwise_map]
    refine h.ord.imp_of_mem (fun {p q} hp hq hl e => ?_)
    have : p = q := h.uniq hp hq (by
      obtain ⟨x, h1, _⟩ := h.of p hp
      obtain ⟨z, k1, _⟩ := h.of q hq
      omega)
    subst this
    exact ltI_irr hl
  · unfold idsL
    rw [List.mem_map]
    constructor
    · rintro ⟨p, hp, rfl⟩
      obtain ⟨x, h1, h2, h3⟩ := h.of p hp
      rw [h1, Int.toNat_natCast, h3]
      exact ⟨h2, rfl⟩
    · rintro ⟨h1, h2⟩
      cases hs : S x with
      | none => rw [hs] at h2; cases h2
      | some y => exact ⟨_, h.into x y h1 hs, by simp⟩
theorem RS.len (h : RS N S L) : L.length = cntS N S := by
  have := len_cnt (fun x => (S x).isSome) N (idsL L) h.ids.1 h.ids.2
  unfold idsL at this
  rw [List.length_map] at this
  exact this
theorem RS.noid (h : RS N S L) {id : Int} (hb : hasB N S id = false) : ∀ p ∈ L, p.1 ≠ id := by
  intro p hp e
  obtain ⟨x, h1, h2, h3⟩ := h.of p hp
  rw [e] at h1
  subst h1
  simp [hasB, isId_nat N x h2, h3] at hb
theorem RS.at_ (h : RS N S L) (id : Int) : AtP L id (keyV N S id) (hasB N S id) := by
  refine ⟨fun hn => ?_, fun p hp e => ?_⟩
  · cases hb : hasB N S id with
    | false => exact ⟨rfl, keyV_none hb⟩
    | true =>
      obtain ⟨x, y, rfl, hx, hs, _⟩ := hasB_true hb
      exact absurd rfl (hn _ (h.into x y hx hs))
  · obtain ⟨x, h1, h2, h3⟩ := h.of p hp
    subst e
    rw [h1]
    simp [hasB, keyV, isId_nat N x h2, h3]
theorem RS.stop (h : RS N S L) (id : Int) : RS N (remS N S id) (rmL L id) ∧ hasB N S id = decide ((rmL L id).length < L.length) := by
  have hr : RS N (remS N S id) (rmL L id) := by
    refine ⟨fun p hp => ?_, fun x y hx hy => ?_, h.ord.filter _⟩
    · unfold rmL at hp
      obtain ⟨h1, h2⟩ := List.mem_filter.1 hp
      obtain ⟨x, k1, k2, k3⟩ := h.of p h1
      refine ⟨x, k1, k2, ?_⟩
      unfold remS
      split
      · next hb =>
        obtain ⟨z, u, e, _⟩ := hasB_true hb
        rw [upS_ne _ _ (fun q => by simp at h2; exact h2 (by rw [k1, e, q, e]; simp))]
        exact k3
      · exact k3
    · unfold rmL
      have hS : S x = some y ∧ (x : Int) ≠ id := by
        unfold remS at hy
        split at hy
        · next hb =>
          obtain ⟨z, u, e, _⟩ := hasB_true hb
          by_cases q : x = id.toNat
          · rw [q, upS_is] at hy; cases hy
          · rw [upS_ne _ _ q] at hy; exact ⟨hy, by omega⟩
        · next hb =>
          refine ⟨hy, fun q => hb ?_⟩
          subst q
          simp [hasB, isId_nat N x hx, hy]
      exact List.mem_filter.2 ⟨h.into x y hx hS.1, by simp; exact hS.2⟩
  refine ⟨hr, ?_⟩
  cases hb : hasB N S id with
  | false =>
    have : rmL L id = L := List.filter_eq_self.2 (fun p hp => by simp; exact h.noid hb p hp)
    rw [this]
    simp
  | true =>
    have h1 := hr.len
    have h2 := h.len
    obtain ⟨x, y, rfl, hx, hs, _⟩ := hasB_true hb
    have := cnt_set (p := fun z => (remS N S x z).isSome) (q := fun z => (S z).isSome) hx (fun z hz e => by simp [remS, hb, upS_ne _ _ e]) (by simp [remS, hb, upS_is]) (by simp [hs])
    unfold cntS at h1 h2
    symm
    exact decide_eq_true (by omega)
theorem RS.set_ (h : RS N S L) {id : Int} (hid : isId N id = true) (y : Int) : RS N (setS N S id y) (insL (rmL L id) (id, y)) := by
  obtain ⟨hr, _⟩ := h.stop id
  have hno : ∀ p ∈ rmL L id, p.1 ≠ id := fun p hp e => by
    have := (List.mem_filter.1 hp).2
    simp [e] at this
  obtain ⟨x, rfl, hx⟩ := isId_true hid
  have he : ∀ z, z ≠ x → setS N S x y z = remS N S x z := fun z hz => by
    unfold setS remS
    rw [if_pos hid, Int.toNat_natCast, upS_ne _ _ hz]
    split
    · rw [upS_ne _ _ hz]
    · rfl
  have hx' : setS N S x y x = some y := by unfold setS; rw [if_pos hid, Int.toNat_natCast, upS_is]
  generalize rmL L x = X at *
  have hmem : ∀ p, p ∈ insL X ((x : Int), y) ↔ p ∈ X ∨ p = ((x : Int), y) := fun p => by
    unfold insL
    have : p ∈ X ↔ p ∈ X.take (posL X ((x : Int), y)) ∨ p ∈ X.drop (posL X ((x : Int), y)) := by
      rw [← List.mem_append, List.take_append_drop]
    rw [List.mem_append, List.mem_append, List.mem_singleton, this]
    constructor
    · rintro ((q | q) | q)
      · exact .inl (.inl q)
      · exact .inr q
      · exact .inl (.inr q)
    · rintro ((q | q) | q)
      · exact .inl (.inl q)
      · exact .inr q
      · exact .inl (.inr q)
  refine ⟨fun p hp => ?_, fun z u hz hu => ?_, ?_⟩
  · rcases (hmem p).1 hp with q | rfl
    · obtain ⟨z, h1, h2, h3⟩ := hr.of p q
      exact ⟨z, h1, h2, by rw [he z (fun e => hno p q (by rw [h1, e]))]; exact h3⟩
    · exact ⟨x, rfl, hx, hx'⟩
  · by_cases e : z = x
    · subst e; rw [hx'] at hu; cases hu; exact (hmem _).2 (.inr rfl)
    · rw [he z e] at hu; exact (hmem _).2 (.inl (hr.into z u hz hu))
  · unfold insL
    have hlt : ∀ p ∈ X.take (posL X ((x : Int), y)), ltI p ((x : Int), y) := fun p hp => by
      obtain ⟨i, hi, e⟩ := List.getElem_of_mem hp
      rw [List.length_take] at hi
      refine posL_lt X _ i p (by omega) ?_
      rw [← e, List.getElem_take]
      exact List.getElem?_eq_getElem (by omega)
    have hge : ∀ p ∈ X.drop (posL X ((x : Int), y)), ltI ((x : Int), y) p := by
      have hd := hr.ord.sublist (List.drop_sublist (posL X ((x : Int), y)) X)
      have h0 : ∀ q, X[posL X ((x : Int), y)]? = some q → ltI ((x : Int), y) q := fun q hq => ltI_tot (posL_at X _ q hq) (hno q (List.mem_of_getElem? hq))
      cases hD : X.drop (posL X ((x : Int), y)) with
      | nil => intro p hp; simp at hp
      | cons q T =>
        have hq : X[posL X ((x : Int), y)]? = some q := by
          have : (X.drop (posL X ((x : Int), y)))[0]? = some q := by rw [hD]; rfl
          rw [List.getElem?_drop] at this
          simpa using this
        rw [hD, List.pairwise_cons] at hd
        intro p hp
        rcases List.mem_cons.1 hp with e | e
        · rw [e]; exact h0 q hq
        · exact ltI_tr (h0 q hq) (hd.1 p e)
    rw [List.pairwise_append, List.pairwise_append]
    refine ⟨⟨hr.ord.sublist (List.take_sublist _ _), by simp, fun a ha b hb => by rw [List.mem_singleton.1 hb]; exact hlt a ha⟩, hr.ord.sublist (List.drop_sublist _ _), fun a ha b hb => ?_⟩
    rcases List.mem_append.1 ha with q | q
    · exact ltI_tr (hlt a q) (hge b hb)
    · rw [List.mem_singleton.1 q]; exact hge b hb
theorem RS.due (h : RS N S L) (now : Int) : ∃ A D, L = A ++ D ∧ (∀ p ∈ A, p.2 ≤ now) ∧ (∀ p, D[0]? = some p → now < p.2) ∧ RS N (dueS S now) D ∧ Due N S now (idsL A) ∧ A.map Prod.fst = (idsL A).map fun (x : Nat) => (x : Int) := by
  have key : ∀ (L : List It), L.Pairwise ltI → ∃ A D, L = A ++ D ∧ (∀ p ∈ A, p.2 ≤ now) ∧ (∀ p ∈ D, now < p.2) := by
    intro L
    induction L with
    | nil => exact fun _ => ⟨[], [], rfl, fun p hp => by simp at hp, fun p hp => by simp at hp⟩
    | cons p T ih =>
      intro ho
      rw [List.pairwise_cons] at ho
      by_cases hp : p.2 ≤ now
      · obtain ⟨A, D, e, h1, h2⟩ := ih ho.2
        refine ⟨p :: A, D, by rw [e]; rfl, fun q hq => ?_, h2⟩
        rcases List.mem_cons.1 hq with e | e
        · rw [e]; exact hp
        · exact h1 q e
      · refine ⟨[], p :: T, rfl, fun q hq => by simp at hq, fun q hq => ?_⟩
        rcases List.mem_cons.1 hq with e | e
        · rw [e]; omega
        · have := ho.1 q e
          unfold ltI at this
          omega
  obtain ⟨A, D, e, hA, hD⟩ := key L h.ord
  subst e
  have hof : ∀ p ∈ A, ∃ x : Nat, p.1 = x ∧ x < N ∧ S x = some p.2 := fun p hp => h.of p (List.mem_append_left _ hp)
  refine ⟨A, D, rfl, hA, fun p hp => hD p (List.mem_of_getElem? hp), ⟨fun p hp => ?_, fun x y hx hy => ?_, (List.pairwise_append.1 h.ord).2.1⟩, ⟨fun x => ?_, ?_⟩, ?_⟩
  · obtain ⟨x, h1, h2, h3⟩ := h.of p (List.mem_append_right _ hp)
    exact ⟨x, h1, h2, dueS_some.2 ⟨h3, hD p hp⟩⟩
  · obtain ⟨h1, h2⟩ := dueS_some.1 hy
    rcases List.mem_append.1 (h.into x y hx h1) with q | q
    · have := hA _ q; simp at this; omega
    · exact q
  · unfold idsL
    rw [List.mem_map]
    constructor
    · rintro ⟨p, hp, rfl⟩
      obtain ⟨z, h1, h2, h3⟩ := hof p hp
      rw [h1, Int.toNat_natCast]
      exact ⟨h2, _, h3, hA p hp⟩
    · rintro ⟨h1, y, h2, h3⟩
      rcases List.mem_append.1 (h.into x y h1 h2) with q | q
      · exact ⟨_, q, by simp⟩
      · have := hD _ q; simp at this; omega
  · unfold idsL
    rw [List.pairwise_map]
    refine (List.pairwise_append.1 h.ord).1.imp_of_mem (fun {p q} hp hq hl => ?_)
    obtain ⟨x, h1, h2, h3⟩ := hof p hp
    obtain ⟨z, k1, k2, k3⟩ := hof q hq
    unfold ltP
    unfold ltI at hl
    rw [h1, k1] at hl ⊢
    rw [Int.toNat_natCast, Int.toNat_natCast, kS_of h3, kS_of k3]
    omega
  · unfold idsL
    rw [List.map_map]
    refine List.map_congr_left (fun p hp => ?_)
    obtain ⟨x, h1, _⟩ := hof p hp
    show p.1 = ((p.1.toNat : Nat) : Int)
    omega
theorem RS.fst (h : RS N S L) {p : It} {T : List It} (e : L = p :: T) : ∃ x : Nat, p.1 = x ∧ Fst N S x p.2 := by
  subst e
  obtain ⟨x, h1, h2, h3⟩ := h.of p (List.mem_cons_self ..)
  refine ⟨x, h1, h2, h3, fun z u hz hu => ?_⟩
  rcases List.mem_cons.1 (h.into z u hz hu) with q | q
  · rw [← q] at h1 h3 ⊢
    have h1' : (z : Int) = x := h1
    exact .inr ⟨rfl, by omega⟩
  · have := (List.pairwise_cons.1 h.ord).1 _ q
    unfold ltI at this
    simp only at this
    omega
theorem RS.emp (h : RS N S L) (e : L = []) : Emp N S := fun x hx => by
  cases hs : S x with
  | none => rfl
  | some y => have := h.into x y hx hs; rw [e] at this; simp at this
end
end Go.Proofs.Ytlpbjafdmhcmgaa
