/- What follows of what may run next: the laws' mathematics. -/
import Derived.Test.YtipkgoghodkbfaaDoorPik
namespace Go.Proofs.YtipkgoghodkbfaaDoor
open M
set_option linter.unusedVariables false
set_option linter.unusedSimpArgs false

/-- What is best of the first k: what there is of it. -/
structure BI (xs ys : List Int) (k : Nat) (P : Int) (L : List Int) : Prop where
  lo : -1 ≤ P
  len : 0 < L.length ↔ 0 ≤ P
  rng : ∀ x ∈ L, 0 ≤ x ∧ x < k
  srt : L.Pairwise (· < ·)
  mem : ∀ t (h1 : t < xs.length) (h2 : t < ys.length), t < k → ((t : Int) ∈ L ↔ xs[t] = 1 ∧ 0 ≤ ys[t] ∧ ys[t] = P)
  top : ∀ t (h1 : t < xs.length) (h2 : t < ys.length), t < k → xs[t] = 1 → 0 ≤ ys[t] → ys[t] ≤ P
theorem bestK_inv (xs ys : List Int) : ∀ k, k ≤ xs.length → k ≤ ys.length → BI xs ys k (bestK xs ys k).1 (bestK xs ys k).2 := by
  intro k
  induction k with
  | zero =>
    intro _ _
    exact ⟨Int.le_refl _, by simp [bestK], fun x hx => by simp [bestK] at hx, by simp [bestK], fun t _ _ h => by omega, fun t _ _ h => by omega⟩
  | succ k ih =>
    intro h1 h2
    have ih := ih (by omega) (by omega)
    have hx : k < xs.length := by omega
    have hy : k < ys.length := by omega
    rw [bestK_step hx hy]
    generalize bestK xs ys k = a at *
    obtain ⟨P, L⟩ := a
    simp only at ih
    obtain ⟨i1, i2, i3, i4, i5, i6⟩ := ih
    unfold stepB
    simp only
    by_cases c1 : xs[k] ≠ 1 ∨ ys[k] < 0
    · rw [if_pos c1]
      refine ⟨i1, i2, fun x hx => ⟨(i3 x hx).1, by have := (i3 x hx).2; omega⟩, i4, fun t t1 t2 ht => ?_, fun t t1 t2 ht a b => ?_⟩
      · by_cases e : t = k
        · subst e
          refine ⟨fun h => by have := (i3 _ h).2; omega, fun h => ?_⟩
          rcases c1 with c | c
          · exact absurd h.1 c
          · omega
        · exact i5 t t1 t2 (by omega)
      · by_cases e : t = k
        · subst e
          rcases c1 with c | c
          · exact absurd a c
          · omega
        · exact i6 t t1 t2 (by omega) a b
    · rw [if_neg c1]
      have c2 : xs[k] = 1 := by
        by_cases h : xs[k] = 1
        · exact h
        · exact absurd (.inl h) c1
      have c3 : 0 ≤ ys[k] := by
        by_cases h : 0 ≤ ys[k]
        · exact h
        · exact absurd (.inr (by omega)) c1
      by_cases c4 : P < ys[k]
      · rw [if_pos c4]
        refine ⟨by omega, by simp; exact c3, fun x hx => ?_, by simp, fun t t1 t2 ht => ?_, fun t t1 t2 ht a b => ?_⟩
        · simp at hx; subst hx; omega
        · simp only [List.mem_singleton]
          by_cases e : t = k
          · subst e; exact ⟨fun _ => ⟨c2, c3, rfl⟩, fun _ => rfl⟩
          · refine ⟨fun h => by omega, fun h => ?_⟩
            have := i6 t t1 t2 (by omega) h.1 h.2.1
            omega
        · by_cases e : t = k
          · subst e; exact Int.le_refl _
          · have := i6 t t1 t2 (by omega) a b
            omega
      · rw [if_neg c4]
        by_cases c5 : ys[k] = P
        · rw [if_pos c5]
          refine ⟨i1, by simp; omega, fun x hx => ?_, ?_, fun t t1 t2 ht => ?_, fun t t1 t2 ht a b => ?_⟩
          · rcases List.mem_append.1 hx with h | h
            · have := i3 x h; omega
            · simp at h; subst h; omega
          · rw [List.pairwise_append]
            refine ⟨i4, by simp, fun x hx y hy => ?_⟩
            simp at hy
            subst hy
            have := i3 x hx
            omega
          · simp only [List.mem_append, List.mem_singleton]
            by_cases e : t = k
            · subst e; exact ⟨fun _ => ⟨c2, c3, c5⟩, fun _ => .inr rfl⟩
            · rw [← i5 t t1 t2 (by omega)]
              exact ⟨fun h => h.resolve_right (by omega), .inl⟩
          · by_cases e : t = k
            · subst e; omega
            · exact i6 t t1 t2 (by omega) a b
        · rw [if_neg c5]
          refine ⟨i1, i2, fun x hx => ⟨(i3 x hx).1, by have := (i3 x hx).2; omega⟩, i4, fun t t1 t2 ht => ?_, fun t t1 t2 ht a b => ?_⟩
          · by_cases e : t = k
            · subst e
              exact ⟨fun h => by have := (i3 _ h).2; omega, fun h => absurd h.2.2 c5⟩
            · exact i5 t t1 t2 (by omega)
          · by_cases e : t = k
            · subst e; omega
            · exact i6 t t1 t2 (by omega) a b
theorem bestA_inv {xs ys : List Int} {P : Int} {L : List Int} (h : bestA xs ys = (P, L)) : BI xs ys (min xs.length ys.length) P L := by
  have := bestK_inv xs ys (min xs.length ys.length) (by omega) (by omega)
  unfold bestA at h
  rw [h] at this
  exact this

/-- All are higher, and twice as far apart. -/
def upI (d x : Int) : Int := 2 * x + d
theorem bestK_up (xs ys : List Int) (d : Int) (hd : 0 ≤ d) (hy : ∀ y ∈ ys, 0 ≤ y) : ∀ k, k ≤ xs.length → k ≤ ys.length →
    (((bestK xs ys k).1 = -1 ∧ (bestK xs ys k).2 = [] ∧ bestK xs (ys.map (upI d)) k = (-1, [])) ∨ (0 ≤ (bestK xs ys k).1 ∧ bestK xs (ys.map (upI d)) k = (upI d (bestK xs ys k).1, (bestK xs ys k).2))) := by
  intro k
  induction k with
  | zero => intro _ _; exact .inl ⟨rfl, rfl, rfl⟩
  | succ k ih =>
    intro h1 h2
    have ih := ih (by omega) (by omega)
    have hx : k < xs.length := by omega
    have hyk : k < ys.length := by omega
    have hp := hy ys[k] (List.getElem_mem hyk)
    rw [bestK_step hx hyk, bestK_step hx (by simpa using hyk)]
    rw [List.getElem_map]
    generalize bestK xs ys k = a at *
    obtain ⟨P, L⟩ := a
    simp only at ih
    unfold stepB
    simp only
    by_cases c1 : xs[k] ≠ 1
    · rw [if_pos (.inl c1), if_pos (.inl c1)]
      exact ih
    · have e1 : ¬ (xs[k] ≠ 1 ∨ ys[k] < 0) := fun h => h.elim c1 (fun q => by omega)
      have e2 : ¬ (xs[k] ≠ 1 ∨ upI d ys[k] < 0) := fun h => h.elim c1 (fun q => by unfold upI at q; omega)
      rw [if_neg e1, if_neg e2]
      rcases ih with ⟨rfl, rfl, e⟩ | ⟨h0, e⟩
      · rw [e]
        simp only
        rw [if_pos (by omega), if_pos (by unfold upI; omega)]
        exact .inr ⟨hp, rfl⟩
      · rw [e]
        simp only
        by_cases c4 : P < ys[k]
        · rw [if_pos c4, if_pos (show upI d P < upI d ys[k] by unfold upI; omega)]
          exact .inr ⟨hp, rfl⟩
        · rw [if_neg c4, if_neg (show ¬ upI d P < upI d ys[k] by unfold upI; omega)]
          by_cases c5 : ys[k] = P
          · rw [if_pos c5, if_pos (show upI d ys[k] = upI d P by rw [c5])]
            exact .inr ⟨h0, rfl⟩
          · rw [if_neg c5, if_neg (show ¬ upI d ys[k] = upI d P by unfold upI; omega)]
            exact .inr ⟨h0, rfl⟩
theorem bestA_up {xs ys : List Int} {d : Int} (hd : 0 ≤ d) (hy : ∀ y ∈ ys, 0 ≤ y) {P Q : Int} {L M : List Int} (h : bestA xs ys = (P, L)) (h2 : bestA xs (ys.map (upI d)) = (Q, M)) : L = M ∧ ((L = [] ∧ P = -1 ∧ Q = -1) ∨ (L ≠ [] ∧ 0 ≤ P ∧ Q = upI d P)) := by
  have hi := bestA_inv h
  have := bestK_up xs ys d hd hy (min xs.length ys.length) (by omega) (by omega)
  unfold bestA at h h2
  rw [List.length_map] at h2
  rw [h, h2] at this
  simp only at this
  rcases this with ⟨rfl, rfl, e⟩ | ⟨h0, e⟩
  · simp only [Prod.mk.injEq] at e
    obtain ⟨rfl, rfl⟩ := e
    exact ⟨rfl, .inl ⟨rfl, rfl, rfl⟩⟩
  · simp only [Prod.mk.injEq] at e
    obtain ⟨rfl, rfl⟩ := e
    have := hi.len.2 h0
    exact ⟨rfl, .inr ⟨fun e => by rw [e] at this; simp at this, h0, rfl⟩⟩

/-- What is kept of the first, and the next one. -/
theorem filter_at (p : Int → Bool) (xs : List Int) (i : Nat) (h : i < xs.length) (hp : p xs[i] = true) : ∃ hk : ((xs.take i).filter p).length < (xs.filter p).length, (xs.filter p)[((xs.take i).filter p).length] = xs[i] := by
  have e : xs.filter p = (xs.take i).filter p ++ xs[i] :: (xs.drop (i + 1)).filter p := by
    have e1 : xs = xs.take i ++ xs[i] :: xs.drop (i + 1) := by rw [← List.drop_eq_getElem_cons h, List.take_append_drop]
    have e2 : (xs.take i ++ xs[i] :: xs.drop (i + 1)).filter p = (xs.take i).filter p ++ xs[i] :: (xs.drop (i + 1)).filter p := by
      rw [List.filter_append, List.filter_cons, if_pos hp]
    rw [← e1] at e2
    exact e2
  have hk : ((xs.take i).filter p).length < (xs.filter p).length := by rw [e]; simp
  refine ⟨hk, ?_⟩
  simp only [e]
  rw [List.getElem_append_right (Nat.le_refl _)]
  simp
theorem filter_le (p q : Int → Bool) (h : ∀ x, p x = true → q x = true) : ∀ xs : List Int, (xs.filter p).length ≤ (xs.filter q).length
  | [] => by simp
  | x :: r => by
    have ih := filter_le p q h r
    rw [List.filter_cons, List.filter_cons]
    cases hp : p x with
    | true => rw [h x hp]; simp; exact ih
    | false =>
      cases q x with
      | true => simp; omega
      | false => simpa using ih
theorem fits_more {A : List (Int × Int)} {a b : Int} (h : a ≤ b) (x : Int) (hx : fitB A a x = true) : fitB A b x = true := by
  unfold fitB at *
  rw [Bool.and_eq_true, decide_eq_true_eq] at *
  exact ⟨hx.1, by omega⟩

/-- The wants of the first k are the beginning of all. -/
theorem wantK_pre (N : Nat) (es : List E) (xs : List Int) (A : List (Int × Int)) (ids roots : List Int) (i : Nat) : ∀ j, i ≤ j → ∃ U O, wantK N es xs A ids roots j = ((wantK N es xs A ids roots i).1 ++ U, (wantK N es xs A ids roots i).2 ++ O) := by
  intro j
  induction j with
  | zero =>
    intro h
    obtain rfl : i = 0 := by omega
    exact ⟨[], [], by simp⟩
  | succ j ih =>
    intro h
    by_cases e : i = j + 1
    · subst e
      exact ⟨[], [], by simp⟩
    · obtain ⟨U, O, hU⟩ := ih (by omega)
      show ∃ U O, (if fstK N es A.length xs (roots.getD j 0) xs.length < 0 then _ else _) = _
      split
      · exact ⟨U, O, hU⟩
      · rw [hU]
        exact ⟨U ++ _, O ++ _, by simp [List.append_assoc]; exact ⟨rfl, rfl⟩⟩
theorem wantK_at (N : Nat) (es : List E) (xs : List Int) (A : List (Int × Int)) (ids roots : List Int) (i j : Nat) (hij : i < j) (h1 : i < ids.length) (h2 : i < roots.length) (f : Int) (hf : fstK N es A.length xs roots[i] xs.length = f) (h0 : ¬ f < 0) {Ui Uj : List (Int × Int)} {Oi Oj : List Int} (hi : wantK N es xs A ids roots i = (Ui, Oi)) (hj : wantK N es xs A ids roots j = (Uj, Oj)) :
    ∃ hu : Ui.length < Uj.length, ∃ ho : Ui.length < Oj.length, Uj[Ui.length] = (ids[i], (A.getD f.toNat (0, 0)).2) ∧ Oj[Ui.length] = f := by
  have hs := wantK_step N es xs A ids roots i h1 h2 f hf
  rw [if_neg h0, hi] at hs
  obtain ⟨U, O, hp⟩ := wantK_pre N es xs A ids roots (i + 1) j (by omega)
  rw [hj, hs] at hp
  simp only [Prod.mk.injEq] at hp
  obtain ⟨e1, e2⟩ := hp
  have hl := (wantK_len N es xs A ids roots i).1
  rw [hi] at hl
  simp only at hl
  refine ⟨by rw [e1]; simp, by rw [e2, hl]; simp, ?_, ?_⟩
  · simp only [e1]
    rw [List.getElem_append_left (by simp), List.getElem_append_right (Nat.le_refl _)]
    simp
  · simp only [e2]
    rw [List.getElem_append_left (by simp; omega), List.getElem_append_right (by omega)]
    simp
end Go.Proofs.YtipkgoghodkbfaaDoor
