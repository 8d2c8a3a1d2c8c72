/- Heaps as rows of ids: the order of their keys, what a step up or down keeps. -/
import Derived.Below
namespace Go.Proofs.Ytlpbjafdmhcmgaa
set_option linter.unusedVariables false
set_option linter.unusedSimpArgs false
namespace M

/-- By key, of one key by id. -/
def ltP (K : Nat → Int) (a b : Nat) : Prop := K a < K b ∨ (K a = K b ∧ a < b)
def leP (K : Nat → Int) (a b : Nat) : Prop := K a < K b ∨ (K a = K b ∧ a ≤ b)
theorem le_of_not_lt {K : Nat → Int} {a b : Nat} (h : ¬ ltP K a b) : leP K b a := by unfold ltP at h; unfold leP; omega
theorem le_of_lt {K : Nat → Int} {a b : Nat} (h : ltP K a b) : leP K a b := by unfold ltP at h; unfold leP; omega
theorem le_trans {K : Nat → Int} {a b c : Nat} (h : leP K a b) (k : leP K b c) : leP K a c := by unfold leP at *; omega
theorem le_refl (K : Nat → Int) (a : Nat) : leP K a a := by unfold leP; omega

def par (k : Nat) : Nat := (k - 1) / 2

/-- A row with two places turned. -/
def sw (f : Nat → Nat) (i j : Nat) (k : Nat) : Nat := if k = i then f j else if k = j then f i else f k
theorem sw_l (f : Nat → Nat) (i j : Nat) : sw f i j i = f j := by simp [sw]
theorem sw_r (f : Nat → Nat) (i j : Nat) : sw f i j j = f i := by unfold sw; split <;> simp_all
theorem sw_o (f : Nat → Nat) {i j k : Nat} (h1 : k ≠ i) (h2 : k ≠ j) : sw f i j k = f k := by simp [sw, h1, h2]

/-- Who is among the first m. -/
def In (f : Nat → Nat) (m x : Nat) : Prop := ∃ i, i < m ∧ f i = x
theorem in_sw (f : Nat → Nat) {i j m : Nat} (hi : i < m) (hj : j < m) (x : Nat) : In (sw f i j) m x ↔ In f m x := by
  constructor
  · rintro ⟨k, hk, rfl⟩
    by_cases h1 : k = i
    · subst h1; exact ⟨j, hj, (sw_l f k j).symm⟩
    · by_cases h2 : k = j
      · subst h2; exact ⟨i, hi, (sw_r f i k).symm⟩
      · exact ⟨k, hk, (sw_o f h1 h2).symm⟩
  · rintro ⟨k, hk, rfl⟩
    by_cases h1 : k = i
    · subst h1; exact ⟨j, hj, sw_r f k j⟩
    · by_cases h2 : k = j
      · subst h2; exact ⟨i, hi, sw_l f i k⟩
      · exact ⟨k, hk, sw_o f h1 h2⟩

/-- In order all through. -/
def Ord (K : Nat → Int) (f : Nat → Nat) (m : Nat) : Prop := ∀ k, 0 < k → k < m → leP K (f (par k)) (f k)
/-- In order but for the one at j, which may be less than those above. -/
structure Up (K : Nat → Int) (f : Nat → Nat) (m j : Nat) : Prop where
  o : ∀ k, 0 < k → k < m → k ≠ j → leP K (f (par k)) (f k)
  g : ∀ k, 0 < k → k < m → par k = j → 0 < j → leP K (f (par j)) (f k)
/-- In order but for the one at i, which may be more than those below, and, where it has not moved (i = i0), less than those above. -/
structure Dn (K : Nat → Int) (f : Nat → Nat) (m i i0 : Nat) : Prop where
  o : ∀ k, 0 < k → k < m → par k ≠ i → (k ≠ i ∨ i ≠ i0) → leP K (f (par k)) (f k)
  g : ∀ k, 0 < k → k < m → par k = i → 0 < i → leP K (f (par i)) (f k)

theorem par_lt {k : Nat} (h : 0 < k) : par k < k := by unfold par; omega

theorem up_step {K : Nat → Int} {f : Nat → Nat} {m j : Nat} (h : Up K f m j) (h0 : 0 < j) (hj : j < m) (hl : ltP K (f j) (f (par j))) : Up K (sw f (par j) j) m (par j) := by
  have hp := par_lt h0
  constructor
  · intro k k0 km hk
    have hpk := par_lt k0
    by_cases e1 : k = j
    · subst e1
      rw [sw_l, sw_r]
      exact le_of_lt hl
    · rw [sw_o f hk e1]
      by_cases e2 : par k = j
      · rw [e2, sw_r]; exact h.g k k0 km e2 h0
      · by_cases e3 : par k = par j
        · rw [e3, sw_l]; exact le_trans (le_of_lt hl) (e3 ▸ h.o k k0 km e1)
        · rw [sw_o f e3 e2]; exact h.o k k0 km e1
  · intro k k0 km hk i0
    have hpp := par_lt i0
    rw [sw_o f (by omega) (by omega)]
    have hi := h.o (par j) i0 (by omega) (by omega)
    by_cases e1 : k = j
    · subst e1; rw [sw_r]; exact hi
    · rw [sw_o f (by have := par_lt k0; omega) e1]
      exact le_trans hi (hk ▸ h.o k k0 km e1)
theorem up_end {K : Nat → Int} {f : Nat → Nat} {m j : Nat} (h : Up K f m j) (he : j = 0 ∨ ¬ ltP K (f j) (f (par j))) : Ord K f m := by
  intro k k0 km
  by_cases e : k = j
  · subst e
    rcases he with he | he
    · omega
    · exact le_of_not_lt he
  · exact h.o k k0 km e

theorem dn_step {K : Nat → Int} {f : Nat → Nat} {m i i0 c : Nat} (h : Dn K f m i i0) (hc : par c = i) (h0 : 0 < c) (hcm : c < m) (hi0 : i0 ≤ i) (hl : ltP K (f c) (f i)) (hm : ∀ k, 0 < k → k < m → par k = i → leP K (f c) (f k)) : Dn K (sw f i c) m c i0 := by
  have hp := par_lt h0
  constructor
  · intro k k0 km hk hk2
    have hpk := par_lt k0
    by_cases e1 : k = i
    · subst e1
      rw [sw_l, sw_o f (by omega) (by omega)]
      exact h.g c h0 hcm hc k0
    · by_cases e2 : k = c
      · subst e2
        rw [hc, sw_l, sw_r]
        exact le_of_lt hl
      · rw [sw_o f e1 e2]
        by_cases e3 : par k = i
        · rw [e3, sw_l]; exact hm k k0 km e3
        · rw [sw_o f e3 hk]; exact h.o k k0 km e3 (.inl e1)
  · intro k k0 km hk _
    have hpk := par_lt k0
    rw [hc, sw_l, sw_o f (by omega) (by omega)]
    exact hk ▸ h.o k k0 km (by omega) (.inl (by omega))
theorem dn_end {K : Nat → Int} {f : Nat → Nat} {m i i0 : Nat} (h : Dn K f m i i0) (hm : ∀ k, 0 < k → k < m → par k = i → leP K (f i) (f k)) : (i ≠ i0 → Ord K f m) ∧ (i = i0 → Up K f m i0) := by
  constructor
  · intro hne k k0 km
    by_cases e : par k = i
    · rw [e]; exact hm k k0 km e
    · exact h.o k k0 km e (.inr hne)
  · rintro rfl
    constructor
    · intro k k0 km hk
      by_cases e : par k = i
      · rw [e]; exact hm k k0 km e
      · exact h.o k k0 km e (.inl hk)
    · exact h.g

theorem ord_first {K : Nat → Int} {f : Nat → Nat} {m : Nat} (h : Ord K f m) : ∀ k, k < m → leP K (f 0) (f k) := by
  intro k
  induction k using Nat.strongRecOn with
  | _ k ih =>
    intro hk
    rcases Nat.eq_zero_or_pos k with e | e
    · subst e; exact le_refl K _
    · have := par_lt e
      exact le_trans (ih (par k) this (by omega)) (h k e hk)
theorem ord_up {K : Nat → Int} {f : Nat → Nat} {m j : Nat} (h : Ord K f m) (hj : j = m) : Up K f (m + 1) j := by
  subst hj
  constructor
  · intro k k0 km hk; exact h k k0 (by omega)
  · intro k k0 km hk _; have := par_lt k0; omega
theorem Ord.congr {K K' : Nat → Int} {f f' : Nat → Nat} {m : Nat} (h : Ord K f m) (hf : ∀ k, k < m → f' k = f k) (hK : ∀ k, k < m → K' (f k) = K (f k)) : Ord K' f' m := by
  intro k k0 km
  have hp := par_lt k0
  have := h k k0 km
  unfold leP at *
  rw [hf _ (by omega), hf k km, hK _ (by omega), hK k km]
  exact this
/-- The key at place j is less than it was. -/
theorem ord_low {K K' : Nat → Int} {f : Nat → Nat} {m j : Nat} (h : Ord K f m) (hj : j < m) (hi : ∀ a b, a < m → b < m → f a = f b → a = b) (hK : ∀ x, x ≠ f j → K' x = K x) (hl : K' (f j) ≤ K (f j)) : Dn K' f m j j := by
  have e : ∀ k, k < m → k ≠ j → K' (f k) = K (f k) := fun k hk hne => hK _ (fun q => hne (hi k j hk hj q))
  constructor
  · intro k k0 km hk hk2
    have hp := par_lt k0
    have := h k k0 km
    unfold leP at *
    rw [e k km (by omega), e _ (by omega) hk]; exact this
  · intro k k0 km hk j0
    have hp := par_lt k0
    have hp2 := par_lt j0
    have h1 := h k k0 km
    rw [hk] at h1
    have h2 := le_trans (h j j0 hj) h1
    unfold leP at *
    rw [e k km (by omega), e _ (by omega) (by omega)]; exact h2
/-- The last one, laid at place i in the place of the one there, which goes last. -/
theorem ord_cut {K : Nat → Int} {f : Nat → Nat} {m i : Nat} (h : Ord K f (m + 1)) (hi : i < m) : Dn K (sw f i m) m i i := by
  constructor
  · intro k k0 km hk hk2
    have hp := par_lt k0
    rw [sw_o f hk (by omega), sw_o f (by omega) (by omega)]
    exact h k k0 (by omega)
  · intro k k0 km hk i0
    have hp := par_lt k0
    have hp2 := par_lt i0
    rw [sw_o f (by omega) (by omega), sw_o f (by omega) (by omega)]
    have h1 := h k k0 (by omega)
    rw [hk] at h1
    exact le_trans (h i i0 (by omega)) h1

/-- Where each stands. -/
structure Inv (n m : Nat) (f P : Nat → Nat) : Prop where
  at1 : ∀ i, i < m → f i < n ∧ P (f i) = i + 1
  of1 : ∀ x, x < n → P x ≠ 0 → ∃ i, i < m ∧ f i = x
theorem Inv.inj {n m : Nat} {f P : Nat → Nat} (h : Inv n m f P) : ∀ a b, a < m → b < m → f a = f b → a = b := by
  intro a b ha hb e
  have h1 := (h.at1 a ha).2
  have h2 := (h.at1 b hb).2
  rw [e] at h1
  omega
theorem Inv.has {n m : Nat} {f P : Nat → Nat} (h : Inv n m f P) {x : Nat} (hx : x < n) : P x ≠ 0 ↔ In f m x := by
  constructor
  · exact h.of1 x hx
  · rintro ⟨i, hi, rfl⟩; rw [(h.at1 i hi).2]; omega
/-- The places behind a turn. -/
def swP (f P : Nat → Nat) (i j : Nat) (x : Nat) : Nat := if x = f i then j + 1 else if x = f j then i + 1 else P x
theorem Inv.sw {n m : Nat} {f P : Nat → Nat} (h : Inv n m f P) {i j : Nat} (hi : i < m) (hj : j < m) : Inv n m (sw f i j) (swP f P i j) := by
  constructor
  · intro k hk
    by_cases e1 : k = i
    · subst e1
      rw [sw_l]
      refine ⟨(h.at1 j hj).1, ?_⟩
      unfold swP
      by_cases e : f j = f k
      · rw [if_pos e]; have := h.inj j k hj hk e; omega
      · rw [if_neg e, if_pos rfl]
    · by_cases e2 : k = j
      · subst e2
        rw [sw_r]
        exact ⟨(h.at1 i hi).1, by simp [swP]⟩
      · rw [sw_o f e1 e2]
        refine ⟨(h.at1 k hk).1, ?_⟩
        unfold swP
        rw [if_neg (fun e => e1 (h.inj k i hk hi e)), if_neg (fun e => e2 (h.inj k j hk hj e))]
        exact (h.at1 k hk).2
  · intro x hx hp
    have : P x ≠ 0 := by
      unfold swP at hp
      split at hp
      · next e => rw [e, (h.at1 i hi).2]; omega
      · split at hp
        · next e => rw [e, (h.at1 j hj).2]; omega
        · exact hp
    exact (in_sw f hi hj x).2 (h.of1 x hx this)
/-- One more behind all. -/
def up1 (f : Nat → Nat) (m x : Nat) (k : Nat) : Nat := if k = m then x else f k
theorem Inv.push {n m : Nat} {f P : Nat → Nat} (h : Inv n m f P) {x : Nat} (hx : x < n) (hp : P x = 0) : Inv n (m + 1) (up1 f m x) (up1 P x (m + 1)) := by
  constructor
  · intro k hk
    by_cases e : k = m
    · subst e; simp [up1, hx]
    · obtain ⟨h1, h2⟩ := h.at1 k (by omega)
      have e2 : f k ≠ x := fun q => by rw [q, hp] at h2; omega
      simp [up1, e, e2, h1, h2]
  · intro y hy hne
    by_cases e : y = x
    · subst e; exact ⟨m, by omega, by simp [up1]⟩
    · obtain ⟨i, hi, he⟩ := h.of1 y hy (by simpa [up1, e] using hne)
      exact ⟨i, by omega, by rw [← he]; simp [up1, show ¬ i = m by omega]⟩
theorem Inv.pop {n m : Nat} {f P : Nat → Nat} (h : Inv n (m + 1) f P) : Inv n m f (up1 P (f m) 0) := by
  constructor
  · intro k hk
    obtain ⟨h1, h2⟩ := h.at1 k (by omega)
    have e2 : f k ≠ f m := fun q => by have := h.inj k m (by omega) (by omega) q; omega
    simp [up1, e2, h1, h2]
  · intro y hy hne
    have e : y ≠ f m := fun q => by subst q; simp [up1] at hne
    obtain ⟨i, hi, he⟩ := h.of1 y hy (by simpa [up1, e] using hne)
    refine ⟨i, ?_, he⟩
    rcases Nat.lt_or_ge i m with q | q
    · exact q
    · have : i = m := by omega
      subst this
      exact absurd he.symm e

/-- How many of the first n are so. -/
def cnt (p : Nat → Bool) : Nat → Nat
  | 0 => 0
  | n + 1 => cnt p n + if p n then 1 else 0
theorem cnt_le (p : Nat → Bool) (n : Nat) : cnt p n ≤ n := by
  induction n with
  | zero => exact Nat.le_refl _
  | succ n ih => unfold cnt; split <;> omega
theorem cnt_congr {p q : Nat → Bool} {n : Nat} (h : ∀ x, x < n → p x = q x) : cnt p n = cnt q n := by
  induction n with
  | zero => rfl
  | succ n ih => unfold cnt; rw [ih (fun x hx => h x (by omega)), h n (by omega)]
theorem cnt_set {p q : Nat → Bool} {n x : Nat} (hx : x < n) (h : ∀ y, y < n → y ≠ x → q y = p y) (h0 : p x = false) (h1 : q x = true) : cnt q n = cnt p n + 1 := by
  induction n with
  | zero => omega
  | succ n ih =>
    unfold cnt
    by_cases e : x = n
    · subst e
      rw [cnt_congr (p := q) (q := p) (fun y hy => h y (by omega) (by omega)), h0, h1]; simp
    · rw [ih (by omega) (fun y hy => h y (by omega)), h n (by omega) (by omega)]; omega
theorem cnt_zero {p : Nat → Bool} {n : Nat} : cnt p n = 0 ↔ ∀ x, x < n → p x = false := by
  induction n with
  | zero => simp [cnt]
  | succ n ih =>
    unfold cnt
    constructor
    · intro h x hx
      by_cases e : x = n
      · subst e; cases hp : p x with
        | false => rfl
        | true => rw [hp] at h; simp at h
      · exact ih.1 (by omega) x (by omega)
    · intro h
      rw [ih.2 (fun x hx => h x (by omega)), h n (by omega)]; rfl
end M
end Go.Proofs.Ytlpbjafdmhcmgaa
