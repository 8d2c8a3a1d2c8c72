/- What each got, out of how often it gained. -/
import Derived.Test.YtlhkahincnchjaaMat
namespace Go.Proofs.Ytlhkahincnchjaa.M
set_option linter.unusedVariables false
set_option linter.unusedSimpArgs false

/-- In this lap its turn has been. -/
def lap (k j : Nat) : Int := if 1 ≤ j ∧ j ≤ k then 1 else 0
theorem lap_01 (k j : Nat) : lap k j = 0 ∨ lap k j = 1 := by
  unfold lap
  by_cases h : 1 ≤ j ∧ j ≤ k
  · right; rw [if_pos h]
  · left; rw [if_neg h]
/-- All want each time: what one has is what it gained less what it got. -/
def Acc (S : Nat → Int) (b : Int) (x : Tn) : Prop := 0 ≤ b ∧ ∀ j, j < x.n → x.C j = (b + lap x.k j) * (x.q * x.W j) - S j
theorem acc_nxt {S : Nat → Int} {b : Int} {x : Tn} {cs : Nat → Int} (h : Acc S b x) (hk : x.k < x.n) (hc : ∀ j, j < x.n → cs j ≠ 0) : ∃ b', Acc S b' (nxt cs x) := by
  have em := mod_succ hk
  obtain ⟨k', ek⟩ : ∃ k', (x.k + 1) % x.n = k' := ⟨_, rfl⟩
  have hk' : k' < x.n := by rw [← ek]; exact Nat.mod_lt _ (by omega)
  have eC : ∀ j, (nxt cs x).C j = if j = k' then x.C j + x.q * x.W j else x.C j := fun j => by
    unfold nxt
    simp only [ek]
    rw [if_neg (hc k' hk'), if_neg (hc x.k hk)]
    by_cases e : j = k'
    · rw [e, upd_same, if_pos rfl]
    · rw [upd_other _ _ e, if_neg e]
  have eK : (nxt cs x).k = k' := ek
  by_cases hl : x.k + 1 = x.n
  · rw [ek, if_pos hl] at em
    subst em
    refine ⟨b + 1, by have := h.1; omega, fun j hj => ?_⟩
    have hj : j < x.n := hj
    show (nxt cs x).C j = (b + 1 + lap (nxt cs x).k j) * (x.q * x.W j) - S j
    rw [eC, eK, h.2 j hj]
    have l0 : lap 0 j = 0 := by unfold lap; rw [if_neg (by omega)]
    rw [l0]
    by_cases e : j = 0
    · have l1 : lap x.k j = 0 := by unfold lap; rw [if_neg (by omega)]
      rw [if_pos e, l1, Int.add_zero, Int.add_zero, Int.add_mul, Int.one_mul]; omega
    · have l1 : lap x.k j = 1 := by unfold lap; rw [if_pos (by omega)]
      rw [if_neg e, l1, Int.add_zero]
  · rw [ek, if_neg hl] at em
    subst em
    refine ⟨b, h.1, fun j hj => ?_⟩
    have hj : j < x.n := hj
    show (nxt cs x).C j = (b + lap (nxt cs x).k j) * (x.q * x.W j) - S j
    rw [eC, eK, h.2 j hj]
    by_cases e : j = x.k + 1
    · have l1 : lap x.k j = 0 := by unfold lap; rw [if_neg (by omega)]
      have l2 : lap (x.k + 1) j = 1 := by unfold lap; rw [if_pos (by omega)]
      rw [if_pos e, l1, l2, Int.add_zero, Int.add_mul, Int.one_mul]; omega
    · have l1 : lap (x.k + 1) j = lap x.k j := by
        unfold lap
        by_cases q : 1 ≤ j ∧ j ≤ x.k
        · rw [if_pos q, if_pos (by omega)]
        · rw [if_neg q, if_neg (by omega)]
      rw [if_neg e, l1]
theorem acc_go {S : Nat → Int} {cs : Nat → Int} : ∀ (m : Nat) {b : Int} {x : Tn}, Acc S b x → x.k < x.n → (∀ j, j < x.n → cs j ≠ 0) → ∃ b', Acc S b' (go cs m x) ∧ (go cs m x).k < x.n
  | 0, b, x, h, hk, _ => ⟨b, h, hk⟩
  | m + 1, b, x, h, hk, hc => by
    obtain ⟨b', h1, h2⟩ := acc_go m h hk hc
    have en := (same_go cs x m).n
    obtain ⟨b2, h3⟩ := acc_nxt (cs := cs) h1 (by omega) (by rw [en]; exact hc)
    exact ⟨b2, h3, by show ((go cs m x).k + 1) % (go cs m x).n < x.n; rw [en]; exact Nat.mod_lt _ (by omega)⟩
theorem acc_take {S : Nat → Int} {b : Int} {x y : Tn} {cs : Nat → Int} (h : Acc S b x) (hk : x.k < x.n) (hc : ∀ j, j < x.n → cs j ≠ 0) (ht : TakeR cs x y) : ∃ b', Acc (upd S y.k (S y.k + cs y.k)) b' y := by
  obtain ⟨z, ⟨m, rfl, _⟩, _, rfl⟩ := ht
  obtain ⟨b', h1, h2⟩ := acc_go m h hk hc
  refine ⟨b', h1.1, fun j hj => ?_⟩
  have hj' := h1.2 j hj
  show upd (go cs m x).C (go cs m x).k ((go cs m x).C (go cs m x).k - cs (go cs m x).k) j = (b' + lap (go cs m x).k j) * ((go cs m x).q * (go cs m x).W j) - upd S (go cs m x).k (S (go cs m x).k + cs (go cs m x).k) j
  by_cases e : j = (go cs m x).k
  · subst e
    rw [upd_same, upd_same, hj']
    omega
  · rw [upd_other _ _ e, upd_other _ _ e]
    exact hj'

/-- How much they got, all together; how many got nothing. -/
def sumN (K : Nat → Nat) : Nat → Nat
  | 0 => 0
  | n + 1 => sumN K n + K n
def none0 (K : Nat → Nat) : Nat → Nat
  | 0 => 0
  | n + 1 => none0 K n + if K n = 0 then 1 else 0
theorem sumN_le {K : Nat → Nat} {n B : Nat} (h : ∀ j, j < n → K j ≤ B) : sumN K n ≤ n * B := by
  induction n with
  | zero => simp [sumN]
  | succ n ih =>
    have := ih (fun j hj => h j (by omega))
    have := h n (by omega)
    rw [Nat.add_mul]
    simp only [sumN]
    omega
theorem sumN_up {K : Nat → Nat} {n k : Nat} (hk : k < n) : sumN (fun j => if j = k then K j + 1 else K j) n = sumN K n + 1 := by
  induction n with
  | zero => omega
  | succ n ih =>
    simp only [sumN]
    by_cases e : k = n
    · subst e
      have : ∀ m, m ≤ k → sumN (fun j => if j = k then K j + 1 else K j) m = sumN K m := by
        intro m
        induction m with
        | zero => intro _; rfl
        | succ m ihm =>
          intro hm
          simp only [sumN]
          rw [ihm (by omega), if_neg (by omega)]
      rw [this k (Nat.le_refl _), if_pos rfl]
      omega
    · rw [ih (by omega), if_neg (fun q => e q.symm)]
      omega
theorem none0_up {K : Nat → Nat} {n k : Nat} (hk : k < n) : none0 (fun j => if j = k then K j + 1 else K j) n + (if K k = 0 then 1 else 0) = none0 K n := by
  induction n with
  | zero => omega
  | succ n ih =>
    simp only [none0]
    by_cases e : k = n
    · subst e
      have : ∀ m, m ≤ k → none0 (fun j => if j = k then K j + 1 else K j) m = none0 K m := by
        intro m
        induction m with
        | zero => intro _; rfl
        | succ m ihm =>
          intro hm
          simp only [none0]
          have e1 : (if m = k then K m + 1 else K m) = K m := if_neg (by omega)
          simp only [e1]
          rw [ihm (by omega)]
      rw [this k (Nat.le_refl _)]
      simp
    · have := ih (by omega)
      have e1 : (if n = k then K n + 1 else K n) = K n := if_neg (fun q => e q.symm)
      simp only [e1]
      omega
theorem none0_pos {K : Nat → Nat} {n : Nat} (h : 0 < none0 K n) : ∃ p, p < n ∧ K p = 0 := by
  induction n with
  | zero => simp [none0] at h
  | succ n ih =>
    simp only [none0] at h
    by_cases e : K n = 0
    · exact ⟨n, by omega, e⟩
    · rw [if_neg e] at h
      obtain ⟨p, h1, h2⟩ := ih (by omega)
      exact ⟨p, by omega, h2⟩
theorem none0_all (n : Nat) : none0 (fun _ => 0) n = n := by
  induction n with
  | zero => rfl
  | succ n ih => simp only [none0, ih]; simp
theorem sumN_zero (n : Nat) : sumN (fun _ => 0) n = 0 := by
  induction n with
  | zero => rfl
  | succ n ih => simp only [sumN, ih]
end Go.Proofs.Ytlhkahincnchjaa.M
