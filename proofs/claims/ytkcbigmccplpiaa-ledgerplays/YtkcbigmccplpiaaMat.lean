/- A ledger as mathematics: its budget, how many slots, who has which; what Take and Free make of it. -/
namespace Go.Proofs.Ytkcbigmccplpiaa
namespace M

structure Pl where
  t : Bool
  i : Int
  m : Int
/-- Nobody's place. -/
def no : Pl := ⟨false, 0, 0⟩
structure Lg where
  bu : Int
  n : Nat
  P : Nat → Pl
/-- The memory of the places below k. -/
def us (P : Nat → Pl) : Nat → Int
  | 0 => 0
  | k + 1 => us P k + (P k).m
/-- How many of the places below k are taken. -/
def tk (P : Nat → Pl) : Nat → Nat
  | 0 => 0
  | k + 1 => tk P k + (if (P k).t then 1 else 0)
/-- The lowest number below n of which p holds. -/
def low1 (p : Nat → Bool) : Nat → Option Nat
  | 0 => none
  | k + 1 => match low1 p k with | some j => some j | none => if p k then some k else none
def hasI (x : Lg) (id : Int) (k : Nat) : Bool := (x.P k).t && ((x.P k).i == id)
def slo (x : Lg) (id : Int) : Option Nat := low1 (hasI x id) 16
def low (x : Lg) : Option Nat := low1 (fun k => !(x.P k).t) x.n
def setP (P : Nat → Pl) (k : Nat) (p : Pl) : Nat → Pl := fun j => if j = k then p else P j
def room (x : Lg) : Int := x.bu - us x.P 16
def free (x : Lg) : Int := (x.n : Int) - tk x.P 16
/-- What Take, Free and At tell, and what they leave. -/
def te (x : Lg) (id mem : Int) : Nat := if id < 0 ∨ mem < 0 then 1 else if x.bu < mem then 5 else if (slo x id).isSome then 8 else if (low x).isNone ∨ room x < mem then 4 else 0
def ts (x : Lg) (id mem : Int) : Nat := if te x id mem = 0 then (low x).getD 0 else 0
def tx (x : Lg) (id mem : Int) : Lg := if te x id mem = 0 then ⟨x.bu, x.n, setP x.P ((low x).getD 0) ⟨true, id, mem⟩⟩ else x
def fe (x : Lg) (id : Int) : Nat := if (slo x id).isSome then 0 else 6
def fx (x : Lg) (id : Int) : Lg := if (slo x id).isSome then ⟨x.bu, x.n, setP x.P ((slo x id).getD 0) no⟩ else x
def atI (x : Lg) (s : Int) : Int := if 0 ≤ s ∧ s < x.n then (x.P s.toNat).i else 0
def atB (x : Lg) (s : Int) : Bool := decide (0 ≤ s ∧ s < x.n) && (x.P s.toNat).t

/-- What holds of a ledger at any time. -/
structure Inv (x : Lg) : Prop where
  b0 : 0 ≤ x.bu
  bM : x.bu ≤ 9223372036854775807
  n16 : x.n ≤ 16
  off : ∀ k, (x.P k).t = false → (x.P k).i = 0 ∧ (x.P k).m = 0
  out : ∀ k, x.n ≤ k → (x.P k).t = false
  m0 : ∀ k, 0 ≤ (x.P k).m
  one : ∀ j k, (x.P j).t = true → (x.P k).t = true → (x.P j).i = (x.P k).i → j = k
  le : us x.P 16 ≤ x.bu

theorem low1_some {p : Nat → Bool} {n k : Nat} : low1 p n = some k ↔ k < n ∧ p k = true ∧ ∀ j, j < k → p j = false := by
  induction n generalizing k with
  | zero => simp [low1]
  | succ n ih =>
    cases h : low1 p n with
    | some j =>
      have hj := ih.1 h
      simp only [low1, h, Option.some.injEq]
      constructor
      · rintro rfl; exact ⟨by omega, hj.2⟩
      · rintro ⟨h1, h2, h3⟩
        rcases Nat.lt_trichotomy j k with q | q | q
        · have := h3 j q; rw [hj.2.1] at this; cases this
        · exact q
        · have := hj.2.2 k q; rw [h2] at this; cases this
    | none =>
      have hno : ∀ j, j < n → p j = false := fun j hj => by
        cases hp : p j with
        | false => rfl
        | true =>
          exfalso
          obtain ⟨i, hi, hm⟩ : ∃ i, p i = true ∧ i < n ∧ ∀ l, l < i → p l = false := by
            have key : ∀ m, (∃ i, i ≤ m ∧ p i = true) → ∃ i, p i = true ∧ i ≤ m ∧ ∀ l, l < i → p l = false := by
              intro m
              induction m with
              | zero => rintro ⟨i, h1, h2⟩; exact ⟨i, h2, h1, fun l hl => by omega⟩
              | succ m ihm =>
                rintro ⟨i, h1, h2⟩
                by_cases q : ∃ i, i ≤ m ∧ p i = true
                · obtain ⟨i, a, b, c⟩ := ihm q; exact ⟨i, a, by omega, c⟩
                · refine ⟨i, h2, h1, fun l hl => ?_⟩
                  cases hl2 : p l with
                  | false => rfl
                  | true => exact absurd ⟨l, by omega, hl2⟩ q
            obtain ⟨i, a, b, c⟩ := key j ⟨j, Nat.le_refl _, hp⟩
            exact ⟨i, a, by omega, c⟩
          have := ih.2 ⟨hm.1, hi, hm.2⟩
          rw [h] at this; cases this
      simp only [low1, h]
      cases hp : p n with
      | true =>
        simp only [if_true, Option.some.injEq]
        constructor
        · rintro rfl; exact ⟨by omega, hp, hno⟩
        · rintro ⟨h1, h2, h3⟩
          rcases Nat.lt_or_ge k n with q | q
          · rw [hno k q] at h2; cases h2
          · omega
      | false =>
        simp only [Bool.false_eq_true, if_false]
        constructor
        · intro h; cases h
        · rintro ⟨h1, h2, h3⟩
          rcases Nat.lt_or_ge k n with q | q
          · rw [hno k q] at h2; cases h2
          · have : k = n := by omega
            subst this; rw [hp] at h2; cases h2
theorem low1_none {p : Nat → Bool} {n : Nat} : low1 p n = none ↔ ∀ k, k < n → p k = false := by
  constructor
  · intro h k hk
    induction n with
    | zero => omega
    | succ n ih =>
      cases h1 : low1 p n with
      | some j => simp [low1, h1] at h
      | none =>
        simp only [low1, h1] at h
        cases hp : p n with
        | true => simp [hp] at h
        | false =>
          by_cases e : k = n
          · subst e; exact hp
          · exact ih h1 (by omega)
  · intro h
    cases h1 : low1 p n with
    | none => rfl
    | some k => obtain ⟨a, b, _⟩ := low1_some.1 h1; rw [h k a] at b; cases b
theorem setP_same (P : Nat → Pl) (k : Nat) (p : Pl) : setP P k p k = p := by simp [setP]
theorem setP_other (P : Nat → Pl) {k j : Nat} (p : Pl) (h : j ≠ k) : setP P k p j = P j := by simp [setP, h]
theorem us_set (P : Nat → Pl) (k : Nat) (p : Pl) (n : Nat) : us (setP P k p) n = us P n + (if k < n then p.m - (P k).m else 0) := by
  induction n with
  | zero => simp [us]
  | succ n ih =>
    simp only [us, ih]
    by_cases e : n = k
    · subst e
      rw [setP_same, if_neg (by omega), if_pos (by omega)]; omega
    · rw [setP_other _ _ e]
      by_cases q : k < n
      · rw [if_pos q, if_pos (by omega)]; omega
      · rw [if_neg q, if_neg (by omega)]; omega
theorem tk_set (P : Nat → Pl) (k : Nat) (p : Pl) (n : Nat) (h : k < n) : tk (setP P k p) n + (if (P k).t then 1 else 0) = tk P n + (if p.t then 1 else 0) := by
  have out : ∀ n, n ≤ k → tk (setP P k p) n = tk P n := by
    intro n
    induction n with
    | zero => intro _; rfl
    | succ n ih => intro h; simp only [tk]; rw [ih (by omega), setP_other _ _ (by omega)]
  induction n with
  | zero => omega
  | succ n ih =>
    simp only [tk]
    by_cases e : n = k
    · subst e
      rw [out n (Nat.le_refl _), setP_same]; omega
    · rw [setP_other _ _ e]
      have := ih (by omega)
      omega
theorem tk_le (P : Nat → Pl) (n : Nat) : tk P n ≤ n := by
  induction n with
  | zero => exact Nat.le_refl _
  | succ n ih => simp only [tk]; split <;> omega
theorem tk_cut (P : Nat → Pl) (n j : Nat) (h : ∀ k, n ≤ k → (P k).t = false) : tk P (n + j) = tk P n := by
  induction j with
  | zero => rfl
  | succ j ih => rw [← Nat.add_assoc]; simp only [tk]; rw [ih, h (n + j) (by omega)]; simp
theorem tk_all {P : Nat → Pl} {n : Nat} : tk P n = n ↔ ∀ k, k < n → (P k).t = true := by
  induction n with
  | zero => simp [tk]
  | succ n ih =>
    have := tk_le P n
    simp only [tk]
    constructor
    · intro h k hk
      cases hp : (P n).t with
      | false => simp [hp] at h; omega
      | true =>
        simp [hp] at h
        by_cases e : k = n
        · subst e; exact hp
        · exact ih.1 (by omega) k (by omega)
    · intro h
      rw [h n (by omega), ih.2 (fun k hk => h k (by omega))]; simp
theorem us_nn {P : Nat → Pl} (h : ∀ k, 0 ≤ (P k).m) (n : Nat) : 0 ≤ us P n := by
  induction n with
  | zero => exact Int.le_refl _
  | succ n ih => have := h n; simp only [us]; omega
theorem us_up {P : Nat → Pl} (h : ∀ k, 0 ≤ (P k).m) (n j : Nat) : us P n ≤ us P (n + j) := by
  induction j with
  | zero => exact Int.le_refl _
  | succ j ih => have := h (n + j); rw [← Nat.add_assoc]; simp only [us]; omega

section
variable {x : Lg}
theorem Inv.tk16 (h : Inv x) : tk x.P 16 = tk x.P x.n := by
  have := tk_cut x.P x.n (16 - x.n) h.out
  rw [← this]
  have := h.n16
  rw [show x.n + (16 - x.n) = 16 by omega]
theorem Inv.tkn (h : Inv x) : tk x.P 16 ≤ x.n := by rw [h.tk16]; exact tk_le _ _
theorem Inv.full (h : Inv x) : low x = none ↔ tk x.P 16 = x.n := by
  rw [h.tk16, tk_all]
  unfold low
  rw [low1_none]
  simp
theorem Inv.usP (h : Inv x) {k : Nat} (hk : k ≤ 16) : 0 ≤ us x.P k ∧ us x.P k ≤ x.bu := by
  have := us_up h.m0 k (16 - k)
  rw [show k + (16 - k) = 16 by omega] at this
  have := h.le
  exact ⟨us_nn h.m0 k, by omega⟩
theorem Inv.slo_lt (h : Inv x) {id : Int} {k : Nat} (hs : slo x id = some k) : k < x.n ∧ (x.P k).t = true ∧ (x.P k).i = id := by
  obtain ⟨a, b, _⟩ := low1_some.1 hs
  simp [hasI] at b
  refine ⟨?_, b.1, b.2⟩
  rcases Nat.lt_or_ge k x.n with q | q
  · exact q
  · rw [h.out k q] at b; cases b.1
theorem Inv.slo_of (h : Inv x) {id : Int} {k : Nat} (ht : (x.P k).t = true) (hi : (x.P k).i = id) : slo x id = some k := by
  have h16 : k < 16 := by
    rcases Nat.lt_or_ge k x.n with q | q
    · have := h.n16; omega
    · rw [h.out k q] at ht; cases ht
  refine low1_some.2 ⟨h16, by simp [hasI, ht, hi], fun j hj => ?_⟩
  cases hp : hasI x id j with
  | false => rfl
  | true =>
    simp [hasI] at hp
    have := h.one j k hp.1 ht (by rw [hp.2, hi])
    omega
theorem slo_no {id : Int} (hs : slo x id = none) {k : Nat} (hk : k < 16) (ht : (x.P k).t = true) : (x.P k).i ≠ id := by
  have := low1_none.1 hs k hk
  simp [hasI, ht] at this
  exact this
theorem low_lt {k : Nat} (h : low x = some k) : k < x.n ∧ (x.P k).t = false ∧ ∀ j, j < k → (x.P j).t = true := by
  obtain ⟨a, b, c⟩ := low1_some.1 h
  refine ⟨a, by simpa using b, fun j hj => by simpa using c j hj⟩
/-- What a Take that is OK finds. -/
theorem te_ok {id mem : Int} (h : te x id mem = 0) : 0 ≤ id ∧ 0 ≤ mem ∧ mem ≤ x.bu ∧ slo x id = none ∧ (∃ k, low x = some k) ∧ mem ≤ room x := by
  unfold te at h
  split at h
  · cases h
  · split at h
    · cases h
    · split at h
      · cases h
      · split at h
        · cases h
        · rename_i a b c d
          cases hl : low x with
          | none => exact absurd (.inl (by simp [hl])) d
          | some k =>
            refine ⟨by omega, by omega, by omega, ?_, ⟨k, rfl⟩, ?_⟩
            · cases hs : slo x id with
              | none => rfl
              | some j => simp [hs] at c
            · have : ¬ room x < mem := fun q => d (.inr q)
              omega
theorem Inv.take (h : Inv x) (id mem : Int) : Inv (tx x id mem) := by
  unfold tx
  by_cases h0 : te x id mem = 0
  · rw [if_pos h0]
    obtain ⟨a1, a2, a3, a4, ⟨k, a5⟩, a6⟩ := te_ok h0
    obtain ⟨l1, l2, l3⟩ := low_lt a5
    rw [a5]
    have hn := h.n16
    refine ⟨h.b0, h.bM, h.n16, fun j hj => ?_, fun j hj => ?_, fun j => ?_, fun i j hi hj e => ?_, ?_⟩
    · simp only [Option.getD_some] at hj ⊢
      by_cases e : j = k
      · subst e; rw [setP_same] at hj; cases hj
      · rw [setP_other _ _ e] at hj ⊢; exact h.off j hj
    · simp only [Option.getD_some] at hj ⊢
      rw [setP_other _ _ (by omega)]; exact h.out j hj
    · simp only [Option.getD_some]
      by_cases e : j = k
      · subst e; rw [setP_same]; exact a2
      · rw [setP_other _ _ e]; exact h.m0 j
    · simp only [Option.getD_some] at hi hj e
      have key : ∀ l, l ≠ k → (x.P l).t = true → (x.P l).i ≠ id := fun l _ hl => by
        refine slo_no a4 ?_ hl
        rcases Nat.lt_or_ge l x.n with q | q
        · omega
        · rw [h.out l q] at hl; cases hl
      by_cases e1 : i = k
      · by_cases e2 : j = k
        · omega
        · subst e1
          rw [setP_same, setP_other _ _ e2] at e
          rw [setP_other _ _ e2] at hj
          exact absurd e.symm (key j e2 hj)
      · rw [setP_other _ _ e1] at hi e
        by_cases e2 : j = k
        · subst e2
          rw [setP_same] at e
          exact absurd e (key i e1 hi)
        · rw [setP_other _ _ e2] at hj e
          exact h.one i j hi hj e
    · simp only [Option.getD_some]
      rw [us_set, if_pos (by omega), (h.off k l2).2]
      unfold room at a6
      simp only
      omega
  · rw [if_neg h0]; exact h
theorem Inv.free_ (h : Inv x) (id : Int) : Inv (fx x id) := by
  unfold fx
  cases hs : slo x id with
  | none => simpa using h
  | some k =>
    obtain ⟨a, b, c⟩ := h.slo_lt hs
    have hn := h.n16
    simp only [Option.isSome_some, if_true, Option.getD_some]
    refine ⟨h.b0, h.bM, h.n16, fun j hj => ?_, fun j hj => ?_, fun j => ?_, fun i j hi hj e => ?_, ?_⟩
    · simp only at hj ⊢
      by_cases e : j = k
      · subst e; rw [setP_same]; exact ⟨rfl, rfl⟩
      · rw [setP_other _ _ e] at hj ⊢; exact h.off j hj
    · simp only at hj ⊢
      rw [setP_other _ _ (by omega)]; exact h.out j hj
    · simp only
      by_cases e : j = k
      · subst e; rw [setP_same]; exact Int.le_refl _
      · rw [setP_other _ _ e]; exact h.m0 j
    · simp only at hi hj e
      by_cases e1 : i = k
      · subst e1; rw [setP_same] at hi; cases hi
      · by_cases e2 : j = k
        · subst e2; rw [setP_same] at hj; cases hj
        · rw [setP_other _ _ e1] at hi e
          rw [setP_other _ _ e2] at hj e
          exact h.one i j hi hj e
    · simp only
      rw [us_set, if_pos (by omega)]
      have := h.m0 k
      have := h.le
      have e : no.m = 0 := rfl
      rw [e]; omega
theorem inv_new {bu : Int} {n : Nat} (h1 : 0 ≤ bu) (h2 : bu ≤ 9223372036854775807) (h3 : n ≤ 16) : Inv ⟨bu, n, fun _ => no⟩ := by
  refine ⟨h1, h2, h3, fun k _ => ⟨rfl, rfl⟩, fun k _ => rfl, fun k => Int.le_refl _, fun j k h => absurd h (by simp [no]), ?_⟩
  have : ∀ k, us (fun _ => no) k = 0 := fun k => by
    induction k with
    | zero => rfl
    | succ k ih => simp only [us, ih]; rfl
  simp only [this]; exact h1
end
end M
end Go.Proofs.Ytkcbigmccplpiaa
