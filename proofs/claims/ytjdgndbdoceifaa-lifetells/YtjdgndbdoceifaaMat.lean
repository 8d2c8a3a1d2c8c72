/- A life as mathematics: its state, its epoch, how often it missed and was stopped; what a step makes of it. -/
namespace Go.Proofs.Ytjdgndbdoceifaa
namespace M

structure Lf where
  s : Nat
  e : Nat
  m : Nat
  p : Nat
/-- May step k be, from state s? -/
def may (k s : Nat) : Bool :=
  match k with
  | 0 => decide (s = 0)
  | 1 => decide (s = 1)
  | 5 => decide (s = 3)
  | 7 => decide (s = 4)
  | 9 => decide (s = 3) || decide (s = 0)
  | 10 => decide (s < 5)
  | _ => decide (s = 2)
/-- The error of step k. -/
def er (P : Int) (k : Nat) (x : Lf) : Nat := if may k x.s = false then 8 else if k = 2 ∧ P ≤ x.p then 4 else 0
/-- What step k makes of it. -/
def nx (T : Int) (k : Nat) (x : Lf) : Lf :=
  match k with
  | 1 => ⟨2, x.e + 1, x.m, x.p⟩
  | 2 => ⟨1, x.e, x.m, x.p + 1⟩
  | 3 => ⟨3, x.e, x.m, x.p⟩
  | 6 => ⟨if T ≤ (x.m : Int) + 1 then 6 else 4, x.e, x.m + 1, x.p⟩
  | 8 => ⟨5, x.e, x.m, x.p⟩
  | 9 => ⟨6, x.e, x.m, x.p⟩
  | 10 => ⟨7, x.e, x.m, x.p⟩
  | _ => ⟨1, x.e, x.m, x.p⟩
def st (T P : Int) (k : Nat) (x : Lf) : Lf := if er P k x = 0 then nx T k x else x
/-- What holds of a life at any time. -/
structure Inv (T P : Int) (x : Lf) : Prop where
  s7 : x.s ≤ 7
  sum : x.m + x.p ≤ x.e
  run : x.s = 2 → x.m + x.p < x.e
  mT : (x.m : Int) ≤ T
  mlt : x.s ≠ 6 → (x.m : Int) < T
  pP : (x.p : Int) ≤ P
theorem inv_new {T P : Int} (h1 : 1 ≤ T) (h0 : 0 ≤ P) : Inv T P ⟨0, 0, 0, 0⟩ := ⟨by simp, by simp, by simp, by simp; omega, by simp; omega, by simpa using h0⟩
theorem kinds {k : Nat} (h : k ≤ 10) : k = 0 ∨ k = 1 ∨ k = 2 ∨ k = 3 ∨ k = 4 ∨ k = 5 ∨ k = 6 ∨ k = 7 ∨ k = 8 ∨ k = 9 ∨ k = 10 := by omega
theorem er_no {P : Int} {k : Nat} {x : Lf} (h : may k x.s = false) : er P k x = 8 := by simp [er, h]
theorem er_yes {P : Int} {k : Nat} {x : Lf} (h : may k x.s = true) (hk : ¬ (k = 2 ∧ P ≤ x.p)) : er P k x = 0 := by simp [er, h]; intro e; have := hk; simp [e] at this; omega
theorem st_no {T P : Int} {k : Nat} {x : Lf} (h : may k x.s = false) : st T P k x = x := by simp [st, er_no h]
theorem st_yes {T P : Int} {k : Nat} {x : Lf} (h : may k x.s = true) (hk : ¬ (k = 2 ∧ P ≤ x.p)) : st T P k x = nx T k x := by simp [st, er_yes h hk]
theorem st_full {T P : Int} {x : Lf} (h : x.s = 2) (hk : P ≤ x.p) : st T P 2 x = x ∧ er P 2 x = 4 := by simp [st, er, may, h, hk]
theorem er_cases (P : Int) (k : Nat) (x : Lf) : er P k x = 8 ∨ er P k x = 4 ∨ er P k x = 0 := by unfold er; split; exact .inl rfl; split; exact .inr (.inl rfl); exact .inr (.inr rfl)
theorem st_kept {T P : Int} {k : Nat} {x : Lf} (h : er P k x ≠ 0) : st T P k x = x := by simp [st, h]
theorem er_final {P : Int} {k : Nat} {x : Lf} (hk : k ≤ 10) (h : 5 ≤ x.s) : er P k x = 8 := by
  apply er_no
  rcases kinds hk with rfl | rfl | rfl | rfl | rfl | rfl | rfl | rfl | rfl | rfl | rfl <;> simp [may] <;> omega
theorem may_of {k : Nat} {P : Int} {x : Lf} (h : er P k x = 0) : may k x.s = true := by
  cases hm : may k x.s with
  | true => rfl
  | false => rw [er_no hm] at h; cases h
theorem Inv.st {T P : Int} {x : Lf} (h : Inv T P x) {k : Nat} (hk : k ≤ 10) : Inv T P (st T P k x) := by
  by_cases h0 : er P k x = 0
  · have hm := may_of h0
    have hp : ¬ (k = 2 ∧ P ≤ x.p) := fun q => by unfold er at h0; rw [hm, if_neg (by simp), if_pos q] at h0; cases h0
    rw [st_yes hm hp]
    obtain ⟨a, b, c, d, e, f⟩ := h
    rcases kinds hk with rfl | rfl | rfl | rfl | rfl | rfl | rfl | rfl | rfl | rfl | rfl <;> simp [may] at hm <;> simp at hp <;> refine ⟨?_, ?_, ?_, ?_, ?_, ?_⟩ <;> simp [nx] <;> first | omega | (split <;> omega) | skip
    all_goals (try split) <;> (try intro) <;> omega
  · rw [st_kept h0]; exact h
theorem st_e {T P : Int} (k : Nat) (x : Lf) : x.e ≤ (st T P k x).e ∧ (st T P k x).e ≤ x.e + 1 := by
  unfold st
  split
  · unfold nx; split <;> simp
  · simp
end M
end Go.Proofs.Ytjdgndbdoceifaa
