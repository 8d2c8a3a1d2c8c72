/- What may run next, as mathematics: what is best, what fits, each first once, the first that is reached, the wants. -/
import Derived.Test.YtipkgoghodkbfaaDoorRea
namespace Go.Proofs.YtipkgoghodkbfaaDoor
open M
set_option linter.unusedVariables false
set_option linter.unusedSimpArgs false

theorem getD_at {α : Type} {l : List α} {k : Nat} (h : k < l.length) (d : α) : l.getD k d = l[k] := by simp [List.getD, h]

/-- A task more: what is best of one more. -/
def stepB (s p : Int) (k : Nat) (a : Int × List Int) : Int × List Int :=
  if s ≠ 1 ∨ p < 0 then a else if a.1 < p then (p, [(k : Int)]) else if p = a.1 then (a.1, a.2 ++ [(k : Int)]) else a
def bestK (xs ys : List Int) : Nat → Int × List Int
  | 0 => (-1, [])
  | k + 1 => stepB (xs.getD k 0) (ys.getD k 0) k (bestK xs ys k)
theorem bestK_step {xs ys : List Int} {k : Nat} (hx : k < xs.length) (hy : k < ys.length) : bestK xs ys (k + 1) = stepB xs[k] ys[k] k (bestK xs ys k) := by
  show stepB (xs.getD k 0) (ys.getD k 0) k (bestK xs ys k) = _
  rw [getD_at hx, getD_at hy]
theorem bestK_len (xs ys : List Int) (k : Nat) : (bestK xs ys k).2.length ≤ k := by
  induction k with
  | zero => simp [bestK]
  | succ k ih =>
    show (stepB _ _ k (bestK xs ys k)).2.length ≤ _
    unfold stepB
    repeat' split
    · omega
    · simp
    · simp; omega
    · omega
def bestA (xs ys : List Int) : Int × List Int := bestK xs ys (min xs.length ys.length)

/-- A place of a list of n. -/
def plB (n : Nat) (x : Int) : Bool := decide (0 ≤ x) && decide (x < n)
theorem plB_iff {n : Nat} {x : Int} : plB n x = true ↔ 0 ≤ x ∧ x < n := by simp [plB]
theorem plB_off (n : Nat) (x : Int) : plB n x = !offB n x := by
  unfold plB offB
  by_cases h0 : 0 ≤ x <;> by_cases h1 : x < n <;> simp [h0, h1] <;> omega

/-- There is room for this task. -/
def fitB (A : List (Int × Int)) (room x : Int) : Bool := plB A.length x && decide ((A.getD x.toNat (0, 0)).1 ≤ room)
def fitsL (A : List (Int × Int)) (room : Int) (xs : List Int) : List Int := xs.filter (fitB A room)
theorem fitsL_step (A : List (Int × Int)) (room : Int) (xs : List Int) (k : Nat) (h : k < xs.length) : fitsL A room (xs.take (k + 1)) = if fitB A room xs[k] = true then fitsL A room (xs.take k) ++ [xs[k]] else fitsL A room (xs.take k) := by
  unfold fitsL
  rw [List.take_succ_eq_append_getElem h, List.filter_append]
  cases hf : fitB A room xs[k] <;> simp [hf]
theorem fitsL_len (A : List (Int × Int)) (room : Int) (xs : List Int) : (fitsL A room xs).length ≤ xs.length := List.length_filter_le _ _

/-- Each where it first stands. -/
def onceK (n : Nat) (xs : List Int) : Nat → List Int
  | 0 => []
  | k + 1 => if plB n (xs.getD k 0) && !decide (xs.getD k 0 ∈ onceK n xs k) then onceK n xs k ++ [xs.getD k 0] else onceK n xs k
theorem onceK_step {n : Nat} {xs : List Int} {k : Nat} (h : k < xs.length) : onceK n xs (k + 1) = if plB n xs[k] && !decide (xs[k] ∈ onceK n xs k) then onceK n xs k ++ [xs[k]] else onceK n xs k := by
  show (if plB n (xs.getD k 0) && !decide (xs.getD k 0 ∈ onceK n xs k) then onceK n xs k ++ [xs.getD k 0] else onceK n xs k) = _
  rw [getD_at h]
theorem onceK_len (n : Nat) (xs : List Int) (k : Nat) : (onceK n xs k).length ≤ k := by
  induction k with
  | zero => simp [onceK]
  | succ k ih =>
    unfold onceK
    split
    · simp; omega
    · omega
theorem onceK_mem (n : Nat) (xs : List Int) (k : Nat) : ∀ x ∈ onceK n xs k, plB n x = true := by
  induction k with
  | zero => simp [onceK]
  | succ k ih =>
    unfold onceK
    split
    · rename_i h
      intro x hx
      rcases List.mem_append.1 hx with q | q
      · exact ih x q
      · simp at q; subst q; simp at h; exact h.1
    · exact ih
theorem find_snoc {α : Type} (q : α → Bool) (l : List α) (x : α) : (l ++ [x]).find? q = (l.find? q).or (if q x = true then some x else none) := by
  rw [List.find?_append]
  congr 1
  cases h : q x <;> simp [List.find?, h]
/-- The first that is picked is the same among those that stand once. -/
theorem once_find (n : Nat) (xs : List Int) (q : Int → Bool) : ∀ k, k ≤ xs.length → (onceK n xs k).find? q = (xs.take k).find? fun x => plB n x && q x := by
  intro k
  induction k with
  | zero => intro _; rfl
  | succ k ih =>
    intro hk
    have ih := ih (by omega)
    rw [onceK_step (by omega), List.take_succ_eq_append_getElem (by omega : k < xs.length), find_snoc, ← ih]
    generalize xs[k] = x
    cases hp : plB n x with
    | false => simp
    | true =>
      by_cases hm : x ∈ onceK n xs k
      · rw [if_neg (by simp [hm])]
        cases hq : q x with
        | false => simp
        | true =>
          cases hf : (onceK n xs k).find? q with
          | some y => simp
          | none =>
            rw [List.find?_eq_none] at hf
            exact absurd hq (by simpa using hf x hm)
      · rw [if_pos (by simp [hm]), find_snoc]
        simp

/-- Whom somebody would take: the first task that is a place of all, and is reached. -/
def takB (N : Nat) (es : List E) (m : Nat) (r x : Int) : Bool := plB m x && reachB N es r x
def fstK (N : Nat) (es : List E) (m : Nat) (xs : List Int) (r : Int) (k : Nat) : Int := ((xs.take k).find? (takB N es m r)).getD (-1)
theorem takB_pos {N : Nat} {es : List E} {m : Nat} {r x : Int} (h : takB N es m r x = true) : 0 ≤ x ∧ x < m := by
  unfold takB at h
  rw [Bool.and_eq_true] at h
  exact plB_iff.1 h.1
theorem fstK_cases (N : Nat) (es : List E) (m : Nat) (xs : List Int) (r : Int) (k : Nat) : fstK N es m xs r k = -1 ∨ (0 ≤ fstK N es m xs r k ∧ fstK N es m xs r k < m) := by
  unfold fstK
  cases h : (xs.take k).find? (takB N es m r) with
  | none => exact .inl rfl
  | some x => exact .inr (takB_pos (List.find?_some h))
theorem fstK_step (N : Nat) (es : List E) (m : Nat) (xs : List Int) (r : Int) (k : Nat) (h : k < xs.length) : fstK N es m xs r (k + 1) = if fstK N es m xs r k < 0 ∧ takB N es m r xs[k] = true then xs[k] else fstK N es m xs r k := by
  unfold fstK
  rw [List.take_succ_eq_append_getElem h, find_snoc]
  cases hf : (xs.take k).find? (takB N es m r) with
  | none =>
    cases ht : takB N es m r xs[k] <;> simp [ht]
  | some x =>
    have := takB_pos (List.find?_some hf)
    simp only [Option.some_or, Option.getD_some]
    rw [if_neg (fun q => by have := q.1; omega)]
/-- The wants, and their tasks, of the first k ids. -/
def wantK (N : Nat) (es : List E) (xs : List Int) (A : List (Int × Int)) (ids roots : List Int) : Nat → List (Int × Int) × List Int
  | 0 => ([], [])
  | k + 1 =>
    let f := fstK N es A.length xs (roots.getD k 0) xs.length
    if f < 0 then wantK N es xs A ids roots k else ((wantK N es xs A ids roots k).1 ++ [(ids.getD k 0, (A.getD f.toNat (0, 0)).2)], (wantK N es xs A ids roots k).2 ++ [f])
theorem wantK_step (N : Nat) (es : List E) (xs : List Int) (A : List (Int × Int)) (ids roots : List Int) (k : Nat) (h1 : k < ids.length) (h2 : k < roots.length) (f : Int) (hf : fstK N es A.length xs roots[k] xs.length = f) :
    wantK N es xs A ids roots (k + 1) = if f < 0 then wantK N es xs A ids roots k else ((wantK N es xs A ids roots k).1 ++ [(ids[k], (A.getD f.toNat (0, 0)).2)], (wantK N es xs A ids roots k).2 ++ [f]) := by
  subst hf
  show (if fstK N es A.length xs (roots.getD k 0) xs.length < 0 then _ else _) = _
  rw [getD_at h1, getD_at h2]
theorem wantK_len (N : Nat) (es : List E) (xs : List Int) (A : List (Int × Int)) (ids roots : List Int) (k : Nat) : (wantK N es xs A ids roots k).1.length = (wantK N es xs A ids roots k).2.length ∧ (wantK N es xs A ids roots k).2.length ≤ k := by
  induction k with
  | zero => exact ⟨rfl, Nat.le_refl _⟩
  | succ k ih =>
    unfold wantK
    simp only
    split
    · exact ⟨ih.1, by omega⟩
    · simp; omega
/-- The first of those that stand once. -/
theorem once_fst (N : Nat) (es : List E) (m : Nat) (xs : List Int) (r : Int) : ((onceK (min m N) xs xs.length).find? fun x => reachB N es r x).getD (-1) = fstK N es m xs r xs.length := by
  rw [once_find _ _ _ _ (Nat.le_refl _)]
  unfold fstK takB
  congr 2
  funext x
  have hr : reachB N es r x = true → x < N := fun h => by
    unfold reachB at h
    simp [offB] at h
    omega
  cases h : reachB N es r x with
  | false => simp
  | true =>
    have := hr h
    simp only [Bool.and_true]
    unfold plB
    congr 1
    simp only [decide_eq_decide]
    omega
end Go.Proofs.YtipkgoghodkbfaaDoor
