/- What a config, a task and a file are, as numbers: plain mathematics. -/
namespace Go.Proofs.Ytfllhgbpjpmakaa.M

def inB (lo hi n : Int) : Bool := decide (lo ≤ n) && decide (n ≤ hi)
def rowB (lo hi : Int) (xs : List Int) : Bool := xs.all (inB lo hi)
structure Cf where
  x0 : Int
  x1 : Int
  x2 : Int
  x3 : Int
  x4 : Int
  x5 : Int
  x6 : Int
  x7 : Int
  x8 : Int
  x9 : Int
def cfgB (c : Cf) : Bool := rowB 1 1048576 [c.x0, c.x2, c.x4, c.x6, c.x7, c.x8, c.x9] && rowB 0 1048576 [c.x3, c.x5] && rowB 1 16 [c.x1]
def taskB (t : Int × Int) : Bool := inB 1 1048576 t.1 && inB 1 1048576 t.2
def errN (b : Bool) : Int := if b = true then 0 else 3
/-- The first task that is wrong, counted from k on. -/
def goN : Nat → List (Int × Int) → Int × Int
  | _, [] => (-1, 0)
  | k, t :: ts => if taskB t = true then goN (k + 1) ts else ((k : Int) + 1, 3)
def fileN (c : Cf) (ts : List (Int × Int)) : Int × Int :=
  if cfgB c = true then (if 64 < ts.length then (65, 4) else goN 0 ts) else (0, 3)

theorem inB_true {lo hi n : Int} : inB lo hi n = true ↔ lo ≤ n ∧ n ≤ hi := by simp [inB]
theorem inB_false {lo hi n : Int} : inB lo hi n = false ↔ n < lo ∨ hi < n := by
  unfold inB
  by_cases h : lo ≤ n <;> by_cases h2 : n ≤ hi <;> simp [h, h2] <;> omega
theorem rowB_snoc (lo hi : Int) (xs : List Int) (x : Int) : rowB lo hi (xs ++ [x]) = (rowB lo hi xs && inB lo hi x) := by simp [rowB]
theorem rowB_take {lo hi : Int} {xs : List Int} {k : Nat} (h : k < xs.length) : rowB lo hi (xs.take (k + 1)) = (rowB lo hi (xs.take k) && inB lo hi xs[k]) := by
  rw [List.take_succ_eq_append_getElem h, rowB_snoc]
theorem rowB_bad {lo hi : Int} {xs : List Int} {k : Nat} (h : k < xs.length) (hb : inB lo hi xs[k] = false) : rowB lo hi xs = false := by
  unfold rowB
  rw [List.all_eq_false]
  exact ⟨xs[k], List.getElem_mem h, by simp [hb]⟩
theorem goN_at {ts : List (Int × Int)} {k : Nat} (h : k < ts.length) (a : Nat) : goN a (ts.drop k) = if taskB ts[k] = true then goN (a + 1) (ts.drop (k + 1)) else ((a : Int) + 1, 3) := by
  rw [List.drop_eq_getElem_cons h]
  rfl
theorem goN_end {ts : List (Int × Int)} {k : Nat} (h : ts.length ≤ k) (a : Nat) : goN a (ts.drop k) = (-1, 0) := by
  rw [List.drop_eq_nil_of_le h]
  rfl
end Go.Proofs.Ytfllhgbpjpmakaa.M
