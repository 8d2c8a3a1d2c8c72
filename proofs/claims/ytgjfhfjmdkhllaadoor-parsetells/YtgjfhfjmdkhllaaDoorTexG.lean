/- What Text of package parse answers for a file that has a text; and numerals as one may reckon them. -/
import Derived.Test.YtgjfhfjmdkhllaaDoorWrG
namespace Go.Proofs.YtgjfhfjmdkhllaaDoor
open Go.RowKit
open M
set_option linter.unusedVariables false
set_option linter.unusedSimpArgs false

set_option maxRecDepth 1000000 in
set_option maxHeartbeats 4000000 in
theorem text_good (x0 x1 x2 x3 x4 x5 x6 x7 x8 x9 : Int) (f : Fl) (hcf : f.cfg = [x0, x1, x2, x3, x4, x5, x6, x7, x8, x9]) (at1 ao1 : Option Addr) (ct1 co1 : Nat) (w : World) (hT : Tabs w) (hti : TasksIn w at1 f.tasks) (hoi : OpsIn w ao1 f.ops) (htl : f.tasks.length ≤ 64) (hol : f.ops.length ≤ 4096) (r : List UInt8) (hR : fileOut f = some r) :
    Calls Tryd.prog 14 #[.agg #[.int .i64 x0, .int .i64 x1, .int .i64 x2, .int .i64 x3, .int .i64 x4, .int .i64 x5, .int .i64 x6, .int .i64 x7, .int .i64 x8, .int .i64 x9, .slice at1 f.tasks.length ct1, .slice ao1 f.ops.length co1]] w fun e w' => e = .returned (.tuple #[strV r, .int .i64 0]) ∧ Below w.heap.size w w' := by
  have hb1 : Below w.heap.size w (w.alloc (.cells #[.int .i64 x0, .int .i64 x1, .int .i64 x2, .int .i64 x3, .int .i64 x4, .int .i64 x5, .int .i64 x6, .int .i64 x7, .int .i64 x8, .int .i64 x9, .slice at1 f.tasks.length ct1, .slice ao1 f.ops.length co1] 29)) := (Below.refl _ _).alloc (Nat.le_refl _) _
  have kW := writeFile_good x0 x1 x2 x3 x4 x5 x6 x7 x8 x9 f hcf at1 ao1 ct1 co1 (w.alloc (.cells #[.int .i64 x0, .int .i64 x1, .int .i64 x2, .int .i64 x3, .int .i64 x4, .int .i64 x5, .int .i64 x6, .int .i64 x7, .int .i64 x8, .int .i64 x9, .slice at1 f.tasks.length ct1, .slice ao1 f.ops.length co1] 29)) (hT.alloc _) (hti.below hb1 (Nat.le_refl _)) (hoi.below hb1 (Nat.le_refl _)) htl hol r hR
  have h1 : ¬ (64 : Int) < (f.tasks.length : Int) := by omega
  have h2 : ¬ (4096 : Int) < (f.ops.length : Int) := by omega
  have HB : Hid (Below w.heap.size w (w.alloc (.cells #[.int .i64 x0, .int .i64 x1, .int .i64 x2, .int .i64 x3, .int .i64 x4, .int .i64 x5, .int .i64 x6, .int .i64 x7, .int .i64 x8, .int .i64 x9, .slice at1 f.tasks.length ct1, .slice ao1 f.ops.length co1] 29))) := hb1
  clear hb1 hti hoi hR hcf
  go_enter Tryd.func14, Tryd.ntmps14
  go_wp2_with (go_at_call 22; refine kW.mono ?_; rintro e w2 ⟨rfl, hb2⟩)
  go_ret2
  exact ⟨rfl, HB.out.trans (hb2.mono (by simp))⟩

end Go.Proofs.YtgjfhfjmdkhllaaDoor
namespace Go.Proofs.YtgjfhfjmdkhllaaDoor.M

/-- Digits, as one may reckon them. -/
def dg : Nat → Nat → List UInt8
  | 0, _ => []
  | k + 1, n => if n < 10 then [UInt8.ofNat (48 + n)] else dg k (n / 10) ++ [UInt8.ofNat (48 + n % 10)]
theorem dg_is : ∀ (k n : Nat), n < 10 ^ k → dg k n = if n = 0 ∧ k = 0 then [] else Lib.decDigits n
  | 0, n, h => by
    have : n = 0 := by simp at h; exact h
    simp [dg, this]
  | k + 1, n, h => by
    rw [if_neg (by omega)]
    unfold dg
    by_cases h10 : n < 10
    · rw [if_pos h10, Lib.decDigits_one h10]
    · rw [if_neg h10, Lib.decDigits, dif_neg h10]
      have hd : n / 10 < 10 ^ k := by
        rw [Nat.pow_succ] at h
        omega
      rw [dg_is k (n / 10) hd, if_neg (by omega)]
theorem itoa_dg {n : Int} (h : okN n = true) : Lib.itoa n = dg 7 n.toNat := by
  have hok : 0 ≤ n ∧ n ≤ 1048576 := by simpa [okN] using h
  rw [Lib.itoa, if_neg (by omega), dg_is 7 n.toNat (by omega), if_neg (by omega)]

/-- The same, with digits as one may reckon them. -/
def wGo' : Nat → List (List UInt8) → List Int → List UInt8 → Option (List UInt8)
  | _, [], _, acc => some (acc ++ [10])
  | i, w :: ws, ns, acc =>
    if w = [78] then
      match ns with
      | [] => none
      | n :: r => if okN n = true then wGo' (i + 1) ws r ((if 0 < i then acc ++ [32] else acc) ++ dg 7 n.toNat) else none
    else wGo' (i + 1) ws ns ((if 0 < i then acc ++ [32] else acc) ++ w)
theorem wGo_eq : ∀ (ws : List (List UInt8)) (i : Nat) (ns : List Int) (acc : List UInt8), wGo i ws ns acc = wGo' i ws ns acc
  | [], i, ns, acc => rfl
  | w :: ws, i, ns, acc => by
    unfold wGo wGo'
    by_cases h78 : w = [78]
    · rw [if_pos h78, if_pos h78]
      cases ns with
      | nil => rfl
      | cons n r =>
        simp only
        by_cases hok : okN n = true
        · rw [if_pos hok, if_pos hok, itoa_dg hok]; exact wGo_eq ws _ _ _
        · rw [if_neg hok, if_neg hok]
    · rw [if_neg h78, if_neg h78]; exact wGo_eq ws _ _ _
def tasksOut' : List (Int × Int) → List UInt8 → Option (List UInt8)
  | [], acc => some acc
  | t :: ts, acc => (wGo' 0 (words taskForm) [t.1, t.2] acc).bind (tasksOut' ts)
def opsOut' : List Oz → List UInt8 → Option (List UInt8)
  | [], acc => some acc
  | o :: os, acc => (formOf o).bind fun m => (wGo' 0 (words m) (getN m o) acc).bind (opsOut' os)
theorem tasksOut_eq : ∀ (ts : List (Int × Int)) (acc : List UInt8), tasksOut ts acc = tasksOut' ts acc
  | [], acc => rfl
  | t :: ts, acc => by
    unfold tasksOut tasksOut' lineOut
    rw [wGo_eq]
    congr
    funext a
    exact tasksOut_eq ts a
theorem opsOut_eq : ∀ (os : List Oz) (acc : List UInt8), opsOut os acc = opsOut' os acc
  | [], acc => rfl
  | o :: os, acc => by
    unfold opsOut opsOut' lineOut
    congr
    funext m
    rw [wGo_eq]
    congr
    funext a
    exact opsOut_eq os a
def fileOut' (f : Fl) : Option (List UInt8) := (wGo' 0 (words cfgForm) f.cfg []).bind fun a => (tasksOut' f.tasks a).bind (opsOut' f.ops)
theorem fileOut_eq (f : Fl) : fileOut f = fileOut' f := by
  unfold fileOut fileOut' lineOut
  rw [wGo_eq]
  congr
  funext a
  rw [tasksOut_eq]
  congr
  funext b
  exact opsOut_eq _ b

end Go.Proofs.YtgjfhfjmdkhllaaDoor.M
