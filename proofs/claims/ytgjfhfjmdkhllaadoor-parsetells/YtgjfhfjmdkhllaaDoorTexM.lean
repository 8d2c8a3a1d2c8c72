/- What a file's text is, as plain mathematics (nothing of the program). -/
import Derived.Test.YtgjfhfjmdkhllaaDoorParN
import Derived.Lib.ItoaLen
namespace Go.Proofs.YtgjfhfjmdkhllaaDoor.M
set_option linter.unusedSimpArgs false
set_option linter.unusedVariables false
open Go.Proofs.YtgjfhfjmdkhllaaDoor

def okN (n : Int) : Bool := decide (0 ≤ n ∧ n ≤ 1048576)
/-- A line behind what is written: its words from the i-th on; none, if a number is not right. -/
def wGo : Nat → List (List UInt8) → List Int → List UInt8 → Option (List UInt8)
  | _, [], _, acc => some (acc ++ [10])
  | i, w :: ws, ns, acc =>
    if w = [78] then
      match ns with
      | [] => none
      | n :: r => if okN n = true then wGo (i + 1) ws r ((if 0 < i then acc ++ [32] else acc) ++ Lib.itoa n) else none
    else wGo (i + 1) ws ns ((if 0 < i then acc ++ [32] else acc) ++ w)
def lineOut (m : Fm) (ns : List Int) (acc : List UInt8) : Option (List UInt8) := wGo 0 (words m) ns acc

/-- The numbers of an operation that a form tells. -/
def getN (m : Fm) (o : Oz) : List Int := [o.a, o.b, if m.says = 0 then o.c else o.d].take (nums m)
def isOp (m : Fm) (o : Oz) : Bool := decide (m.part = 3) && decide ((opOf m (getN m o)).kind = o.kind ∧ (opOf m (getN m o)).a = o.a ∧ (opOf m (getN m o)).b = o.b ∧ (opOf m (getN m o)).c = o.c ∧ (opOf m (getN m o)).d = o.d)
def formOf (o : Oz) : Option Fm := forms.find? (fun m => isOp m o)

def cfgForm : Fm := ⟨[99, 111, 110, 102, 105, 103, 32, 98, 117, 100, 103, 101, 116, 32, 78, 32, 115, 108, 111, 116, 115, 32, 78, 32, 97, 99, 116, 105, 118, 101, 32, 78, 32, 113, 117, 101, 117, 101, 32, 78, 32, 116, 114, 105, 101, 115, 32, 78, 32, 112, 114, 101, 101, 109, 112, 116, 115, 32, 78, 32, 116, 105, 109, 101, 111, 117, 116, 32, 78, 32, 98, 97, 99, 107, 111, 102, 102, 32, 78, 32, 109, 111, 115, 116, 32, 78, 32, 113, 117, 97, 110, 116, 117, 109, 32, 78], 1, 0, 0⟩
def taskForm : Fm := ⟨[116, 97, 115, 107, 32, 78, 32, 78], 2, 0, 0⟩
def tasksOut : List (Int × Int) → List UInt8 → Option (List UInt8)
  | [], acc => some acc
  | t :: ts, acc => (lineOut taskForm [t.1, t.2] acc).bind (tasksOut ts)
def opsOut : List Oz → List UInt8 → Option (List UInt8)
  | [], acc => some acc
  | o :: os, acc => (formOf o).bind fun m => (lineOut m (getN m o) acc).bind (opsOut os)
def fileOut (f : Fl) : Option (List UInt8) := (lineOut cfgForm f.cfg []).bind fun a => (tasksOut f.tasks a).bind (opsOut f.ops)
/-- The text, and the error. -/
def textF (f : Fl) : Option (List UInt8) := if 64 < f.tasks.length ∨ 4096 < f.ops.length then none else fileOut f

theorem forms_head : forms = cfgForm :: taskForm :: forms.drop 2 := rfl

end Go.Proofs.YtgjfhfjmdkhllaaDoor.M
