/- What lines, files and texts of package parse are, as plain mathematics: the table of forms, how far a line follows one, a file's lines (nothing of the program). -/
import Derived.Test.YtgjfhfjmdkhllaaDoorLexM
import Derived.Test.YtgjfhfjmdkhllaaDoorNumM
import Derived.Lib.FieldsLaws
namespace Go.Proofs.YtgjfhfjmdkhllaaDoor.M
open Go.Proofs.YtgjfhfjmdkhllaaDoor (pE pV)

structure Fm where
  text : List UInt8
  part : Nat
  kind : Nat
  says : Nat
def forms : List Fm := [
  ⟨[99, 111, 110, 102, 105, 103, 32, 98, 117, 100, 103, 101, 116, 32, 78, 32, 115, 108, 111, 116, 115, 32, 78, 32, 97, 99, 116, 105, 118, 101, 32, 78, 32, 113, 117, 101, 117, 101, 32, 78, 32, 116, 114, 105, 101, 115, 32, 78, 32, 112, 114, 101, 101, 109, 112, 116, 115, 32, 78, 32, 116, 105, 109, 101, 111, 117, 116, 32, 78, 32, 98, 97, 99, 107, 111, 102, 102, 32, 78, 32, 109, 111, 115, 116, 32, 78, 32, 113, 117, 97, 110, 116, 117, 109, 32, 78], 1, 0, 0⟩,
  ⟨[116, 97, 115, 107, 32, 78, 32, 78], 2, 0, 0⟩,
  ⟨[115, 117, 98, 109, 105, 116, 32, 78, 32, 78, 32, 78], 3, 1, 0⟩,
  ⟨[99, 97, 110, 99, 101, 108, 32, 78], 3, 2, 0⟩,
  ⟨[116, 105, 99, 107], 3, 3, 0⟩,
  ⟨[100, 105, 115, 112, 97, 116, 99, 104], 3, 4, 0⟩,
  ⟨[97, 110, 115, 119, 101, 114, 32, 78, 32, 78, 32, 100, 105, 100], 3, 5, 1⟩,
  ⟨[97, 110, 115, 119, 101, 114, 32, 78, 32, 78, 32, 102, 97, 105, 108], 3, 5, 2⟩,
  ⟨[97, 110, 115, 119, 101, 114, 32, 78, 32, 78, 32, 110, 101, 101, 100, 32, 78], 3, 5, 3⟩,
  ⟨[113, 117, 101, 114, 121, 32, 78], 3, 6, 0⟩]
def noForm : Fm := ⟨[], 0, 0, 0⟩
/-- The words of a form. -/
def words (m : Fm) : List (List UInt8) := Lib.fields m.text
/-- The words, and the End's. -/
def wants (m : Fm) : List (List UInt8) := words m ++ [[]]
def nums (m : Fm) : Nat := m.text.count 78

theorem words_all : forms.map words = [
  [[99, 111, 110, 102, 105, 103], [98, 117, 100, 103, 101, 116], [78], [115, 108, 111, 116, 115], [78], [97, 99, 116, 105, 118, 101], [78], [113, 117, 101, 117, 101], [78], [116, 114, 105, 101, 115], [78], [112, 114, 101, 101, 109, 112, 116, 115], [78], [116, 105, 109, 101, 111, 117, 116], [78], [98, 97, 99, 107, 111, 102, 102], [78], [109, 111, 115, 116], [78], [113, 117, 97, 110, 116, 117, 109], [78]],
  [[116, 97, 115, 107], [78], [78]],
  [[115, 117, 98, 109, 105, 116], [78], [78], [78]],
  [[99, 97, 110, 99, 101, 108], [78]],
  [[116, 105, 99, 107]],
  [[100, 105, 115, 112, 97, 116, 99, 104]],
  [[97, 110, 115, 119, 101, 114], [78], [78], [100, 105, 100]],
  [[97, 110, 115, 119, 101, 114], [78], [78], [102, 97, 105, 108]],
  [[97, 110, 115, 119, 101, 114], [78], [78], [110, 101, 101, 100], [78]],
  [[113, 117, 101, 114, 121], [78]]] := by decide +kernel

structure Fo where
  ns : List Int
  far : Nat
  err : Int
/-- How far a line follows wanted words: the numbers, how many tokens, the error of the next. -/
def fol : List (List UInt8) → List Tok → Nat → List Int → Fo
  | _, [], i, acc => ⟨acc, i, 0⟩
  | [], _ :: _, i, _ => ⟨[], i, 2⟩
  | w :: ws, t :: ts, i, acc =>
    if w = [78] then (if pE t.text = 0 then fol ws ts (i + 1) (acc ++ [pV t.text]) else ⟨[], i, pE t.text⟩)
    else if t.text = w then fol ws ts (i + 1) acc else ⟨[], i, 2⟩

structure Nr where
  m : Fm
  ns : List Int
  err : Int
  far : Nat
def nearStep (line : List Tok) (a : Nr) (m : Fm) : Nr :=
  let r := fol (wants m) line 0 []
  if a.far < r.far then ⟨m, r.ns, r.err, r.far⟩ else a
def nearFrom (line : List Tok) (a : Nr) (l : List Fm) : Nr := l.foldl (nearStep line) a
def near (line : List Tok) : Nr := nearFrom line ⟨noForm, [], 0, 0⟩ forms

structure Oz where
  kind : Int
  a : Int
  b : Int
  c : Int
  d : Int
structure Fl where
  cfg : List Int
  tasks : List (Int × Int)
  ops : List Oz
def zeros : List Int := [0, 0, 0, 0, 0, 0, 0, 0, 0, 0]
def noFile : Fl := ⟨zeros, [], []⟩

/-- The operation of a form with these numbers. -/
def opOf (m : Fm) (ns : List Int) : Oz :=
  ⟨m.kind, if 0 < nums m then ns.getD 0 0 else 0, if 1 < nums m then ns.getD 1 0 else 0,
    if m.says = 0 then (if 2 < nums m then ns.getD 2 0 else 0) else m.says, if m.says = 0 then 0 else (if 2 < nums m then ns.getD 2 0 else 0)⟩

def mayStand (f : Fl) (part : Nat) (first : Bool) : Bool :=
  if part = 1 then first else if part = 2 then !first && f.ops.isEmpty else if part = 3 then !first else false
def isFull (f : Fl) (part : Nat) : Bool := (part == 2 && f.tasks.length == 64) || (part == 3 && f.ops.length == 4096)
/-- The error of a line: 0 none. -/
def lineErr (f : Fl) (line : List Tok) (first : Bool) : Int :=
  if mayStand f (near line).m.part first = false then 2 else if isFull f (near line).m.part = true then 4 else (near line).err
/-- A file with a line that is right. -/
def lineAdd (f : Fl) (line : List Tok) : Fl :=
  if (near line).m.part = 1 then { f with cfg := (near line).ns }
  else if (near line).m.part = 2 then { f with tasks := f.tasks ++ [((near line).ns.getD 0 0, (near line).ns.getD 1 0)] }
  else { f with ops := f.ops ++ [opOf (near line).m (near line).ns] }

/-- Where the first End stands. -/
def endAt (ts : List Tok) : Nat := ts.findIdx (fun t => t.kind == 3)
/-- The file of tokens, or the line that is wrong and its error. -/
def fileGo : Nat → Fl → Bool → List Tok → Except (Nat × Int) Fl
  | 0, f, _, _ => .ok f
  | n + 1, f, first, ts =>
    if ts = [] then .ok f
    else
      let line := ts.take (endAt ts + 1)
      if lineErr f line first = 0 then fileGo n (lineAdd f line) false (ts.drop (endAt ts + 1))
      else .error ((ts.headD ⟨0, [], 0⟩).line, lineErr f line first)
structure Rd where
  file : Fl
  line : Nat
  err : Int
def readOf : Except (Nat × Int) Fl → Rd
  | .ok f => ⟨f, 0, 0⟩
  | .error e => ⟨noFile, e.1, e.2⟩
def parseF (bs : List UInt8) : Rd :=
  if (lexF bs).2.2 = 0 then (if (lexF bs).1 = [] then ⟨noFile, 0, 2⟩ else readOf (fileGo (lexF bs).1.length noFile true (lexF bs).1))
  else ⟨noFile, (lexF bs).2.1, (lexF bs).2.2⟩

/-- A token as Lex makes it: an End, just if it has no bytes. -/
def TokOk (t : Tok) : Prop := (t.kind = 3 ↔ t.text = []) ∧ t.text.length ≤ 65536
/-- A line: its last token is its one End. -/
def LineOk (line : List Tok) : Prop := (∀ t ∈ line, TokOk t) ∧ ∃ i e, line = i ++ [e] ∧ e.kind = 3 ∧ ∀ t ∈ i, t.kind ≠ 3

theorem wants_last (m : Fm) : wants m = words m ++ [[]] := rfl

theorem line_end {line : List Tok} (hl : LineOk line) {i : Nat} (hi : i < line.length) (ht : line[i].text = []) : i + 1 = line.length := by
  obtain ⟨hok, q, e, rfl, he, hq⟩ := hl
  have h3 : (q ++ [e])[i].kind = 3 := (hok _ (List.getElem_mem hi)).1.2 ht
  simp only [List.length_append, List.length_cons, List.length_nil] at hi ⊢
  by_cases h : i < q.length
  · rw [List.getElem_append_left h] at h3
    exact absurd h3 (hq _ (List.getElem_mem h))
  · omega

end Go.Proofs.YtgjfhfjmdkhllaaDoor.M
