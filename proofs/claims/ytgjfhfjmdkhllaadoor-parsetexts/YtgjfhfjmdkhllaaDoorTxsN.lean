/- An operation's form by its kind, and its line spelt. Plain mathematics. -/
import Derived.Test.YtgjfhfjmdkhllaaDoorTxsM
namespace Go.Proofs.YtgjfhfjmdkhllaaDoor.M
set_option linter.unusedSimpArgs false
set_option linter.unusedVariables false
open Go.Proofs.YtgjfhfjmdkhllaaDoor

theorem find8 (o : Oz) : formOf o = if isOp forms[2] o = true then some forms[2] else if isOp forms[3] o = true then some forms[3] else if isOp forms[4] o = true then some forms[4] else if isOp forms[5] o = true then some forms[5] else if isOp forms[6] o = true then some forms[6] else if isOp forms[7] o = true then some forms[7] else if isOp forms[8] o = true then some forms[8] else if isOp forms[9] o = true then some forms[9] else none := by
  rw [formOf_is]
  simp only [List.find?_cons, List.find?_nil]
  cases isOp forms[2] o <;> cases isOp forms[3] o <;> cases isOp forms[4] o <;> cases isOp forms[5] o <;> cases isOp forms[6] o <;> cases isOp forms[7] o <;> cases isOp forms[8] o <;> cases isOp forms[9] o <;> rfl
theorem fo1 {o : Oz} (h : o.kind = 1) : formOf o = if o.d = 0 then some forms[2] else none := by
  rw [find8, isOp2, isOp3, isOp4, isOp5, isOp6, isOp7, isOp8, isOp9]; simp [h]
theorem fo2 {o : Oz} (h : o.kind = 2) : formOf o = if o.b = 0 ∧ o.c = 0 ∧ o.d = 0 then some forms[3] else none := by
  rw [find8, isOp2, isOp3, isOp4, isOp5, isOp6, isOp7, isOp8, isOp9]; simp [h]
theorem fo3 {o : Oz} (h : o.kind = 3) : formOf o = if o.a = 0 ∧ o.b = 0 ∧ o.c = 0 ∧ o.d = 0 then some forms[4] else none := by
  rw [find8, isOp2, isOp3, isOp4, isOp5, isOp6, isOp7, isOp8, isOp9]; simp [h]
theorem fo4 {o : Oz} (h : o.kind = 4) : formOf o = if o.a = 0 ∧ o.b = 0 ∧ o.c = 0 ∧ o.d = 0 then some forms[5] else none := by
  rw [find8, isOp2, isOp3, isOp4, isOp5, isOp6, isOp7, isOp8, isOp9]; simp [h]
theorem fo6 {o : Oz} (h : o.kind = 6) : formOf o = if o.b = 0 ∧ o.c = 0 ∧ o.d = 0 then some forms[9] else none := by
  rw [find8, isOp2, isOp3, isOp4, isOp5, isOp6, isOp7, isOp8, isOp9]; simp [h]
theorem fo51 {o : Oz} (h : o.kind = 5) (hc : o.c = 1) : formOf o = if o.d = 0 then some forms[6] else none := by
  rw [find8, isOp2, isOp3, isOp4, isOp5, isOp6, isOp7, isOp8, isOp9]; simp [h, hc]
theorem fo52 {o : Oz} (h : o.kind = 5) (hc : o.c = 2) : formOf o = if o.d = 0 then some forms[7] else none := by
  rw [find8, isOp2, isOp3, isOp4, isOp5, isOp6, isOp7, isOp8, isOp9]; simp [h, hc]
theorem fo53 {o : Oz} (h : o.kind = 5) (h1 : o.c ≠ 1) (h2 : o.c ≠ 2) : formOf o = if o.c = 3 then some forms[8] else none := by
  rw [find8, isOp2, isOp3, isOp4, isOp5, isOp6, isOp7, isOp8, isOp9]; simp [h, h1, h2]
theorem fo0 {o : Oz} (h1 : o.kind ≠ 1) (h2 : o.kind ≠ 2) (h3 : o.kind ≠ 3) (h4 : o.kind ≠ 4) (h5 : o.kind ≠ 5) (h6 : o.kind ≠ 6) : formOf o = none := by
  rw [find8, isOp2, isOp3, isOp4, isOp5, isOp6, isOp7, isOp8, isOp9]; simp [h1, h2, h3, h4, h5, h6]

theorem wordsAt : words forms[2] = [wSubmit, [78], [78], [78]] ∧ words forms[3] = [wCancel, [78]] ∧ words forms[4] = [wTick] ∧ words forms[5] = [wDispatch] ∧ words forms[9] = [wQuery, [78]] := ⟨by kernel_rfl, by kernel_rfl, by kernel_rfl, by kernel_rfl, by kernel_rfl⟩
theorem sp2 (o : Oz) : spell 0 (words forms[2]) (getN forms[2] o) = wSubmit ++ [32] ++ Lib.itoa o.a ++ [32] ++ Lib.itoa o.b ++ [32] ++ Lib.itoa o.c ++ [10] := by
  have hs : forms[2].says = 0 := rfl
  rw [wordsAt.1]; unfold getN; rw [nums_at.1, hs]; simp [spell, wSubmit]
theorem sp3 (o : Oz) : spell 0 (words forms[3]) (getN forms[3] o) = wCancel ++ [32] ++ Lib.itoa o.a ++ [10] := by
  rw [wordsAt.2.1]; unfold getN; rw [nums_at.2.1]; simp [spell, wCancel]
theorem sp4 (o : Oz) : spell 0 (words forms[4]) (getN forms[4] o) = wTick ++ [10] := by
  rw [wordsAt.2.2.1]; simp [spell, wTick]
theorem sp5 (o : Oz) : spell 0 (words forms[5]) (getN forms[5] o) = wDispatch ++ [10] := by
  rw [wordsAt.2.2.2.1]; simp [spell, wDispatch]
theorem sp9 (o : Oz) : spell 0 (words forms[9]) (getN forms[9] o) = wQuery ++ [32] ++ Lib.itoa o.a ++ [10] := by
  rw [wordsAt.2.2.2.2]; unfold getN; rw [nums_at.2.2.2.2.2.2.2]; simp [spell, wQuery]
theorem sp6 (o : Oz) : spell 0 (words forms[6]) (getN forms[6] o) = wAnswer ++ [32] ++ Lib.itoa o.a ++ [32] ++ Lib.itoa o.b ++ [32] ++ wDid ++ [10] := by
  rw [words678.1]; unfold getN; rw [nums_at.2.2.2.2.1]; simp [spell, wAnswer, wDid]
theorem sp7 (o : Oz) : spell 0 (words forms[7]) (getN forms[7] o) = wAnswer ++ [32] ++ Lib.itoa o.a ++ [32] ++ Lib.itoa o.b ++ [32] ++ wFail ++ [10] := by
  rw [words678.2.1]; unfold getN; rw [nums_at.2.2.2.2.2.1]; simp [spell, wAnswer, wFail]
theorem sp8 (o : Oz) : spell 0 (words forms[8]) (getN forms[8] o) = wAnswer ++ [32] ++ Lib.itoa o.a ++ [32] ++ Lib.itoa o.b ++ [32] ++ wNeed ++ [32] ++ Lib.itoa o.d ++ [10] := by
  have hs : forms[8].says = 3 := rfl
  rw [words678.2.2]; unfold getN; rw [nums_at.2.2.2.2.2.2.1, hs]; simp [spell, wAnswer, wNeed]

end Go.Proofs.YtgjfhfjmdkhllaaDoor.M
