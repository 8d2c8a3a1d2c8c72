/- What the document says an operation's line is, beside what the program's table says. Plain mathematics. -/
import Derived.Test.YtgjfhfjmdkhllaaDoorBakM
namespace Go.Proofs.YtgjfhfjmdkhllaaDoor.M
set_option linter.unusedSimpArgs false
set_option linter.unusedVariables false
open Go.Proofs.YtgjfhfjmdkhllaaDoor

theorem nums_all : forms.map nums = [10, 2, 3, 1, 0, 0, 2, 2, 3, 1] := by decide +kernel
theorem nums_at : nums forms[2] = 3 ∧ nums forms[3] = 1 ∧ nums forms[4] = 0 ∧ nums forms[5] = 0 ∧ nums forms[6] = 2 ∧ nums forms[7] = 2 ∧ nums forms[8] = 3 ∧ nums forms[9] = 1 := ⟨by kernel_rfl, by kernel_rfl, by kernel_rfl, by kernel_rfl, by kernel_rfl, by kernel_rfl, by kernel_rfl, by kernel_rfl⟩
theorem isOp2 (o : Oz) : isOp forms[2] o = decide (o.kind = 1 ∧ o.d = 0) := by
  have hn := nums_at.1
  have hs : forms[2].says = 0 := rfl
  have hp : forms[2].part = 3 := rfl
  have hk : forms[2].kind = 1 := rfl
  unfold isOp opOf getN
  simp only [hn, hs, hp, hk]
  cases o with | mk k a b c d => simp [eq_comm]
theorem isOp3 (o : Oz) : isOp forms[3] o = decide (o.kind = 2 ∧ o.b = 0 ∧ o.c = 0 ∧ o.d = 0) := by
  have hn := nums_at.2.1
  have hs : forms[3].says = 0 := rfl
  have hp : forms[3].part = 3 := rfl
  have hk : forms[3].kind = 2 := rfl
  unfold isOp opOf getN
  simp only [hn, hs, hp, hk]
  cases o with | mk k a b c d => simp [eq_comm]
theorem isOp4 (o : Oz) : isOp forms[4] o = decide (o.kind = 3 ∧ o.a = 0 ∧ o.b = 0 ∧ o.c = 0 ∧ o.d = 0) := by
  have hn := nums_at.2.2.1
  have hs : forms[4].says = 0 := rfl
  have hp : forms[4].part = 3 := rfl
  have hk : forms[4].kind = 3 := rfl
  unfold isOp opOf getN
  simp only [hn, hs, hp, hk]
  cases o with | mk k a b c d => simp [eq_comm]
theorem isOp5 (o : Oz) : isOp forms[5] o = decide (o.kind = 4 ∧ o.a = 0 ∧ o.b = 0 ∧ o.c = 0 ∧ o.d = 0) := by
  have hn := nums_at.2.2.2.1
  have hs : forms[5].says = 0 := rfl
  have hp : forms[5].part = 3 := rfl
  have hk : forms[5].kind = 4 := rfl
  unfold isOp opOf getN
  simp only [hn, hs, hp, hk]
  cases o with | mk k a b c d => simp [eq_comm]
theorem isOp6 (o : Oz) : isOp forms[6] o = decide (o.kind = 5 ∧ o.c = 1 ∧ o.d = 0) := by
  have hn := nums_at.2.2.2.2.1
  have hs : forms[6].says = 1 := rfl
  have hp : forms[6].part = 3 := rfl
  have hk : forms[6].kind = 5 := rfl
  unfold isOp opOf getN
  simp only [hn, hs, hp, hk]
  cases o with | mk k a b c d => simp [eq_comm]
theorem isOp7 (o : Oz) : isOp forms[7] o = decide (o.kind = 5 ∧ o.c = 2 ∧ o.d = 0) := by
  have hn := nums_at.2.2.2.2.2.1
  have hs : forms[7].says = 2 := rfl
  have hp : forms[7].part = 3 := rfl
  have hk : forms[7].kind = 5 := rfl
  unfold isOp opOf getN
  simp only [hn, hs, hp, hk]
  cases o with | mk k a b c d => simp [eq_comm]
theorem isOp8 (o : Oz) : isOp forms[8] o = decide (o.kind = 5 ∧ o.c = 3) := by
  have hn := nums_at.2.2.2.2.2.2.1
  have hs : forms[8].says = 3 := rfl
  have hp : forms[8].part = 3 := rfl
  have hk : forms[8].kind = 5 := rfl
  unfold isOp opOf getN
  simp only [hn, hs, hp, hk]
  cases o with | mk k a b c d => simp [eq_comm]
theorem isOp9 (o : Oz) : isOp forms[9] o = decide (o.kind = 6 ∧ o.b = 0 ∧ o.c = 0 ∧ o.d = 0) := by
  have hn := nums_at.2.2.2.2.2.2.2
  have hs : forms[9].says = 0 := rfl
  have hp : forms[9].part = 3 := rfl
  have hk : forms[9].kind = 6 := rfl
  unfold isOp opOf getN
  simp only [hn, hs, hp, hk]
  cases o with | mk k a b c d => simp [eq_comm]
theorem formOf_is (o : Oz) : formOf o = [forms[2], forms[3], forms[4], forms[5], forms[6], forms[7], forms[8], forms[9]].find? (fun m => isOp m o) := by
  have e : forms = cfgForm :: taskForm :: [forms[2], forms[3], forms[4], forms[5], forms[6], forms[7], forms[8], forms[9]] := rfl
  have h0 : isOp cfgForm o = false := by unfold isOp; simp [cfgForm]
  have h1 : isOp taskForm o = false := by unfold isOp; simp [taskForm]
  unfold formOf
  conv => lhs; rw [e]
  rw [List.find?_cons_of_neg (by simp [h0]), List.find?_cons_of_neg (by simp [h1])]

/-- All numbers of an operation that has a line are right. -/
theorem opGood_fields {o : Oz} (h : OpGood o) : okN o.a = true ∧ okN o.b = true ∧ okN o.c = true ∧ okN o.d = true := by
  obtain ⟨h1, hm, hp, h4, hok, h6⟩ := opGood_is h
  have hs := says_le hm
  rw [← h6]
  refine ⟨?_, ?_, ?_, ?_⟩
  · unfold opOf; simp only; split; exact getD_ok hok 0; exact okN_zero
  · unfold opOf; simp only; split; exact getD_ok hok 1; exact okN_zero
  · unfold opOf
    simp only
    split
    · split
      · exact getD_ok hok 2
      · exact okN_zero
    · exact okN_nat hs
  · unfold opOf
    simp only
    split
    · exact okN_zero
    · split
      · exact getD_ok hok 2
      · exact okN_zero
theorem getN_fields {o : Oz} (h : okN o.a = true ∧ okN o.b = true ∧ okN o.c = true ∧ okN o.d = true) (m : Fm) : ∀ n ∈ getN m o, okN n = true := by
  intro n hn
  unfold getN at hn
  have hn' := List.mem_of_mem_take hn
  simp only [List.mem_cons, List.not_mem_nil, or_false] at hn'
  rcases hn' with rfl | rfl | rfl
  · exact h.1
  · exact h.2.1
  · split
    · exact h.2.2.1
    · exact h.2.2.2

/-- What the document's own line is beside the table's. -/
def LineIs (o : Oz) (s : List UInt8) (b : Bool) : Prop := s.length ≤ 200 ∧ (b = true → OpGood o ∧ s = spell 0 (words (fmO o)) (getN (fmO o) o)) ∧ (b = false → ¬ OpGood o)
theorem lineIs_bad {o : Oz} (h : ¬ (okN o.a = true ∧ okN o.b = true ∧ okN o.c = true ∧ okN o.d = true)) : LineIs o [] false := ⟨by simp, (fun h => by cases h), fun _ hg => h (opGood_fields hg)⟩
theorem lineIs_at {o : Oz} (h : okN o.a = true ∧ okN o.b = true ∧ okN o.c = true ∧ okN o.d = true) {m : Fm} (hm : formOf o = some m) {s : List UInt8} (hs : s = spell 0 (words m) (getN m o)) (hl : s.length ≤ 200) : LineIs o s true := by
  have e : fmO o = m := by unfold fmO; rw [hm]; rfl
  exact ⟨hl, fun _ => ⟨⟨m, hm, getN_fields h m⟩, by rw [e]; exact hs⟩, (fun h => by cases h)⟩
theorem lineIs_no {o : Oz} (hm : formOf o = none) {s : List UInt8} (hl : s.length ≤ 200) : LineIs o s false := ⟨hl, (fun h => by cases h), fun _ hg => by
  obtain ⟨m, h, _⟩ := hg
  rw [hm] at h
  cases h⟩

end Go.Proofs.YtgjfhfjmdkhllaaDoor.M
