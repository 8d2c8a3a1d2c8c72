/- What the document's own Text holds as it goes. Plain mathematics. -/
import Derived.Test.YtgjfhfjmdkhllaaDoorTxsN
import Derived.Test.YtgjfhfjmdkhllaaDoorRefN
namespace Go.Proofs.YtgjfhfjmdkhllaaDoor.M
set_option linter.unusedSimpArgs false
set_option linter.unusedVariables false
open Go.Proofs.YtgjfhfjmdkhllaaDoor

def cfgPre (cfg : List Int) (k : Nat) : List UInt8 := wConfig ++ ((names.zip cfg).take k).flatMap (fun p => [32] ++ p.1 ++ [32] ++ Lib.itoa p.2)
theorem cfgPre_snoc (cfg : List Int) (hc : cfg.length = 10) (k : Nat) (hk : k < 10) : cfgPre cfg (k + 1) = cfgPre cfg k ++ [32] ++ names[k]'(by exact hk) ++ [32] ++ Lib.itoa (cfg[k]'(by omega)) := by
  have hn : names.length = 10 := rfl
  have hz : k < (names.zip cfg).length := by rw [List.length_zip]; omega
  unfold cfgPre
  rw [List.take_succ_eq_append_getElem hz, List.flatMap_append]
  simp
  rfl
theorem cfgPre_ten (x0 x1 x2 x3 x4 x5 x6 x7 x8 x9 : Int) : cfgPre [x0, x1, x2, x3, x4, x5, x6, x7, x8, x9] 10 ++ [10] = spell 0 (words cfgForm) [x0, x1, x2, x3, x4, x5, x6, x7, x8, x9] := by
  have hw : words cfgForm = [wConfig, names[0], [78], names[1], [78], names[2], [78], names[3], [78], names[4], [78], names[5], [78], names[6], [78], names[7], [78], names[8], [78], names[9], [78]] := by kernel_rfl
  rw [hw]
  unfold cfgPre
  simp [spell, names, wConfig]

def fits (f : Fl) : Prop := f.tasks.length ≤ 64 ∧ f.ops.length ≤ 4096
/-- What holds in the loop over the config's numbers. -/
def CfgInv (f : Fl) (k : Nat) (S : ByteArray) (ok : Bool) : Prop := S.size ≤ 100 + 100 * k ∧ (ok = true → fits f ∧ (∀ j (h : j < k) (hj : j < f.cfg.length), okN f.cfg[j] = true) ∧ S.data.toList = cfgPre f.cfg k) ∧ (ok = false → textF f = none)
def TasInv (f : Fl) (k : Nat) (S : ByteArray) (ok : Bool) : Prop := S.size ≤ 2000 + 100 * k ∧ (ok = true → fits f ∧ (∀ n ∈ f.cfg, okN n = true) ∧ (∀ t ∈ f.tasks.take k, okN t.1 = true ∧ okN t.2 = true) ∧ S.data.toList = spell 0 (words cfgForm) f.cfg ++ tasksB (f.tasks.take k)) ∧ (ok = false → textF f = none)
def OpsInv (f : Fl) (k : Nat) (S : ByteArray) (ok : Bool) : Prop := S.size ≤ 20000 + 300 * k ∧ (ok = true → fits f ∧ (∀ n ∈ f.cfg, okN n = true) ∧ (∀ t ∈ f.tasks, okN t.1 = true ∧ okN t.2 = true) ∧ (∀ o ∈ f.ops.take k, OpGood o) ∧ S.data.toList = spell 0 (words cfgForm) f.cfg ++ tasksB f.tasks ++ opsB (f.ops.take k)) ∧ (ok = false → textF f = none)

theorem no_text {f : Fl} (hc : f.cfg.length = 10) (h : ¬ (fits f ∧ Gd f)) : textF f = none := by
  unfold textF
  split
  · rfl
  · rename_i hl
    cases hf : fileOut f with
    | none => rfl
    | some r => exact absurd ⟨⟨by omega, by omega⟩, (fileOut_gd hc hf).1⟩ h

theorem cfg_start (f : Fl) (hc : f.cfg.length = 10) (ok : Bool) (hok : ok = true ↔ fits f) : CfgInv f 0 ⟨#[99, 111, 110, 102, 105, 103]⟩ ok := by
  refine ⟨by decide, fun h => ⟨hok.1 h, fun j hj => by omega, rfl⟩, fun h => no_text hc (fun hg => ?_)⟩
  have := hok.2 hg.1
  rw [h] at this
  cases this
theorem cfg_bad {f : Fl} (hc : f.cfg.length = 10) {k : Nat} (hk : k < f.cfg.length) (hx : okN f.cfg[k] = false) : textF f = none :=
  no_text hc (fun hg => by have := hg.2.cfg _ (List.getElem_mem hk); rw [hx] at this; cases this)
theorem cfg_step {f : Fl} (hc : f.cfg.length = 10) {k : Nat} (hk : k < 10) {S S' : ByteArray} {ok : Bool} (h : CfgInv f k S ok) (hx : okN (f.cfg[k]'(by omega)) = true) (hz : S'.size ≤ 100 + 100 * (k + 1)) (hS : S'.data.toList = S.data.toList ++ [32] ++ names[k]'(by exact hk) ++ [32] ++ Lib.itoa (f.cfg[k]'(by omega))) : CfgInv f (k + 1) S' ok := by
  obtain ⟨h1, h2, h3⟩ := h
  refine ⟨hz, fun e => ?_, h3⟩
  obtain ⟨q1, q2, q3⟩ := h2 e
  refine ⟨q1, fun j hj hj2 => ?_, ?_⟩
  · by_cases e : j = k
    · subst e; exact hx
    · exact q2 j (by omega) hj2
  · rw [hS, q3, cfgPre_snoc f.cfg hc k hk]
theorem cfg_no {f : Fl} {k k' : Nat} {S S' : ByteArray} (hn : textF f = none) (hz : S'.size ≤ 100 + 100 * k') : CfgInv f k' S' false := ⟨hz, (fun e => by cases e), fun _ => hn⟩
theorem cfg_end {f : Fl} {x0 x1 x2 x3 x4 x5 x6 x7 x8 x9 : Int} (hcf : f.cfg = [x0, x1, x2, x3, x4, x5, x6, x7, x8, x9]) {S S' : ByteArray} {ok : Bool} (h : CfgInv f 10 S ok) (hz : S'.size = S.size + 1) (hS : S'.data.toList = S.data.toList ++ [10]) : TasInv f 0 S' ok := by
  obtain ⟨h1, h2, h3⟩ := h
  refine ⟨by omega, fun e => ?_, h3⟩
  obtain ⟨q1, q2, q3⟩ := h2 e
  refine ⟨q1, fun n hn => ?_, by simp, ?_⟩
  · obtain ⟨j, hj, rfl⟩ := List.getElem_of_mem hn
    exact q2 j (by rw [hcf] at hj; simpa using hj) hj
  · rw [hS, q3, hcf, cfgPre_ten]
    simp [tasksB]
theorem tas_no {f : Fl} {k' : Nat} {S' : ByteArray} (hn : textF f = none) (hz : S'.size ≤ 2000 + 100 * k') : TasInv f k' S' false := ⟨hz, (fun e => by cases e), fun _ => hn⟩
theorem tas_bad {f : Fl} (hc : f.cfg.length = 10) {k : Nat} (hk : k < f.tasks.length) (hx : okN f.tasks[k].1 = false ∨ okN f.tasks[k].2 = false) : textF f = none :=
  no_text hc (fun hg => by
    have := hg.2.ts _ (List.getElem_mem hk)
    rcases hx with hx | hx
    · rw [hx] at this; cases this.1
    · rw [hx] at this; cases this.2)
theorem tas_step {f : Fl} {k : Nat} (hk : k < f.tasks.length) {S S' : ByteArray} {ok : Bool} (h : TasInv f k S ok) (h1 : okN f.tasks[k].1 = true) (h2 : okN f.tasks[k].2 = true) (hz : S'.size ≤ 2000 + 100 * (k + 1)) (hS : S'.data.toList = S.data.toList ++ wTask ++ [32] ++ Lib.itoa f.tasks[k].1 ++ [32] ++ Lib.itoa f.tasks[k].2 ++ [10]) : TasInv f (k + 1) S' ok := by
  obtain ⟨g1, g2, g3⟩ := h
  refine ⟨hz, fun e => ?_, g3⟩
  obtain ⟨q1, q2, q3, q4⟩ := g2 e
  have et : f.tasks.take (k + 1) = f.tasks.take k ++ [f.tasks[k]] := List.take_succ_eq_append_getElem hk
  refine ⟨q1, q2, ?_, ?_⟩
  · rw [et]
    intro t ht
    rcases List.mem_append.1 ht with ht | ht
    · exact q3 t ht
    · simp at ht
      subst ht
      exact ⟨h1, h2⟩
  · have hw : words taskForm = [wTask, [78], [78]] := by kernel_rfl
    rw [hS, q4, et]
    unfold tasksB
    rw [List.flatMap_append, hw]
    simp [spell, wTask]
theorem tas_end {f : Fl} {k : Nat} (hk : k = f.tasks.length) (hl : f.tasks.length ≤ 100) {S : ByteArray} {ok : Bool} (h : TasInv f k S ok) : OpsInv f 0 S ok := by
  obtain ⟨g1, g2, g3⟩ := h
  refine ⟨by omega, fun e => ?_, g3⟩
  obtain ⟨q1, q2, q3, q4⟩ := g2 e
  rw [hk, List.take_length] at q3 q4
  exact ⟨q1, q2, q3, by simp, by simpa [opsB] using q4⟩
theorem tas_stop {f : Fl} {k : Nat} (hk : 65 ≤ f.tasks.length) {S : ByteArray} (hz : S.size ≤ 20000) (h : TasInv f k S false) : OpsInv f 0 S false := ⟨by omega, (fun e => by cases e), h.2.2⟩
theorem tas_fits {f : Fl} {k : Nat} {S : ByteArray} {ok : Bool} (h : TasInv f k S ok) (hl : 64 < f.tasks.length) : ok = false := by
  cases ok with
  | false => rfl
  | true => have := (h.2.1 rfl).1.1; omega
theorem ops_step {f : Fl} (hc : f.cfg.length = 10) {k : Nat} (hk : k < f.ops.length) {S S' T : ByteArray} {ok b : Bool} (h : OpsInv f k S ok) (hL : LineIs f.ops[k] T.data.toList b) (hz : S'.size ≤ 20000 + 300 * (k + 1)) (hS : S'.data.toList = S.data.toList ++ T.data.toList) : OpsInv f (k + 1) S' (ok && b) := by
  obtain ⟨g1, g2, g3⟩ := h
  obtain ⟨l1, l2, l3⟩ := hL
  have eo : f.ops.take (k + 1) = f.ops.take k ++ [f.ops[k]] := List.take_succ_eq_append_getElem hk
  cases b with
  | false =>
    refine ⟨hz, (fun e => by simp at e), fun _ => no_text hc (fun hg => l3 rfl (hg.2.os _ (List.getElem_mem hk)))⟩
  | true =>
    rw [Bool.and_true]
    refine ⟨hz, fun e => ?_, g3⟩
    obtain ⟨q1, q2, q3, q4, q5⟩ := g2 e
    obtain ⟨r1, r2⟩ := l2 rfl
    refine ⟨q1, q2, q3, ?_, ?_⟩
    · rw [eo]
      intro o ho
      rcases List.mem_append.1 ho with ho | ho
      · exact q4 o ho
      · simp at ho
        subst ho
        exact r1
    · rw [hS, q5, r2, eo]
      unfold opsB
      rw [List.flatMap_append]
      simp
theorem ops_end {f : Fl} (hc : f.cfg.length = 10) {k : Nat} (hk : k = f.ops.length) {S : ByteArray} {ok : Bool} (h : OpsInv f k S ok) : textF f = if ok = true then some S.data.toList else none := by
  obtain ⟨g1, g2, g3⟩ := h
  cases ok with
  | false => exact g3 rfl
  | true =>
    obtain ⟨q1, q2, q3, q4, q5⟩ := g2 rfl
    rw [hk, List.take_length] at q4 q5
    have hg : Gd f := ⟨hc, q2, q3, q4⟩
    unfold textF
    rw [if_neg (by have := q1.1; have := q1.2; omega), fileOut_is hg, q5]
    rfl

end Go.Proofs.YtgjfhfjmdkhllaaDoor.M
