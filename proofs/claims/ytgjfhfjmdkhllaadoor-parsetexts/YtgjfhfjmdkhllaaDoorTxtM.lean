/- What the document says an operation's line and a text are, beside what the program's table says. Plain mathematics. -/
import Derived.Test.YtgjfhfjmdkhllaaDoorBacM
import Derived.Test.YtgjfhfjmdkhllaaDoorNam
namespace Go.Proofs.YtgjfhfjmdkhllaaDoor.M
set_option linter.unusedSimpArgs false
set_option linter.unusedVariables false
open Go.Proofs.YtgjfhfjmdkhllaaDoor

theorem says_leT {m : Fm} (hm : m ∈ forms) : m.says ≤ 3 := by
  have h : forms.all (fun m => decide (m.says ≤ 3)) = true := by decide +kernel
  simpa using List.all_eq_true.1 h m hm
theorem okN_natT {k : Nat} (h : k ≤ 3) : okN (k : Int) = true := by
  simp only [okN, decide_eq_true_eq]; omega
theorem okN_zeroT : okN 0 = true := by decide
theorem getD_okT {ns : List Int} (h : ∀ n ∈ ns, okN n = true) (i : Nat) : okN (ns.getD i 0) = true := by
  rw [List.getD_eq_getElem?_getD]
  cases hg : ns[i]? with
  | none => exact okN_zeroT
  | some x => exact h x (List.mem_of_getElem? hg)
theorem nums_all : forms.map nums = [10, 2, 3, 1, 0, 0, 2, 2, 3, 1] := by decide +kernel
theorem nums_at : nums forms[2] = 3 ∧ nums forms[3] = 1 ∧ nums forms[4] = 0 ∧ nums forms[5] = 0 ∧ nums forms[6] = 2 ∧ nums forms[7] = 2 ∧ nums forms[8] = 3 ∧ nums forms[9] = 1 := ⟨by kernel_rfl, by kernel_rfl, by kernel_rfl, by kernel_rfl, by kernel_rfl, by kernel_rfl, by kernel_rfl, by kernel_rfl⟩
theorem isOp2 (o : Oz) : isOp forms[2] o = decide (o.kind = 1 ∧ o.d = 0) := by
  have hn := nums_at.1
  have hs : forms[2].says = 0 := rfl
  have hp : forms[2].part = 3 := rfl
  have hk : forms[2].kind = 1 := rfl
  unfold isOp opOf getN
  simp only [hn, hs, hp, hk]
  cases o with | mk k a b c d => simp [eq_comm]
theorem isOp3 (o : Oz) : isOp forms[3] o = decide (o.kind = 2 ∧ o.b = 0 ∧ o.c = 0 ∧ o.d = 0) := by
  have hn := nums_at.2.1
  have hs : forms[3].says = 0 := rfl
  have hp : forms[3].part = 3 := rfl
  have hk : forms[3].kind = 2 := rfl
  unfold isOp opOf getN
  simp only [hn, hs, hp, hk]
  cases o with | mk k a b c d => simp [eq_comm]
theorem isOp4 (o : Oz) : isOp forms[4] o = decide (o.kind = 3 ∧ o.a = 0 ∧ o.b = 0 ∧ o.c = 0 ∧ o.d = 0) := by
  have hn := nums_at.2.2.1
  have hs : forms[4].says = 0 := rfl
  have hp : forms[4].part = 3 := rfl
  have hk : forms[4].kind = 3 := rfl
  unfold isOp opOf getN
  simp only [hn, hs, hp, hk]
  cases o with | mk k a b c d => simp [eq_comm]
theorem isOp5 (o : Oz) : isOp forms[5] o = decide (o.kind = 4 ∧ o.a = 0 ∧ o.b = 0 ∧ o.c = 0 ∧ o.d = 0) := by
  have hn := nums_at.2.2.2.1
  have hs : forms[5].says = 0 := rfl
  have hp : forms[5].part = 3 := rfl
  have hk : forms[5].kind = 4 := rfl
  unfold isOp opOf getN
  simp only [hn, hs, hp, hk]
  cases o with | mk k a b c d => simp [eq_comm]
theorem isOp6 (o : Oz) : isOp forms[6] o = decide (o.kind = 5 ∧ o.c = 1 ∧ o.d = 0) := by
  have hn := nums_at.2.2.2.2.1
  have hs : forms[6].says = 1 := rfl
  have hp : forms[6].part = 3 := rfl
  have hk : forms[6].kind = 5 := rfl
  unfold isOp opOf getN
  simp only [hn, hs, hp, hk]
  cases o with | mk k a b c d => simp [eq_comm]
theorem isOp7 (o : Oz) : isOp forms[7] o = decide (o.kind = 5 ∧ o.c = 2 ∧ o.d = 0) := by
  have hn := nums_at.2.2.2.2.2.1
  have hs : forms[7].says = 2 := rfl
  have hp : forms[7].part = 3 := rfl
  have hk : forms[7].kind = 5 := rfl
  unfold isOp opOf getN
  simp only [hn, hs, hp, hk]
  cases o with | mk k a b c d => simp [eq_comm]
theorem isOp8 (o : Oz) : isOp forms[8] o = decide (o.kind = 5 ∧ o.c = 3) := by
  have hn := nums_at.2.2.2.2.2.2.1
  have hs : forms[8].says = 3 := rfl
  have hp : forms[8].part = 3 := rfl
  have hk : forms[8].kind = 5 := rfl
  unfold isOp opOf getN
  simp only [hn, hs, hp, hk]
  cases o with | mk k a b c d => simp [eq_comm]
theorem isOp9 (o : Oz) : isOp forms[9] o = decide (o.kind = 6 ∧ o.b = 0 ∧ o.c = 0 ∧ o.d = 0) := by
  have hn := nums_at.2.2.2.2.2.2.2
  have hs : forms[9].says = 0 := rfl
  have hp : forms[9].part = 3 := rfl
  have hk : forms[9].kind = 6 := rfl
  unfold isOp opOf getN
  simp only [hn, hs, hp, hk]
  cases o with | mk k a b c d => simp [eq_comm]
theorem formOf_is (o : Oz) : formOf o = [forms[2], forms[3], forms[4], forms[5], forms[6], forms[7], forms[8], forms[9]].find? (fun m => isOp m o) := by
  have e : forms = cfgForm :: taskForm :: [forms[2], forms[3], forms[4], forms[5], forms[6], forms[7], forms[8], forms[9]] := rfl
  have h0 : isOp cfgForm o = false := by unfold isOp; simp [cfgForm]
  have h1 : isOp taskForm o = false := by unfold isOp; simp [taskForm]
  unfold formOf
  conv => lhs; rw [e]
  rw [List.find?_cons_of_neg (by simp [h0]), List.find?_cons_of_neg (by simp [h1])]

/-- All numbers of an operation that has a line are right. -/
theorem opGood_fields {o : Oz} (h : OpGood o) : okN o.a = true ∧ okN o.b = true ∧ okN o.c = true ∧ okN o.d = true := by
  obtain ⟨h1, hm, hp, h4, hok, h6⟩ := opGood_is h
  have hs := says_leT hm
  rw [← h6]
  refine ⟨?_, ?_, ?_, ?_⟩
  · unfold opOf; simp only; split; exact getD_okT hok 0; exact okN_zeroT
  · unfold opOf; simp only; split; exact getD_okT hok 1; exact okN_zeroT
  · unfold opOf
    simp only
    split
    · split
      · exact getD_okT hok 2
      · exact okN_zeroT
    · exact okN_natT hs
  · unfold opOf
    simp only
    split
    · exact okN_zeroT
    · split
      · exact getD_okT hok 2
      · exact okN_zeroT
theorem getN_fields {o : Oz} (h : okN o.a = true ∧ okN o.b = true ∧ okN o.c = true ∧ okN o.d = true) (m : Fm) : ∀ n ∈ getN m o, okN n = true := by
  intro n hn
  unfold getN at hn
  have hn' := List.mem_of_mem_take hn
  simp only [List.mem_cons, List.not_mem_nil, or_false] at hn'
  rcases hn' with rfl | rfl | rfl
  · exact h.1
  · exact h.2.1
  · split
    · exact h.2.2.1
    · exact h.2.2.2

/-- What the document's own line is beside the table's. -/
def LineIs (o : Oz) (s : List UInt8) (b : Bool) : Prop := s.length ≤ 200 ∧ (b = true → OpGood o ∧ s = spell 0 (words (fmO o)) (getN (fmO o) o)) ∧ (b = false → ¬ OpGood o)
theorem lineIs_bad {o : Oz} (h : ¬ (okN o.a = true ∧ okN o.b = true ∧ okN o.c = true ∧ okN o.d = true)) : LineIs o [] false := ⟨by simp, (fun h => by cases h), fun _ hg => h (opGood_fields hg)⟩
theorem lineIs_at {o : Oz} (h : okN o.a = true ∧ okN o.b = true ∧ okN o.c = true ∧ okN o.d = true) {m : Fm} (hm : formOf o = some m) {s : List UInt8} (hs : s = spell 0 (words m) (getN m o)) (hl : s.length ≤ 200) : LineIs o s true := by
  have e : fmO o = m := by unfold fmO; rw [hm]; rfl
  exact ⟨hl, fun _ => ⟨⟨m, hm, getN_fields h m⟩, by rw [e]; exact hs⟩, (fun h => by cases h)⟩
theorem lineIs_no {o : Oz} (hm : formOf o = none) {s : List UInt8} (hl : s.length ≤ 200) : LineIs o s false := ⟨hl, (fun h => by cases h), fun _ hg => by
  obtain ⟨m, h, _⟩ := hg
  rw [hm] at h
  cases h⟩

end Go.Proofs.YtgjfhfjmdkhllaaDoor.M
namespace Go.Proofs.YtgjfhfjmdkhllaaDoor.M
set_option linter.unusedSimpArgs false
set_option linter.unusedVariables false
open Go.Proofs.YtgjfhfjmdkhllaaDoor

theorem find8 (o : Oz) : formOf o = if isOp forms[2] o = true then some forms[2] else if isOp forms[3] o = true then some forms[3] else if isOp forms[4] o = true then some forms[4] else if isOp forms[5] o = true then some forms[5] else if isOp forms[6] o = true then some forms[6] else if isOp forms[7] o = true then some forms[7] else if isOp forms[8] o = true then some forms[8] else if isOp forms[9] o = true then some forms[9] else none := by
  rw [formOf_is]
  simp only [List.find?_cons, List.find?_nil]
  cases isOp forms[2] o <;> cases isOp forms[3] o <;> cases isOp forms[4] o <;> cases isOp forms[5] o <;> cases isOp forms[6] o <;> cases isOp forms[7] o <;> cases isOp forms[8] o <;> cases isOp forms[9] o <;> rfl
theorem fo1 {o : Oz} (h : o.kind = 1) : formOf o = if o.d = 0 then some forms[2] else none := by
  rw [find8, isOp2, isOp3, isOp4, isOp5, isOp6, isOp7, isOp8, isOp9]; simp [h]
theorem fo2 {o : Oz} (h : o.kind = 2) : formOf o = if o.b = 0 ∧ o.c = 0 ∧ o.d = 0 then some forms[3] else none := by
  rw [find8, isOp2, isOp3, isOp4, isOp5, isOp6, isOp7, isOp8, isOp9]; simp [h]
theorem fo3 {o : Oz} (h : o.kind = 3) : formOf o = if o.a = 0 ∧ o.b = 0 ∧ o.c = 0 ∧ o.d = 0 then some forms[4] else none := by
  rw [find8, isOp2, isOp3, isOp4, isOp5, isOp6, isOp7, isOp8, isOp9]; simp [h]
theorem fo4 {o : Oz} (h : o.kind = 4) : formOf o = if o.a = 0 ∧ o.b = 0 ∧ o.c = 0 ∧ o.d = 0 then some forms[5] else none := by
  rw [find8, isOp2, isOp3, isOp4, isOp5, isOp6, isOp7, isOp8, isOp9]; simp [h]
theorem fo6 {o : Oz} (h : o.kind = 6) : formOf o = if o.b = 0 ∧ o.c = 0 ∧ o.d = 0 then some forms[9] else none := by
  rw [find8, isOp2, isOp3, isOp4, isOp5, isOp6, isOp7, isOp8, isOp9]; simp [h]
theorem fo51 {o : Oz} (h : o.kind = 5) (hc : o.c = 1) : formOf o = if o.d = 0 then some forms[6] else none := by
  rw [find8, isOp2, isOp3, isOp4, isOp5, isOp6, isOp7, isOp8, isOp9]; simp [h, hc]
theorem fo52 {o : Oz} (h : o.kind = 5) (hc : o.c = 2) : formOf o = if o.d = 0 then some forms[7] else none := by
  rw [find8, isOp2, isOp3, isOp4, isOp5, isOp6, isOp7, isOp8, isOp9]; simp [h, hc]
theorem fo53 {o : Oz} (h : o.kind = 5) (h1 : o.c ≠ 1) (h2 : o.c ≠ 2) : formOf o = if o.c = 3 then some forms[8] else none := by
  rw [find8, isOp2, isOp3, isOp4, isOp5, isOp6, isOp7, isOp8, isOp9]; simp [h, h1, h2]
theorem fo0 {o : Oz} (h1 : o.kind ≠ 1) (h2 : o.kind ≠ 2) (h3 : o.kind ≠ 3) (h4 : o.kind ≠ 4) (h5 : o.kind ≠ 5) (h6 : o.kind ≠ 6) : formOf o = none := by
  rw [find8, isOp2, isOp3, isOp4, isOp5, isOp6, isOp7, isOp8, isOp9]; simp [h1, h2, h3, h4, h5, h6]

theorem wordsAt : words forms[2] = [wSubmit, [78], [78], [78]] ∧ words forms[3] = [wCancel, [78]] ∧ words forms[4] = [wTick] ∧ words forms[5] = [wDispatch] ∧ words forms[9] = [wQuery, [78]] := ⟨by kernel_rfl, by kernel_rfl, by kernel_rfl, by kernel_rfl, by kernel_rfl⟩
theorem sp2 (o : Oz) : spell 0 (words forms[2]) (getN forms[2] o) = wSubmit ++ [32] ++ Lib.itoa o.a ++ [32] ++ Lib.itoa o.b ++ [32] ++ Lib.itoa o.c ++ [10] := by
  have hs : forms[2].says = 0 := rfl
  rw [wordsAt.1]; unfold getN; rw [nums_at.1, hs]; simp [spell, wSubmit]
theorem sp3 (o : Oz) : spell 0 (words forms[3]) (getN forms[3] o) = wCancel ++ [32] ++ Lib.itoa o.a ++ [10] := by
  rw [wordsAt.2.1]; unfold getN; rw [nums_at.2.1]; simp [spell, wCancel]
theorem sp4 (o : Oz) : spell 0 (words forms[4]) (getN forms[4] o) = wTick ++ [10] := by
  rw [wordsAt.2.2.1]; simp [spell, wTick]
theorem sp5 (o : Oz) : spell 0 (words forms[5]) (getN forms[5] o) = wDispatch ++ [10] := by
  rw [wordsAt.2.2.2.1]; simp [spell, wDispatch]
theorem sp9 (o : Oz) : spell 0 (words forms[9]) (getN forms[9] o) = wQuery ++ [32] ++ Lib.itoa o.a ++ [10] := by
  rw [wordsAt.2.2.2.2]; unfold getN; rw [nums_at.2.2.2.2.2.2.2]; simp [spell, wQuery]
theorem sp6 (o : Oz) : spell 0 (words forms[6]) (getN forms[6] o) = wAnswer ++ [32] ++ Lib.itoa o.a ++ [32] ++ Lib.itoa o.b ++ [32] ++ wDid ++ [10] := by
  rw [words678.1]; unfold getN; rw [nums_at.2.2.2.2.1]; simp [spell, wAnswer, wDid]
theorem sp7 (o : Oz) : spell 0 (words forms[7]) (getN forms[7] o) = wAnswer ++ [32] ++ Lib.itoa o.a ++ [32] ++ Lib.itoa o.b ++ [32] ++ wFail ++ [10] := by
  rw [words678.2.1]; unfold getN; rw [nums_at.2.2.2.2.2.1]; simp [spell, wAnswer, wFail]
theorem sp8 (o : Oz) : spell 0 (words forms[8]) (getN forms[8] o) = wAnswer ++ [32] ++ Lib.itoa o.a ++ [32] ++ Lib.itoa o.b ++ [32] ++ wNeed ++ [32] ++ Lib.itoa o.d ++ [10] := by
  have hs : forms[8].says = 3 := rfl
  rw [words678.2.2]; unfold getN; rw [nums_at.2.2.2.2.2.2.1, hs]; simp [spell, wAnswer, wNeed]

end Go.Proofs.YtgjfhfjmdkhllaaDoor.M
namespace Go.Proofs.YtgjfhfjmdkhllaaDoor.M
set_option linter.unusedSimpArgs false
set_option linter.unusedVariables false
open Go.Proofs.YtgjfhfjmdkhllaaDoor

def cfgPre (cfg : List Int) (k : Nat) : List UInt8 := wConfig ++ ((names.zip cfg).take k).flatMap (fun p => [32] ++ p.1 ++ [32] ++ Lib.itoa p.2)
theorem cfgPre_snoc (cfg : List Int) (hc : cfg.length = 10) (k : Nat) (hk : k < 10) : cfgPre cfg (k + 1) = cfgPre cfg k ++ [32] ++ names[k]'(by exact hk) ++ [32] ++ Lib.itoa (cfg[k]'(by omega)) := by
  have hn : names.length = 10 := rfl
  have hz : k < (names.zip cfg).length := by rw [List.length_zip]; omega
  unfold cfgPre
  rw [List.take_succ_eq_append_getElem hz, List.flatMap_append]
  simp
  rfl
theorem cfgPre_ten (x0 x1 x2 x3 x4 x5 x6 x7 x8 x9 : Int) : cfgPre [x0, x1, x2, x3, x4, x5, x6, x7, x8, x9] 10 ++ [10] = spell 0 (words cfgForm) [x0, x1, x2, x3, x4, x5, x6, x7, x8, x9] := by
  have hw : words cfgForm = [wConfig, names[0], [78], names[1], [78], names[2], [78], names[3], [78], names[4], [78], names[5], [78], names[6], [78], names[7], [78], names[8], [78], names[9], [78]] := by kernel_rfl
  rw [hw]
  unfold cfgPre
  simp [spell, names, wConfig]

def fits (f : Fl) : Prop := f.tasks.length ≤ 64 ∧ f.ops.length ≤ 4096
/-- What holds in the loop over the config's numbers. -/
def CfgInv (f : Fl) (k : Nat) (S : ByteArray) (ok : Bool) : Prop := S.size ≤ 100 + 100 * k ∧ (ok = true → fits f ∧ (∀ j (h : j < k) (hj : j < f.cfg.length), okN f.cfg[j] = true) ∧ S.data.toList = cfgPre f.cfg k) ∧ (ok = false → textF f = none)
def TasInv (f : Fl) (k : Nat) (S : ByteArray) (ok : Bool) : Prop := S.size ≤ 2000 + 100 * k ∧ (ok = true → fits f ∧ (∀ n ∈ f.cfg, okN n = true) ∧ (∀ t ∈ f.tasks.take k, okN t.1 = true ∧ okN t.2 = true) ∧ S.data.toList = spell 0 (words cfgForm) f.cfg ++ tasksB (f.tasks.take k)) ∧ (ok = false → textF f = none)
def OpsInv (f : Fl) (k : Nat) (S : ByteArray) (ok : Bool) : Prop := S.size ≤ 20000 + 300 * k ∧ (ok = true → fits f ∧ (∀ n ∈ f.cfg, okN n = true) ∧ (∀ t ∈ f.tasks, okN t.1 = true ∧ okN t.2 = true) ∧ (∀ o ∈ f.ops.take k, OpGood o) ∧ S.data.toList = spell 0 (words cfgForm) f.cfg ++ tasksB f.tasks ++ opsB (f.ops.take k)) ∧ (ok = false → textF f = none)

theorem no_text {f : Fl} (hc : f.cfg.length = 10) (h : ¬ (fits f ∧ Gd f)) : textF f = none := by
  unfold textF
  split
  · rfl
  · rename_i hl
    cases hf : fileOut f with
    | none => rfl
    | some r => exact absurd ⟨⟨by omega, by omega⟩, (fileOut_gd hc hf).1⟩ h

theorem cfg_start (f : Fl) (hc : f.cfg.length = 10) (ok : Bool) (hok : ok = true ↔ fits f) : CfgInv f 0 ⟨#[99, 111, 110, 102, 105, 103]⟩ ok := by
  refine ⟨by decide, fun h => ⟨hok.1 h, fun j hj => by omega, rfl⟩, fun h => no_text hc (fun hg => ?_)⟩
  have := hok.2 hg.1
  rw [h] at this
  cases this
theorem cfg_bad {f : Fl} (hc : f.cfg.length = 10) {k : Nat} (hk : k < f.cfg.length) (hx : okN f.cfg[k] = false) : textF f = none :=
  no_text hc (fun hg => by have := hg.2.cfg _ (List.getElem_mem hk); rw [hx] at this; cases this)
theorem cfg_step {f : Fl} (hc : f.cfg.length = 10) {k : Nat} (hk : k < 10) {S S' : ByteArray} {ok : Bool} (h : CfgInv f k S ok) (hx : okN (f.cfg[k]'(by omega)) = true) (hz : S'.size ≤ 100 + 100 * (k + 1)) (hS : S'.data.toList = S.data.toList ++ [32] ++ names[k]'(by exact hk) ++ [32] ++ Lib.itoa (f.cfg[k]'(by omega))) : CfgInv f (k + 1) S' ok := by
  obtain ⟨h1, h2, h3⟩ := h
  refine ⟨hz, fun e => ?_, h3⟩
  obtain ⟨q1, q2, q3⟩ := h2 e
  refine ⟨q1, fun j hj hj2 => ?_, ?_⟩
  · by_cases e : j = k
    · subst e; exact hx
    · exact q2 j (by omega) hj2
  · rw [hS, q3, cfgPre_snoc f.cfg hc k hk]
theorem cfg_no {f : Fl} {k k' : Nat} {S S' : ByteArray} (hn : textF f = none) (hz : S'.size ≤ 100 + 100 * k') : CfgInv f k' S' false := ⟨hz, (fun e => by cases e), fun _ => hn⟩
theorem cfg_end {f : Fl} {x0 x1 x2 x3 x4 x5 x6 x7 x8 x9 : Int} (hcf : f.cfg = [x0, x1, x2, x3, x4, x5, x6, x7, x8, x9]) {S S' : ByteArray} {ok : Bool} (h : CfgInv f 10 S ok) (hz : S'.size = S.size + 1) (hS : S'.data.toList = S.data.toList ++ [10]) : TasInv f 0 S' ok := by
  obtain ⟨h1, h2, h3⟩ := h
  refine ⟨by omega, fun e => ?_, h3⟩
  obtain ⟨q1, q2, q3⟩ := h2 e
  refine ⟨q1, fun n hn => ?_, by simp, ?_⟩
  · obtain ⟨j, hj, rfl⟩ := List.getElem_of_mem hn
    exact q2 j (by rw [hcf] at hj; simpa using hj) hj
  · rw [hS, q3, hcf, cfgPre_ten]
    simp [tasksB]
theorem tas_no {f : Fl} {k' : Nat} {S' : ByteArray} (hn : textF f = none) (hz : S'.size ≤ 2000 + 100 * k') : TasInv f k' S' false := ⟨hz, (fun e => by cases e), fun _ => hn⟩
theorem tas_bad {f : Fl} (hc : f.cfg.length = 10) {k : Nat} (hk : k < f.tasks.length) (hx : okN f.tasks[k].1 = false ∨ okN f.tasks[k].2 = false) : textF f = none :=
  no_text hc (fun hg => by
    have := hg.2.ts _ (List.getElem_mem hk)
    rcases hx with hx | hx
    · rw [hx] at this; cases this.1
    · rw [hx] at this; cases this.2)
theorem tas_step {f : Fl} {k : Nat} (hk : k < f.tasks.length) {S S' : ByteArray} {ok : Bool} (h : TasInv f k S ok) (h1 : okN f.tasks[k].1 = true) (h2 : okN f.tasks[k].2 = true) (hz : S'.size ≤ 2000 + 100 * (k + 1)) (hS : S'.data.toList = S.data.toList ++ wTask ++ [32] ++ Lib.itoa f.tasks[k].1 ++ [32] ++ Lib.itoa f.tasks[k].2 ++ [10]) : TasInv f (k + 1) S' ok := by
  obtain ⟨g1, g2, g3⟩ := h
  refine ⟨hz, fun e => ?_, g3⟩
  obtain ⟨q1, q2, q3, q4⟩ := g2 e
  have et : f.tasks.take (k + 1) = f.tasks.take k ++ [f.tasks[k]] := List.take_succ_eq_append_getElem hk
  refine ⟨q1, q2, ?_, ?_⟩
  · rw [et]
    intro t ht
    rcases List.mem_append.1 ht with ht | ht
    · exact q3 t ht
    · simp at ht
      subst ht
      exact ⟨h1, h2⟩
  · have hw : words taskForm = [wTask, [78], [78]] := by kernel_rfl
    rw [hS, q4, et]
    unfold tasksB
    rw [List.flatMap_append, hw]
    simp [spell, wTask]
theorem tas_end {f : Fl} {k : Nat} (hk : k = f.tasks.length) (hl : f.tasks.length ≤ 100) {S : ByteArray} {ok : Bool} (h : TasInv f k S ok) : OpsInv f 0 S ok := by
  obtain ⟨g1, g2, g3⟩ := h
  refine ⟨by omega, fun e => ?_, g3⟩
  obtain ⟨q1, q2, q3, q4⟩ := g2 e
  rw [hk, List.take_length] at q3 q4
  exact ⟨q1, q2, q3, by simp, by simpa [opsB] using q4⟩
theorem tas_stop {f : Fl} {k : Nat} (hk : 65 ≤ f.tasks.length) {S : ByteArray} (hz : S.size ≤ 20000) (h : TasInv f k S false) : OpsInv f 0 S false := ⟨by omega, (fun e => by cases e), h.2.2⟩
theorem tas_fits {f : Fl} {k : Nat} {S : ByteArray} {ok : Bool} (h : TasInv f k S ok) (hl : 64 < f.tasks.length) : ok = false := by
  cases ok with
  | false => rfl
  | true => have := (h.2.1 rfl).1.1; omega
theorem ops_step {f : Fl} (hc : f.cfg.length = 10) {k : Nat} (hk : k < f.ops.length) {S S' T : ByteArray} {ok b : Bool} (h : OpsInv f k S ok) (hL : LineIs f.ops[k] T.data.toList b) (hz : S'.size ≤ 20000 + 300 * (k + 1)) (hS : S'.data.toList = S.data.toList ++ T.data.toList) : OpsInv f (k + 1) S' (ok && b) := by
  obtain ⟨g1, g2, g3⟩ := h
  obtain ⟨l1, l2, l3⟩ := hL
  have eo : f.ops.take (k + 1) = f.ops.take k ++ [f.ops[k]] := List.take_succ_eq_append_getElem hk
  cases b with
  | false =>
    refine ⟨hz, (fun e => by simp at e), fun _ => no_text hc (fun hg => l3 rfl (hg.2.os _ (List.getElem_mem hk)))⟩
  | true =>
    rw [Bool.and_true]
    refine ⟨hz, fun e => ?_, g3⟩
    obtain ⟨q1, q2, q3, q4, q5⟩ := g2 e
    obtain ⟨r1, r2⟩ := l2 rfl
    refine ⟨q1, q2, q3, ?_, ?_⟩
    · rw [eo]
      intro o ho
      rcases List.mem_append.1 ho with ho | ho
      · exact q4 o ho
      · simp at ho
        subst ho
        exact r1
    · rw [hS, q5, r2, eo]
      unfold opsB
      rw [List.flatMap_append]
      simp
theorem ops_end {f : Fl} (hc : f.cfg.length = 10) {k : Nat} (hk : k = f.ops.length) {S : ByteArray} {ok : Bool} (h : OpsInv f k S ok) : textF f = if ok = true then some S.data.toList else none := by
  obtain ⟨g1, g2, g3⟩ := h
  cases ok with
  | false => exact g3 rfl
  | true =>
    obtain ⟨q1, q2, q3, q4, q5⟩ := g2 rfl
    rw [hk, List.take_length] at q4 q5
    have hg : Gd f := ⟨hc, q2, q3, q4⟩
    unfold textF
    rw [if_neg (by have := q1.1; have := q1.2; omega), fileOut_is hg, q5]
    rfl

end Go.Proofs.YtgjfhfjmdkhllaaDoor.M
