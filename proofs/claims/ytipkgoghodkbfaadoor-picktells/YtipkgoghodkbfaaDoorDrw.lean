/- A region that draws its order, whose operations leave the world alone (calls that hand back the world that they got among them), but for one that makes a variable and a last one that writes it: whatever the order is, the frame and the world at its end are the same. -/
import Derived.Test.YtipkgoghodkbfaaDoorProg
import Derived.WalkKit
import Derived.Orders
namespace Go.Proofs.YtipkgoghodkbfaaDoor
open Go
set_option linter.unusedVariables false
set_option linter.unusedSimpArgs false

def dstOf (ops : Array Oper) (i : Nat) : Option Tmp := (ops[i]?).bind (·.dst)
/-- Each operation stands behind those whose values it takes. -/
def depB (ops : Array Oper) : Bool := (List.range ops.size).all fun i => match ops[i]? with
  | none => true
  | some o => o.guard.isNone && (match o.op with | .select _ _ => false | _ => true) && o.after.all (fun e => decide (e.on < i)) &&
    o.op.operands.all (fun x => match x with
      | .tmp t => o.after.any (fun e => Region.binds .any e && (dstOf ops e.on == some t)) || (List.range ops.size).all (fun j => dstOf ops j != some t)
      | _ => true)
def isOn (listed : Array Bool) (i : Nat) : Bool := listed.getD i false
/-- The frame, as far as the operations are done. -/
def Agr (ops : Array Oper) (full a0 : Act) (listed : Array Bool) (a : Act) : Prop :=
  a.defers = a0.defers ∧ a.tmps.size = a0.tmps.size ∧ ∀ t, ((∃ i, isOn listed i = true ∧ dstOf ops i = some t) → a.tmps[t]? = full.tmps[t]?) ∧ ((∀ i, isOn listed i = true → dstOf ops i ≠ some t) → a.tmps[t]? = a0.tmps[t]?)

section
variable {P : Program} {ops : Array Oper} {Q : Exit → Act → World → Prop} {full a0 : Act}

theorem ready_of {listed : Array Bool} {i : Nat} (h : i ∈ Region.ready .any ops listed) (hs : listed.size = ops.size) : ∃ o, ops[i]? = some o ∧ i < ops.size ∧ isOn listed i = false ∧ ∀ e ∈ o.after, Region.binds .any e = true → isOn listed e.on = true := by
  unfold Region.ready at h
  obtain ⟨h1, h2⟩ := List.mem_filter.1 h
  have hi : i < ops.size := by simpa using h1
  rw [Bool.and_eq_true] at h2
  obtain ⟨h3, h4⟩ := h2
  rw [Array.getElem?_eq_getElem hi] at h4
  refine ⟨ops[i], Array.getElem?_eq_getElem hi, hi, ?_, ?_⟩
  · unfold isOn
    simp only [Bool.not_eq_true'] at h3
    rw [Array.getD_eq_getD_getElem?, Array.getElem?_eq_getElem (by omega)] at *
    simpa using h3
  · intro e he hb
    simp only [Option.map_some, Option.getD_some] at h4
    have := Array.all_eq_true_iff_forall_mem.1 h4 e he
    unfold isOn
    simpa [hb] using this
theorem ready_none {listed : Array Bool} (hd : depB ops = true) (hs : listed.size = ops.size) (h : Region.ready .any ops listed = []) : ∀ i, i < ops.size → isOn listed i = true := by
  intro i
  induction i using Nat.strongRecOn with
  | ind i ih =>
    intro hi
    by_cases hon : isOn listed i = true
    · exact hon
    · exfalso
      have hm : i ∈ Region.ready .any ops listed := by
        unfold Region.ready
        rw [List.mem_filter]
        refine ⟨by simpa using hi, ?_⟩
        rw [Bool.and_eq_true]
        constructor
        · unfold isOn at hon
          rw [Array.getD_eq_getD_getElem?, Array.getElem?_eq_getElem (by omega)] at *
          simpa using hon
        · rw [Array.getElem?_eq_getElem hi]
          simp only [Option.map_some, Option.getD_some]
          rw [Array.all_eq_true_iff_forall_mem]
          intro e he
          have h1 := List.all_eq_true.1 hd i (by simpa using hi)
          rw [Array.getElem?_eq_getElem hi] at h1
          simp only [Bool.and_eq_true] at h1
          have h2 := Array.all_eq_true_iff_forall_mem.1 h1.1.2 e he
          have h3 : e.on < i := by simpa using h2
          have := ih e.on h3 (by omega)
          unfold isOn at this
          rw [this]
          simp
      rw [h] at hm
      cases hm
theorem eval_full {listed : Array Bool} {a : Act} {i : Nat} {o : Oper} (hd : depB ops = true) (h0 : ∀ t, (∀ j, dstOf ops j ≠ some t) → full.tmps[t]? = a0.tmps[t]?)
    (hA : Agr ops full a0 listed a) (ho : ops[i]? = some o) (hi : i < ops.size) (haft : ∀ e ∈ o.after, Region.binds .any e = true → isOn listed e.on = true) : o.guard = none ∧ execOp a.eval o = execOp full.eval o := by
  have h1 := List.all_eq_true.1 hd i (by simpa using hi)
  rw [ho] at h1
  simp only [Bool.and_eq_true] at h1
  obtain ⟨⟨⟨g1, g2⟩, g3⟩, g4⟩ := h1
  refine ⟨by simpa using g1, execOp_congr o (fun cs b e => by rw [e] at g2; cases g2) ?_⟩
  intro x hx
  have h2 := Array.all_eq_true_iff_forall_mem.1 g4 x hx
  cases x with
  | tmp t =>
    simp only [Bool.or_eq_true] at h2
    have e : a.tmps[t]? = full.tmps[t]? := by
      rcases h2 with h2 | h2
      · obtain ⟨e, he, hb⟩ := Array.any_eq_true'.1 h2
        rw [Bool.and_eq_true] at hb
        exact (hA.2.2 t).1 ⟨e.on, haft e he hb.1, by simpa using hb.2⟩
      · have hn : ∀ j, dstOf ops j ≠ some t := by
          intro j
          by_cases hj : j < ops.size
          · have := List.all_eq_true.1 h2 j (by simpa using hj)
            simpa using this
          · unfold dstOf
            rw [Array.getElem?_eq_none (by omega)]
            simp
        rw [(hA.2.2 t).2 (fun i _ => hn i), h0 t hn]
    show a.tmps.getD t undef = full.tmps.getD t undef
    rw [Array.getD_eq_getD_getElem?, Array.getD_eq_getD_getElem?, e]
  | const v => rfl
  | global g => rfl
  | func f => rfl

theorem isOn_set {listed : Array Bool} {i j : Nat} (hi : i < listed.size) : isOn (listed.setIfInBounds i true) j = (isOn listed j || decide (j = i)) := by
  unfold isOn
  rw [Array.getD_eq_getD_getElem?, Array.getD_eq_getD_getElem?, Array.getElem?_setIfInBounds]
  by_cases h : i = j
  · subst h
    simp [hi]
  · simp only [if_neg h]
    have : ¬ j = i := fun e => h e.symm
    simp [this]
theorem agr_put {listed : Array Bool} {a : Act} {i : Nat} {o : Oper} {v : Value} (hfs : full.tmps.size = a0.tmps.size) (hls : listed.size = ops.size) (hA : Agr ops full a0 listed a) (ho : ops[i]? = some o) (hi : i < ops.size)
    (hv : ∀ d, o.dst = some d → d < a0.tmps.size → full.tmps[d]? = some v) : Agr ops full a0 (listed.setIfInBounds i true) (a.put o.dst v) := by
  have hdst : dstOf ops i = o.dst := by unfold dstOf; rw [ho]; rfl
  obtain ⟨h1, h2, h3⟩ := hA
  cases hd : o.dst with
  | none =>
    refine ⟨h1, h2, fun t => ⟨fun ⟨j, hj, hjt⟩ => ?_, fun hn => ?_⟩⟩
    · rw [isOn_set (by omega)] at hj
      rcases Bool.or_eq_true_iff.1 hj with hj | hj
      · exact (h3 t).1 ⟨j, hj, hjt⟩
      · have : j = i := by simpa using hj
        subst this
        rw [hdst, hd] at hjt
        cases hjt
    · refine (h3 t).2 (fun j hj => hn j ?_)
      rw [isOn_set (by omega), hj]
      rfl
  | some d =>
    refine ⟨h1, by simpa [Act.put] using h2, fun t => ?_⟩
    have ht : (a.put (some d) v).tmps[t]? = if d = t then (if d < a.tmps.size then some v else none) else a.tmps[t]? := by
      simp only [Act.put]
      rw [Array.getElem?_setIfInBounds]
    rw [ht]
    by_cases hdt : d = t
    · subst hdt
      rw [if_pos rfl]
      refine ⟨fun _ => ?_, fun hn => ?_⟩
      · by_cases hlt : d < a.tmps.size
        · have hlt' : d < a0.tmps.size := by rw [← h2]; exact hlt
          rw [if_pos hlt, hv d hd hlt']
        · have hlt' : full.tmps.size ≤ d := by rw [hfs, ← h2]; exact Nat.le_of_not_lt hlt
          rw [if_neg hlt, Array.getElem?_eq_none hlt']
      · exfalso
        exact hn i (by rw [isOn_set (by omega)]; simp) (by rw [hdst, hd])
    · rw [if_neg hdt]
      refine ⟨fun ⟨j, hj, hjt⟩ => ?_, fun hn => ?_⟩
      · rw [isOn_set (by omega)] at hj
        rcases Bool.or_eq_true_iff.1 hj with hj | hj
        · exact (h3 t).1 ⟨j, hj, hjt⟩
        · have : j = i := by simpa using hj
          subst this
          rw [hdst, hd] at hjt
          exact absurd (Option.some.inj hjt) hdt
      · refine (h3 t).2 (fun j hj => hn j ?_)
        rw [isOn_set (by omega), hj]
        rfl

/-- An operation that leaves the world alone. -/
def Yl (P : Program) (o : Oper) (full : Act) (W : World) (v : Value) : Prop :=
  (execOp full.eval o).run P W = .ok (.value v) W ∨ ∃ f args, (execOp full.eval o).run P W = .ok (.enter f args) W ∧ Calls P f args W (fun e w'' => e = .returned v ∧ w'' = W)

/-- Whatever stands ahead of number s is waited for by something behind it. -/
def lastB (ops : Array Oper) (s : Nat) : Bool := (List.range s).all fun j => (List.range ops.size).any fun i => decide (j < i) && (match ops[i]? with
  | some o => o.after.any (fun e => Region.binds .any e && (e.on == j))
  | none => false)
theorem all_on {listed : Array Bool} {s : Nat} {o : Oper} (hl : lastB ops s = true) (hsl : s + 1 = ops.size) (ho : ops[s]? = some o) (hc : ∀ (i : Nat) (o : Oper), ops[i]? = some o → isOn listed i = true → ∀ e ∈ o.after, Region.binds .any e = true → isOn listed e.on = true)
    (haft : ∀ e ∈ o.after, Region.binds .any e = true → isOn listed e.on = true) : ∀ (d j : Nat), j < s → s - j ≤ d → isOn listed j = true := by
  intro d
  induction d with
  | zero => intro j h1 h2; omega
  | succ d ih =>
    intro j hj hd
    have h1 := List.all_eq_true.1 hl j (by simpa using hj)
    obtain ⟨i, hi, h2⟩ := List.any_eq_true.1 h1
    rw [Bool.and_eq_true] at h2
    obtain ⟨h3, h4⟩ := h2
    have hji : j < i := by simpa using h3
    have hin : i < ops.size := by simpa using hi
    rw [Array.getElem?_eq_getElem hin] at h4
    obtain ⟨e, he, hb⟩ := Array.any_eq_true'.1 h4
    rw [Bool.and_eq_true] at hb
    have hej : e.on = j := by simpa using hb.2
    rw [← hej]
    by_cases his : i = s
    · subst his
      have : ops[i] = o := by rw [Array.getElem?_eq_getElem hin] at ho; exact Option.some.inj ho
      rw [this] at he
      exact haft e he hb.1
    · exact hc i ops[i] (Array.getElem?_eq_getElem hin) (ih i (by omega) (by omega)) e he hb.1

def wof (k s : Nat) (W0 W1 W2 : World) (listed : Array Bool) : World := if isOn listed s = true then W2 else if isOn listed k = true then W1 else W0

theorem any_fix (hd : depB ops = true) (h0 : ∀ t, (∀ j, dstOf ops j ≠ some t) → full.tmps[t]? = a0.tmps[t]?) (hfs : full.tmps.size = a0.tmps.size) (hfd : full.defers = a0.defers) (k s : Nat) (W0 W1 W2 : World) (hks : k ≠ s)
    (hq : ∀ i o, ops[i]? = some o → i ≠ k → i ≠ s → ∃ d, o.dst = some d ∧ ∀ W, (W = W0 ∨ W = W1) → Yl P o full W (full.tmps.getD d undef))
    (hk : ∀ o, ops[k]? = some o → ∃ d, o.dst = some d ∧ (execOp full.eval o).run P W0 = .ok (.value (full.tmps.getD d undef)) W1)
    (hs : ∀ o, ops[s]? = some o → o.dst = none ∧ ∃ nx, (nx = Next.skip ∨ ∃ v, nx = Next.value v) ∧ (execOp full.eval o).run P W1 = .ok nx W2)
    (hlast : lastB ops s = true) (hsl : s + 1 = ops.size) (hkn : k < ops.size) (hsn : s < ops.size) (hend : Q .normal full W2) :
    ∀ (fuel : Nat) (listed : Array Bool) (a : Act), listed.size = ops.size → listed.toList.countP (fun b => !b) ≤ fuel → (isOn listed s = true → ∀ j, j < ops.size → isOn listed j = true) → (∀ (i : Nat) (o : Oper), ops[i]? = some o → isOn listed i = true → ∀ e ∈ o.after, Region.binds .any e = true → isOn listed e.on = true) → Agr ops full a0 listed a → wpAny P .any ops Q fuel listed a (wof k s W0 W1 W2 listed) := by
  have hfull : ∀ (listed : Array Bool) (a : Act), (∀ i, i < ops.size → isOn listed i = true) → Agr ops full a0 listed a → Q .normal a (wof k s W0 W1 W2 listed) := by
    intro listed a hall hA
    have ha : a = full := by
      have ht : a.tmps = full.tmps := by
        apply Array.ext_getElem?
        intro t
        by_cases hx : ∃ i, isOn listed i = true ∧ dstOf ops i = some t
        · exact (hA.2.2 t).1 hx
        · have hn : ∀ j, dstOf ops j ≠ some t := by
            intro j hj
            by_cases hjs : j < ops.size
            · exact hx ⟨j, hall j hjs, hj⟩
            · unfold dstOf at hj
              rw [Array.getElem?_eq_none (by omega)] at hj
              cases hj
          rw [(hA.2.2 t).2 (fun i _ => hn i), h0 t hn]
      have hde : a.defers = full.defers := by rw [hA.1, hfd]
      cases a
      cases full
      simp_all
    subst ha
    unfold wof
    rw [if_pos (hall s hsn)]
    exact hend
  intro fuel
  induction fuel with
  | zero =>
    intro listed a hls hc hinv hclo hA
    have hall : ∀ i, i < ops.size → isOn listed i = true := by
      intro i hi
      have h1 : listed.toList.countP (fun b => !b) = 0 := by omega
      have h2 := List.countP_eq_zero.1 h1 listed[i] (by simp)
      unfold isOn
      rw [Array.getD_eq_getD_getElem?, Array.getElem?_eq_getElem (by omega)]
      simpa using h2
    refine ⟨?_, hfull listed a hall hA⟩
    cases hr : Region.ready .any ops listed with
    | nil => rfl
    | cons i l =>
      exfalso
      obtain ⟨o, ho, hi, hoff, _⟩ := ready_of (ops := ops) (listed := listed) (i := i) (by rw [hr]; simp) hls
      rw [hall i hi] at hoff
      cases hoff
  | succ fuel ih =>
    intro listed a hls hc hinv hclo hA
    refine ⟨fun hr => hfull listed a (ready_none hd hls hr) hA, fun i hi => ?_⟩
    obtain ⟨o, ho, hin, hoff, haft⟩ := ready_of hi hls
    obtain ⟨hg, hex⟩ := eval_full hd h0 hA ho hin haft
    have hil : i < listed.size := by omega
    have hoff' : listed[i] = false := by
      unfold isOn at hoff
      rw [Array.getD_eq_getD_getElem?, Array.getElem?_eq_getElem hil] at hoff
      simpa using hoff
    have hcnt : (listed.setIfInBounds i true).toList.countP (fun b => !b) ≤ fuel := by
      have e : (listed.setIfInBounds i true).toList = listed.toList.set i true := by simp
      rw [e, List.countP_set (by simpa using hil)]
      have h1 : listed.toList[i]'(by simpa using hil) = false := by simpa using hoff'
      rw [h1]
      have : 0 < listed.toList.countP (fun b => !b) := List.countP_pos_iff.2 ⟨false, by rw [← h1]; exact List.getElem_mem _, rfl⟩
      simp only [Bool.not_false, Bool.not_true, if_true, Bool.false_eq_true, if_false]
      omega
    have hls' : (listed.setIfInBounds i true).size = ops.size := by simpa using hls
    have hoffs : isOn listed s = false := by
      by_cases his : i = s
      · subst his; exact hoff
      · by_cases hson : isOn listed s = true
        · have := hinv hson i hin
          rw [hoff] at this
          cases this
        · simpa using hson
    have hinv' : isOn (listed.setIfInBounds i true) s = true → ∀ j, j < ops.size → isOn (listed.setIfInBounds i true) j = true := by
      intro hson j hj
      rw [isOn_set hil] at hson ⊢
      by_cases his : i = s
      · subst his
        by_cases hji : j = i
        · simp [hji]
        · have := all_on hlast hsl ho hclo haft i j (by omega) (by omega)
          rw [this]
          rfl
      · rw [hoffs] at hson
        simp at hson
        exact absurd hson.symm his
    have hclo' : ∀ (i' : Nat) (o' : Oper), ops[i']? = some o' → isOn (listed.setIfInBounds i true) i' = true → ∀ e ∈ o'.after, Region.binds .any e = true → isOn (listed.setIfInBounds i true) e.on = true := by
      intro i' o' ho' hon e he hb
      rw [isOn_set hil] at hon ⊢
      rcases Bool.or_eq_true_iff.1 hon with h | h
      · rw [hclo i' o' ho' h e he hb]; rfl
      · have hi' : i' = i := by simpa using h
        subst hi'
        rw [ho] at ho'
        obtain rfl := Option.some.inj ho'
        rw [haft e he hb]; rfl
    have hnext := fun v (hv : ∀ d, o.dst = some d → d < a0.tmps.size → full.tmps[d]? = some v) => ih (listed.setIfInBounds i true) (a.put o.dst v) hls' hcnt hinv' hclo' (agr_put hfs hls hA ho hin hv)
    have hval : ∀ d, o.dst = some d → ∀ d', o.dst = some d' → d' < a0.tmps.size → full.tmps[d']? = some (full.tmps.getD d undef) := by
      intro d hd1 d' hd2 hlt
      rw [hd1] at hd2
      obtain rfl := Option.some.inj hd2
      rw [Array.getD_eq_getD_getElem?, Array.getElem?_eq_getElem (by rw [hfs]; exact hlt)]
      rfl
    unfold wpOp
    rw [ho]
    have hwt : Region.wanted o (yielded ops a.tmps) = true := by simp [Region.wanted, hg]
    simp only [hwt, if_true]
    refine Or.inl ?_
    unfold Oper.wp
    rw [hex]
    by_cases his : i = s
    · subst his
      obtain ⟨hdn, nx, hnx, hrun⟩ := hs o ho
      have hkon : isOn listed k = true := by
        exact all_on hlast hsl ho hclo haft i k (by omega) (by omega)
      have hw : wof k i W0 W1 W2 listed = W1 := by unfold wof; rw [if_neg (by rw [hoffs]; simp), if_pos hkon]
      have hw' : wof k i W0 W1 W2 (listed.setIfInBounds i true) = W2 := by unfold wof; rw [if_pos (by rw [isOn_set hil]; simp)]
      rw [hw, hrun]
      have hn := hnext undef (fun d hd1 => by rw [hdn] at hd1; cases hd1)
      rw [hw', hdn] at hn
      have hn' : wpAny P .any ops Q fuel (listed.setIfInBounds i true) a W2 := hn
      rcases hnx with rfl | ⟨v, rfl⟩
      · show wpAny P .any ops Q fuel (listed.setIfInBounds i true) (a.put o.dst undef) W2
        rw [hdn]; exact hn'
      · show wpAny P .any ops Q fuel (listed.setIfInBounds i true) (a.put o.dst v) W2
        rw [hdn]; exact hn'
    · by_cases hik : i = k
      · subst hik
        obtain ⟨d, hd1, hrun⟩ := hk o ho
        have hw : wof i s W0 W1 W2 listed = W0 := by unfold wof; rw [if_neg (by rw [hoffs]; simp), if_neg (by rw [hoff]; simp)]
        have hw' : wof i s W0 W1 W2 (listed.setIfInBounds i true) = W1 := by unfold wof; rw [if_neg (by rw [isOn_set hil, hoffs]; simp; exact fun e => hks e.symm), if_pos (by rw [isOn_set hil]; simp)]
        rw [hw, hrun]
        have hn := hnext _ (hval d hd1)
        rw [hw'] at hn
        exact hn
      · obtain ⟨d, hd1, hy⟩ := hq i o ho hik his
        have hw' : wof k s W0 W1 W2 (listed.setIfInBounds i true) = wof k s W0 W1 W2 listed := by
          unfold wof
          rw [isOn_set hil, isOn_set hil]
          simp [Ne.symm his, Ne.symm hik]
        have hn := hnext _ (hval d hd1)
        rw [hw'] at hn
        have hWor : wof k s W0 W1 W2 listed = W0 ∨ wof k s W0 W1 W2 listed = W1 := by
          unfold wof
          rw [if_neg (by rw [hoffs]; simp)]
          split
          · exact Or.inr rfl
          · exact Or.inl rfl
        rcases hy _ hWor with hrun | ⟨f, args, hrun, hcall⟩
        · rw [hrun]
          exact hn
        · rw [hrun]
          refine Calls.mono hcall ?_
          rintro e w'' ⟨rfl, rfl⟩
          exact hn
end
end Go.Proofs.YtipkgoghodkbfaaDoor
namespace Go.Proofs.YtipkgoghodkbfaaDoor
open Go
set_option linter.unusedVariables false

/-- Several slots written. -/
def puts (a : Act) (l : List (Nat × Value)) : Act := l.foldl (fun a p => a.put (some p.1) p.2) a
theorem puts_size (l : List (Nat × Value)) : ∀ a : Act, (puts a l).tmps.size = a.tmps.size ∧ (puts a l).defers = a.defers := by
  induction l with
  | nil => intro a; exact ⟨rfl, rfl⟩
  | cons p l ih =>
    intro a
    obtain ⟨h1, h2⟩ := ih (a.put (some p.1) p.2)
    exact ⟨by rw [puts, List.foldl_cons] at *; rw [h1]; simp [Act.put], by rw [puts, List.foldl_cons] at *; rw [h2]; rfl⟩
theorem puts_other (l : List (Nat × Value)) (t : Nat) (h : ∀ p ∈ l, p.1 ≠ t) : ∀ a : Act, (puts a l).tmps[t]? = a.tmps[t]? := by
  induction l with
  | nil => intro a; rfl
  | cons p l ih =>
    intro a
    have := ih (fun q hq => h q (by simp [hq])) (a.put (some p.1) p.2)
    rw [puts, List.foldl_cons] at *
    rw [this]
    show (a.tmps.setIfInBounds p.1 p.2)[t]? = _
    rw [Array.getElem?_setIfInBounds_ne (h p (by simp))]
/-- Each operation from number i on, but numbers k and s: what it yields. -/
def AllYl (P : Program) (full : Act) (W0 W1 : World) (k s : Nat) : Nat → List Oper → Prop
  | _, [] => True
  | i, o :: rest => (i = k ∨ i = s ∨ ∃ d, o.dst = some d ∧ ∀ W, (W = W0 ∨ W = W1) → Yl P o full W (full.tmps.getD d undef)) ∧ AllYl P full W0 W1 k s (i + 1) rest
theorem AllYl.at {P : Program} {full : Act} {W0 W1 : World} {k s : Nat} : ∀ (l : List Oper) (b : Nat), AllYl P full W0 W1 k s b l → ∀ i o, l[i]? = some o → b + i ≠ k → b + i ≠ s → ∃ d, o.dst = some d ∧ ∀ W, (W = W0 ∨ W = W1) → Yl P o full W (full.tmps.getD d undef) := by
  intro l
  induction l with
  | nil => intro b _ i o h; simp at h
  | cons o' l ih =>
    intro b h i o hi h1 h2
    cases i with
    | zero =>
      obtain rfl : o' = o := by simpa using hi
      rcases h.1 with h3 | h3 | h3
      · exact absurd h3 h1
      · exact absurd h3 h2
      · exact h3
    | succ i => exact ih (b + 1) h.2 i o (by simpa using hi) (by omega) (by omega)

/-- The region, by its list of operations: number k makes the variable, the last one, s, writes it. -/
theorem region_fix {P : Program} {id : Nat} {l : List Oper} {Q : Exit → Act → World → Prop} {a0 : Act} {w : World} (full : Act) (pl : List (Nat × Value)) (W1 W2 : World) (k s : Nat)
    (hm : P.follows .mixedOrders = true) (hfull : full = puts a0 pl) (hd : depB l.toArray = true) (hpl : (pl.all fun p => (List.range l.length).any (fun j => dstOf l.toArray j == some p.1)) = true)
    (hks : k ≠ s) (hkl : k < l.length) (hsl : s + 1 = l.length)
    (hq : AllYl P full w.drew W1 k s 0 l)
    (ok os : Oper) (hok : l[k]? = some ok) (hos : l[s]? = some os)
    (dk : Nat) (hk1 : ok.dst = some dk) (hk2 : (execOp full.eval ok).run P w.drew = .ok (.value (full.tmps.getD dk undef)) W1)
    (hs1 : os.dst = none) (hs2 : lastB l.toArray s = true) (hs3 : (execOp full.eval os).run P W1 = .ok .skip W2)
    (hend : Q .normal full W2) : (Code.region id l.toArray true).wp P Q a0 w := by
  obtain ⟨p1, p2⟩ := puts_size pl a0
  refine wp_region_any hm ?_
  have h0 : ∀ t, (∀ j, dstOf l.toArray j ≠ some t) → full.tmps[t]? = a0.tmps[t]? := by
    intro t hn
    rw [hfull]
    refine puts_other pl t (fun p hp e => ?_) a0
    have := List.all_eq_true.1 hpl p hp
    obtain ⟨j, _, hj⟩ := List.any_eq_true.1 this
    exact hn j (by rw [← e]; simpa using hj)
  have hz : (Array.replicate l.toArray.size false).toList.countP (fun b => !b) ≤ l.toArray.size := by
    refine Nat.le_trans (List.countP_le_length) ?_
    simp
  have hoff : ∀ i, isOn (Array.replicate l.toArray.size false) i = false := by
    intro i
    unfold isOn
    rw [Array.getD_eq_getD_getElem?, Array.getElem?_replicate]
    split <;> rfl
  have := any_fix (P := P) (ops := l.toArray) (Q := Q) (full := full) (a0 := a0) hd h0 (by rw [hfull, p1]) (by rw [hfull, p2]) k s w.drew W1 W2 hks
    (fun i o ho h1 h2 => hq.at l 0 i o (by simpa using ho) (by omega) (by omega))
    (fun o ho => by
      have : o = ok := by rw [show l.toArray[k]? = l[k]? by simp, hok] at ho; exact (Option.some.inj ho).symm
      subst this
      exact ⟨dk, hk1, hk2⟩)
    (fun o ho => by
      have : o = os := by rw [show l.toArray[s]? = l[s]? by simp, hos] at ho; exact (Option.some.inj ho).symm
      subst this
      exact ⟨hs1, .skip, Or.inl rfl, hs3⟩)
    hs2 (by simpa using hsl) (by simpa using hkl) (by simp; omega) hend l.toArray.size (Array.replicate l.toArray.size false) a0 (by simp) hz
    (fun h => by rw [hoff] at h; cases h)
    (fun i o _ h => by rw [hoff] at h; cases h)
    ⟨rfl, rfl, fun t => ⟨fun ⟨i, hi, _⟩ => (by rw [hoff] at hi; cases hi), fun _ => rfl⟩⟩
  have hw : wof k s w.drew W1 W2 (Array.replicate l.toArray.size false) = w.drew := by
    unfold wof
    rw [hoff, hoff]
    rfl
  rw [hw] at this
  exact this
end Go.Proofs.YtipkgoghodkbfaaDoor
namespace Go.Proofs.YtipkgoghodkbfaaDoor
open Go
set_option linter.unusedVariables false
set_option linter.unusedSimpArgs false

theorem puts_at : ∀ (pl : List (Nat × Value)) (a0 : Act) (k d : Nat) (v : Value), (pl.map (·.1)).Nodup → pl[k]? = some (d, v) → d < a0.tmps.size → (puts a0 pl).tmps.getD d undef = v := by
  intro pl
  induction pl with
  | nil => intro a0 k d v _ hk; simp at hk
  | cons p rest ih =>
    intro a0 k d v hnd hk hb
    have hnd' := List.nodup_cons.1 (by simpa using hnd : (p.1 :: rest.map (·.1)).Nodup)
    have e : puts a0 (p :: rest) = puts (a0.put (some p.1) p.2) rest := rfl
    rw [e]
    cases k with
    | zero =>
      obtain rfl : p = (d, v) := by simpa using hk
      have h1 := puts_other rest d (fun q hq he => hnd'.1 (List.mem_map.2 ⟨q, hq, he⟩)) (a0.put (some d) v)
      rw [Array.getD_eq_getD_getElem?, h1]
      show ((a0.tmps.setIfInBounds d v)[d]?).getD undef = v
      rw [Array.getElem?_setIfInBounds]
      simp [hb]
    | succ k => exact ih (a0.put (some p.1) p.2) k d v hnd'.2 (by simpa using hk) (by simpa [Act.put] using hb)
theorem ev_in {pl : List (Nat × Value)} {a0 : Act} (hnd : (pl.map (·.1)).Nodup) (hb : ∀ p ∈ pl, p.1 < a0.tmps.size) (k : Nat) {d : Nat} {v : Value} (hk : pl[k]? = some (d, v)) : (puts a0 pl).eval (.tmp d) = v :=
  puts_at pl a0 k d v hnd hk (hb _ (List.mem_of_getElem? hk))
theorem ev_out {pl : List (Nat × Value)} {a0 : Act} {d : Nat} {v : Value} (hn : ((pl.map (·.1)).contains d) = false) (hv : a0.eval (.tmp d) = v) : (puts a0 pl).eval (.tmp d) = v := by
  have h1 := puts_other pl d (fun q hq he => by
    have : (pl.map (·.1)).contains d = true := by rw [List.contains_iff_mem]; exact List.mem_map.2 ⟨q, hq, he⟩
    rw [hn] at this
    cases this) a0
  show (puts a0 pl).tmps.getD d undef = v
  rw [Array.getD_eq_getD_getElem?, h1, ← Array.getD_eq_getD_getElem?]
  exact hv
/-- Each operation from number i on, but numbers k and s: what it yields, by the list of what is put. -/
def AllYv (P : Program) (full : Act) (pl : List (Nat × Value)) (W0 W1 : World) (k s : Nat) : Nat → List Oper → Prop
  | _, [] => True
  | i, o :: rest => (i = k ∨ i = s ∨ ∃ (j d : Nat) (v : Value), o.dst = some d ∧ pl[j]? = some (d, v) ∧ ∀ W, (W = W0 ∨ W = W1) → Yl P o full W v) ∧ AllYv P full pl W0 W1 k s (i + 1) rest
theorem AllYv.cons {P : Program} {full : Act} {pl : List (Nat × Value)} {W0 W1 : World} {k s i : Nat} {o : Oper} {rest : List Oper} (h1 : i = k ∨ i = s ∨ ∃ (j d : Nat) (v : Value), o.dst = some d ∧ pl[j]? = some (d, v) ∧ ∀ W, (W = W0 ∨ W = W1) → Yl P o full W v) (h2 : AllYv P full pl W0 W1 k s (i + 1) rest) : AllYv P full pl W0 W1 k s i (o :: rest) := ⟨h1, h2⟩
theorem AllYv.nil {P : Program} {full : Act} {pl : List (Nat × Value)} {W0 W1 : World} {k s i : Nat} : AllYv P full pl W0 W1 k s i [] := trivial
theorem AllYv.yl {P : Program} {a0 : Act} {pl : List (Nat × Value)} {W0 W1 : World} {k s : Nat} (hnd : (pl.map (·.1)).Nodup) (hb : ∀ p ∈ pl, p.1 < a0.tmps.size) : ∀ (l : List Oper) (b : Nat), AllYv P (puts a0 pl) pl W0 W1 k s b l → AllYl P (puts a0 pl) W0 W1 k s b l := by
  intro l
  induction l with
  | nil => intro b _; trivial
  | cons o l ih =>
    intro b h
    refine ⟨?_, ih (b + 1) h.2⟩
    rcases h.1 with h1 | h1 | ⟨j, d, v, h1, h2, h3⟩
    · exact Or.inl h1
    · exact Or.inr (Or.inl h1)
    · refine Or.inr (Or.inr ⟨d, h1, fun W hW => ?_⟩)
      have : (puts a0 pl).tmps.getD d undef = v := puts_at pl a0 j d v hnd h2 (hb _ (List.mem_of_getElem? h2))
      rw [this]
      exact h3 W hW
theorem yM {P : Program} {o : Oper} {full : Act} {V : World} {a : Operand} {v : Value} (ho : o.op = .move a) (ha : full.eval a = v) : Yl P o full V v := by
  refine Or.inl ?_
  simp only [execOp, ho, ha]
  go_simp
theorem yL3 {o : Oper} {full : Act} {V : World} {a : Operand} {p : Addr} {n : Int} (ho : o.op = .load 3 a) (ha : full.eval a = .pointer (some p)) (hc : V.cell? p = some (.int .i64 n)) : Yl Tryd.prog o full V (.int .i64 n) := by
  refine Or.inl ?_
  simp only [execOp, ho, ha]
  go_simp
theorem yN {P : Program} {o : Oper} {full : Act} {V : World} {a : Operand} {p : Addr} (ho : o.op = .nilCheck a) (ha : full.eval a = .pointer (some p)) : Yl P o full V (.pointer (some p)) := by
  refine Or.inl ?_
  simp only [execOp, ho, ha]
  go_simp
/-- A part of a region that only reads, and a last one that writes: the first one, number 0, makes nothing. -/
theorem region_put {P : Program} {id : Nat} {l : List Oper} {Q : Exit → Act → World → Prop} {a0 : Act} {w : World} (pl : List (Nat × Value)) (W2 : World) (s n : Nat) (ks : List Nat)
    (hm : P.follows .mixedOrders = true) (hks : pl.map (·.1) = ks) (hnd : ks.Nodup) (hn : a0.tmps.size = n) (hbn : (ks.all fun d => decide (d < n)) = true) (hd : depB l.toArray = true) (hpl : (ks.all fun d => (List.range l.length).any (fun j => dstOf l.toArray j == some d)) = true)
    (hs0 : s ≠ 0) (hsl : s + 1 = l.length)
    (hq : (∀ (k d : Nat) (v : Value), pl[k]? = some (d, v) → (puts a0 pl).eval (.tmp d) = v) → AllYv P (puts a0 pl) pl w.drew w.drew 0 s 0 l)
    (ok os : Oper) (hok : l[0]? = some ok) (hos : l[s]? = some os)
    (dk : Nat) (vk : Value) (hk1 : ok.dst = some dk) (jk : Nat) (hjk : pl[jk]? = some (dk, vk))
    (hs1 : os.dst = none) (hs2 : lastB l.toArray s = true)
    (hs3 : (∀ (k d : Nat) (v : Value), pl[k]? = some (d, v) → (puts a0 pl).eval (.tmp d) = v) → (execOp (puts a0 pl).eval os).run P w.drew = .ok .skip W2)
    (hend : Q .normal (puts a0 pl) W2) (hv0 : (execOp (puts a0 pl).eval ok).run P w.drew = .ok (.value vk) w.drew) : (Code.region id l.toArray true).wp P Q a0 w := by
  subst hks hn
  have hb : ∀ p ∈ pl, p.1 < a0.tmps.size := fun p hp => by simpa using List.all_eq_true.1 hbn p.1 (List.mem_map.2 ⟨p, hp, rfl⟩)
  have hE := fun (k d : Nat) (v : Value) (hk : pl[k]? = some (d, v)) => ev_in hnd hb k hk
  have hv : (puts a0 pl).tmps.getD dk undef = vk := puts_at pl a0 jk dk vk hnd hjk (hb _ (List.mem_of_getElem? hjk))
  have hpl' : (pl.all fun p => (List.range l.length).any (fun j => dstOf l.toArray j == some p.1)) = true := by
    rw [List.all_eq_true]
    intro p hp
    exact List.all_eq_true.1 hpl p.1 (List.mem_map.2 ⟨p, hp, rfl⟩)
  exact region_fix (puts a0 pl) pl w.drew W2 0 s hm rfl hd hpl' hs0.symm (by omega) hsl (AllYv.yl hnd hb l 0 (hq hE)) ok os hok hos dk hk1 (by rw [hv]; exact hv0) hs1 hs2 (hs3 hE) hend
end Go.Proofs.YtipkgoghodkbfaaDoor
