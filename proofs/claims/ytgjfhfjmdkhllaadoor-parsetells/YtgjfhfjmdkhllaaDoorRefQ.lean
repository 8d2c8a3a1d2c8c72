/- A line as the document's own Parse takes it, beside the program's. Plain mathematics. -/
import Derived.Test.YtgjfhfjmdkhllaaDoorBacM
namespace Go.Proofs.YtgjfhfjmdkhllaaDoor.M
set_option linter.unusedSimpArgs false
set_option linter.unusedVariables false
open Go.Proofs.YtgjfhfjmdkhllaaDoor

theorem forms_at8 : (forms[0]).part = 1 ∧ (forms[1]).part = 2 ∧ (forms[2]).part = 3 ∧ (forms[3]).part = 3 ∧ (forms[4]).part = 3 ∧ (forms[5]).part = 3 ∧ (forms[6]).part = 3 ∧ (forms[7]).part = 3 ∧ (forms[8]).part = 3 ∧ (forms[9]).part = 3 := ⟨rfl, rfl, rfl, rfl, rfl, rfl, rfl, rfl, rfl, rfl⟩

/-- The forms whose first word is none of these: none. -/
theorem none_of {x : List UInt8} (h0 : x ≠ wConfig) (h1 : x ≠ wTask) (h2 : x ≠ wSubmit) (h3 : x ≠ wCancel) (h4 : x ≠ wQuery) (h5 : x ≠ wTick) (h6 : x ≠ wDispatch) (h7 : x ≠ wAnswer) : forms.filter (fun m => (words m).head? == some x) = [] := by
  rw [List.filter_eq_nil_iff]
  intro m hm
  have h : forms.all (fun m => ([wConfig, wTask, wSubmit, wCancel, wQuery, wTick, wDispatch, wAnswer].any (fun y => (words m).head? == some y))) = true := by decide +kernel
  have := List.all_eq_true.1 h m hm
  simp only [List.any_cons, List.any_nil, Bool.or_false, Bool.or_eq_true, beq_iff_eq] at this
  intro e
  have e' := beq_iff_eq.1 e
  rw [e'] at this
  simp only [Option.some.injEq] at this
  rcases this with h | h | h | h | h | h | h | h
  · exact h0 h
  · exact h1 h
  · exact h2 h
  · exact h3 h
  · exact h4 h
  · exact h5 h
  · exact h6 h
  · exact h7 h

theorem near_ref {t : Tok} {ts : List Tok} {E : Tok} (hts : ∀ x ∈ ts, TokOkL x ∧ x.kind ≠ 3) (hE : E.text = []) :
    ((refFm t.text (fourthF (t :: ts))).part ≠ 0 → NearIs (t :: (ts ++ [E])) (refFm t.text (fourthF (t :: ts)))) ∧ ((refFm t.text (fourthF (t :: ts))).part = 0 → (near (t :: (ts ++ [E]))).m.part = 0) := by
  unfold refFm
  by_cases h0 : t.text = wConfig
  · rw [if_pos h0]
    exact ⟨fun _ => near_is_one (m := forms[0]) (w := wConfig) (ws := (wants forms[0]).tail) (by rw [h0]; kernel_rfl) (by kernel_rfl) (by decide) h0, fun h => by cases h⟩
  rw [if_neg h0]
  by_cases h1 : t.text = wTask
  · rw [if_pos h1]
    exact ⟨fun _ => near_is_one (m := forms[1]) (w := wTask) (ws := (wants forms[1]).tail) (by rw [h1]; kernel_rfl) (by kernel_rfl) (by decide) h1, fun h => by cases h⟩
  rw [if_neg h1]
  by_cases h2 : t.text = wSubmit
  · rw [if_pos h2]
    exact ⟨fun _ => near_is_one (m := forms[2]) (w := wSubmit) (ws := (wants forms[2]).tail) (by rw [h2]; kernel_rfl) (by kernel_rfl) (by decide) h2, fun h => by cases h⟩
  rw [if_neg h2]
  by_cases h3 : t.text = wCancel
  · rw [if_pos h3]
    exact ⟨fun _ => near_is_one (m := forms[3]) (w := wCancel) (ws := (wants forms[3]).tail) (by rw [h3]; kernel_rfl) (by kernel_rfl) (by decide) h3, fun h => by cases h⟩
  rw [if_neg h3]
  by_cases h4 : t.text = wQuery
  · rw [if_pos h4]
    exact ⟨fun _ => near_is_one (m := forms[9]) (w := wQuery) (ws := (wants forms[9]).tail) (by rw [h4]; kernel_rfl) (by kernel_rfl) (by decide) h4, fun h => by cases h⟩
  rw [if_neg h4]
  by_cases h5 : t.text = wTick
  · rw [if_pos h5]
    exact ⟨fun _ => near_is_one (m := forms[4]) (w := wTick) (ws := (wants forms[4]).tail) (by rw [h5]; kernel_rfl) (by kernel_rfl) (by decide) h5, fun h => by cases h⟩
  rw [if_neg h5]
  by_cases h6 : t.text = wDispatch
  · rw [if_pos h6]
    exact ⟨fun _ => near_is_one (m := forms[5]) (w := wDispatch) (ws := (wants forms[5]).tail) (by rw [h6]; kernel_rfl) (by kernel_rfl) (by decide) h6, fun h => by cases h⟩
  rw [if_neg h6]
  by_cases h7 : t.text = wAnswer
  · rw [if_pos h7]
    refine ⟨fun _ => near_answer h7 hts hE, fun h => ?_⟩
    split at h
    · cases h
    · split at h <;> cases h
  rw [if_neg h7]
  refine ⟨fun h => absurd rfl h, fun _ => ?_⟩
  rw [near_none (none_of h0 h1 h2 h3 h4 h5 h6 h7)]
  rfl

/-- The error of a line, as the document's own take tells it. -/
def takeE (f : Fl) (l : List Tok) (first : Bool) : Int :=
  match l with
  | [] => 2
  | t :: ts =>
    if mayStand f (refFm t.text (fourthF (t :: ts))).part first = false then 2
    else if isFull f (refFm t.text (fourthF (t :: ts))).part = true then 4
    else (numF (words (refFm t.text (fourthF (t :: ts)))) (t :: ts) []).2
/-- A file with the line. -/
def takeA (f : Fl) (l : List Tok) : Fl :=
  match l with
  | [] => f
  | t :: ts =>
    let m := refFm t.text (fourthF (t :: ts))
    let ns := (numF (words m) (t :: ts) []).1
    if m.part = 1 then { f with cfg := ns } else if m.part = 2 then { f with tasks := f.tasks ++ [(ns.getD 0 0, ns.getD 1 0)] } else { f with ops := f.ops ++ [opOf m ns] }
theorem refFm_mem {a b : List UInt8} (h : (refFm a b).part ≠ 0) : refFm a b ∈ forms ∧ (a ≠ [] ∧ ∀ c ∈ a, cls c = 1) := by
  unfold refFm at h ⊢
  by_cases h_wConfig : a = wConfig
  · rw [if_pos h_wConfig]
    exact ⟨List.getElem_mem _, by rw [h_wConfig]; exact ⟨by decide, by decide⟩⟩
  rw [if_neg h_wConfig] at h ⊢
  by_cases h_wTask : a = wTask
  · rw [if_pos h_wTask]
    exact ⟨List.getElem_mem _, by rw [h_wTask]; exact ⟨by decide, by decide⟩⟩
  rw [if_neg h_wTask] at h ⊢
  by_cases h_wSubmit : a = wSubmit
  · rw [if_pos h_wSubmit]
    exact ⟨List.getElem_mem _, by rw [h_wSubmit]; exact ⟨by decide, by decide⟩⟩
  rw [if_neg h_wSubmit] at h ⊢
  by_cases h_wCancel : a = wCancel
  · rw [if_pos h_wCancel]
    exact ⟨List.getElem_mem _, by rw [h_wCancel]; exact ⟨by decide, by decide⟩⟩
  rw [if_neg h_wCancel] at h ⊢
  by_cases h_wQuery : a = wQuery
  · rw [if_pos h_wQuery]
    exact ⟨List.getElem_mem _, by rw [h_wQuery]; exact ⟨by decide, by decide⟩⟩
  rw [if_neg h_wQuery] at h ⊢
  by_cases h_wTick : a = wTick
  · rw [if_pos h_wTick]
    exact ⟨List.getElem_mem _, by rw [h_wTick]; exact ⟨by decide, by decide⟩⟩
  rw [if_neg h_wTick] at h ⊢
  by_cases h_wDispatch : a = wDispatch
  · rw [if_pos h_wDispatch]
    exact ⟨List.getElem_mem _, by rw [h_wDispatch]; exact ⟨by decide, by decide⟩⟩
  rw [if_neg h_wDispatch] at h ⊢
  by_cases h_a : a = wAnswer
  · rw [if_pos h_a]
    refine ⟨?_, by rw [h_a]; exact ⟨by decide, by decide⟩⟩
    split
    · exact List.getElem_mem _
    · split
      · exact List.getElem_mem _
      · exact List.getElem_mem _
  rw [if_neg h_a] at h
  exact absurd rfl h
theorem ref_kind {t : Tok} {ts : List Tok} (hT : TokOkL t) (h : (refFm t.text (fourthF (t :: ts))).part ≠ 0) : t.kind = 1 := tok_letters hT (refFm_mem h).2 rfl

/-- What the document takes is what the program reads. -/
theorem take_is (f : Fl) {t : Tok} {ts : List Tok} {E : Tok} (first : Bool) (hT : TokOkL t ∧ t.kind ≠ 3) (hts : ∀ x ∈ ts, TokOkL x ∧ x.kind ≠ 3) (hE : E.text = []) :
    lineErr f (t :: (ts ++ [E])) first = takeE f (t :: ts) first ∧ (takeE f (t :: ts) first = 0 → lineAdd f (t :: (ts ++ [E])) = takeA f (t :: ts)) := by
  obtain ⟨hn, hz⟩ := near_ref (t := t) hts hE
  unfold lineErr takeE lineAdd takeA
  simp only
  by_cases hp : (refFm t.text (fourthF (t :: ts))).part = 0
  · have := hz hp
    rw [this, hp]
    have e : mayStand f 0 first = false := rfl
    rw [e]
    exact ⟨rfl, fun h => by simp at h⟩
  · obtain ⟨n1, n2, n3⟩ := hn hp
    have hm := (refFm_mem hp).1
    generalize refFm t.text (fourthF (t :: ts)) = m at *
    have hall : ∀ x ∈ t :: ts, TokOkL x ∧ x.kind ≠ 3 := by
      intro x hx
      rcases List.mem_cons.1 hx with rfl | hx
      · exact hT
      · exact hts x hx
    obtain ⟨q1, q2⟩ := fol_num (words m) (t :: ts) E 0 [] (words_ok hm) hall hE
    have q1' : (fol (wants m) (t :: (ts ++ [E])) 0 []).err = (numF (words m) (t :: ts) []).2 := q1
    have q2' : (numF (words m) (t :: ts) []).2 = 0 → (fol (wants m) (t :: (ts ++ [E])) 0 []).ns = (numF (words m) (t :: ts) []).1 := q2
    rw [n1]
    constructor
    · split
      · rfl
      · split
        · rfl
        · rw [n2, q1']
    · intro h
      split at h
      · simp at h
      · split at h
        · simp at h
        · obtain ⟨r1, r2⟩ := n3 (by rw [n2, q1']; exact h)
          rw [r1, r2, q2' h]

end Go.Proofs.YtgjfhfjmdkhllaaDoor.M
