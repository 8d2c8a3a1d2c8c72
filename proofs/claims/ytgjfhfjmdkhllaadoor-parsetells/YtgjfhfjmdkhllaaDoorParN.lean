/- Plain mathematics of lines: a line that follows its form has as many numbers as the form. -/
import Derived.Test.YtgjfhfjmdkhllaaDoorParM
namespace Go.Proofs.YtgjfhfjmdkhllaaDoor.M
set_option linter.unusedSimpArgs false
set_option linter.unusedVariables false
open Go.Proofs.YtgjfhfjmdkhllaaDoor

theorem form_facts {m : Fm} (hm : m ∈ forms) : (words m).count [78] = nums m ∧ (m.part = 1 ∨ m.part = 2 ∨ m.part = 3) ∧ (m.part = 1 → nums m = 10) ∧ (m.part = 2 → nums m = 2) ∧ (m.part = 3 → nums m ≤ 3) ∧ (∀ x ∈ words m, x ≠ []) := by
  have h : forms.all (fun m => decide ((words m).count [78] = nums m) && (decide (m.part = 1) || decide (m.part = 2) || decide (m.part = 3)) && (decide (m.part ≠ 1) || decide (nums m = 10)) && (decide (m.part ≠ 2) || decide (nums m = 2)) && (decide (m.part ≠ 3) || decide (nums m ≤ 3)) && (words m).all (fun x => !x.isEmpty)) = true := by decide +kernel
  have := List.all_eq_true.1 h m hm
  simp only [Bool.and_eq_true, Bool.or_eq_true, List.all_eq_true, decide_eq_true_eq, Bool.not_eq_true', List.isEmpty_eq_false_iff] at this
  obtain ⟨⟨⟨⟨⟨h1, h2⟩, h3⟩, h4⟩, h5⟩, h6⟩ := this
  refine ⟨h1, ?_, fun e => ?_, fun e => ?_, fun e => ?_, h6⟩
  · rcases h2 with (h | h) | h
    · exact .inl h
    · exact .inr (.inl h)
    · exact .inr (.inr h)
  · rcases h3 with h | h
    · exact absurd e h
    · exact h
  · rcases h4 with h | h
    · exact absurd e h
    · exact h
  · rcases h5 with h | h
    · exact absurd e h
    · exact h

theorem pE_nil : pE [] = 2 := (pE_two (.inl rfl)).1

/-- The rest of a line: its last token alone is without bytes. -/
def RestOk (ts : List Tok) : Prop := ∃ q e, ts = q ++ [e] ∧ e.text = [] ∧ ∀ t ∈ q, t.text ≠ []
theorem LineOk.rest {line : List Tok} (h : LineOk line) : RestOk line := by
  obtain ⟨hok, q, e, rfl, he, hq⟩ := h
  exact ⟨q, e, rfl, (hok e (by simp)).1.1 he, fun t ht => fun hx => hq t ht ((hok t (by simp [ht])).1.2 hx)⟩
theorem RestOk.tail {t : Tok} {ts : List Tok} (h : RestOk (t :: ts)) (ht : t.text ≠ []) : RestOk ts := by
  obtain ⟨q, e, hq, he, ha⟩ := h
  cases q with
  | nil => simp at hq; exact absurd (by rw [hq.1]; exact he) ht
  | cons x q => simp at hq; exact ⟨q, e, hq.2, he, fun u hu => ha u (by simp [hu])⟩
theorem RestOk.nil {t : Tok} {ts : List Tok} (h : RestOk (t :: ts)) (ht : t.text = []) : ts = [] := by
  obtain ⟨q, e, hq, he, ha⟩ := h
  cases q with
  | nil => simp at hq; exact hq.2
  | cons x q => simp at hq; exact absurd ht (ha t (by rw [hq.1]; simp))

theorem fol_count : ∀ (us : List (List UInt8)) (ts : List Tok) (i : Nat) (acc : List Int), (∀ x ∈ us, x ≠ []) → RestOk ts → (fol (us ++ [[]]) ts i acc).err = 0 → (fol (us ++ [[]]) ts i acc).ns.length = acc.length + us.count [78] ∧ (fol (us ++ [[]]) ts i acc).far = i + ts.length ∧ ts.length = us.length + 1
  | [], ts, i, acc, _, hr, he => by
    cases ts with
    | nil => obtain ⟨q, e, hq, _⟩ := hr; simp at hq
    | cons t ts =>
      simp only [List.nil_append] at he ⊢
      unfold fol at he ⊢
      rw [if_neg (by simp)] at he ⊢
      by_cases ht : t.text = []
      · rw [if_pos ht] at he ⊢
        rw [hr.nil ht]
        unfold fol
        simp
      · rw [if_neg ht] at he; simp at he
  | u :: us, ts, i, acc, hu, hr, he => by
    cases ts with
    | nil => obtain ⟨q, e, hq, _⟩ := hr; simp at hq
    | cons t ts =>
      simp only [List.cons_append] at he ⊢
      unfold fol at he ⊢
      by_cases h78 : u = [78]
      · rw [if_pos h78] at he ⊢
        by_cases hp : pE t.text = 0
        · rw [if_pos hp] at he ⊢
          have ht : t.text ≠ [] := fun h => by rw [h, pE_nil] at hp; exact absurd hp (by decide)
          obtain ⟨h1, h2, h3⟩ := fol_count us ts (i + 1) (acc ++ [pV t.text]) (fun x hx => hu x (by simp [hx])) (hr.tail ht) he
          refine ⟨?_, by rw [h2]; simp; omega, by simp; omega⟩
          rw [h1, h78]
          simp; omega
        · rw [if_neg hp] at he; exact absurd he hp
      · rw [if_neg h78] at he ⊢
        by_cases ht : t.text = u
        · rw [if_pos ht] at he ⊢
          have ht' : t.text ≠ [] := by rw [ht]; exact hu u (by simp)
          obtain ⟨h1, h2, h3⟩ := fol_count us ts (i + 1) acc (fun x hx => hu x (by simp [hx])) (hr.tail ht') he
          refine ⟨?_, by rw [h2]; simp; omega, by simp; omega⟩
          rw [h1, List.count_cons]
          simp [h78]
        · rw [if_neg ht] at he; simp at he

/-- What the nearest form is: none, or one of the table's, with what the line tells of it. -/
def NearOk (line : List Tok) (a : Nr) : Prop := (a.m = noForm ∧ a.far = 0) ∨ (a.m ∈ forms ∧ fol (wants a.m) line 0 [] = ⟨a.ns, a.far, a.err⟩)
theorem nearFrom_ok (line : List Tok) : ∀ (l : List Fm) (a : Nr), (∀ m ∈ l, m ∈ forms) → NearOk line a → NearOk line (nearFrom line a l)
  | [], a, _, h => h
  | m :: l, a, hl, h => by
    have : nearFrom line a (m :: l) = nearFrom line (nearStep line a m) l := rfl
    rw [this]
    refine nearFrom_ok line l _ (fun x hx => hl x (by simp [hx])) ?_
    unfold nearStep
    simp only
    split
    · exact .inr ⟨hl m (by simp), rfl⟩
    · exact h
theorem near_ok (line : List Tok) : NearOk line (near line) := nearFrom_ok line forms _ (fun _ h => h) (.inl ⟨rfl, rfl⟩)

theorem near_form {line : List Tok} (h : (near line).m.part ≠ 0) : (near line).m ∈ forms ∧ fol (wants (near line).m) line 0 [] = ⟨(near line).ns, (near line).far, (near line).err⟩ := by
  rcases near_ok line with ⟨h1, _⟩ | h1
  · rw [h1] at h; exact absurd rfl h
  · exact h1
theorem near_nums {line : List Tok} (hl : LineOk line) (h : (near line).m.part ≠ 0) (he : (near line).err = 0) : (near line).ns.length = nums (near line).m := by
  obtain ⟨hm, hf⟩ := near_form h
  obtain ⟨h1, _, _, _, _, h6⟩ := form_facts hm
  have := (fol_count (words (near line).m) line 0 [] h6 hl.rest (by show (fol (wants (near line).m) line 0 []).err = 0; rw [hf]; exact he)).1
  have e : (fol (wants (near line).m) line 0 []).ns.length = _ := this
  rw [hf] at e
  simp only [List.length_nil, Nat.zero_add] at e
  rw [e, h1]

theorem mayStand_part {f : Fl} {p : Nat} {first : Bool} (h : mayStand f p first = true) : p ≠ 0 := by
  intro e
  subst e
  simp [mayStand] at h

end Go.Proofs.YtgjfhfjmdkhllaaDoor.M
