/- What follows of the machine of states: lines have nothing to do with each other; blanks and comments do not matter; what tokens say is read as they are. Plain mathematics. -/
import Derived.Test.YtgjfhfjmdkhllaaDoorLexM
namespace Go.Proofs.YtgjfhfjmdkhllaaDoor.M
set_option linter.unusedVariables false
set_option linter.unusedSimpArgs false

/-! ### Lines -/
def shift (d : Nat) (t : Tok) : Tok := ⟨t.kind, t.text, t.line + d⟩
/-- A state so many lines later, behind other tokens. -/
def lift (X : List Tok) (d : Nat) : St → St
  | Except.error l => St.bad (l + d)
  | Except.ok s => St.ok s.m s.cur (X ++ s.ts.map (shift d)) (s.line + d)

theorem closed_app {X : List Tok} (hX : closed X = true) (ts : List Tok) (d : Nat) : closed (X ++ ts.map (shift d)) = closed ts := by
  cases h : ts.getLast? with
  | none =>
    have : ts = [] := by simpa using h
    subst this
    simpa [closed] using hX
  | some t =>
    have hl : (X ++ ts.map (shift d)).getLast? = some (shift d t) := by
      rw [List.getLast?_append, List.getLast?_map, h]; rfl
    unfold closed
    rw [hl, h]
    rfl
theorem endLine_lift {X : List Tok} (hX : closed X = true) (ts : List Tok) (d line : Nat) : endLine (X ++ ts.map (shift d)) (line + d) = X ++ (endLine ts line).map (shift d) := by
  unfold endLine
  rw [closed_app hX]
  by_cases h : closed ts = true
  · rw [if_pos h, if_pos h]
  · rw [if_neg h, if_neg h]
    simp [shift]
theorem flush_lift (X ts : List Tok) (d m line : Nat) (cur : List UInt8) : flush m cur (X ++ ts.map (shift d)) (line + d) = X ++ (flush m cur ts line).map (shift d) := by
  unfold flush
  by_cases h : m = 1 ∨ m = 2
  · rw [if_pos h, if_pos h]; simp [shift]
  · rw [if_neg h, if_neg h]
theorem cls_cases (c : UInt8) : cls c = 0 ∨ cls c = 1 ∨ cls c = 2 ∨ cls c = 3 ∨ cls c = 4 ∨ cls c = 5 := by have := cls_le c; omega
theorem step_lift {X : List Tok} (hX : closed X = true) (d : Nat) (st : St) (c : UInt8) : step (lift X d st) c = lift X d (step st c) := by
  cases st with
  | error l => rfl
  | ok s =>
    obtain ⟨m, cur, ts, line⟩ := s
    show step (.ok m cur (X ++ ts.map (shift d)) (line + d)) c = _
    by_cases h5 : cls c = 5
    · rw [step5 h5, step5 h5, flush_lift, endLine_lift hX]
      simp only [lift]
      congr 1
      omega
    · by_cases hm : m = 3
      · subst hm; rw [step_cm h5, step_cm h5]; rfl
      · rcases cls_cases c with h | h | h | h | h | h
        · rw [step0 h hm, step0 h hm]; rfl
        · rw [step1 h hm, step1 h hm]; split <;> rfl
        · rw [step2 h hm, step2 h hm]; split <;> rfl
        · rw [step3 h hm, step3 h hm, flush_lift]; rfl
        · rw [step4 h hm, step4 h hm, flush_lift]; rfl
        · exact absurd h h5
theorem run_lift {X : List Tok} (hX : closed X = true) (d : Nat) (bs : List UInt8) : ∀ st, run (lift X d st) bs = lift X d (run st bs) := by
  induction bs with
  | nil => intro st; rfl
  | cons c bs ih => intro st; rw [run_cons, run_cons, step_lift hX, ih]

theorem closed_endLine (ts : List Tok) (l : Nat) : closed (endLine ts l) = true := by
  unfold endLine
  by_cases h : closed ts = true
  · rw [if_pos h]; exact h
  · rw [if_neg h]; simp [closed]

/-- How many lines there are. -/
def lines (bs : List UInt8) : Nat := bs.count 10
theorem cls10 (c : UInt8) : cls c = 5 ↔ c = 10 := by
  constructor
  · intro h
    unfold cls at h
    repeat' split at h
    all_goals first | omega | skip
    have : c.toNat = 10 := by assumption
    exact UInt8.toNat_inj.1 this
  · intro h; subst h; decide
theorem line_of (bs : List UInt8) : ∀ m cur ts l m' cur' ts' l', run (.ok m cur ts l) bs = .ok m' cur' ts' l' → l' = l + lines bs := by
  induction bs with
  | nil => intro m cur ts l m' cur' ts' l' h; cases h; rfl
  | cons c bs ih =>
    intro m cur ts l m' cur' ts' l' h
    rw [run_cons] at h
    by_cases h5 : cls c = 5
    · rw [step5 h5] at h
      have := ih _ _ _ _ _ _ _ _ h
      obtain rfl := (cls10 c).1 h5
      simp only [lines, List.count_cons_self] at this ⊢
      omega
    · have hl : lines (c :: bs) = lines bs := by
        unfold lines
        rw [List.count_cons_of_ne]
        intro e; exact h5 ((cls10 c).2 e)
      rw [hl]
      by_cases hm : m = 3
      · subst hm; rw [step_cm h5] at h; exact ih _ _ _ _ _ _ _ _ h
      · rcases cls_cases c with e | e | e | e | e | e
        · rw [step0 e hm, run_bad] at h; cases h
        · rw [step1 e hm] at h; split at h
          · rw [run_bad] at h; cases h
          · exact ih _ _ _ _ _ _ _ _ h
        · rw [step2 e hm] at h; split at h
          · rw [run_bad] at h; cases h
          · exact ih _ _ _ _ _ _ _ _ h
        · rw [step3 e hm] at h; exact ih _ _ _ _ _ _ _ _ h
        · rw [step4 e hm] at h; exact ih _ _ _ _ _ _ _ _ h
        · exact absurd e h5

/-- Two texts, in lines of their own. -/
theorem lex_two (a b : List UInt8) (h : (a ++ [10] ++ b).length ≤ 65536) :
    ((lexF a).2.2 ≠ 0 → lexF (a ++ [10] ++ b) = lexF a) ∧
    ((lexF a).2.2 = 0 → (lexF b).2.2 ≠ 0 → lexF (a ++ [10] ++ b) = ([], (lexF b).2.1 + (lines a + 1), (lexF b).2.2)) ∧
    ((lexF a).2.2 = 0 → (lexF b).2.2 = 0 → lexF (a ++ [10] ++ b) = ((lexF a).1 ++ (lexF b).1.map (shift (lines a + 1)), 0, 0)) := by
  have ha : lexF a = fin (run init a) := by unfold lexF; rw [if_neg (by simp at h; omega)]
  have hb : lexF b = fin (run init b) := by unfold lexF; rw [if_neg (by simp at h; omega)]
  have hab : lexF (a ++ [10] ++ b) = fin (run (step (run init a) 10) b) := by
    unfold lexF; rw [if_neg (by omega), run_app, run_app]; rfl
  rw [ha, hb, hab]
  cases hra : run init a with
  | error l =>
    refine ⟨fun _ => ?_, fun e => ?_, fun e => ?_⟩
    · show fin (run (.bad l) b) = _; rw [run_bad]
    · simp [fin] at e
    · simp [fin] at e
  | ok s =>
    obtain ⟨m, cur, ts, line⟩ := s
    have hl := line_of a _ _ _ _ _ _ _ _ hra
    have hs : step (.ok m cur ts line) 10 = lift (endLine (flush m cur ts line) line) (lines a + 1) init := by
      rw [step5 (by decide)]
      simp only [lift, init, List.map_nil, List.append_nil]
      congr 1
      omega
    refine ⟨fun e => absurd rfl e, fun _ e => ?_, fun _ e => ?_⟩
    · rw [hs, run_lift (closed_endLine _ _)]
      cases hrb : run init b with
      | error l => rfl
      | ok s => rw [hrb] at e; exact absurd rfl e
    · rw [hs, run_lift (closed_endLine _ _)]
      cases hrb : run init b with
      | error l => rw [hrb] at e; simp [fin] at e
      | ok s =>
        obtain ⟨m', cur', ts', line'⟩ := s
        show fin (.ok m' cur' (_ ++ ts'.map (shift _)) (line' + _)) = _
        simp only [fin]
        rw [flush_lift, endLine_lift (closed_endLine _ _)]

/-! ### Blanks -/
theorem blank_twice (st : St) (c c' : UInt8) (h : cls c = 3) (h' : cls c' = 3) : step (step st c) c' = step st c := by
  cases st with
  | error l => rfl
  | ok s =>
    obtain ⟨m, cur, ts, line⟩ := s
    by_cases hm : m = 3
    · subst hm; rw [step_cm (by omega), step_cm (by omega)]
    · rw [step3 h hm, step3 h' (by omega)]; simp [flush]
theorem blank_more (st : St) (c : UInt8) (h : cls c = 3) (bs : List UInt8) (hb : ∀ c' ∈ bs, cls c' = 3) : run (step st c) bs = step st c := by
  induction bs with
  | nil => rfl
  | cons c' bs ih => rw [run_cons, blank_twice st c c' h (hb c' (by simp))]; exact ih (fun x hx => hb x (by simp [hx]))

/-! ### Comments -/
theorem comment_run (m : Nat) (cur : List UInt8) (ts : List Tok) (l : Nat) (cs : List UInt8) (h : ∀ c ∈ cs, cls c ≠ 5) : run (.ok m cur ts l) (35 :: cs) = .ok 3 [] (flush m cur ts l) l := by
  have hc : ∀ ts, run (.ok 3 [] ts l) cs = .ok 3 [] ts l := by
    intro ts
    induction cs with
    | nil => rfl
    | cons c cs ih => rw [run_cons, step_cm (h c (by simp))]; exact ih (fun x hx => h x (by simp [hx]))
  rw [run_cons]
  by_cases hm : m = 3
  · subst hm
    rw [step_cm (by decide), hc]
    simp [flush]
  · rw [step4 (by decide) hm, hc]
/-- A comment at a line's end, or at the text's. -/
theorem lex_comment (pre post cs : List UInt8) (hc : ∀ c ∈ cs, cls c ≠ 5) (hp : ∀ c r, post = c :: r → cls c = 5) (hl : (pre ++ (35 :: cs) ++ post).length ≤ 65536) (hok : (lexF (pre ++ post)).2.2 = 0) :
    lexF (pre ++ (35 :: cs) ++ post) = lexF (pre ++ post) := by
  have e1 : lexF (pre ++ post) = fin (run (run init pre) post) := by unfold lexF; rw [if_neg (by simp at hl ⊢; omega), run_app]
  have e2 : lexF (pre ++ (35 :: cs) ++ post) = fin (run (run (run init pre) (35 :: cs)) post) := by unfold lexF; rw [if_neg (by omega), run_app, run_app]
  rw [e1] at hok ⊢
  rw [e2]
  cases hr : run init pre with
  | error l => rw [hr, run_bad] at hok; simp [fin] at hok
  | ok s =>
    obtain ⟨m, cur, ts, l⟩ := s
    rw [comment_run m cur ts l cs hc]
    cases post with
    | nil => simp [run_nil, fin, flush]
    | cons c r =>
      rw [run_cons, run_cons, step5 (hp c r rfl), step5 (hp c r rfl)]
      simp [flush]

end Go.Proofs.YtgjfhfjmdkhllaaDoor.M
