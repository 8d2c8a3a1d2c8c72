/- What tokens Lex makes, as plain mathematics: each End, and no other, has no bytes; the last token is an End; how many, how long. -/
import Derived.Test.YtgjfhfjmdkhllaaDoorParM
namespace Go.Proofs.YtgjfhfjmdkhllaaDoor.M
set_option linter.unusedSimpArgs false
set_option linter.unusedVariables false
open Go.Proofs.YtgjfhfjmdkhllaaDoor

/-- A token of at most so many bytes. -/
def TokN (n : Nat) (t : Tok) : Prop := (t.kind = 3 ↔ t.text = []) ∧ t.text.length ≤ n
def pend (m : Nat) : Nat := if m = 1 ∨ m = 2 then 1 else 0
/-- What holds of a state behind n bytes. -/
def Made (n : Nat) : St → Prop
  | Except.error _ => True
  | Except.ok s => (∀ t ∈ s.ts, TokN n t) ∧ s.cur.length ≤ n ∧ ((s.m = 1 ∨ s.m = 2) → s.cur ≠ []) ∧ s.ts.length + pend s.m ≤ n

theorem TokN.mono {n n' : Nat} {t : Tok} (h : TokN n t) (hn : n ≤ n') : TokN n' t := ⟨h.1, Nat.le_trans h.2 hn⟩
theorem flush_made {n m : Nat} {cur : List UInt8} {ts : List Tok} {line : Nat} (h : ∀ t ∈ ts, TokN n t) (hc : cur.length ≤ n) (hm : (m = 1 ∨ m = 2) → cur ≠ []) : (∀ t ∈ flush m cur ts line, TokN n t) ∧ (flush m cur ts line).length = ts.length + pend m := by
  unfold flush pend
  by_cases h1 : m = 1 ∨ m = 2
  · rw [if_pos h1, if_pos h1]
    refine ⟨fun t ht => ?_, by simp⟩
    simp only [List.mem_append, List.mem_cons, List.not_mem_nil, or_false] at ht
    rcases ht with ht | rfl
    · exact h t ht
    · refine ⟨⟨fun (e : m = 3) => ?_, fun (e : cur = []) => absurd e (hm h1)⟩, hc⟩
      omega
  · rw [if_neg h1, if_neg h1]; exact ⟨h, rfl⟩
theorem endLine_made {n : Nat} {ts : List Tok} {line : Nat} (h : ∀ t ∈ ts, TokN n t) : (∀ t ∈ endLine ts line, TokN n t) ∧ (endLine ts line).length ≤ ts.length + 1 := by
  unfold endLine
  split
  · exact ⟨h, by omega⟩
  · refine ⟨fun t ht => ?_, by simp⟩
    simp only [List.mem_append, List.mem_cons, List.not_mem_nil, or_false] at ht
    rcases ht with ht | rfl
    · exact h t ht
    · exact ⟨⟨fun _ => rfl, fun _ => rfl⟩, Nat.zero_le _⟩
theorem made_step {n : Nat} {st : St} (c : UInt8) (h : Made n st) : Made (n + 1) (step st c) := by
  cases st with
  | error l => trivial
  | ok s =>
    obtain ⟨h1, h2, h3, h4⟩ := h
    have hl := cls_le c
    have hup : ∀ t ∈ s.ts, TokN (n + 1) t := fun t ht => (h1 t ht).mono (by omega)
    have hfl := flush_made (line := s.line) hup (Nat.le_succ_of_le h2) h3
    have hpd : pend s.m ≤ 1 := by unfold pend; split <;> omega
    have e : step (Except.ok s) c = next s.m s.cur s.ts s.line c (cls c) := rfl
    rw [e]
    have hc : cls c = 0 ∨ cls c = 1 ∨ cls c = 2 ∨ cls c = 3 ∨ cls c = 4 ∨ cls c = 5 := by omega
    rcases hc with hc | hc | hc | hc | hc | hc <;> rw [hc]
    · show Made (n + 1) (if s.m = 3 then .ok 3 [] s.ts s.line else .bad s.line)
      split
      · exact ⟨hup, by simp, fun (h : (3 : Nat) = 1 ∨ (3 : Nat) = 2) => by omega, by simp [pend]; omega⟩
      · trivial
    · show Made (n + 1) (if s.m = 3 then .ok 3 [] s.ts s.line else (if s.m = 2 then .bad s.line else .ok 1 (s.cur ++ [c]) s.ts s.line))
      split
      · exact ⟨hup, by simp, fun (h : (3 : Nat) = 1 ∨ (3 : Nat) = 2) => by omega, by simp [pend]; omega⟩
      · split
        · trivial
        · exact ⟨hup, by simp; omega, fun _ => by simp, by simp [pend]; omega⟩
    · show Made (n + 1) (if s.m = 3 then .ok 3 [] s.ts s.line else (if s.m = 1 then .bad s.line else .ok 2 (s.cur ++ [c]) s.ts s.line))
      split
      · exact ⟨hup, by simp, fun (h : (3 : Nat) = 1 ∨ (3 : Nat) = 2) => by omega, by simp [pend]; omega⟩
      · split
        · trivial
        · exact ⟨hup, by simp; omega, fun _ => by simp, by simp [pend]; omega⟩
    · show Made (n + 1) (if s.m = 3 then .ok 3 [] s.ts s.line else .ok 0 [] (flush s.m s.cur s.ts s.line) s.line)
      split
      · exact ⟨hup, by simp, fun (h : (3 : Nat) = 1 ∨ (3 : Nat) = 2) => by omega, by simp [pend]; omega⟩
      · exact ⟨hfl.1, by simp, fun (h : (0 : Nat) = 1 ∨ (0 : Nat) = 2) => by omega, by have := hfl.2; show (flush s.m s.cur s.ts s.line).length + pend _ ≤ n + 1; rw [this]; simp [pend]; unfold pend at h4; omega⟩
    · show Made (n + 1) (if s.m = 3 then .ok 3 [] s.ts s.line else .ok 3 [] (flush s.m s.cur s.ts s.line) s.line)
      split
      · exact ⟨hup, by simp, fun (h : (3 : Nat) = 1 ∨ (3 : Nat) = 2) => by omega, by simp [pend]; omega⟩
      · exact ⟨hfl.1, by simp, fun (h : (3 : Nat) = 1 ∨ (3 : Nat) = 2) => by omega, by have := hfl.2; show (flush s.m s.cur s.ts s.line).length + pend _ ≤ n + 1; rw [this]; simp [pend]; unfold pend at h4; omega⟩
    · show Made (n + 1) (.ok 0 [] (endLine (flush s.m s.cur s.ts s.line) s.line) (s.line + 1))
      have := endLine_made (line := s.line) hfl.1
      refine ⟨this.1, by simp, fun (h : (0 : Nat) = 1 ∨ (0 : Nat) = 2) => by omega, ?_⟩
      have h5 := this.2
      rw [hfl.2] at h5
      show (endLine (flush s.m s.cur s.ts s.line) s.line).length + pend 0 ≤ n + 1
      have : pend 0 = 0 := rfl
      omega
theorem made_run : ∀ (bs : List UInt8) (n : Nat) (st : St), Made n st → Made (n + bs.length) (run st bs)
  | [], n, st, h => h
  | c :: bs, n, st, h => by
    have := made_run bs (n + 1) (step st c) (made_step c h)
    rw [List.length_cons, show n + (bs.length + 1) = n + 1 + bs.length by omega]
    exact this

theorem endLine_last (ts : List Tok) (line : Nat) : endLine ts line = [] ∨ ∃ i e, endLine ts line = i ++ [e] ∧ e.kind = 3 := by
  unfold endLine
  split
  · rename_i h
    rcases List.eq_nil_or_concat ts with rfl | ⟨i, e, rfl⟩
    · exact .inl rfl
    · rw [List.concat_eq_append] at *
      rw [closed_snoc] at h
      exact .inr ⟨i, e, rfl, by simpa using h⟩
  · exact .inr ⟨ts, _, rfl, rfl⟩

/-- Tokens as Lex makes them, and how many. -/
theorem lexF_toks (bs : List UInt8) : (∀ t ∈ (lexF bs).1, TokOk t) ∧ ((lexF bs).1 = [] ∨ ∃ i e, (lexF bs).1 = i ++ [e] ∧ e.kind = 3) ∧ (lexF bs).1.length ≤ 65537 := by
  unfold lexF
  split
  · exact ⟨fun t ht => by simp at ht, .inl rfl, by simp⟩
  · rename_i hn
    have h := made_run bs 0 init ⟨fun t ht => by simp at ht, by simp, fun (h : (0 : Nat) = 1 ∨ (0 : Nat) = 2) => by omega, by simp [pend]⟩
    cases hr : run init bs with
    | error l => exact ⟨fun t ht => by simp [fin] at ht, .inl rfl, by simp [fin]⟩
    | ok s =>
      rw [hr] at h
      obtain ⟨h1, h2, h3, h4⟩ := h
      have hf := flush_made (line := s.line) h1 h2 h3
      have he := endLine_made (line := s.line) hf.1
      refine ⟨fun t ht => ?_, endLine_last _ _, ?_⟩
      · have := he.1 t ht
        exact ⟨this.1, by have := this.2; omega⟩
      · have := he.2
        rw [hf.2] at this
        show (endLine (flush s.m s.cur s.ts s.line) s.line).length ≤ 65537
        omega

end Go.Proofs.YtgjfhfjmdkhllaaDoor.M
