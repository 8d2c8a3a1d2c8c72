/- What the tokens of a text look like; what tokens say, written out, is read as they are. Plain mathematics. -/
import Derived.Test.YtgjfhfjmdkhllaaDoorMatB
namespace Go.Proofs.YtgjfhfjmdkhllaaDoor.M
set_option linter.unusedVariables false
set_option linter.unusedSimpArgs false

theorem step_cases (m : Nat) (cur : List UInt8) (ts : List Tok) (l : Nat) (c : UInt8) :
    (cls c = 5 ∧ step (.ok m cur ts l) c = .ok 0 [] (endLine (flush m cur ts l) l) (l + 1)) ∨
    (m = 3 ∧ cls c ≠ 5 ∧ step (.ok m cur ts l) c = .ok 3 [] ts l) ∨
    (m ≠ 3 ∧ m ≠ 2 ∧ cls c = 1 ∧ step (.ok m cur ts l) c = .ok 1 (cur ++ [c]) ts l) ∨
    (m ≠ 3 ∧ m ≠ 1 ∧ cls c = 2 ∧ step (.ok m cur ts l) c = .ok 2 (cur ++ [c]) ts l) ∨
    (m ≠ 3 ∧ cls c = 3 ∧ step (.ok m cur ts l) c = .ok 0 [] (flush m cur ts l) l) ∨
    (m ≠ 3 ∧ cls c = 4 ∧ step (.ok m cur ts l) c = .ok 3 [] (flush m cur ts l) l) ∨
    step (.ok m cur ts l) c = .bad l := by
  by_cases h5 : cls c = 5
  · exact .inl ⟨h5, step5 h5⟩
  · by_cases hm : m = 3
    · subst hm; exact .inr (.inl ⟨rfl, h5, step_cm h5⟩)
    · rcases cls_cases c with h | h | h | h | h | h
      · exact .inr (.inr (.inr (.inr (.inr (.inr (step0 h hm))))))
      · by_cases h2 : m = 2
        · exact .inr (.inr (.inr (.inr (.inr (.inr (by rw [step1 h hm, if_pos h2]))))))
        · exact .inr (.inr (.inl ⟨hm, h2, h, by rw [step1 h hm, if_neg h2]⟩))
      · by_cases h1 : m = 1
        · exact .inr (.inr (.inr (.inr (.inr (.inr (by rw [step2 h hm, if_pos h1]))))))
        · exact .inr (.inr (.inr (.inl ⟨hm, h1, h, by rw [step2 h hm, if_neg h1]⟩)))
      · exact .inr (.inr (.inr (.inr (.inl ⟨hm, h, step3 h hm⟩))))
      · exact .inr (.inr (.inr (.inr (.inr (.inl ⟨hm, h, step4 h hm⟩)))))
      · exact absurd h h5

/-- What holds of a state goes on holding. -/
theorem run_ind (I : Nat → List UInt8 → List Tok → Nat → Nat → Prop)
    (hs : ∀ m cur ts l n c m' cur' ts' l', I m cur ts l n → step (.ok m cur ts l) c = .ok m' cur' ts' l' → I m' cur' ts' l' (n + 1)) :
    ∀ (bs : List UInt8) m cur ts l n m' cur' ts' l', I m cur ts l n → run (.ok m cur ts l) bs = .ok m' cur' ts' l' → I m' cur' ts' l' (n + bs.length) := by
  intro bs
  induction bs with
  | nil => intro m cur ts l n m' cur' ts' l' h e; cases e; exact h
  | cons c bs ih =>
    intro m cur ts l n m' cur' ts' l' h e
    rw [run_cons] at e
    cases hc : step (.ok m cur ts l) c with
    | error x => rw [hc, run_bad] at e; cases e
    | ok s =>
      obtain ⟨a, b, d, f⟩ := s
      rw [hc] at e
      have := ih a b d f (n + 1) m' cur' ts' l' (hs m cur ts l n c a b d f h hc) e
      rw [List.length_cons, show n + (bs.length + 1) = n + 1 + bs.length by omega]
      exact this
theorem bad_line : ∀ (bs : List UInt8) m cur ts l x, run (.ok m cur ts l) bs = .bad x → l ≤ x ∧ x ≤ l + bs.length := by
  intro bs
  induction bs with
  | nil => intro m cur ts l x e; cases e
  | cons c bs ih =>
    intro m cur ts l x e
    rw [run_cons] at e
    rcases step_cases m cur ts l c with ⟨_, h⟩ | ⟨_, _, h⟩ | ⟨_, _, _, h⟩ | ⟨_, _, _, h⟩ | ⟨_, _, h⟩ | ⟨_, _, h⟩ | h
    all_goals rw [h] at e
    · have := ih _ _ _ _ _ e; simp; omega
    · have := ih _ _ _ _ _ e; simp; omega
    · have := ih _ _ _ _ _ e; simp; omega
    · have := ih _ _ _ _ _ e; simp; omega
    · have := ih _ _ _ _ _ e; simp; omega
    · have := ih _ _ _ _ _ e; simp; omega
    · rw [run_bad] at e; cases e; simp

/-- A token as it may be. -/
def TokOkL (t : Tok) : Prop := (t.kind = 1 ∧ t.text ≠ [] ∧ ∀ c ∈ t.text, cls c = 1) ∨ (t.kind = 2 ∧ t.text ≠ [] ∧ ∀ c ∈ t.text, cls c = 2) ∨ (t.kind = 3 ∧ t.text = [])
/-- No End where no line is open. -/
def EndsOk : List Tok → Bool → Prop
  | [], _ => True
  | t :: ts, b => (t.kind = 3 → b = false) ∧ EndsOk ts (t.kind == 3)
def wt : List Tok → Nat
  | [] => 0
  | t :: ts => t.text.length + 1 + wt ts

theorem wt_app (a b : List Tok) : wt (a ++ b) = wt a + wt b := by
  induction a with
  | nil => simp [wt]
  | cons t a ih => simp [wt, ih]; omega
/-- Whether no line is open behind these, a line being open ahead of them or not. -/
def lastEnd : List Tok → Bool → Bool
  | [], b => b
  | t :: ts, _ => lastEnd ts (t.kind == 3)
theorem lastEnd_snoc (ts : List Tok) (t : Tok) : ∀ b, lastEnd (ts ++ [t]) b = (t.kind == 3) := by
  induction ts with
  | nil => intro b; rfl
  | cons x ts ih => intro b; exact ih _
theorem closed_last' (ts : List Tok) : closed ts = lastEnd ts true := by
  rcases List.eq_nil_or_concat ts with rfl | ⟨L, b, rfl⟩
  · rfl
  · rw [List.concat_eq_append, closed_snoc, lastEnd_snoc]
theorem ends_snoc (ts : List Tok) (t : Tok) : ∀ b, EndsOk ts b → (t.kind = 3 → lastEnd ts b = false) → EndsOk (ts ++ [t]) b := by
  induction ts with
  | nil => intro b _ h; exact ⟨h, trivial⟩
  | cons x ts ih => intro b h1 h2; exact ⟨h1.1, ih _ h1.2 h2⟩

structure Good (m : Nat) (cur : List UInt8) (ts : List Tok) (l n : Nat) : Prop where
  cur0 : m ≠ 1 → m ≠ 2 → cur = []
  cur1 : m = 1 → cur ≠ [] ∧ ∀ c ∈ cur, cls c = 1
  cur2 : m = 2 → cur ≠ [] ∧ ∀ c ∈ cur, cls c = 2
  toks : ∀ t ∈ ts, TokOkL t
  line : ∀ t ∈ ts, t.line ≤ l
  ends : EndsOk ts true
  weight : wt ts + 3 * cur.length + (if closed ts = true then 0 else 1) ≤ 3 * n
  lines : l ≤ n + 1

theorem good_flush {m : Nat} {cur : List UInt8} {ts : List Tok} {l n : Nat} (g : Good m cur ts l n) :
    (∀ t ∈ flush m cur ts l, TokOkL t) ∧ (∀ t ∈ flush m cur ts l, t.line ≤ l) ∧ EndsOk (flush m cur ts l) true ∧ wt (flush m cur ts l) + (if closed (flush m cur ts l) = true then 0 else 1) ≤ 3 * n := by
  by_cases hm : m = 1 ∨ m = 2
  · have hf : flush m cur ts l = ts ++ [⟨m, cur, l⟩] := by unfold flush; rw [if_pos hm]
    rw [hf]
    have hc : cur ≠ [] := by
      rcases hm with h | h
      · exact (g.cur1 h).1
      · exact (g.cur2 h).1
    have hpos : 0 < cur.length := List.length_pos_iff.2 hc
    refine ⟨fun t ht => ?_, fun t ht => ?_, ends_snoc _ _ _ g.ends (fun e => ?_), ?_⟩
    · rcases List.mem_append.1 ht with h | h
      · exact g.toks t h
      · rw [List.mem_singleton.1 h]
        rcases hm with h | h
        · exact .inl ⟨h, hc, (g.cur1 h).2⟩
        · exact .inr (.inl ⟨h, hc, (g.cur2 h).2⟩)
    · rcases List.mem_append.1 ht with h | h
      · exact g.line t h
      · rw [List.mem_singleton.1 h]; exact Nat.le_refl _
    · have e' : m = 3 := e
      omega
    · have hw := g.weight
      rw [wt_app]
      simp only [wt]
      split <;> omega
  · have hf : flush m cur ts l = ts := by unfold flush; rw [if_neg hm]
    rw [hf]
    exact ⟨g.toks, g.line, g.ends, by have := g.weight; omega⟩
theorem good_endLine {ts : List Tok} {l n : Nat} (h1 : ∀ t ∈ ts, TokOkL t) (h2 : ∀ t ∈ ts, t.line ≤ l) (h3 : EndsOk ts true) (h4 : wt ts + (if closed ts = true then 0 else 1) ≤ 3 * n) :
    (∀ t ∈ endLine ts l, TokOkL t) ∧ (∀ t ∈ endLine ts l, t.line ≤ l) ∧ EndsOk (endLine ts l) true ∧ wt (endLine ts l) ≤ 3 * n := by
  unfold endLine
  by_cases hc : closed ts = true
  · rw [if_pos hc] at h4 ⊢
    exact ⟨h1, h2, h3, by omega⟩
  · rw [if_neg hc] at h4 ⊢
    refine ⟨fun t ht => ?_, fun t ht => ?_, ends_snoc _ _ _ h3 (fun _ => by rw [← closed_last']; simpa using hc), ?_⟩
    · rcases List.mem_append.1 ht with h | h
      · exact h1 t h
      · rw [List.mem_singleton.1 h]; exact .inr (.inr ⟨rfl, rfl⟩)
    · rcases List.mem_append.1 ht with h | h
      · exact h2 t h
      · rw [List.mem_singleton.1 h]; exact Nat.le_refl _
    · rw [wt_app]; simp only [wt, List.length_nil]; omega

theorem good_step (m : Nat) (cur : List UInt8) (ts : List Tok) (l n : Nat) (c : UInt8) (m' : Nat) (cur' : List UInt8) (ts' : List Tok) (l' : Nat) (g : Good m cur ts l n) (h : step (.ok m cur ts l) c = .ok m' cur' ts' l') : Good m' cur' ts' l' (n + 1) := by
  have hgl := g.lines
  have hw := g.weight
  obtain ⟨f1, f2, f3, f4⟩ := good_flush g
  rcases step_cases m cur ts l c with ⟨_, e⟩ | ⟨_, _, e⟩ | ⟨_, h2, h1, e⟩ | ⟨_, h2, h1, e⟩ | ⟨_, _, e⟩ | ⟨_, _, e⟩ | e
  all_goals rw [e] at h
  · obtain ⟨d1, d2, d3, d4⟩ := good_endLine f1 f2 f3 f4
    cases h
    exact ⟨fun _ _ => rfl, fun e => by omega, fun e => by omega, d1, fun t ht => by have := d2 t ht; omega, d3, by rw [if_pos (closed_endLine _ _)]; simp; omega, by omega⟩
  · cases h
    exact ⟨fun _ _ => rfl, fun e => by omega, fun e => by omega, g.toks, g.line, g.ends, by simp only [List.length_nil]; omega, by omega⟩
  · cases h
    refine ⟨fun e => absurd rfl e, fun _ => ⟨by simp, fun x hx => ?_⟩, fun e => by omega, g.toks, g.line, g.ends, by rw [List.length_append, List.length_singleton]; omega, by omega⟩
    rcases List.mem_append.1 hx with hx | hx
    · by_cases hm : m = 1
      · exact (g.cur1 hm).2 x hx
      · rw [g.cur0 hm h2] at hx; simp at hx
    · rw [List.mem_singleton.1 hx]; exact h1
  · cases h
    refine ⟨fun _ e => absurd rfl e, fun e => by omega, fun _ => ⟨by simp, fun x hx => ?_⟩, g.toks, g.line, g.ends, by rw [List.length_append, List.length_singleton]; omega, by omega⟩
    rcases List.mem_append.1 hx with hx | hx
    · by_cases hm : m = 2
      · exact (g.cur2 hm).2 x hx
      · rw [g.cur0 h2 hm] at hx; simp at hx
    · rw [List.mem_singleton.1 hx]; exact h1
  · cases h
    exact ⟨fun _ _ => rfl, fun e => by omega, fun e => by omega, f1, f2, f3, by simp only [List.length_nil]; omega, by omega⟩
  · cases h
    exact ⟨fun _ _ => rfl, fun e => by omega, fun e => by omega, f1, f2, f3, by simp only [List.length_nil]; omega, by omega⟩
  · cases h

theorem good_init : Good 0 [] [] 1 0 := ⟨fun _ _ => rfl, fun e => by omega, fun e => by omega, fun t h => by simp at h, fun t h => by simp at h, trivial, by simp [wt, closed], by omega⟩

/-- Of a text that is right: its tokens. -/
theorem lex_good {bs : List UInt8} {ts : List Tok} {n : Nat} (h : lexF bs = (ts, n, 0)) :
    (∀ t ∈ ts, TokOkL t) ∧ (∀ t ∈ ts, t.line ≤ bs.length + 1) ∧ EndsOk ts true ∧ closed ts = true ∧ wt ts ≤ 3 * bs.length := by
  unfold lexF at h
  split at h
  · simp at h
  · cases hr : run init bs with
    | error l => rw [hr] at h; simp [fin] at h
    | ok s =>
      obtain ⟨m, cur, ts', l⟩ := s
      rw [hr] at h
      have e : ts = endLine (flush m cur ts' l) l := by simp only [fin, Prod.mk.injEq] at h; exact h.1.symm
      have g := run_ind Good good_step bs 0 [] [] 1 0 m cur ts' l good_init hr
      rw [Nat.zero_add] at g
      have hgl := g.lines
      obtain ⟨f1, f2, f3, f4⟩ := good_flush g
      obtain ⟨d1, d2, d3, d4⟩ := good_endLine f1 f2 f3 f4
      rw [e]
      exact ⟨d1, fun t ht => by have := d2 t ht; omega, d3, closed_endLine _ _, d4⟩
/-- Of a text that is not: the line. -/
theorem lex_bad {bs : List UInt8} (hl : bs.length ≤ 65536) (h : (lexF bs).2.2 ≠ 0) : (lexF bs).2.2 = 2 ∧ (lexF bs).1 = [] ∧ 1 ≤ (lexF bs).2.1 ∧ (lexF bs).2.1 ≤ bs.length + 1 := by
  unfold lexF at h ⊢
  rw [if_neg (by omega)] at h ⊢
  cases hr : run init bs with
  | error l => have := bad_line bs _ _ _ _ _ hr; exact ⟨rfl, rfl, by show 1 ≤ l; omega, by show l ≤ _; omega⟩
  | ok s => rw [hr] at h; exact absurd rfl h

/-! ### Tokens written out -/
/-- Tokens in lines that are counted without the empty ones. -/
def renum : Nat → List Tok → List Tok
  | _, [] => []
  | l, t :: ts => ⟨t.kind, t.text, l⟩ :: renum (if t.kind = 3 then l + 1 else l) ts
/-- Tokens as text. -/
def joined : List Tok → List UInt8
  | [] => []
  | t :: ts => (if t.kind = 3 then [10] else t.text ++ [32]) ++ joined ts
theorem joined_len (ts : List Tok) (h : ∀ t ∈ ts, TokOkL t) : (joined ts).length = wt ts := by
  induction ts with
  | nil => rfl
  | cons t ts ih =>
    have := ih (fun x hx => h x (by simp [hx]))
    simp only [joined, wt, List.length_append, this]
    rcases h t (by simp) with ⟨hk, _⟩ | ⟨hk, _⟩ | ⟨hk, ht⟩
    · rw [if_neg (by omega)]; simp
    · rw [if_neg (by omega)]; simp
    · rw [if_pos hk, ht]; simp
theorem joined_app (a b : List Tok) : joined (a ++ b) = joined a ++ joined b := by
  induction a with
  | nil => rfl
  | cons t a ih => simp [joined, ih]
theorem run_word (k : Nat) (hk : k = 1 ∨ k = 2) (X : List Tok) (l : Nat) : ∀ (s cur : List UInt8), (∀ c ∈ s, cls c = k) → ∀ m, (m = 0 ∧ cur = [] ∧ s ≠ [] ∨ m = k) → run (.ok m cur X l) s = .ok k (cur ++ s) X l := by
  intro s
  induction s with
  | nil =>
    intro cur _ m hm
    rcases hm with ⟨_, _, h⟩ | h
    · exact absurd rfl h
    · subst h; simp [run_nil]
  | cons c s ih =>
    intro cur hs m hm
    have hc := hs c (by simp)
    have hm3 : m ≠ 3 := by rcases hm with ⟨h, _⟩ | h <;> omega
    have e : step (.ok m cur X l) c = .ok k (cur ++ [c]) X l := by
      rcases hk with h | h
      · subst h; rw [step1 hc hm3, if_neg (by rcases hm with ⟨h, _⟩ | h <;> omega)]
      · subst h; rw [step2 hc hm3, if_neg (by rcases hm with ⟨h, _⟩ | h <;> omega)]
    rw [run_cons, e, ih (cur ++ [c]) (fun x hx => hs x (by simp [hx])) k (.inr rfl)]
    simp
theorem run_joined : ∀ (ts X : List Tok) (l : Nat), (∀ t ∈ ts, TokOkL t) → EndsOk ts (closed X) → ∃ l', run (.ok 0 [] X l) (joined ts) = .ok 0 [] (X ++ renum l ts) l' := by
  intro ts
  induction ts with
  | nil => intro X l _ _; exact ⟨l, by simp [joined, renum, run_nil]⟩
  | cons t ts ih =>
    intro X l hok hends
    have hcl : closed (X ++ [⟨t.kind, t.text, l⟩]) = (t.kind == 3) := closed_snoc _ _
    obtain ⟨l', hl'⟩ := ih (X ++ [⟨t.kind, t.text, l⟩]) (if t.kind = 3 then l + 1 else l) (fun x hx => hok x (by simp [hx])) (by rw [hcl]; exact hends.2)
    refine ⟨l', ?_⟩
    simp only [joined, renum]
    rw [run_app]
    have hstep : run (.ok 0 [] X l) (if t.kind = 3 then [10] else t.text ++ [32]) = .ok 0 [] (X ++ [⟨t.kind, t.text, l⟩]) (if t.kind = 3 then l + 1 else l) := by
      have word : ∀ k, k = 1 ∨ k = 2 → t.kind = k → t.text ≠ [] → (∀ c ∈ t.text, cls c = k) → run (.ok 0 [] X l) (t.text ++ [32]) = .ok 0 [] (X ++ [⟨t.kind, t.text, l⟩]) l := by
        intro k hk h1 h2 h3
        rw [run_app, run_word k hk X l t.text [] h3 0 (.inl ⟨rfl, rfl, h2⟩), run_cons, run_nil, step3 (by decide) (by omega), List.nil_append]
        unfold flush
        rw [if_pos hk, h1]
      rcases hok t (by simp) with ⟨hk, h2, h3⟩ | ⟨hk, h2, h3⟩ | ⟨hk, ht⟩
      · rw [if_neg (by omega), if_neg (by omega)]; exact word 1 (.inl rfl) hk h2 h3
      · rw [if_neg (by omega), if_neg (by omega)]; exact word 2 (.inr rfl) hk h2 h3
      · rw [if_pos hk, if_pos hk, run_cons, run_nil, step5 (by decide)]
        have hf : flush 0 [] X l = X := rfl
        have he : endLine X l = X ++ [⟨t.kind, t.text, l⟩] := by unfold endLine; rw [if_neg (by rw [hends.1 hk]; simp), hk, ht]
        rw [hf, he]
    rw [hstep, hl']
    simp
theorem closed_renum : ∀ (ts : List Tok) (l : Nat) (b : Bool), lastEnd (renum l ts) b = lastEnd ts b := by
  intro ts
  induction ts with
  | nil => intro l b; rfl
  | cons t ts ih => intro l b; simp only [renum, lastEnd]; exact ih _ _
theorem lex_joined {bs : List UInt8} {ts : List Tok} {n : Nat} (h : lexF bs = (ts, n, 0)) (hl : bs.length ≤ 3000) : (joined ts).length ≤ 9000 ∧ lexF (joined ts) = (renum 1 ts, 0, 0) := by
  obtain ⟨h1, h2, h3, h4, h5⟩ := lex_good h
  have hlen : (joined ts).length ≤ 9000 := by rw [joined_len ts h1]; omega
  refine ⟨hlen, ?_⟩
  obtain ⟨l', hr⟩ := run_joined ts [] 1 h1 h3
  have hcl : closed (renum 1 ts) = true := by rw [closed_last', closed_renum, ← closed_last']; exact h4
  unfold lexF
  rw [if_neg (by omega)]
  unfold init
  rw [hr, List.nil_append]
  show (endLine (flush 0 [] (renum 1 ts) l') l', 0, 0) = _
  have hf : flush 0 [] (renum 1 ts) l' = renum 1 ts := rfl
  have he : endLine (renum 1 ts) l' = renum 1 ts := by unfold endLine; rw [if_pos hcl]
  rw [hf, he]

end Go.Proofs.YtgjfhfjmdkhllaaDoor.M
