/- What bytes lexed are, as plain mathematics: a machine of states over bytes (nothing of the program). -/
namespace Go.Proofs.YtgjfhfjmdkhllaaDoor.M

/-- What a byte is: 1 a letter, 2 a digit, 3 a blank, 4 a hash, 5 a line's end, 0 all else. -/
def cls (c : UInt8) : Nat :=
  if (97 ≤ c.toNat ∧ c.toNat ≤ 122) ∨ (65 ≤ c.toNat ∧ c.toNat ≤ 90) then 1
  else if 48 ≤ c.toNat ∧ c.toNat ≤ 57 then 2
  else if c.toNat = 32 ∨ c.toNat = 9 ∨ c.toNat = 13 then 3
  else if c.toNat = 35 then 4
  else if c.toNat = 10 then 5
  else 0

structure Tok where
  kind : Nat
  text : List UInt8
  line : Nat

/-- A state: what has been read of a word or a number, the tokens so far, the line. -/
structure Now where
  m : Nat
  cur : List UInt8
  ts : List Tok
  line : Nat

/-- A state, or the line that is wrong. -/
abbrev St := Except Nat Now
abbrev St.bad (line : Nat) : St := Except.error line
abbrev St.ok (m : Nat) (cur : List UInt8) (ts : List Tok) (line : Nat) : St := Except.ok ⟨m, cur, ts, line⟩

/-- No line is open behind these tokens. -/
def closed (ts : List Tok) : Bool :=
  match ts.getLast? with
  | none => true
  | some t => t.kind == 3

def endLine (ts : List Tok) (line : Nat) : List Tok := if closed ts = true then ts else ts ++ [⟨3, [], line⟩]
def flush (m : Nat) (cur : List UInt8) (ts : List Tok) (line : Nat) : List Tok := if m = 1 ∨ m = 2 then ts ++ [⟨m, cur, line⟩] else ts

/-- The next state, by what the byte is. -/
def next (m : Nat) (cur : List UInt8) (ts : List Tok) (line : Nat) (c : UInt8) : Nat → St
  | 5 => .ok 0 [] (endLine (flush m cur ts line) line) (line + 1)
  | k =>
    if m = 3 then .ok 3 [] ts line
    else if k = 1 then (if m = 2 then .bad line else .ok 1 (cur ++ [c]) ts line)
    else if k = 2 then (if m = 1 then .bad line else .ok 2 (cur ++ [c]) ts line)
    else if k = 3 then .ok 0 [] (flush m cur ts line) line
    else if k = 4 then .ok 3 [] (flush m cur ts line) line
    else .bad line

def step : St → UInt8 → St
  | Except.error l, _ => St.bad l
  | Except.ok s, c => next s.m s.cur s.ts s.line c (cls c)

def run (st : St) (bs : List UInt8) : St := bs.foldl step st
def init : St := .ok 0 [] [] 1
def fin : St → List Tok × Nat × Nat
  | Except.error l => ([], l, 2)
  | Except.ok s => (endLine (flush s.m s.cur s.ts s.line) s.line, 0, 0)
def lexF (bs : List UInt8) : List Tok × Nat × Nat := if 65536 < bs.length then ([], 0, 4) else fin (run init bs)

theorem run_nil (st : St) : run st [] = st := rfl
theorem run_cons (st : St) (c : UInt8) (bs : List UInt8) : run st (c :: bs) = run (step st c) bs := rfl
theorem run_app (st : St) (a b : List UInt8) : run st (a ++ b) = run (run st a) b := by simp [run]
theorem run_bad (l : Nat) (bs : List UInt8) : run (.bad l) bs = .bad l := by
  induction bs with
  | nil => rfl
  | cons c bs ih => exact ih

theorem cls_le (c : UInt8) : cls c ≤ 5 := by unfold cls; repeat' split
                                             all_goals omega

/-! what each class does -/
section
variable {m : Nat} {cur : List UInt8} {ts : List Tok} {line : Nat} {c : UInt8}
theorem step5 (h : cls c = 5) : step (.ok m cur ts line) c = .ok 0 [] (endLine (flush m cur ts line) line) (line + 1) := by simp [step, h, next]
theorem step_cm (h : cls c ≠ 5) : step (.ok 3 cur ts line) c = .ok 3 [] ts line := by
  have hl := cls_le c
  have e : step (.ok 3 cur ts line) c = next 3 cur ts line c (cls c) := rfl
  rw [e]
  revert hl h; generalize cls c = k; intro h hk
  have : k = 0 ∨ k = 1 ∨ k = 2 ∨ k = 3 ∨ k = 4 := by omega
  rcases this with rfl | rfl | rfl | rfl | rfl <;> rfl
theorem step1 (h : cls c = 1) (hm : m ≠ 3) : step (.ok m cur ts line) c = if m = 2 then .bad line else .ok 1 (cur ++ [c]) ts line := by simp [step, h, next, hm]
theorem step2 (h : cls c = 2) (hm : m ≠ 3) : step (.ok m cur ts line) c = if m = 1 then .bad line else .ok 2 (cur ++ [c]) ts line := by simp [step, h, next, hm]
theorem step3 (h : cls c = 3) (hm : m ≠ 3) : step (.ok m cur ts line) c = .ok 0 [] (flush m cur ts line) line := by simp [step, h, next, hm]
theorem step4 (h : cls c = 4) (hm : m ≠ 3) : step (.ok m cur ts line) c = .ok 3 [] (flush m cur ts line) line := by simp [step, h, next, hm]
theorem step0 (h : cls c = 0) (hm : m ≠ 3) : step (.ok m cur ts line) c = .bad line := by simp [step, h, next, hm]
end

/-- At a byte that is no letter and no digit (or behind the last one) a word is as good as done. -/
theorem done_word {m : Nat} {cur : List UInt8} {ts : List Tok} {line : Nat} (hm : m = 1 ∨ m = 2) (bs : List UInt8) (h : ∀ c r, bs = c :: r → cls c ≠ 1 ∧ cls c ≠ 2) :
    fin (run (.ok m cur ts line) bs) = fin (run (.ok 0 [] (ts ++ [⟨m, cur, line⟩]) line) bs) := by
  have hf : flush m cur ts line = ts ++ [⟨m, cur, line⟩] := by unfold flush; rw [if_pos hm]
  have h3 : m ≠ 3 := by omega
  cases bs with
  | nil => rw [run_nil, run_nil]; simp only [fin, hf]; simp [flush]
  | cons c r =>
    obtain ⟨h1, h2⟩ := h c r rfl
    have hl := cls_le c
    rw [run_cons, run_cons]
    have : step (.ok m cur ts line) c = step (.ok 0 [] (ts ++ [⟨m, cur, line⟩]) line) c := by
      have : cls c = 0 ∨ cls c = 3 ∨ cls c = 4 ∨ cls c = 5 := by omega
      rcases this with e | e | e | e
      · rw [step0 e h3, step0 e (by omega)]
      · rw [step3 e h3, step3 e (by omega), hf]; simp [flush]
      · rw [step4 e h3, step4 e (by omega), hf]; simp [flush]
      · rw [step5 e, step5 e, hf]; simp [flush]
    rw [this]

/-- A comment's end is a line's. -/
theorem done_comment {ts : List Tok} {line : Nat} (bs : List UInt8) (h : ∀ c r, bs = c :: r → cls c = 5) :
    fin (run (.ok 3 [] ts line) bs) = fin (run (.ok 0 [] ts line) bs) := by
  cases bs with
  | nil => simp [run_nil, fin, flush]
  | cons c r => rw [run_cons, run_cons, step5 (h c r rfl), step5 (h c r rfl)]; simp [flush]

theorem closed_nil : closed [] = true := rfl
theorem closed_snoc (ts : List Tok) (t : Tok) : closed (ts ++ [t]) = (t.kind == 3) := by simp [closed]

end Go.Proofs.YtgjfhfjmdkhllaaDoor.M
