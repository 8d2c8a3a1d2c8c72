/- The document's answer, line by line, is the machine's. Plain mathematics. -/
import Derived.Test.YtgjfhfjmdkhllaaDoorMatC
namespace Go.Proofs.YtgjfhfjmdkhllaaDoor.M
set_option linter.unusedVariables false
set_option linter.unusedSimpArgs false

/-- What the document's kind says of a byte. -/
def kindF (c : UInt8) : Nat := if cls c = 1 then 1 else if cls c = 2 then 2 else if cls c = 3 then 3 else 0
/-- A line without what stands from a hash on. -/
def cutF (s : List UInt8) : List UInt8 := s.takeWhile (fun c => c != 35)
theorem cls35 (c : UInt8) : cls c = 4 ↔ c = 35 := by
  constructor
  · intro h
    unfold cls at h
    repeat' split at h
    all_goals first | omega | skip
    have : c.toNat = 35 := by assumption
    exact UInt8.toNat_inj.1 this
  · intro h; subst h; decide
theorem cut_no (s : List UInt8) : ∀ c ∈ cutF s, cls c ≠ 4 := by
  intro c hc h
  have h2 : (c != 35) = true := by
    have := List.all_takeWhile (l := s) (p := fun c => c != 35)
    rw [List.all_eq_true] at this
    exact this c hc
  rw [(cls35 c).1 h] at h2
  cases h2
theorem cut_sub (s : List UInt8) : ∀ c ∈ cutF s, c ∈ s := fun _ hc => (List.takeWhile_sublist _).subset hc
theorem cut_split (s : List UInt8) : s = cutF s ∨ ∃ r, s = cutF s ++ 35 :: r := by
  unfold cutF
  induction s with
  | nil => left; rfl
  | cons c s ih =>
    by_cases h : c = 35
    · subst h; right; exact ⟨s, rfl⟩
    · have hb : (c != 35) = true := by simpa using h
      simp only [List.takeWhile_cons, hb, if_true]
      rcases ih with e | ⟨r, e⟩
      · left; rw [← e]
      · right; exact ⟨r, by rw [List.cons_append, ← e]⟩

/-- A comment says nothing at a line's end. -/
theorem cut_bad {st : St} {s : List UInt8} {l : Nat} (h : run st (cutF s) = .bad l) : run st s = .bad l := by
  rcases cut_split s with e | ⟨r, e⟩
  · rw [← e] at h; exact h
  · rw [e, run_app, h, run_bad]
theorem cut_ok {st : St} {s : List UInt8} {m : Nat} {cur : List UInt8} {ts : List Tok} {l : Nat} (hs : ∀ c ∈ s, cls c ≠ 5) (h : run st (cutF s) = .ok m cur ts l) :
    ∃ m' cur' ts', run st s = .ok m' cur' ts' l ∧ flush m' cur' ts' l = flush m cur ts l := by
  rcases cut_split s with e | ⟨r, e⟩
  · rw [← e] at h; exact ⟨_, _, _, h, rfl⟩
  · refine ⟨3, [], flush m cur ts l, ?_, by simp [flush]⟩
    rw [e, run_app, h, comment_run m cur ts l r (fun c hc => hs c (by rw [e]; simp [hc]))]

/-- A line's tokens, or that it is wrong. -/
def rowF (s : List UInt8) (l : Nat) : St := run (.ok 0 [] [] l) s

theorem shift0 (ts : List Tok) : ts.map (shift 0) = ts := by
  induction ts with
  | nil => rfl
  | cons t ts ih => rw [List.map_cons, ih]; rfl
theorem run_behind {X : List Tok} (hX : closed X = true) (l : Nat) (s : List UInt8) : run (.ok 0 [] X l) s = lift X 0 (rowF s l) := by
  have := run_lift hX 0 s (.ok 0 [] [] l)
  simp only [lift, List.map_nil, List.append_nil, Nat.add_zero] at this
  exact this
/-- A line that is wrong. -/
theorem line_bad {X : List Tok} (hX : closed X = true) {l l' : Nat} {s r : List UInt8} (h : rowF (cutF s) l = .bad l') : run (.ok 0 [] X l) (s ++ r) = .bad l' := by
  have h1 : run (.ok 0 [] X l) (cutF s) = .bad l' := by rw [run_behind hX, h]; rfl
  rw [run_app, cut_bad h1, run_bad]
/-- A line that is right: what it adds. -/
theorem line_ok {X : List Tok} (hX : closed X = true) {l m l' : Nat} {cur : List UInt8} {ts : List Tok} {s : List UInt8} (hs : ∀ c ∈ s, cls c ≠ 5) (h : rowF (cutF s) l = .ok m cur ts l') :
    fin (run (.ok 0 [] X l) s) = (X ++ endLine (flush m cur ts l) l, 0, 0) ∧ run (.ok 0 [] X l) (s ++ [10]) = .ok 0 [] (X ++ endLine (flush m cur ts l) l) (l + 1) := by
  have hl : l' = l := by
    have := line_of (cutF s) _ _ _ _ _ _ _ _ h
    have hz : lines (cutF s) = 0 := by
      unfold lines
      rw [List.count_eq_zero]
      intro hm
      exact hs 10 (cut_sub s 10 hm) (by decide)
    omega
  subst hl
  have h1 : run (.ok 0 [] X l') (cutF s) = .ok m cur (X ++ ts) l' := by rw [run_behind hX, h]; simp only [lift, shift0, Nat.add_zero]
  obtain ⟨m', cur', ts', h2, h3⟩ := cut_ok hs h1
  have hf : flush m cur (X ++ ts) l' = X ++ flush m cur ts l' := by have := flush_lift X ts 0 m l' cur; simpa only [shift0, Nat.add_zero] using this
  have he : endLine (X ++ flush m cur ts l') l' = X ++ endLine (flush m cur ts l') l' := by have := endLine_lift hX (flush m cur ts l') 0 l'; simpa only [shift0, Nat.add_zero] using this
  refine ⟨?_, ?_⟩
  · rw [h2]; simp only [fin]; rw [h3, hf, he]
  · rw [run_app, h2, run_cons, run_nil, step5 (by decide), h3, hf, he]
theorem closed_line {X : List Tok} (hX : closed X = true) (Y : List Tok) (l : Nat) : closed (X ++ endLine Y l) = true := by
  have := closed_app hX (endLine Y l) 0
  rw [shift0] at this
  rw [this]
  exact closed_endLine _ _

/-! ### A row, byte by byte -/
structure RowInv (m : Nat) (cur : List UInt8) (ts : List Tok) (l : Nat) : Prop where
  mode : m = 0 ∨ m = 1 ∨ m = 2
  cur0 : m = 0 → cur = []
  kinds : ∀ t ∈ ts, t.kind ≠ 3
  words : ∀ t ∈ ts, t.kind = 1 ∨ t.kind = 2
theorem row_start (l : Nat) : RowInv 0 [] [] l := ⟨.inl rfl, fun _ => rfl, fun t h => by simp at h, fun t h => by simp at h⟩
def wasF (m : Nat) : Nat := if m = 0 then 3 else m
theorem flush_kinds {m : Nat} {cur : List UInt8} {ts : List Tok} {l : Nat} (h : RowInv m cur ts l) : ∀ t ∈ flush m cur ts l, t.kind ≠ 3 := by
  unfold flush
  split
  · intro t ht
    rcases List.mem_append.1 ht with h1 | h1
    · exact h.kinds t h1
    · rw [List.mem_singleton.1 h1]
      have : m ≠ 3 := by omega
      exact this
  · exact h.kinds
theorem flush_words {m : Nat} {cur : List UInt8} {ts : List Tok} {l : Nat} (h : RowInv m cur ts l) : ∀ t ∈ flush m cur ts l, t.kind = 1 ∨ t.kind = 2 := by
  unfold flush
  split
  · intro t ht
    rcases List.mem_append.1 ht with h1 | h1
    · exact h.words t h1
    · rw [List.mem_singleton.1 h1]; assumption
  · exact h.words
/-- A letter or a digit behind its own kind: it belongs to the token. -/
theorem row_same {m : Nat} {cur : List UInt8} {ts : List Tok} {l : Nat} {c : UInt8} (h : RowInv m cur ts l) (hm : m = 1 ∨ m = 2) (hc : cls c = m) :
    step (.ok m cur ts l) c = .ok m (cur ++ [c]) ts l ∧ RowInv m (cur ++ [c]) ts l ∧ flush m cur ts l = ts ++ [⟨m, cur, l⟩] ∧ flush m (cur ++ [c]) ts l = ts ++ [⟨m, cur ++ [c], l⟩] := by
  refine ⟨?_, ⟨h.mode, fun e => by omega, h.kinds, h.words⟩, by unfold flush; rw [if_pos hm], by unfold flush; rw [if_pos hm]⟩
  rcases hm with rfl | rfl
  · rw [step1 hc (by omega), if_neg (by omega)]
  · rw [step2 hc (by omega), if_neg (by omega)]
/-- The first of a word or a number. -/
theorem row_new {cur : List UInt8} {ts : List Tok} {l : Nat} {c : UInt8} (h : RowInv 0 cur ts l) {k : Nat} (hk : k = 1 ∨ k = 2) (hc : cls c = k) :
    step (.ok 0 cur ts l) c = .ok k [c] ts l ∧ RowInv k [c] ts l ∧ flush 0 cur ts l = ts ∧ flush k [c] ts l = ts ++ [⟨k, [c], l⟩] := by
  have hcur := h.cur0 rfl
  subst hcur
  refine ⟨?_, ⟨.inr hk, fun e => by omega, h.kinds, h.words⟩, rfl, by unfold flush; rw [if_pos hk]⟩
  rcases hk with rfl | rfl
  · rw [step1 hc (by omega), if_neg (by omega)]; rfl
  · rw [step2 hc (by omega), if_neg (by omega)]; rfl
/-- A blank. -/
theorem row_blank {m : Nat} {cur : List UInt8} {ts : List Tok} {l : Nat} {c : UInt8} (h : RowInv m cur ts l) (hc : cls c = 3) :
    step (.ok m cur ts l) c = .ok 0 [] (flush m cur ts l) l ∧ RowInv 0 [] (flush m cur ts l) l ∧ flush 0 [] (flush m cur ts l) l = flush m cur ts l :=
  ⟨step3 hc (by have := h.mode; omega), ⟨.inl rfl, fun _ => rfl, flush_kinds h, flush_words h⟩, rfl⟩
/-- What may not be. -/
theorem row_wrong {m : Nat} {cur : List UInt8} {ts : List Tok} {l : Nat} {c : UInt8} (h : RowInv m cur ts l) (hc : cls c = 0 ∨ (cls c = 1 ∧ m = 2) ∨ (cls c = 2 ∧ m = 1)) (r : List UInt8) : run (.ok m cur ts l) (c :: r) = .bad l := by
  rw [run_cons]
  have : step (.ok m cur ts l) c = .bad l := by
    rcases hc with h0 | ⟨h1, h2⟩ | ⟨h1, h2⟩
    · exact step0 h0 (by have := h.mode; omega)
    · rw [step1 h1 (by omega), if_pos h2]
    · rw [step2 h1 (by omega), if_pos h2]
  rw [this, run_bad]
/-- At the row's end. -/
theorem row_end (ts : List Tok) (l : Nat) (h : ∀ t ∈ ts, t.kind ≠ 3) : endLine ts l = if ts = [] then [] else ts ++ [⟨3, [], l⟩] := by
  unfold endLine
  by_cases e : ts = []
  · subst e; rfl
  · rw [if_neg e]
    rcases List.eq_nil_or_concat ts with e' | ⟨L, b, e'⟩
    · exact absurd e' e
    · rw [List.concat_eq_append] at e'
      have hb := h b (by rw [e']; simp)
      rw [e', closed_snoc, if_neg (by simpa using hb)]
theorem flush_len {bs : List UInt8} : ∀ m cur ts l m' cur' ts' l', run (.ok m cur ts l) bs = .ok m' cur' ts' l' → (ts'.length + (if m' = 1 ∨ m' = 2 then 1 else 0)) ≤ ts.length + (if m = 1 ∨ m = 2 then 1 else 0) + 2 * bs.length := by
  induction bs with
  | nil => intro m cur ts l m' cur' ts' l' e; cases e; simp
  | cons c bs ih =>
    intro m cur ts l m' cur' ts' l' e
    rw [run_cons] at e
    have hf : (flush m cur ts l).length = ts.length + (if m = 1 ∨ m = 2 then 1 else 0) := by unfold flush; split <;> simp
    have he : ∀ l, (endLine (flush m cur ts l) l).length ≤ (flush m cur ts l).length + 1 := fun l => by unfold endLine; split <;> simp
    rcases step_cases m cur ts l c with ⟨_, h⟩ | ⟨_, _, h⟩ | ⟨_, _, _, h⟩ | ⟨_, _, _, h⟩ | ⟨_, _, h⟩ | ⟨_, _, h⟩ | h
    all_goals rw [h] at e
    · have h1 := ih _ _ _ _ _ _ _ _ e
      have h2 := he l
      simp at h1 ⊢; omega
    · have h1 := ih _ _ _ _ _ _ _ _ e
      simp at h1 ⊢; omega
    · have h1 := ih _ _ _ _ _ _ _ _ e
      simp at h1 ⊢; omega
    · have h1 := ih _ _ _ _ _ _ _ _ e
      simp at h1 ⊢; omega
    · have h1 := ih _ _ _ _ _ _ _ _ e
      simp at h1 ⊢; omega
    · have h1 := ih _ _ _ _ _ _ _ _ e
      simp at h1 ⊢; omega
    · rw [run_bad] at e; cases e

end Go.Proofs.YtgjfhfjmdkhllaaDoor.M
