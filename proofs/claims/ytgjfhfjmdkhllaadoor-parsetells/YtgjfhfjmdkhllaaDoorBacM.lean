/- What is written is read: a file's text, read, is the file. Plain mathematics. -/
import Derived.Test.YtgjfhfjmdkhllaaDoorRefM
import Derived.Test.YtgjfhfjmdkhllaaDoorTexM
namespace Go.Proofs.YtgjfhfjmdkhllaaDoor.M
set_option linter.unusedSimpArgs false
set_option linter.unusedVariables false
open Go.Proofs.YtgjfhfjmdkhllaaDoor

/-! ### A line, spelt -/
def spell : Nat → List (List UInt8) → List Int → List UInt8
  | _, [], _ => [10]
  | i, w :: ws, ns => (if 0 < i then [32] else []) ++ (if w = [78] then Lib.itoa (ns.headD 0) else w) ++ spell (i + 1) ws (if w = [78] then ns.tail else ns)
theorem acc_in (i : Nat) (acc a b : List UInt8) : (if 0 < i then acc ++ [32] else acc) ++ a ++ b = acc ++ ((if 0 < i then [32] else []) ++ a ++ b) := by split <;> simp
theorem wGo_spell : ∀ (ws : List (List UInt8)) (i : Nat) (ns : List Int) (acc : List UInt8), ns.length = ws.count [78] →
    wGo i ws ns acc = if ns.all okN = true then some (acc ++ spell i ws ns) else none
  | [], i, ns, acc, h => by
    have : ns = [] := List.eq_nil_of_length_eq_zero (by simpa using h)
    subst this
    simp [wGo, spell]
  | w :: ws, i, ns, acc, h => by
    by_cases h78 : w = [78]
    · subst h78
      cases ns with
      | nil => simp at h
      | cons n r =>
        have hr : r.length = ws.count [78] := by simpa using h
        unfold wGo spell
        simp only [if_true, List.headD_cons, List.tail_cons, List.all_cons]
        by_cases hok : okN n = true
        · rw [if_pos hok, wGo_spell ws (i + 1) r _ hr, acc_in]
          simp only [hok, Bool.true_and]
        · rw [if_neg hok, if_neg (by simp [hok])]
    · have hr : ns.length = ws.count [78] := by simpa [List.count_cons, h78] using h
      unfold wGo spell
      rw [if_neg h78, if_neg h78, if_neg h78, wGo_spell ws (i + 1) ns _ hr, acc_in]

/-- The tokens of a line that is written. -/
def lineT : List (List UInt8) → List Int → Nat → List Tok
  | [], _, _ => []
  | w :: ws, ns, L => (if w = [78] then ⟨2, Lib.itoa (ns.headD 0), L⟩ else ⟨1, w, L⟩) :: lineT ws (if w = [78] then ns.tail else ns) L
def lineE (m : Fm) (ns : List Int) (L : Nat) : List Tok := lineT (words m) ns L ++ [⟨3, [], L⟩]

theorem itoa_cls {n : Int} (h : okN n = true) : Lib.itoa n ≠ [] ∧ ∀ c ∈ Lib.itoa n, cls c = 2 := by
  have hok : 0 ≤ n ∧ n ≤ 1048576 := by simpa [okN] using h
  rw [Lib.itoa, if_neg (by omega)]
  exact ⟨dec_ne _, fun c hc => cls_digit (List.all_eq_true.1 (dec_allD _) c hc)⟩
theorem itoa_len {n : Int} (h : okN n = true) : (Lib.itoa n).length ≤ 7 := by
  rw [itoa_dg h]
  have hd : ∀ k u, (dg k u).length ≤ k := by
    intro k
    induction k with
    | zero => intro u; simp [dg]
    | succ k ih =>
      intro u
      unfold dg
      split
      · simp
      · have := ih (u / 10); simp; omega
  exact hd _ _

theorem word_next {w : List UInt8} {ws : List (List UInt8)} {ns : List Int} (hw : WordOk w) (hl : ns.length = (w :: ws).count [78]) (hok : ∀ n ∈ ns, okN n = true) :
    ∃ k wd ns', (k = 1 ∨ k = 2) ∧ wd ≠ [] ∧ (∀ c ∈ wd, cls c = k) ∧ (∀ i, spell i (w :: ws) ns = (if 0 < i then [32] else []) ++ wd ++ spell (i + 1) ws ns') ∧ (∀ L, lineT (w :: ws) ns L = ⟨k, wd, L⟩ :: lineT ws ns' L) ∧ ns'.length = ws.count [78] ∧ ∀ n ∈ ns', okN n = true := by
  by_cases h78 : w = [78]
  · subst h78
    cases ns with
    | nil => simp at hl
    | cons n r =>
      have h := itoa_cls (hok n (by simp))
      exact ⟨2, Lib.itoa n, r, .inr rfl, h.1, h.2, fun i => by rw [spell]; simp, fun L => by rw [lineT]; simp, by simpa using hl, fun n hn => hok n (by simp [hn])⟩
  · rcases hw with h | h
    · exact absurd h h78
    · exact ⟨1, w, ns, .inl rfl, h.1, h.2, fun i => by rw [spell]; simp [h78], fun L => by rw [lineT]; simp [h78], by simpa [List.count_cons, h78] using hl, hok⟩

theorem run_spell : ∀ (ws : List (List UInt8)) (i : Nat) (ns : List Int) (k : Nat) (cur : List UInt8) (X : List Tok) (L : Nat), (k = 1 ∨ k = 2) → (∀ w ∈ ws, WordOk w) → ns.length = ws.count [78] → (∀ n ∈ ns, okN n = true) →
    run (.ok k cur X L) (spell (i + 1) ws ns) = .ok 0 [] (X ++ [⟨k, cur, L⟩] ++ lineT ws ns L ++ [⟨3, [], L⟩]) (L + 1)
  | [], i, ns, k, cur, X, L, hk, _, _, _ => by
    show step (.ok k cur X L) 10 = _
    rw [step5 ((cls10 10).2 rfl)]
    have hf : flush k cur X L = X ++ [⟨k, cur, L⟩] := by unfold flush; rw [if_pos hk]
    rw [hf]
    unfold endLine
    rw [closed_snoc, if_neg (by show ¬ ((k == 3) = true); simp; omega)]
    simp [lineT]
  | w :: ws, i, ns, k, cur, X, L, hk, hwo, hl, hok => by
    obtain ⟨k', wd, ns', h1, h2, h3, h4, h5, h6, h7⟩ := word_next (hwo w (by simp)) hl hok
    have hf : flush k cur X L = X ++ [⟨k, cur, L⟩] := by unfold flush; rw [if_pos hk]
    rw [h4, if_pos (by omega), h5, List.append_assoc, run_app, run_app]
    have e1 : run (.ok k cur X L) [32] = .ok 0 [] (X ++ [⟨k, cur, L⟩]) L := by
      show step (.ok k cur X L) 32 = _
      rw [step3 (by decide) (by omega), hf]
    rw [e1, run_word k' h1 _ L wd [] h3 0 (.inl ⟨rfl, rfl, h2⟩), run_spell ws (i + 1) ns' k' _ _ L h1 (fun w hw => hwo w (by simp [hw])) h6 h7]
    simp

theorem words_ok {m : Fm} (hm : m ∈ forms) : ∀ w ∈ words m, WordOk w := by
  have h : forms.all (fun m => (words m).all (fun w => w == [78] || (!w.isEmpty && w.all (fun c => cls c == 1)))) = true := by decide +kernel
  have := List.all_eq_true.1 h m hm
  intro w hw
  have := List.all_eq_true.1 this w hw
  simp only [Bool.or_eq_true, Bool.and_eq_true, beq_iff_eq, List.all_eq_true, Bool.not_eq_true', List.isEmpty_eq_false_iff] at this
  exact this

theorem run_line {m : Fm} (hm : m ∈ forms) {ns : List Int} (hl : ns.length = (words m).count [78]) (hok : ∀ n ∈ ns, okN n = true) (X : List Tok) (L : Nat) :
    run (.ok 0 [] X L) (spell 0 (words m) ns) = .ok 0 [] (X ++ lineE m ns L) (L + 1) := by
  obtain ⟨w, ws, hw, h78⟩ := words_cons hm
  have hwo := words_ok hm
  unfold lineE
  rw [hw] at hl hwo ⊢
  obtain ⟨k', wd, ns', h1, h2, h3, h4, h5, h6, h7⟩ := word_next (hwo w (by simp)) hl hok
  rw [h4, if_neg (by omega), h5, List.nil_append, run_app, run_word k' h1 _ L wd [] h3 0 (.inl ⟨rfl, rfl, h2⟩), run_spell ws 0 ns' k' _ _ L h1 (fun w hw => hwo w (by simp [hw])) h6 h7]
  simp

theorem fol_line : ∀ (ws : List (List UInt8)) (ns : List Int) (L : Nat) (E : Tok) (i : Nat) (acc : List Int), (∀ w ∈ ws, WordOk w) → ns.length = ws.count [78] → (∀ n ∈ ns, okN n = true) → E.text = [] →
    ∃ far, fol (ws ++ [[]]) (lineT ws ns L ++ [E]) i acc = ⟨acc ++ ns, far, 0⟩
  | [], ns, L, E, i, acc, _, hl, _, hE => by
    have : ns = [] := List.eq_nil_of_length_eq_zero (by simpa using hl)
    subst this
    refine ⟨i + 1, ?_⟩
    show fol [[]] [E] i acc = _
    unfold fol
    rw [if_neg (by decide), if_pos hE]
    simp [fol]
  | w :: ws, ns, L, E, i, acc, hwo, hl, hok, hE => by
    by_cases h78 : w = [78]
    · subst h78
      cases ns with
      | nil => simp at hl
      | cons n r =>
        have hn : 0 ≤ n ∧ n ≤ 1048576 := by simpa [okN] using hok n (by simp)
        have hp := itoa_ok n hn.1 hn.2
        have e : lineT ([78] :: ws) (n :: r) L = ⟨2, Lib.itoa n, L⟩ :: lineT ws r L := by rw [lineT]; simp
        rw [e, List.cons_append, List.cons_append, fol_num_ok (a := ⟨2, Lib.itoa n, L⟩) hp.1]
        obtain ⟨far, hf⟩ := fol_line ws r L E (i + 1) (acc ++ [n]) (fun w hw => hwo w (by simp [hw])) (by simpa using hl) (fun n hn => hok n (by simp [hn])) hE
        refine ⟨far, ?_⟩
        show fol _ _ _ (acc ++ [pV (Lib.itoa n)]) = _
        rw [hp.2, hf]
        simp
    · have e : lineT (w :: ws) ns L = ⟨1, w, L⟩ :: lineT ws ns L := by rw [lineT]; simp [h78]
      rw [e, List.cons_append, List.cons_append, fol_word_ok (a := ⟨1, w, L⟩) h78 rfl]
      exact fol_line ws ns L E (i + 1) acc (fun w hw => hwo w (by simp [hw])) (by simpa [List.count_cons, h78] using hl) hok hE

theorem lineT_ok : ∀ (ws : List (List UInt8)) (ns : List Int) (L : Nat), (∀ w ∈ ws, WordOk w) → ns.length = ws.count [78] → (∀ n ∈ ns, okN n = true) → ∀ t ∈ lineT ws ns L, TokOkL t ∧ t.kind ≠ 3
  | [], ns, L, _, _, _ => fun t ht => by simp [lineT] at ht
  | w :: ws, ns, L, hwo, hl, hok => by
    obtain ⟨k', wd, ns', h1, h2, h3, h4, h5, h6, h7⟩ := word_next (hwo w (by simp)) hl hok
    rw [h5]
    intro t ht
    rcases List.mem_cons.1 ht with rfl | ht
    · rcases h1 with rfl | rfl
      · exact ⟨.inl ⟨rfl, h2, h3⟩, by show (1 : Nat) ≠ 3; decide⟩
      · exact ⟨.inr (.inl ⟨rfl, h2, h3⟩), by show (2 : Nat) ≠ 3; decide⟩
    · exact lineT_ok ws ns' L (fun w hw => hwo w (by simp [hw])) h6 h7 t ht

theorem head_filter (k : Nat) (hk : k < forms.length) (h6 : k ≠ 6) (h7 : k ≠ 7) (h8 : k ≠ 8) : forms.filter (fun x => (words x).head? == (words (forms[k]'hk)).head?) = [forms[k]'hk] := by
  have hk' : k < 10 := hk
  have : k = 0 ∨ k = 1 ∨ k = 2 ∨ k = 3 ∨ k = 4 ∨ k = 5 ∨ k = 9 := by omega
  rcases this with rfl | rfl | rfl | rfl | rfl | rfl | rfl
  all_goals rfl
theorem words678 : words forms[6] = [wAnswer, [78], [78], wDid] ∧ words forms[7] = [wAnswer, [78], [78], wFail] ∧ words forms[8] = [wAnswer, [78], [78], wNeed, [78]] := ⟨by kernel_rfl, by kernel_rfl, by kernel_rfl⟩

theorem near_is_line {m : Fm} (hm : m ∈ forms) {ns : List Int} (hl : ns.length = (words m).count [78]) (hok : ∀ n ∈ ns, okN n = true) (L : Nat) : NearIs (lineE m ns L) m := by
  obtain ⟨k, hk, rfl⟩ := List.getElem_of_mem hm
  by_cases h678 : k = 6 ∨ k = 7 ∨ k = 8
  · obtain ⟨w6, w7, w8⟩ := words678
    have hT := lineT_ok (words forms[k]) ns L (words_ok hm) hl hok
    rcases h678 with rfl | rfl | rfl
    · unfold lineE
      have e6 : words (forms[6]'hk) = _ := w6
      rw [e6] at hT ⊢
      have e : lineT [wAnswer, [78], [78], wDid] ns L = ⟨1, wAnswer, L⟩ :: lineT [[78], [78], wDid] ns L := rfl
      have := near_answer (t := ⟨1, wAnswer, L⟩) (ts := lineT [[78], [78], wDid] ns L) (E := ⟨3, [], L⟩) rfl (fun x hx => hT x (by rw [e]; simp [hx])) rfl
      have hf : fourthF (⟨1, wAnswer, L⟩ :: lineT [[78], [78], wDid] ns L) = wDid := rfl
      rw [hf, if_neg (by decide), if_neg (by decide)] at this
      exact this
    · unfold lineE
      have e7 : words (forms[7]'hk) = _ := w7
      rw [e7] at hT ⊢
      have e : lineT [wAnswer, [78], [78], wFail] ns L = ⟨1, wAnswer, L⟩ :: lineT [[78], [78], wFail] ns L := rfl
      have := near_answer (t := ⟨1, wAnswer, L⟩) (ts := lineT [[78], [78], wFail] ns L) (E := ⟨3, [], L⟩) rfl (fun x hx => hT x (by rw [e]; simp [hx])) rfl
      have hf : fourthF (⟨1, wAnswer, L⟩ :: lineT [[78], [78], wFail] ns L) = wFail := rfl
      rw [hf, if_neg (by decide), if_pos rfl] at this
      exact this
    · unfold lineE
      have e8 : words (forms[8]'hk) = _ := w8
      rw [e8] at hT ⊢
      have e : lineT [wAnswer, [78], [78], wNeed, [78]] ns L = ⟨1, wAnswer, L⟩ :: lineT [[78], [78], wNeed, [78]] ns L := rfl
      have := near_answer (t := ⟨1, wAnswer, L⟩) (ts := lineT [[78], [78], wNeed, [78]] ns L) (E := ⟨3, [], L⟩) rfl (fun x hx => hT x (by rw [e]; simp [hx])) rfl
      have hf : fourthF (⟨1, wAnswer, L⟩ :: lineT [[78], [78], wNeed, [78]] ns L) = wNeed := rfl
      rw [hf, if_pos rfl] at this
      exact this
  · obtain ⟨w, ws, hw, h78⟩ := words_cons hm
    have hf := head_filter k hk (by omega) (by omega) (by omega)
    rw [hw] at hf
    have e : lineE forms[k] ns L = ⟨1, w, L⟩ :: (lineT ws ns L ++ [⟨3, [], L⟩]) := by
      unfold lineE
      rw [hw, lineT]
      simp [h78]
    rw [e]
    exact near_is_one (w := w) (ws := ws ++ [[]]) hf (by unfold wants; rw [hw]; rfl) h78 rfl
theorem near_line {m : Fm} (hm : m ∈ forms) {ns : List Int} (hl : ns.length = (words m).count [78]) (hok : ∀ n ∈ ns, okN n = true) (L : Nat) : (near (lineE m ns L)).m = m ∧ (near (lineE m ns L)).ns = ns ∧ (near (lineE m ns L)).err = 0 := by
  obtain ⟨h1, h2, h3⟩ := near_is_line hm hl hok L
  obtain ⟨far, hf⟩ := fol_line (words m) ns L ⟨3, [], L⟩ 0 [] (words_ok hm) hl hok rfl
  have hf' : fol (wants m) (lineE m ns L) 0 [] = ⟨[] ++ ns, far, 0⟩ := hf
  rw [hf'] at h2 h3
  obtain ⟨h4, h5⟩ := h3 h2
  exact ⟨h4, by simpa using h5, h2⟩

/-! ### Lines of tokens -/
theorem endAt_app : ∀ (q : List Tok) (e : Tok) (rest : List Tok), (∀ t ∈ q, t.kind ≠ 3) → e.kind = 3 → endAt (q ++ e :: rest) = q.length
  | [], e, rest, _, he => by simp [endAt, List.findIdx_cons, he]
  | t :: q, e, rest, hq, he => by
    have := endAt_app q e rest (fun t ht => hq t (by simp [ht])) he
    have ht := hq t (by simp)
    unfold endAt at *
    rw [List.cons_append, List.findIdx_cons, this]
    have hb : (t.kind == 3) = false := beq_eq_false_iff_ne.2 ht
    rw [hb]
    simp

/-- A line that is right, ahead of others. -/
theorem go_line {m : Fm} (hm : m ∈ forms) {ns : List Int} (hl : ns.length = (words m).count [78]) (hok : ∀ n ∈ ns, okN n = true) (L : Nat) (f : Fl) (b : Bool) (rest : List Tok) (X : Except (Nat × Int) Fl) (he : lineErr f (lineE m ns L) b = 0) (h : ∀ n, rest.length ≤ n → fileGo n (lineAdd f (lineE m ns L)) false rest = X) :
    ∀ n, (lineE m ns L ++ rest).length ≤ n → fileGo n f b (lineE m ns L ++ rest) = X := by
  intro n hn
  have hT := lineT_ok (words m) ns L (words_ok hm) hl hok
  have e1 : lineE m ns L ++ rest = lineT (words m) ns L ++ ⟨3, [], L⟩ :: rest := by unfold lineE; simp
  have hE : endAt (lineE m ns L ++ rest) + 1 = (lineE m ns L).length := by
    rw [e1, endAt_app _ _ _ (fun t ht => (hT t ht).2) rfl]
    unfold lineE; simp
  have ht : (lineE m ns L ++ rest).take (endAt (lineE m ns L ++ rest) + 1) = lineE m ns L := by rw [hE, List.take_left]
  have hd : (lineE m ns L ++ rest).drop (endAt (lineE m ns L ++ rest) + 1) = rest := by rw [hE, List.drop_left]
  have hpos : 0 < (lineE m ns L).length := by unfold lineE; simp
  rw [fileGo_good (by unfold lineE; simp) hn (by rw [ht]; exact he), ht, hd]
  refine h _ ?_
  rw [List.length_append] at hn
  omega

theorem cfg_mem : cfgForm ∈ forms ∧ taskForm ∈ forms := ⟨by rw [forms_head]; simp, by rw [forms_head]; simp⟩
theorem count_cfg : (words cfgForm).count [78] = 10 ∧ (words taskForm).count [78] = 2 := by decide +kernel

/-- An operation that has a line. -/
def fmO (o : Oz) : Fm := (formOf o).getD noForm
def OpGood (o : Oz) : Prop := ∃ m, formOf o = some m ∧ ∀ n ∈ getN m o, okN n = true
theorem opGood_is {o : Oz} (h : OpGood o) : formOf o = some (fmO o) ∧ fmO o ∈ forms ∧ (fmO o).part = 3 ∧ (getN (fmO o) o).length = (words (fmO o)).count [78] ∧ (∀ n ∈ getN (fmO o) o, okN n = true) ∧ opOf (fmO o) (getN (fmO o) o) = o := by
  obtain ⟨m, h1, h2⟩ := h
  have e : fmO o = m := by unfold fmO; rw [h1]; rfl
  rw [e]
  have hm : m ∈ forms := List.mem_of_find?_eq_some h1
  have hi : isOp m o = true := List.find?_some (p := fun m => isOp m o) h1
  unfold isOp at hi
  simp only [Bool.and_eq_true, decide_eq_true_eq] at hi
  obtain ⟨hp, i1, i2, i3, i4, i5⟩ := hi
  obtain ⟨hcw, _, _, _, hn3, _⟩ := form_facts hm
  refine ⟨h1, hm, hp, ?_, h2, ?_⟩
  · rw [hcw]
    have := hn3 hp
    unfold getN
    simp; omega
  · generalize opOf m (getN m o) = q at *
    cases q; cases o
    simp_all

def opsB (os : List Oz) : List UInt8 := os.flatMap (fun o => spell 0 (words (fmO o)) (getN (fmO o) o))
def tasksB (ts : List (Int × Int)) : List UInt8 := ts.flatMap (fun t => spell 0 (words taskForm) [t.1, t.2])
def fileB (f : Fl) : List UInt8 := spell 0 (words cfgForm) f.cfg ++ tasksB f.tasks ++ opsB f.ops
def opsT : List Oz → Nat → List Tok
  | [], _ => []
  | o :: os, L => lineE (fmO o) (getN (fmO o) o) L ++ opsT os (L + 1)
def tasksT : List (Int × Int) → Nat → List Tok
  | [], _ => []
  | t :: ts, L => lineE taskForm [t.1, t.2] L ++ tasksT ts (L + 1)
def fileT (f : Fl) : List Tok := lineE cfgForm f.cfg 1 ++ tasksT f.tasks 2 ++ opsT f.ops (2 + f.tasks.length)

/-- A file that has a text. -/
structure Gd (f : Fl) : Prop where
  len : f.cfg.length = 10
  cfg : ∀ n ∈ f.cfg, okN n = true
  ts : ∀ t ∈ f.tasks, okN t.1 = true ∧ okN t.2 = true
  os : ∀ o ∈ f.ops, OpGood o

theorem tasksOut_is : ∀ (ts : List (Int × Int)) (acc : List UInt8), (∀ t ∈ ts, okN t.1 = true ∧ okN t.2 = true) → tasksOut ts acc = some (acc ++ tasksB ts)
  | [], acc, _ => by simp [tasksOut, tasksB]
  | t :: ts, acc, h => by
    have ht := h t (by simp)
    unfold tasksOut lineOut
    rw [wGo_spell _ _ _ _ (by rw [count_cfg.2]; rfl), if_pos (by simp [ht.1, ht.2])]
    simp only [Option.bind_some]
    rw [tasksOut_is ts _ (fun t ht => h t (by simp [ht]))]
    simp [tasksB]
theorem opsOut_is : ∀ (os : List Oz) (acc : List UInt8), (∀ o ∈ os, OpGood o) → opsOut os acc = some (acc ++ opsB os)
  | [], acc, _ => by simp [opsOut, opsB]
  | o :: os, acc, h => by
    obtain ⟨h1, h2, h3, h4, h5, h6⟩ := opGood_is (h o (by simp))
    unfold opsOut
    rw [h1]
    simp only [Option.bind_some]
    unfold lineOut
    rw [wGo_spell _ _ _ _ h4, if_pos (by simpa using h5)]
    simp only [Option.bind_some]
    rw [opsOut_is os _ (fun t ht => h t (by simp [ht]))]
    simp [opsB]
theorem fileOut_is {f : Fl} (h : Gd f) : fileOut f = some (fileB f) := by
  unfold fileOut lineOut
  rw [wGo_spell _ _ _ _ (by rw [count_cfg.1]; exact h.len), if_pos (by simpa using h.cfg)]
  simp only [Option.bind_some, List.nil_append]
  rw [tasksOut_is _ _ h.ts]
  simp only [Option.bind_some]
  rw [opsOut_is _ _ h.os]
  rfl
theorem tasksOut_gd : ∀ (ts : List (Int × Int)) (acc r : List UInt8), tasksOut ts acc = some r → ∀ t ∈ ts, okN t.1 = true ∧ okN t.2 = true
  | [], acc, r, _ => fun t ht => by simp at ht
  | t :: ts, acc, r, h => by
    unfold tasksOut lineOut at h
    rw [wGo_spell _ _ _ _ (by rw [count_cfg.2]; rfl)] at h
    split at h
    · rename_i hok
      simp only [Option.bind_some] at h
      have hok' : okN t.1 = true ∧ okN t.2 = true := by simpa using hok
      intro x hx
      rcases List.mem_cons.1 hx with rfl | hx
      · exact hok'
      · exact tasksOut_gd ts _ r h x hx
    · simp at h
theorem opsOut_gd : ∀ (os : List Oz) (acc r : List UInt8), opsOut os acc = some r → ∀ o ∈ os, OpGood o
  | [], acc, r, _ => fun t ht => by simp at ht
  | o :: os, acc, r, h => by
    unfold opsOut at h
    cases hm : formOf o with
    | none => rw [hm] at h; simp at h
    | some m =>
      rw [hm] at h
      simp only [Option.bind_some] at h
      have hmf : m ∈ forms := List.mem_of_find?_eq_some hm
      have hi : isOp m o = true := List.find?_some (p := fun m => isOp m o) hm
      obtain ⟨hcw, _, _, _, hn3, _⟩ := form_facts hmf
      have hp : m.part = 3 := by
        unfold isOp at hi
        simp only [Bool.and_eq_true, decide_eq_true_eq] at hi
        exact hi.1
      have hlen : (getN m o).length = (words m).count [78] := by
        rw [hcw]
        have := hn3 hp
        unfold getN
        simp; omega
      unfold lineOut at h
      rw [wGo_spell _ _ _ _ hlen] at h
      split at h
      · rename_i hok
        simp only [Option.bind_some] at h
        intro x hx
        rcases List.mem_cons.1 hx with rfl | hx
        · exact ⟨m, hm, by simpa using hok⟩
        · exact opsOut_gd os _ r h x hx
      · simp at h
theorem fileOut_gd {f : Fl} {r : List UInt8} (hc : f.cfg.length = 10) (h : fileOut f = some r) : Gd f ∧ r = fileB f := by
  have hg : Gd f := by
    unfold fileOut lineOut at h
    rw [wGo_spell _ _ _ _ (by rw [count_cfg.1]; exact hc)] at h
    split at h
    · rename_i hok
      simp only [Option.bind_some] at h
      cases ht : tasksOut f.tasks ([] ++ spell 0 (words cfgForm) f.cfg) with
      | none => rw [ht] at h; simp at h
      | some a =>
        rw [ht] at h
        simp only [Option.bind_some] at h
        exact ⟨hc, by simpa using hok, tasksOut_gd _ _ _ ht, opsOut_gd _ _ _ h⟩
    · simp at h
  refine ⟨hg, ?_⟩
  rw [fileOut_is hg] at h
  exact (Option.some.inj h).symm

/-! ### The bytes, lexed -/
theorem run_tasks : ∀ (ts : List (Int × Int)) (X : List Tok) (L : Nat), (∀ t ∈ ts, okN t.1 = true ∧ okN t.2 = true) → run (.ok 0 [] X L) (tasksB ts) = .ok 0 [] (X ++ tasksT ts L) (L + ts.length)
  | [], X, L, _ => by simp [tasksB, tasksT, run]
  | t :: ts, X, L, h => by
    have ht := h t (by simp)
    have e : tasksB (t :: ts) = spell 0 (words taskForm) [t.1, t.2] ++ tasksB ts := by simp [tasksB]
    rw [e, run_app, run_line cfg_mem.2 (by rw [count_cfg.2]; rfl) (by intro n hn; simp at hn; rcases hn with rfl | rfl <;> simp [ht.1, ht.2]), run_tasks ts _ _ (fun t ht => h t (by simp [ht]))]
    simp [tasksT]
    omega
theorem run_ops : ∀ (os : List Oz) (X : List Tok) (L : Nat), (∀ o ∈ os, OpGood o) → run (.ok 0 [] X L) (opsB os) = .ok 0 [] (X ++ opsT os L) (L + os.length)
  | [], X, L, _ => by simp [opsB, opsT, run]
  | o :: os, X, L, h => by
    obtain ⟨h1, h2, h3, h4, h5, h6⟩ := opGood_is (h o (by simp))
    have e : opsB (o :: os) = spell 0 (words (fmO o)) (getN (fmO o) o) ++ opsB os := by simp [opsB]
    rw [e, run_app, run_line h2 h4 h5, run_ops os _ _ (fun t ht => h t (by simp [ht]))]
    simp [opsT]
    omega
theorem run_file {f : Fl} (h : Gd f) : run init (fileB f) = .ok 0 [] (fileT f) (2 + f.tasks.length + f.ops.length) := by
  unfold fileB fileT init
  rw [run_app, run_app, run_line cfg_mem.1 (by rw [count_cfg.1]; exact h.len) h.cfg, run_tasks _ _ _ h.ts, run_ops _ _ _ h.os]
  simp

/-! ### The tokens, read -/
theorem ops_go : ∀ (os : List Oz) (L : Nat) (f : Fl) (rest : List Tok) (X : Except (Nat × Int) Fl), (∀ o ∈ os, OpGood o) → f.ops.length + os.length ≤ 4096 → (∀ n, rest.length ≤ n → fileGo n { f with ops := f.ops ++ os } false rest = X) → ∀ n, (opsT os L ++ rest).length ≤ n → fileGo n f false (opsT os L ++ rest) = X
  | [], L, f, rest, X, _, _, h => by
    intro n hn
    have := h n (by simpa [opsT] using hn)
    simpa [opsT] using this
  | o :: os, L, f, rest, X, hg, hl, h => by
    obtain ⟨h1, h2, h3, h4, h5, h6⟩ := opGood_is (hg o (by simp))
    obtain ⟨n1, n2, n3⟩ := near_line h2 h4 h5 L
    simp only [List.length_cons] at hl
    have e : opsT (o :: os) L ++ rest = lineE (fmO o) (getN (fmO o) o) L ++ (opsT os (L + 1) ++ rest) := by simp [opsT]
    rw [e]
    refine go_line h2 h4 h5 L f false _ X ?_ ?_
    · unfold lineErr mayStand isFull
      rw [n1, n3, h3]
      simp
      omega
    · have ea : lineAdd f (lineE (fmO o) (getN (fmO o) o) L) = { f with ops := f.ops ++ [o] } := by
        unfold lineAdd
        rw [n1, n2, h3, if_neg (by decide), if_neg (by decide), h6]
      rw [ea]
      refine ops_go os (L + 1) { f with ops := f.ops ++ [o] } rest X (fun t ht => hg t (by simp [ht])) (by simp; omega) ?_
      intro n hn
      have := h n hn
      simpa using this
theorem tasks_go : ∀ (ts : List (Int × Int)) (L : Nat) (f : Fl) (rest : List Tok) (X : Except (Nat × Int) Fl), (∀ t ∈ ts, okN t.1 = true ∧ okN t.2 = true) → f.ops = [] → f.tasks.length + ts.length ≤ 64 → (∀ n, rest.length ≤ n → fileGo n { f with tasks := f.tasks ++ ts } false rest = X) → ∀ n, (tasksT ts L ++ rest).length ≤ n → fileGo n f false (tasksT ts L ++ rest) = X
  | [], L, f, rest, X, _, _, _, h => by
    intro n hn
    have := h n (by simpa [tasksT] using hn)
    simpa [tasksT] using this
  | t :: ts, L, f, rest, X, hg, h0, hl, h => by
    have ht := hg t (by simp)
    have h4 : [t.1, t.2].length = (words taskForm).count [78] := by rw [count_cfg.2]; rfl
    have h5 : ∀ n ∈ [t.1, t.2], okN n = true := by intro n hn; simp at hn; rcases hn with rfl | rfl <;> simp [ht.1, ht.2]
    obtain ⟨n1, n2, n3⟩ := near_line cfg_mem.2 h4 h5 L
    simp only [List.length_cons] at hl
    have e : tasksT (t :: ts) L ++ rest = lineE taskForm [t.1, t.2] L ++ (tasksT ts (L + 1) ++ rest) := by simp [tasksT]
    rw [e]
    have hp : taskForm.part = 2 := rfl
    refine go_line cfg_mem.2 h4 h5 L f false _ X ?_ ?_
    · unfold lineErr mayStand isFull
      rw [n1, n3, hp, h0]
      simp
      omega
    · have ea : lineAdd f (lineE taskForm [t.1, t.2] L) = { f with tasks := f.tasks ++ [t] } := by
        unfold lineAdd
        rw [n1, n2, hp, if_neg (by decide), if_pos rfl]
        rfl
      rw [ea]
      refine tasks_go ts (L + 1) { f with tasks := f.tasks ++ [t] } rest X (fun t ht => hg t (by simp [ht])) h0 (by simp; omega) ?_
      intro n hn
      have := h n hn
      simpa using this
theorem file_go {f : Fl} (h : Gd f) (ht : f.tasks.length ≤ 64) (ho : f.ops.length ≤ 4096) (rest : List Tok) (X : Except (Nat × Int) Fl) (hX : ∀ n, rest.length ≤ n → fileGo n f false rest = X) : ∀ n, (fileT f ++ rest).length ≤ n → fileGo n noFile true (fileT f ++ rest) = X := by
  have h4 : f.cfg.length = (words cfgForm).count [78] := by rw [count_cfg.1]; exact h.len
  obtain ⟨n1, n2, n3⟩ := near_line cfg_mem.1 h4 h.cfg 1
  have hp : cfgForm.part = 1 := rfl
  have e : fileT f ++ rest = lineE cfgForm f.cfg 1 ++ (tasksT f.tasks 2 ++ (opsT f.ops (2 + f.tasks.length) ++ rest)) := by simp [fileT]
  rw [e]
  refine go_line cfg_mem.1 h4 h.cfg 1 noFile true _ X ?_ ?_
  · unfold lineErr mayStand isFull
    rw [n1, n3, hp]
    rfl
  · have ea : lineAdd noFile (lineE cfgForm f.cfg 1) = ⟨f.cfg, [], []⟩ := by
      unfold lineAdd
      rw [n1, n2, hp, if_pos rfl]
      rfl
    rw [ea]
    refine tasks_go f.tasks 2 ⟨f.cfg, [], []⟩ _ X h.ts rfl (by simpa using ht) ?_
    refine ops_go f.ops _ ⟨f.cfg, [] ++ f.tasks, []⟩ rest X h.os (by simpa using ho) ?_
    intro n hn
    have := hX n hn
    simpa using this

theorem closed_lineE (X : List Tok) (m : Fm) (ns : List Int) (L : Nat) : closed (X ++ lineE m ns L) = true := by
  unfold lineE
  rw [← List.append_assoc, closed_snoc]
  rfl
theorem closed_tasks : ∀ (ts : List (Int × Int)) (X : List Tok) (L : Nat), closed X = true → closed (X ++ tasksT ts L) = true
  | [], X, L, h => by simpa [tasksT] using h
  | t :: ts, X, L, h => by
    have e : X ++ tasksT (t :: ts) L = (X ++ lineE taskForm [t.1, t.2] L) ++ tasksT ts (L + 1) := by simp [tasksT]
    rw [e]
    exact closed_tasks ts _ _ (closed_lineE _ _ _ _)
theorem closed_ops : ∀ (os : List Oz) (X : List Tok) (L : Nat), closed X = true → closed (X ++ opsT os L) = true
  | [], X, L, h => by simpa [opsT] using h
  | o :: os, X, L, h => by
    have e : X ++ opsT (o :: os) L = (X ++ lineE (fmO o) (getN (fmO o) o) L) ++ opsT os (L + 1) := by simp [opsT]
    rw [e]
    exact closed_ops os _ _ (closed_lineE _ _ _ _)
theorem closed_file (f : Fl) : closed (fileT f) = true := by
  unfold fileT
  exact closed_ops _ _ _ (closed_tasks _ _ _ (by have := closed_lineE [] cfgForm f.cfg 1; simpa using this))
theorem fileT_ne (f : Fl) : fileT f ≠ [] := by unfold fileT lineE; simp

/-- A file's text, with a few lines behind. -/
theorem parse_tail {f : Fl} (h : Gd f) (ht : f.tasks.length ≤ 64) (ho : f.ops.length ≤ 4096) (tail : List UInt8) (hl : (fileB f ++ tail).length ≤ 65536) (R : List Tok) (L : Nat) (hr : run init tail = .ok 0 [] R L) (hc : closed R = true) (X : Except (Nat × Int) Fl) (hX : ∀ n, (R.map (shift (1 + f.tasks.length + f.ops.length))).length ≤ n → fileGo n f false (R.map (shift (1 + f.tasks.length + f.ops.length))) = X) :
    parseF (fileB f ++ tail) = readOf X := by
  have h1 : run init (fileB f ++ tail) = .ok 0 [] (fileT f ++ R.map (shift (1 + f.tasks.length + f.ops.length))) (L + (1 + f.tasks.length + f.ops.length)) := by
    rw [run_app, run_file h]
    have e : (St.ok 0 [] (fileT f) (2 + f.tasks.length + f.ops.length)) = lift (fileT f) (1 + f.tasks.length + f.ops.length) init := by
      show St.ok 0 [] (fileT f) (2 + f.tasks.length + f.ops.length) = St.ok 0 [] (fileT f ++ [].map _) (1 + (1 + f.tasks.length + f.ops.length))
      simp
      omega
    rw [e, run_lift (closed_file f), hr]
    rfl
  have h2 : lexF (fileB f ++ tail) = (fileT f ++ R.map (shift (1 + f.tasks.length + f.ops.length)), 0, 0) := by
    unfold lexF
    rw [if_neg (by omega), h1]
    show (endLine (flush 0 [] _ _) _, 0, 0) = _
    have : flush 0 [] (fileT f ++ R.map (shift (1 + f.tasks.length + f.ops.length))) (L + (1 + f.tasks.length + f.ops.length)) = fileT f ++ R.map (shift (1 + f.tasks.length + f.ops.length)) := by unfold flush; rw [if_neg (by omega)]
    rw [this]
    unfold endLine
    rw [closed_app (closed_file f), if_pos hc]
  unfold parseF
  rw [h2, if_pos rfl, if_neg (by simp [fileT_ne])]
  rw [file_go h ht ho _ X hX _ (Nat.le_refl _)]

/-- What is written is read. -/
theorem parse_back {f : Fl} (h : Gd f) (ht : f.tasks.length ≤ 64) (ho : f.ops.length ≤ 4096) (hl : (fileB f).length ≤ 65536) : parseF (fileB f) = ⟨f, 0, 0⟩ := by
  have := parse_tail h ht ho [] (by simpa using hl) [] 1 rfl rfl (.ok f) (fun n _ => fileGo_nil n f false)
  rw [List.append_nil] at this
  exact this

/-! ### How long a text is -/
def lenB (ws : List (List UInt8)) : Nat := 1 + (ws.map (fun w => 1 + (if w = [78] then 7 else w.length))).sum
theorem spell_len : ∀ (ws : List (List UInt8)) (i : Nat) (ns : List Int), ns.length = ws.count [78] → (∀ n ∈ ns, okN n = true) → (spell i ws ns).length ≤ lenB ws
  | [], i, ns, _, _ => by simp [spell, lenB]
  | w :: ws, i, ns, hl, hok => by
    have hi : (if 0 < i then ([32] : List UInt8) else []).length ≤ 1 := by split <;> simp
    unfold spell
    have el : lenB (w :: ws) = lenB ws + (1 + (if w = [78] then 7 else w.length)) := by simp [lenB]; omega
    rw [el]
    by_cases h78 : w = [78]
    · subst h78
      cases ns with
      | nil => simp at hl
      | cons n r =>
        have := spell_len ws (i + 1) r (by simpa using hl) (fun n hn => hok n (by simp [hn]))
        have h7 := itoa_len (hok n (by simp))
        simp only [if_true, List.headD_cons, List.tail_cons, List.length_append]
        omega
    · have := spell_len ws (i + 1) ns (by simpa [List.count_cons, h78] using hl) hok
      rw [if_neg h78, if_neg h78, if_neg h78]
      simp only [List.length_append]
      omega
theorem lenB_forms {m : Fm} (hm : m ∈ forms) : (m.part = 1 → lenB (words m) ≤ 300) ∧ (m.part ≠ 1 → lenB (words m) ≤ 40) := by
  have h : forms.all (fun m => (m.part != 1 || decide (lenB (words m) ≤ 300)) && (m.part == 1 || decide (lenB (words m) ≤ 40))) = true := by decide +kernel
  have := List.all_eq_true.1 h m hm
  simp only [Bool.and_eq_true, Bool.or_eq_true, bne_iff_ne, beq_iff_eq, decide_eq_true_eq] at this
  exact ⟨fun h => this.1.resolve_left (fun x => x h), fun h => this.2.resolve_left h⟩
theorem tasksB_len : ∀ (ts : List (Int × Int)), (∀ t ∈ ts, okN t.1 = true ∧ okN t.2 = true) → (tasksB ts).length ≤ 40 * ts.length
  | [], _ => by simp [tasksB]
  | t :: ts, h => by
    have ht := h t (by simp)
    have := tasksB_len ts (fun t ht => h t (by simp [ht]))
    have e : tasksB (t :: ts) = spell 0 (words taskForm) [t.1, t.2] ++ tasksB ts := by simp [tasksB]
    have h1 := spell_len (words taskForm) 0 [t.1, t.2] (by rw [count_cfg.2]; rfl) (by intro n hn; simp at hn; rcases hn with rfl | rfl <;> simp [ht.1, ht.2])
    have h2 := (lenB_forms cfg_mem.2).2 (by decide)
    rw [e, List.length_append, List.length_cons]
    omega
theorem opsB_len : ∀ (os : List Oz), (∀ o ∈ os, OpGood o) → (opsB os).length ≤ 40 * os.length
  | [], _ => by simp [opsB]
  | o :: os, h => by
    obtain ⟨h1, h2, h3, h4, h5, h6⟩ := opGood_is (h o (by simp))
    have := opsB_len os (fun t ht => h t (by simp [ht]))
    have e : opsB (o :: os) = spell 0 (words (fmO o)) (getN (fmO o) o) ++ opsB os := by simp [opsB]
    have q1 := spell_len (words (fmO o)) 0 _ h4 h5
    have q2 := (lenB_forms h2).2 (by omega)
    rw [e, List.length_append, List.length_cons]
    omega
theorem fileB_len {f : Fl} (h : Gd f) : (fileB f).length ≤ 300 + 40 * f.tasks.length + 40 * f.ops.length := by
  have h1 := spell_len (words cfgForm) 0 f.cfg (by rw [count_cfg.1]; exact h.len) h.cfg
  have h2 := (lenB_forms cfg_mem.1).1 rfl
  have h3 := tasksB_len f.tasks h.ts
  have h4 := opsB_len f.ops h.os
  unfold fileB
  simp only [List.length_append]
  omega

end Go.Proofs.YtgjfhfjmdkhllaaDoor.M
