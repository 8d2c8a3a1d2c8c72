/- What is read has a text: of a file that was read. Plain mathematics. -/
import Derived.Test.YtgjfhfjmdkhllaaDoorBacM
import Derived.Test.YtgjfhfjmdkhllaaDoorLexK
namespace Go.Proofs.YtgjfhfjmdkhllaaDoor.M
set_option linter.unusedSimpArgs false
set_option linter.unusedVariables false
open Go.Proofs.YtgjfhfjmdkhllaaDoor

theorem fol_ok : ∀ (ws : List (List UInt8)) (ts : List Tok) (i : Nat) (acc : List Int), (∀ n ∈ acc, okN n = true) → (fol ws ts i acc).err = 0 → ∀ n ∈ (fol ws ts i acc).ns, okN n = true
  | ws, [], i, acc, h, _ => by unfold fol; exact h
  | [], t :: ts, i, acc, _, he => by unfold fol at he; simp at he
  | w :: ws, t :: ts, i, acc, h, he => by
    unfold fol at he ⊢
    split
    · rename_i h78
      rw [if_pos h78] at he
      split
      · rename_i hp
        rw [if_pos hp] at he
        obtain ⟨_, r1, r2⟩ := read_back hp
        refine fol_ok ws ts (i + 1) _ ?_ he
        intro n hn
        rcases List.mem_append.1 hn with hn | hn
        · exact h n hn
        · simp at hn
          subst hn
          simp [okN, r1, r2]
      · rename_i hp
        rw [if_neg hp] at he
        exact absurd he hp
    · rename_i h78
      rw [if_neg h78] at he
      split
      · rename_i ht
        rw [if_pos ht] at he
        exact fol_ok ws ts (i + 1) acc h he
      · rename_i ht
        rw [if_neg ht] at he
        simp at he

theorem says_le {m : Fm} (hm : m ∈ forms) : m.says ≤ 3 := by
  have h : forms.all (fun m => decide (m.says ≤ 3)) = true := by decide +kernel
  simpa using List.all_eq_true.1 h m hm
theorem okN_nat {k : Nat} (h : k ≤ 3) : okN (k : Int) = true := by
  simp only [okN, decide_eq_true_eq]; omega

theorem opOf_back (m : Fm) (ns : List Int) (hk : nums m ≤ 3) (hl : ns.length = nums m) : opOf m (getN m (opOf m ns)) = opOf m ns := by
  obtain ⟨k, hn⟩ : ∃ k, nums m = k := ⟨_, rfl⟩
  unfold opOf getN
  simp only [hn]
  rw [hn] at hk hl
  have : k = 0 ∨ k = 1 ∨ k = 2 ∨ k = 3 := by omega
  by_cases hs : m.says = 0
  · rcases this with rfl | rfl | rfl | rfl <;> simp [hs]
  · rcases this with rfl | rfl | rfl | rfl <;> simp [hs]
theorem okN_zero : okN 0 = true := by decide
theorem getD_ok {ns : List Int} (h : ∀ n ∈ ns, okN n = true) (i : Nat) : okN (ns.getD i 0) = true := by
  rw [List.getD_eq_getElem?_getD]
  cases hg : ns[i]? with
  | none => exact okN_zero
  | some x => exact h x (List.mem_of_getElem? hg)
theorem opOf_good {m : Fm} (hm : m ∈ forms) (hp : m.part = 3) {ns : List Int} (hl : ns.length = nums m) (hok : ∀ n ∈ ns, okN n = true) : OpGood (opOf m ns) := by
  obtain ⟨hcw, _, _, _, hn3, _⟩ := form_facts hm
  have hb := opOf_back m ns (hn3 hp) hl
  have hs := says_le hm
  have f1 : okN (opOf m ns).a = true := by unfold opOf; simp only; split; exact getD_ok hok 0; exact okN_zero
  have f2 : okN (opOf m ns).b = true := by unfold opOf; simp only; split; exact getD_ok hok 1; exact okN_zero
  have f3 : okN (opOf m ns).c = true := by
    unfold opOf
    simp only
    split
    · split
      · exact getD_ok hok 2
      · exact okN_zero
    · exact okN_nat hs
  have f4 : okN (opOf m ns).d = true := by
    unfold opOf
    simp only
    split
    · exact okN_zero
    · split
      · exact getD_ok hok 2
      · exact okN_zero
  have hi : isOp m (opOf m ns) = true := by
    unfold isOp
    rw [hb]
    simp [hp]
  generalize opOf m ns = o at *
  cases hf : formOf o with
  | none =>
    exfalso
    have := List.find?_eq_none.1 hf m hm
    exact this hi
  | some m' =>
    refine ⟨m', hf, fun n hn => ?_⟩
    unfold getN at hn
    have hn' := List.mem_of_mem_take hn
    simp only [List.mem_cons, List.not_mem_nil, or_false] at hn'
    rcases hn' with rfl | rfl | rfl
    · exact f1
    · exact f2
    · split
      · exact f3
      · exact f4

theorem line_gd {f : Fl} {line : List Tok} {b : Bool} (hlo : LineOk line) (h : Gd f) (he : lineErr f line b = 0) : Gd (lineAdd f line) ∧ ((near line).m ∈ forms ∧ (near line).err = 0) ∧ (lineAdd f line).ops.length ≤ f.ops.length + 1 := by
  unfold lineErr at he
  split at he
  · simp at he
  · rename_i hms
    split at he
    · simp at he
    · have hms' : mayStand f (near line).m.part b = true := by simpa using hms
      have hp := mayStand_part hms'
      obtain ⟨hm, hfol⟩ := near_form hp
      have hns := near_nums hlo hp he
      have hok : ∀ n ∈ (near line).ns, okN n = true := by
        have := fol_ok (wants (near line).m) line 0 [] (by simp) (by rw [hfol]; exact he)
        rw [hfol] at this
        exact this
      obtain ⟨_, hpc, h10, h2, h3, _⟩ := form_facts hm
      refine ⟨?_, ⟨hm, he⟩, ?_⟩
      · unfold lineAdd
        rcases hpc with q | q | q
        · rw [if_pos q]
          exact ⟨by show (near line).ns.length = 10; rw [hns]; exact h10 q, hok, h.ts, h.os⟩
        · rw [if_neg (by omega), if_pos q]
          refine ⟨h.len, h.cfg, ?_, h.os⟩
          intro t ht
          rcases List.mem_append.1 ht with ht | ht
          · exact h.ts t ht
          · simp at ht
            subst ht
            exact ⟨getD_ok hok 0, getD_ok hok 1⟩
        · rw [if_neg (by omega), if_neg (by omega)]
          refine ⟨h.len, h.cfg, h.ts, ?_⟩
          intro o ho
          rcases List.mem_append.1 ho with ho | ho
          · exact h.os o ho
          · simp at ho
            subst ho
            exact opOf_good hm q hns hok
      · unfold lineAdd
        split
        · simp
        · split <;> simp

/-- How many bytes tokens take, each with one that parts it from the next. -/
def wt5 : List Tok → Nat
  | [] => 0
  | t :: ts => (if t.kind = 3 then 0 else t.text.length + 1) + wt5 ts
theorem wt5_app (a b : List Tok) : wt5 (a ++ b) = wt5 a + wt5 b := by
  induction a with
  | nil => simp [wt5]
  | cons t a ih => simp [wt5, ih]; omega
theorem wt5_end (ts : List Tok) (l : Nat) : wt5 (endLine ts l) = wt5 ts := by
  unfold endLine
  split
  · rfl
  · rw [wt5_app]; simp [wt5]
def W5 (m : Nat) (cur : List UInt8) (ts : List Tok) (l n : Nat) : Prop := wt5 ts + cur.length ≤ n
theorem wt5_flush (m : Nat) (cur : List UInt8) (ts : List Tok) (l : Nat) : wt5 (flush m cur ts l) ≤ wt5 ts + cur.length + 1 := by
  unfold flush
  split
  · rw [wt5_app]
    simp only [wt5]
    split <;> omega
  · omega
theorem w5_step (m : Nat) (cur : List UInt8) (ts : List Tok) (l n : Nat) (c : UInt8) (m' : Nat) (cur' : List UInt8) (ts' : List Tok) (l' : Nat) (g : W5 m cur ts l n) (h : step (.ok m cur ts l) c = .ok m' cur' ts' l') : W5 m' cur' ts' l' (n + 1) := by
  unfold W5 at *
  have hf := wt5_flush m cur ts l
  rcases step_cases m cur ts l c with ⟨_, e⟩ | ⟨_, _, e⟩ | ⟨_, _, _, e⟩ | ⟨_, _, _, e⟩ | ⟨_, _, e⟩ | ⟨_, _, e⟩ | e
  all_goals rw [e] at h
  all_goals cases h
  · rw [wt5_end]; simp; omega
  · simp; omega
  · simp; omega
  · simp; omega
  · simp; omega
  · simp; omega
theorem lex_wt5 {bs : List UInt8} {ts : List Tok} {n : Nat} (h : lexF bs = (ts, n, 0)) : wt5 ts ≤ bs.length + 1 := by
  unfold lexF at h
  split at h
  · simp at h
  · cases hr : run init bs with
    | error l => rw [hr] at h; simp [fin] at h
    | ok s =>
      obtain ⟨m, cur, ts', l⟩ := s
      rw [hr] at h
      have e : ts = endLine (flush m cur ts' l) l := by simp only [fin, Prod.mk.injEq] at h; exact h.1.symm
      have g := run_ind W5 w5_step bs 0 [] [] 1 0 m cur ts' l (by simp [W5, wt5]) hr
      unfold W5 at g
      have := wt5_flush m cur ts' l
      rw [e, wt5_end]
      omega

theorem first_len {m : Fm} (hm : m ∈ forms) : ∃ w ws, wants m = w :: ws ∧ w ≠ [78] ∧ 4 ≤ w.length := by
  obtain ⟨w, ws, h1, h2⟩ := words_cons hm
  have h : forms.all (fun m => match words m with | [] => false | w :: _ => decide (4 ≤ w.length)) = true := by decide +kernel
  have h3 := List.all_eq_true.1 h m hm
  rw [h1] at h3
  exact ⟨w, ws ++ [[]], by unfold wants; rw [h1]; rfl, h2, by simpa using h3⟩
theorem line_wt {line : List Tok} (hlo : LineOk line) (hm : (near line).m ∈ forms) (he : (near line).err = 0) : 5 ≤ wt5 line := by
  have hp : (near line).m.part ≠ 0 := by
    obtain ⟨_, h, _⟩ := form_facts hm
    omega
  obtain ⟨_, hf⟩ := near_form hp
  obtain ⟨w, ws, h1, h2, h3⟩ := first_len hm
  cases line with
  | nil =>
    obtain ⟨_, i, e, h, _⟩ := hlo
    simp at h
  | cons t ts =>
    have ht : t.text = w := by
      by_cases q : t.text = w
      · exact q
      · exfalso
        rw [h1, fol_word_bad h2 q] at hf
        have := congrArg Fo.err hf
        simp only at this
        rw [he] at this
        simp at this
    have hk : t.kind ≠ 3 := by
      intro h
      have := ((hlo.1 t (by simp)).1).1 h
      rw [ht] at this
      rw [this] at h3
      simp at h3
    simp only [wt5]
    rw [if_neg hk, ht]
    omega

theorem go_gd : ∀ (n : Nat) (f : Fl) (b : Bool) (ts : List Tok) (x : Fl), ToksOk ts → Gd f → FileOk f → ts.length ≤ n → fileGo n f b ts = .ok x → Gd x ∧ FileOk x ∧ 5 * x.ops.length ≤ 5 * f.ops.length + wt5 ts
  | 0, f, b, ts, x, _, hg, ho, _, h => by
    simp only [fileGo, Except.ok.injEq] at h
    subst h
    exact ⟨hg, ho, by omega⟩
  | n + 1, f, b, ts, x, ht, hg, ho, hn, h => by
    by_cases hne : ts = []
    · rw [hne, fileGo_nil] at h
      simp only [Except.ok.injEq] at h
      subst h
      exact ⟨hg, ho, by omega⟩
    · obtain ⟨hlt, hline, hrest⟩ := toks_line ht hne
      by_cases hE : lineErr f (ts.take (endAt ts + 1)) b = 0
      · rw [fileGo_good hne hn hE] at h
        obtain ⟨g1, ⟨g2, g3⟩, g4⟩ := line_gd hline hg hE
        obtain ⟨r1, r2, r3⟩ := go_gd n (lineAdd f (ts.take (endAt ts + 1))) false (ts.drop (endAt ts + 1)) x hrest g1 (lineAdd_ok ho hE) (by simp; omega) h
        refine ⟨r1, r2, ?_⟩
        have hw := line_wt hline g2 g3
        have hs : wt5 ts = wt5 (ts.take (endAt ts + 1)) + wt5 (ts.drop (endAt ts + 1)) := by rw [← wt5_app, List.take_append_drop]
        omega
      · rw [fileGo_bad hne hn hE] at h
        cases h
theorem go_err : ∀ (n : Nat) (f : Fl) (b : Bool) (ts : List Tok) (e : Nat × Int), ts.length ≤ n → fileGo n f b ts = .error e → e.2 ≠ 0
  | 0, f, b, ts, e, _, h => by simp [fileGo] at h
  | n + 1, f, b, ts, e, hn, h => by
    by_cases hne : ts = []
    · rw [hne, fileGo_nil] at h; cases h
    · by_cases hE : lineErr f (ts.take (endAt ts + 1)) b = 0
      · rw [fileGo_good hne hn hE] at h
        exact go_err n _ _ _ e (by simp; omega) h
      · rw [fileGo_bad hne hn hE] at h
        cases h
        exact hE

theorem gd_noFile : Gd noFile := ⟨rfl, by intro n hn; simp [noFile, zeros] at hn; subst hn; exact okN_zero, by simp [noFile], by simp [noFile]⟩
theorem parse_cases (bs : List UInt8) : (∃ (m : Nat) (E : Int), parseF bs = ⟨noFile, m, E⟩ ∧ E ≠ 0) ∨ ∃ x, parseF bs = ⟨x, 0, 0⟩ ∧ Gd x ∧ FileOk x ∧ 5 * x.ops.length ≤ bs.length + 1 := by
  cases hlx : lexF bs with
  | mk ts r =>
    obtain ⟨ln, er⟩ := r
    have hk := lexF_toks bs
    unfold parseF
    rw [hlx] at hk ⊢
    simp only at hk ⊢
    by_cases he : er = 0
    · subst he
      rw [if_pos rfl]
      by_cases hts : ts = []
      · rw [if_pos hts]
        exact .inl ⟨0, 2, rfl, by decide⟩
      · rw [if_neg hts]
        cases hg : fileGo ts.length noFile true ts with
        | error e => exact .inl ⟨e.1, e.2, rfl, go_err _ _ _ _ _ (Nat.le_refl _) hg⟩
        | ok x =>
          obtain ⟨g1, g2, g3⟩ := go_gd ts.length noFile true ts x ⟨hk.1, hk.2.1⟩ gd_noFile ⟨by simp [noFile], by simp [noFile]⟩ (Nat.le_refl _) hg
          have := lex_wt5 hlx
          refine .inr ⟨x, rfl, g1, g2, ?_⟩
          have h0 : noFile.ops.length = 0 := rfl
          omega
    · rw [if_neg he]
      exact .inl ⟨ln, er, rfl, by omega⟩

end Go.Proofs.YtgjfhfjmdkhllaaDoor.M
