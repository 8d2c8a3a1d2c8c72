/- What the document's own Parse reads, line by line, and that it is what the program reads: as plain mathematics. -/
import Derived.Test.YtgjfhfjmdkhllaaDoorParN
import Derived.Test.YtgjfhfjmdkhllaaDoorMatC
import Derived.Test.YtgjfhfjmdkhllaaDoorNumL
namespace Go.Proofs.YtgjfhfjmdkhllaaDoor.M
set_option linter.unusedVariables false
set_option linter.unusedSimpArgs false
open Go.Proofs.YtgjfhfjmdkhllaaDoor

/-- The numbers of a line by its form, or the error of its first token that is wrong. -/
def numF : List (List UInt8) → List Tok → List Int → List Int × Int
  | [], [], acc => (acc, 0)
  | [], _ :: _, _ => ([], 2)
  | _ :: _, [], _ => ([], 2)
  | w :: ws, t :: ts, acc =>
    if w = [78] then (if t.kind = 2 then (if pE t.text = 0 then numF ws ts (acc ++ [pV t.text]) else ([], pE t.text)) else ([], 2))
    else if t.kind = 1 ∧ t.text = w then numF ws ts acc else ([], 2)

theorem letters_pE {l : List UInt8} (h0 : l ≠ []) (h : ∀ c ∈ l, cls c = 1) : pE l = 2 := by
  cases l with
  | nil => exact absurd rfl h0
  | cons c l =>
    refine (pE_two (.inr (.inr ?_))).1
    have hc : isD c = false := by
      cases hd : isD c with
      | false => rfl
      | true => have := cls_digit hd; have := h c (by simp); omega
    simp [allD, hc]

/-- A wanted word: a number's, or letters. -/
def WordOk (w : List UInt8) : Prop := w = [78] ∨ (w ≠ [] ∧ ∀ c ∈ w, cls c = 1)

theorem tok_text {t : Tok} (h : TokOkL t) (h3 : t.kind ≠ 3) : t.text ≠ [] := by
  rcases h with ⟨_, h, _⟩ | ⟨_, h, _⟩ | ⟨h, _⟩
  · exact h
  · exact h
  · exact absurd h h3
theorem tok_letters {t : Tok} {w : List UInt8} (h : TokOkL t) (hw : w ≠ [] ∧ ∀ c ∈ w, cls c = 1) (he : t.text = w) : t.kind = 1 := by
  rcases h with ⟨h, _⟩ | ⟨_, h1, h2⟩ | ⟨_, h1⟩
  · exact h
  · exfalso
    cases ht : t.text with
    | nil => exact h1 ht
    | cons c l =>
      have a := h2 c (by rw [ht]; simp)
      have b := hw.2 c (by rw [← he, ht]; simp)
      omega
  · exact absurd (he ▸ h1) hw.1

theorem fol_num : ∀ (ws : List (List UInt8)) (ts : List Tok) (E : Tok) (i : Nat) (acc : List Int), (∀ w ∈ ws, WordOk w) → (∀ t ∈ ts, TokOkL t ∧ t.kind ≠ 3) → E.text = [] →
    (fol (ws ++ [[]]) (ts ++ [E]) i acc).err = (numF ws ts acc).2 ∧ ((numF ws ts acc).2 = 0 → (fol (ws ++ [[]]) (ts ++ [E]) i acc).ns = (numF ws ts acc).1)
  | [], [], E, i, acc, hw, ht, hE => by
    simp only [List.nil_append, fol, numF]
    rw [if_neg (by simp), if_pos hE]
    exact ⟨rfl, fun _ => rfl⟩
  | [], t :: ts, E, i, acc, hw, ht, hE => by
    have h := ht t (by simp)
    simp only [List.nil_append, List.cons_append, fol, numF]
    rw [if_neg (by simp), if_neg (tok_text h.1 h.2)]
    exact ⟨rfl, fun h => by simp at h⟩
  | w :: ws, [], E, i, acc, hw, ht, hE => by
    have h := hw w (by simp)
    simp only [List.nil_append, List.cons_append, fol, numF]
    by_cases h78 : w = [78]
    · rw [if_pos h78, hE, pE_nil, if_neg (by decide)]
      exact ⟨rfl, fun h => by simp at h⟩
    · rw [if_neg h78]
      have hne : w ≠ [] := by
        rcases h with h | h
        · exact absurd h h78
        · exact h.1
      rw [if_neg (by rw [hE]; exact Ne.symm hne)]
      exact ⟨rfl, fun h => by simp at h⟩
  | w :: ws, t :: ts, E, i, acc, hw, ht, hE => by
    have h := hw w (by simp)
    have hk := ht t (by simp)
    simp only [List.cons_append, fol, numF]
    by_cases h78 : w = [78]
    · rw [if_pos h78, if_pos h78]
      by_cases h2 : t.kind = 2
      · rw [if_pos h2]
        by_cases hp : pE t.text = 0
        · rw [if_pos hp, if_pos hp]
          exact fol_num ws ts E (i + 1) _ (fun w hw' => hw w (by simp [hw'])) (fun t ht' => ht t (by simp [ht'])) hE
        · rw [if_neg hp, if_neg hp]
          exact ⟨rfl, fun h => absurd h hp⟩
      · rw [if_neg h2]
        have hp : pE t.text = 2 := by
          rcases hk.1 with ⟨_, a, b⟩ | ⟨a, _⟩ | ⟨a, _⟩
          · exact letters_pE a b
          · exact absurd a h2
          · exact absurd a hk.2
        rw [hp, if_neg (by decide)]
        exact ⟨rfl, fun h => by simp at h⟩
    · rw [if_neg h78, if_neg h78]
      have hl : w ≠ [] ∧ ∀ c ∈ w, cls c = 1 := by
        rcases h with h | h
        · exact absurd h h78
        · exact h
      by_cases he : t.text = w
      · rw [if_pos he, if_pos ⟨tok_letters hk.1 hl he, he⟩]
        exact fol_num ws ts E (i + 1) acc (fun w hw' => hw w (by simp [hw'])) (fun t ht' => ht t (by simp [ht'])) hE
      · rw [if_neg he, if_neg (fun h => he h.2)]
        exact ⟨rfl, fun h => by simp at h⟩

theorem fol_far : ∀ (ws : List (List UInt8)) (ts : List Tok) (i : Nat) (acc : List Int), i ≤ (fol ws ts i acc).far
  | ws, [], i, acc => by unfold fol; exact Nat.le_refl _
  | [], t :: ts, i, acc => by unfold fol; exact Nat.le_refl _
  | w :: ws, t :: ts, i, acc => by
    unfold fol
    split
    · split
      · have := fol_far ws ts (i + 1) (acc ++ [pV t.text]); omega
      · exact Nat.le_refl _
    · split
      · have := fol_far ws ts (i + 1) acc; omega
      · exact Nat.le_refl _

def wConfig : List UInt8 := [99, 111, 110, 102, 105, 103]
def wTask : List UInt8 := [116, 97, 115, 107]
def wSubmit : List UInt8 := [115, 117, 98, 109, 105, 116]
def wCancel : List UInt8 := [99, 97, 110, 99, 101, 108]
def wTick : List UInt8 := [116, 105, 99, 107]
def wDispatch : List UInt8 := [100, 105, 115, 112, 97, 116, 99, 104]
def wAnswer : List UInt8 := [97, 110, 115, 119, 101, 114]
def wQuery : List UInt8 := [113, 117, 101, 114, 121]
def wDid : List UInt8 := [100, 105, 100]
def wFail : List UInt8 := [102, 97, 105, 108]
def wNeed : List UInt8 := [110, 101, 101, 100]

/-- The form of a line by its first word, and of answer by its fourth token. -/
def refFm (first fourth : List UInt8) : Fm :=
  if first = wConfig then forms[0] else if first = wTask then forms[1] else if first = wSubmit then forms[2] else if first = wCancel then forms[3]
  else if first = wQuery then forms[9] else if first = wTick then forms[4] else if first = wDispatch then forms[5]
  else if first = wAnswer then (if fourth = wNeed then forms[8] else if fourth = wFail then forms[7] else forms[6])
  else noForm
def fourthF (l : List Tok) : List UInt8 := match l with
  | _ :: _ :: _ :: t :: _ => if t.kind = 1 then t.text else []
  | _ => []

theorem near_one {t : Tok} {ts : List Tok} {m : Fm} {w : List UInt8} {ws : List (List UInt8)} (hf : forms.filter (fun x => (words x).head? == some t.text) = [m]) (hw : wants m = w :: ws) (h78 : w ≠ [78]) (ht : t.text = w) :
    near (t :: ts) = ⟨m, (fol (wants m) (t :: ts) 0 []).ns, (fol (wants m) (t :: ts) 0 []).err, (fol (wants m) (t :: ts) 0 []).far⟩ := by
  rw [near_cands, hf]
  show nearStep _ _ _ = _
  have hfar : 0 < (fol (wants m) (t :: ts) 0 []).far := by
    rw [hw]
    unfold fol
    rw [if_neg h78, if_pos ht]
    exact fol_far _ _ _ _
  unfold nearStep
  rw [if_pos hfar]
theorem near_none {t : Tok} {ts : List Tok} (hf : forms.filter (fun x => (words x).head? == some t.text) = []) : near (t :: ts) = ⟨noForm, [], 0, 0⟩ := by
  rw [near_cands, hf]; rfl

/-- What the nearest form is, beside the form that the document takes. -/
def NearIs (line : List Tok) (m : Fm) : Prop :=
  (near line).m.part = m.part ∧ (near line).err = (fol (wants m) line 0 []).err ∧ ((near line).err = 0 → (near line).m = m ∧ (near line).ns = (fol (wants m) line 0 []).ns)

theorem near_is_one {t : Tok} {ts : List Tok} {m : Fm} {w : List UInt8} {ws : List (List UInt8)} (hf : forms.filter (fun x => (words x).head? == some t.text) = [m]) (hw : wants m = w :: ws) (h78 : w ≠ [78]) (ht : t.text = w) : NearIs (t :: ts) m := by
  unfold NearIs
  rw [near_one hf hw h78 ht]
  exact ⟨rfl, rfl, fun _ => ⟨rfl, rfl⟩⟩

theorem wantsA : wants forms[6] = wAnswer :: [78] :: [78] :: wDid :: [[]] ∧ wants forms[7] = wAnswer :: [78] :: [78] :: wFail :: [[]] ∧ wants forms[8] = wAnswer :: [78] :: [78] :: wNeed :: [78] :: [[]] := ⟨by kernel_rfl, by kernel_rfl, by kernel_rfl⟩
theorem near_three {t : Tok} {ts : List Tok} (ht : t.text = wAnswer) : near (t :: ts) = nearStep (t :: ts) (nearStep (t :: ts) (nearStep (t :: ts) ⟨noForm, [], 0, 0⟩ forms[6]) forms[7]) forms[8] := by
  have hf : forms.filter (fun x => (words x).head? == some t.text) = [forms[6], forms[7], forms[8]] := by rw [ht]; kernel_rfl
  rw [near_cands, hf]
  rfl

theorem fol_ans {t : Tok} {ts : List Tok} (ht : t.text = wAnswer) (ws : List (List UInt8)) : fol (wAnswer :: [78] :: [78] :: ws) (t :: ts) 0 [] = fol ([78] :: [78] :: ws) ts 1 [] := by
  conv => lhs; unfold fol
  rw [if_neg (by decide), if_pos ht]
theorem fol_num_bad {a : Tok} {ts : List Tok} {ws : List (List UInt8)} {i : Nat} {acc : List Int} (h : pE a.text ≠ 0) : fol ([78] :: ws) (a :: ts) i acc = ⟨[], i, pE a.text⟩ := by
  conv => lhs; unfold fol
  rw [if_pos rfl, if_neg h]
theorem fol_num_ok {a : Tok} {ts : List Tok} {ws : List (List UInt8)} {i : Nat} {acc : List Int} (h : pE a.text = 0) : fol ([78] :: ws) (a :: ts) i acc = fol ws ts (i + 1) (acc ++ [pV a.text]) := by
  conv => lhs; unfold fol
  rw [if_pos rfl, if_pos h]
theorem fol_word_bad {a : Tok} {ts : List Tok} {w : List UInt8} {ws : List (List UInt8)} {i : Nat} {acc : List Int} (h78 : w ≠ [78]) (h : a.text ≠ w) : fol (w :: ws) (a :: ts) i acc = ⟨[], i, 2⟩ := by
  conv => lhs; unfold fol
  rw [if_neg h78, if_neg h]
theorem fol_word_ok {a : Tok} {ts : List Tok} {w : List UInt8} {ws : List (List UInt8)} {i : Nat} {acc : List Int} (h78 : w ≠ [78]) (h : a.text = w) : fol (w :: ws) (a :: ts) i acc = fol ws ts (i + 1) acc := by
  conv => lhs; unfold fol
  rw [if_neg h78, if_pos h]

theorem near_same3 {line : List Tok} {F : Fo} {a : Nr} (hn : near line = nearStep line (nearStep line (nearStep line ⟨noForm, [], 0, 0⟩ forms[6]) forms[7]) forms[8]) (h6 : fol (wants forms[6]) line 0 [] = F) (h7 : fol (wants forms[7]) line 0 [] = F) (h8 : fol (wants forms[8]) line 0 [] = F) (hF : 0 < F.far) :
    near line = ⟨forms[6], F.ns, F.err, F.far⟩ := by
  rw [hn]
  unfold nearStep
  rw [h6, h7, h8]
  simp only [hF, if_true]
  rw [if_neg (Nat.lt_irrefl _), if_neg (Nat.lt_irrefl _)]

theorem near3_did {line : List Tok} {F6 F7 F8 : Fo} (hn : near line = nearStep line (nearStep line (nearStep line ⟨noForm, [], 0, 0⟩ forms[6]) forms[7]) forms[8]) (h6 : fol (wants forms[6]) line 0 [] = F6) (h7 : fol (wants forms[7]) line 0 [] = F7) (h8 : fol (wants forms[8]) line 0 [] = F8) (l6 : 0 < F6.far) (l7 : ¬ F6.far < F7.far) (l8 : ¬ F6.far < F8.far) :
    near line = ⟨forms[6], F6.ns, F6.err, F6.far⟩ := by
  rw [hn]
  unfold nearStep
  rw [h6, h7, h8]
  simp only [l6, l7, l8, if_true, if_false]
theorem near3_fail {line : List Tok} {F6 F7 F8 : Fo} (hn : near line = nearStep line (nearStep line (nearStep line ⟨noForm, [], 0, 0⟩ forms[6]) forms[7]) forms[8]) (h6 : fol (wants forms[6]) line 0 [] = F6) (h7 : fol (wants forms[7]) line 0 [] = F7) (h8 : fol (wants forms[8]) line 0 [] = F8) (l6 : 0 < F6.far) (l7 : F6.far < F7.far) (l8 : ¬ F7.far < F8.far) :
    near line = ⟨forms[7], F7.ns, F7.err, F7.far⟩ := by
  rw [hn]
  unfold nearStep
  rw [h6, h7, h8]
  simp only [l6, l7, l8, if_true, if_false]
theorem near3_need {line : List Tok} {F6 F7 F8 : Fo} (hn : near line = nearStep line (nearStep line (nearStep line ⟨noForm, [], 0, 0⟩ forms[6]) forms[7]) forms[8]) (h6 : fol (wants forms[6]) line 0 [] = F6) (h7 : fol (wants forms[7]) line 0 [] = F7) (h8 : fol (wants forms[8]) line 0 [] = F8) (l6 : 0 < F6.far) (l7 : ¬ F6.far < F7.far) (l8 : F6.far < F8.far) :
    near line = ⟨forms[8], F8.ns, F8.err, F8.far⟩ := by
  rw [hn]
  unfold nearStep
  rw [h6, h7, h8]
  simp only [l6, l7, l8, if_true, if_false]

/-- Of an answer. -/
theorem near_answer {t : Tok} {ts : List Tok} {E : Tok} (ht : t.text = wAnswer) (hts : ∀ x ∈ ts, TokOkL x ∧ x.kind ≠ 3) (hE : E.text = []) : NearIs (t :: (ts ++ [E])) (if fourthF (t :: ts) = wNeed then forms[8] else if fourthF (t :: ts) = wFail then forms[7] else forms[6]) := by
  have hn := near_three (ts := ts ++ [E]) ht
  obtain ⟨w6, w7, w8⟩ := wantsA
  have f6 : fol (wants forms[6]) (t :: (ts ++ [E])) 0 [] = fol ([78] :: [78] :: wDid :: [[]]) (ts ++ [E]) 1 [] := by rw [w6]; exact fol_ans ht _
  have f7 : fol (wants forms[7]) (t :: (ts ++ [E])) 0 [] = fol ([78] :: [78] :: wFail :: [[]]) (ts ++ [E]) 1 [] := by rw [w7]; exact fol_ans ht _
  have f8 : fol (wants forms[8]) (t :: (ts ++ [E])) 0 [] = fol ([78] :: [78] :: wNeed :: [78] :: [[]]) (ts ++ [E]) 1 [] := by rw [w8]; exact fol_ans ht _
  have hp6 : forms[6].part = 3 := rfl
  have hp7 : forms[7].part = 3 := rfl
  have hp8 : forms[8].part = 3 := rfl
  have hall : ∀ (F : Fo), fol (wants forms[6]) (t :: (ts ++ [E])) 0 [] = F → fol (wants forms[7]) (t :: (ts ++ [E])) 0 [] = F → fol (wants forms[8]) (t :: (ts ++ [E])) 0 [] = F → 0 < F.far → F.err ≠ 0 → NearIs (t :: (ts ++ [E])) (if fourthF (t :: ts) = wNeed then forms[8] else if fourthF (t :: ts) = wFail then forms[7] else forms[6]) := by
    intro F e6 e7 e8 hF he
    unfold NearIs
    rw [near_same3 (a := ⟨noForm, [], 0, 0⟩) hn e6 e7 e8 hF]
    refine ⟨?_, ?_, fun h => absurd h he⟩
    · split
      · rfl
      · split <;> rfl
    · show F.err = _
      split
      · rw [e8]
      · split
        · rw [e7]
        · rw [e6]
  -- the second token
  cases hts1 : ts with
  | nil =>
    subst hts1
    rw [List.nil_append] at f6 f7 f8
    have hb : pE E.text ≠ 0 := by rw [hE, pE_nil]; decide
    rw [fol_num_bad hb] at f6 f7 f8
    exact hall _ f6 f7 f8 (by show 0 < 1; decide) hb
  | cons a ts1 =>
    subst hts1
    rw [List.cons_append] at f6 f7 f8
    by_cases ha : pE a.text = 0
    · rw [fol_num_ok ha] at f6 f7 f8
      cases hts2 : ts1 with
      | nil =>
        subst hts2
        rw [List.nil_append] at f6 f7 f8
        have hb : pE E.text ≠ 0 := by rw [hE, pE_nil]; decide
        rw [fol_num_bad hb] at f6 f7 f8
        exact hall _ f6 f7 f8 (by show 0 < 2; decide) hb
      | cons b ts2 =>
        subst hts2
        rw [List.cons_append] at f6 f7 f8
        by_cases hb : pE b.text = 0
        · rw [fol_num_ok hb] at f6 f7 f8
          cases hts3 : ts2 with
          | nil =>
            subst hts3
            rw [List.nil_append] at f6 f7 f8
            rw [fol_word_bad (by decide) (by rw [hE]; decide)] at f6 f7 f8
            exact hall _ f6 f7 f8 (by show 0 < 3; decide) (by show (2 : Int) ≠ 0; decide)
          | cons c ts3 =>
            subst hts3
            rw [List.cons_append] at f6 f7 f8
            have hc := hts c (by simp)
            have hfo : ∀ w : List UInt8, (w ≠ [] ∧ ∀ x ∈ w, cls x = 1) → c.text = w → fourthF (t :: a :: b :: c :: ts3) = w := by
              intro w hw he
              have := tok_letters hc.1 hw he
              show (if c.kind = 1 then c.text else []) = w
              rw [if_pos this]; exact he
            by_cases h6 : c.text = wDid
            · rw [fol_word_ok (by decide) h6] at f6
              rw [fol_word_bad (by decide) (by rw [h6]; decide)] at f7 f8
              have hf := fol_far [[]] (ts3 ++ [E]) (1 + 1 + 1 + 1) ([] ++ [pV a.text] ++ [pV b.text])
              have e4 := hfo wDid ⟨by decide, by decide⟩ h6
              rw [e4, if_neg (by decide), if_neg (by decide)]
              have hne := near3_did hn f6 f7 f8 (by omega) (by show ¬ _ < 1 + 1 + 1; omega) (by show ¬ _ < 1 + 1 + 1; omega)
              unfold NearIs
              have hne2 : near (t :: (a :: b :: c :: ts3 ++ [E])) = _ := hne
              rw [hne2]
              exact ⟨rfl, (congrArg Fo.err f6).symm, fun _ => ⟨rfl, (congrArg Fo.ns f6).symm⟩⟩
            · by_cases h7 : c.text = wFail
              · rw [fol_word_bad (by decide) h6] at f6
                rw [fol_word_ok (by decide) h7] at f7
                rw [fol_word_bad (by decide) (by rw [h7]; decide)] at f8
                have hf := fol_far [[]] (ts3 ++ [E]) (1 + 1 + 1 + 1) ([] ++ [pV a.text] ++ [pV b.text])
                have e4 := hfo wFail ⟨by decide, by decide⟩ h7
                rw [e4, if_neg (by decide), if_pos rfl]
                have hne := near3_fail hn f6 f7 f8 (by show 0 < 1 + 1 + 1; omega) (by show 1 + 1 + 1 < _; omega) (by show ¬ _ < 1 + 1 + 1; omega)
                unfold NearIs
                have hne2 : near (t :: (a :: b :: c :: ts3 ++ [E])) = _ := hne
                rw [hne2]
                exact ⟨rfl, (congrArg Fo.err f7).symm, fun _ => ⟨rfl, (congrArg Fo.ns f7).symm⟩⟩
              · by_cases h8 : c.text = wNeed
                · rw [fol_word_bad (by decide) h6] at f6
                  rw [fol_word_bad (by decide) h7] at f7
                  rw [fol_word_ok (by decide) h8] at f8
                  have hf := fol_far ([78] :: [[]]) (ts3 ++ [E]) (1 + 1 + 1 + 1) ([] ++ [pV a.text] ++ [pV b.text])
                  have e4 := hfo wNeed ⟨by decide, by decide⟩ h8
                  rw [e4, if_pos rfl]
                  have hne := near3_need hn f6 f7 f8 (by show 0 < 1 + 1 + 1; omega) (by show ¬ 1 + 1 + 1 < 1 + 1 + 1; omega) (by show 1 + 1 + 1 < _; omega)
                  unfold NearIs
                  have hne2 : near (t :: (a :: b :: c :: ts3 ++ [E])) = _ := hne
                  rw [hne2]
                  exact ⟨rfl, (congrArg Fo.err f8).symm, fun _ => ⟨rfl, (congrArg Fo.ns f8).symm⟩⟩
                · rw [fol_word_bad (by decide) h6] at f6
                  rw [fol_word_bad (by decide) h7] at f7
                  rw [fol_word_bad (by decide) h8] at f8
                  exact hall _ f6 f7 f8 (by show 0 < 3; decide) (by show (2 : Int) ≠ 0; decide)
        · rw [fol_num_bad hb] at f6 f7 f8
          exact hall _ f6 f7 f8 (by show 0 < 2; decide) hb
    · rw [fol_num_bad ha] at f6 f7 f8
      exact hall _ f6 f7 f8 (by show 0 < 1; decide) ha

end Go.Proofs.YtgjfhfjmdkhllaaDoor.M
