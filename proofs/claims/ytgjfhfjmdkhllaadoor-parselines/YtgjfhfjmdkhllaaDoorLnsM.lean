/- A text with one operation more. Plain mathematics. -/
import Derived.Test.YtgjfhfjmdkhllaaDoorBacM
namespace Go.Proofs.YtgjfhfjmdkhllaaDoor.M
set_option linter.unusedSimpArgs false
set_option linter.unusedVariables false
open Go.Proofs.YtgjfhfjmdkhllaaDoor

def addO (g : Fl) (o : Oz) : Fl := ⟨g.cfg, g.tasks, g.ops ++ [o]⟩
def lineB (o : Oz) : List UInt8 := spell 0 (words (fmO o)) (getN (fmO o) o)
theorem fileB_add (g : Fl) (o : Oz) : fileB (addO g o) = fileB g ++ lineB o := by
  unfold fileB addO lineB opsB
  simp
theorem spell_last : ∀ (ws : List (List UInt8)) (i : Nat) (ns : List Int), ∃ l, spell i ws ns = l ++ [10]
  | [], i, ns => ⟨[], rfl⟩
  | w :: ws, i, ns => by
    obtain ⟨l, h⟩ := spell_last ws (i + 1) (if w = [78] then ns.tail else ns)
    unfold spell
    rw [h]
    exact ⟨(if 0 < i then [32] else []) ++ (if w = [78] then Lib.itoa (ns.headD 0) else w) ++ l, by simp⟩
theorem count_no {l : List UInt8} {k : Nat} (h : ∀ c ∈ l, cls c = k) (hk : k ≠ 5) : l.count 10 = 0 := by
  rw [List.count_eq_zero]
  intro hm
  have := h 10 hm
  rw [(cls10 10).2 rfl] at this
  exact hk this.symm
theorem spell_nl : ∀ (ws : List (List UInt8)) (i : Nat) (ns : List Int), (∀ w ∈ ws, WordOk w) → ns.length = ws.count [78] → (∀ n ∈ ns, okN n = true) → (spell i ws ns).count 10 = 1
  | [], i, ns, _, _, _ => by simp [spell]
  | w :: ws, i, ns, hwo, hl, hok => by
    obtain ⟨k', wd, ns', h1, h2, h3, h4, h5, h6, h7⟩ := word_next (hwo w (by simp)) hl hok
    rw [h4, List.count_append, List.count_append, spell_nl ws (i + 1) ns' (fun w hw => hwo w (by simp [hw])) h6 h7, count_no h3 (by omega)]
    have : (if 0 < i then ([32] : List UInt8) else []).count 10 = 0 := by split <;> rfl
    omega
theorem lineB_nl {o : Oz} (h : OpGood o) : (lineB o).count 10 = 1 ∧ (∃ l, lineB o = l ++ [10]) ∧ (lineB o).length ≤ 40 := by
  obtain ⟨h1, h2, h3, h4, h5, h6⟩ := opGood_is h
  have q1 := spell_len (words (fmO o)) 0 _ h4 h5
  have q2 := (lenB_forms h2).2 (by omega)
  exact ⟨spell_nl _ _ _ (words_ok h2) h4 h5, spell_last _ _ _, by unfold lineB; omega⟩
theorem textF_gd {f : Fl} {r : List UInt8} (hc : f.cfg.length = 10) (h : textF f = some r) : Gd f ∧ r = fileB f ∧ f.tasks.length ≤ 64 ∧ f.ops.length ≤ 4096 := by
  unfold textF at h
  split at h
  · cases h
  · rename_i hl
    obtain ⟨g1, g2⟩ := fileOut_gd hc h
    exact ⟨g1, g2, by omega, by omega⟩
/-- What a text with one operation more is. -/
theorem text_more {g : Fl} {o : Oz} {r t : List UInt8} (hc : g.cfg.length = 10) (ho : g.ops.length ≤ 4000) (h1 : textF g = some r) (h2 : textF (addO g o) = some t) :
    ∃ l, t = r ++ l ∧ l.count 10 = 1 ∧ (∃ q, l = q ++ [10]) ∧ l.length ≤ 40 ∧ r.length ≤ 300 + 40 * g.tasks.length + 40 * g.ops.length ∧ (t.length ≤ 65536 → parseF t = ⟨addO g o, 0, 0⟩) := by
  obtain ⟨a1, a2, a3, a4⟩ := textF_gd hc h1
  obtain ⟨b1, b2, b3, b4⟩ := textF_gd (f := addO g o) hc h2
  have hg : OpGood o := b1.os o (by simp [addO])
  obtain ⟨l1, l2, l3⟩ := lineB_nl hg
  refine ⟨lineB o, by rw [b2, a2, fileB_add], l1, l2, l3, ?_, fun hl => ?_⟩
  · rw [a2]; exact fileB_len a1
  · rw [b2] at hl ⊢
    exact parse_back b1 b3 b4 hl

end Go.Proofs.YtgjfhfjmdkhllaaDoor.M
