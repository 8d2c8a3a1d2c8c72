/- What kind and cut of the document's own answer, and 'same', answer. -/
import Derived.Test.YtgjfhfjmdkhllaaDoorShow
import Derived.Deep.OwnRows
import Derived.BigRegion
import Derived.BigQuiet
import Derived.Test.YtgjfhfjmdkhllaaDoorMatD
namespace Go.Proofs.YtgjfhfjmdkhllaaDoor
open Go.RowKit
open M
set_option linter.unusedVariables false
set_option linter.unusedSimpArgs false
set_option linter.unusedSimpArgs false

theorem ownsRow_later {w w' : World} {base : Nat} {e : TypeId} {size : Nat} {v : Value} {n : Nat} {xs : List Value} (h : w.ownsRow base e size v n xs) (hb : Below w.heap.size w w') : w'.ownsRow base e size v n xs := by
  refine ⟨h.1, ?_⟩
  rcases h.2 with h2 | ⟨g, cap, cur, hv, hg, hh, r⟩
  · exact .inl h2
  · refine .inr ⟨g, cap, cur, hv, hg, ?_, r⟩
    rw [hb.block g (Array.getElem?_eq_some_iff.1 hh).1]
    exact hh

theorem Tryd.info62 : (Tryd.prog.info? 62).map (fun i => (i.zero, i.size, i.bytes)) = some (some (.agg #[.int .i64 0, .string ⟨#[]⟩, .int .i64 0]), 3, 32) := by kernel_rfl

set_option maxRecDepth 1000000 in
set_option maxHeartbeats 2000000 in
theorem kind_any (c : UInt8) (w : World) : Calls Tryd.prog 50 #[.int .u8 ((c.toNat : Nat) : Int)] w fun e w' => e = .returned (.int .i64 (kindF c)) ∧ w' = w := by
  go_enter Tryd.func50, Tryd.ntmps50
  go_wp2
  all_goals
    go_ret
    refine ⟨ret_int ?_, rfl⟩
    try simp only [beq_iff_eq, beq_eq_false_iff_ne, ne_eq] at *
    unfold kindF cls
    repeat' split
    all_goals omega

theorem ne35 {c : UInt8} (h : c ≠ 35) : ((c.toNat : Nat) : Int) ≠ 35 := fun e => by
  have h' : c.toNat = 35 := by omega
  exact h (UInt8.toNat_inj.1 h')

/-- A string is its bytes. -/
theorem ba_get {s : ByteArray} {l : List UInt8} (h : s.data.toList = l) (k : Nat) (hk : k < s.size) : s[k] = l[k]'(by rw [← ba_size h]; exact hk) := by
  subst h
  rfl
theorem cutF_at {l : List UInt8} {k : Nat} (hk : k < l.length) (hno : ∀ i (h : i < k), l[i] ≠ 35) (h : l[k] = 35) : cutF l = l.take k := by
  unfold cutF
  induction l generalizing k with
  | nil => simp at hk
  | cons c l ih =>
    cases k with
    | zero => have : c = 35 := h; subst this; rfl
    | succ k =>
      have hc : c ≠ 35 := hno 0 (by omega)
      have hb : (c != 35) = true := by simpa using hc
      simp only [List.takeWhile_cons, hb, if_true, List.take_succ_cons]
      rw [ih (by simpa using hk) (fun i hi => by have := hno (i + 1) (by omega); simpa using this) (by simpa using h)]
theorem cutF_all {l : List UInt8} (hno : ∀ i (h : i < l.length), l[i] ≠ 35) : cutF l = l := by
  unfold cutF
  induction l with
  | nil => rfl
  | cons c l ih =>
    have hc : c ≠ 35 := hno 0 (by simp)
    have hb : (c != 35) = true := by simpa using hc
    simp only [List.takeWhile_cons, hb, if_true]
    rw [ih (fun i hi => by have := hno (i + 1) (by simpa using hi); simpa using this)]

set_option maxRecDepth 1000000 in
set_option maxHeartbeats 2000000 in
theorem cut_any (s : ByteArray) (l : List UInt8) (hs : s.data.toList = l) (hl : l.length ≤ 4000) (w : World) :
    Calls Tryd.prog 32 #[.string s] w fun e w' => ∃ s', e = .returned (.string s') ∧ s'.data.toList = cutF l ∧ w' = w := by
  have hsz : s.size ≤ 4000 := by rw [ba_size hs]; exact hl
  have HS : Hid (s.data.toList = l) := hs
  clear hs
  go_enter Tryd.func32, Tryd.ntmps32
  go_wp2
  go_loop [3] (fun iv => ∃ k : Nat, k ≤ s.size ∧ iv = .int .i64 k ∧ ∀ i (h : i < k) (h2 : i < l.length), l[i] ≠ 35) (fun iv => s.size - (intOf iv).toNat)
  case atStart => exact ⟨0, Nat.zero_le _, rfl, fun i h => by omega⟩
  case round =>
    obtain ⟨k, hk, rfl, hno⟩ := hrel
    have HN : Hid (∀ i (h : i < k) (h2 : i < l.length), l[i] ≠ 35) := hno
    clear hno
    by_cases hlt : k < s.size
    · have hlt' : k < l.length := by rw [← ba_size HS.out]; exact hlt
      have HG : Hid (s[k] = l[k]) := ba_get HS.out k hlt
      by_cases h35 : s[k] = 35
      · have d : (((s[k].toNat : Nat) : Int) == 35) = true := by rw [h35]; rfl
        have HC : Hid (cutF l = l.take k) := cutF_at hlt' (fun i hi => HN.out i hi (by omega)) (by rw [← HG.out]; exact h35)
        clear h35
        go_wp2
        go_ret
        refine ⟨_, rfl, ?_, rfl⟩
        rw [HC.out, ← HS.out]
        simp
      · have d : (((s[k].toNat : Nat) : Int) == 35) = false := beq_eq_false_iff_ne.2 (ne35 h35)
        have H35 : Hid (s[k] ≠ 35) := h35
        clear h35
        go_wp2
        go_round
        case rel => exact ⟨k + 1, by omega, by go_num, fun i h h2 => by
          by_cases e : i = k
          · subst e; rw [← HG.out]; exact H35.out
          · exact HN.out i (by omega) h2⟩
        case measure => simp [intOf]; omega
    · go_wp2
      go_ret
      exact ⟨_, rfl, by rw [HS.out, cutF_all (fun i hi => HN.out i (by have := ba_size HS.out; omega) hi)], rfl⟩

/-- A value owns these tokens, of the document's own type. -/
abbrev OwnR (w : World) (base : Nat) (v : Value) (ts : List Tok) : Prop := w.ownsRow base 62 3 v ts.length (cells ts)
theorem OwnR.cellsAt {w : World} {base g cap : Nat} {ts : List Tok} (h : OwnR w base (.slice (some ⟨g, 0, none⟩) ts.length cap) ts) (i : Nat) (hi : i < ts.length) :
    w.cell? ⟨g, i * 3, none⟩ = some (.int .i64 ts[i].kind) ∧ w.cell? ⟨g, i * 3 + 1, none⟩ = some (.string ⟨ts[i].text.toArray⟩) ∧ w.cell? ⟨g, i * 3 + 2, none⟩ = some (.int .i64 ts[i].line) := by
  obtain ⟨a, b, c⟩ := cells_at ts i hi
  exact ⟨by rw [h.cellAt _ (by omega)]; exact a, by rw [h.cellAt _ (by omega)]; exact b, by rw [h.cellAt _ (by omega)]; exact c⟩
theorem ownR_slice {w : World} {base : Nat} {v : Value} {ts : List Tok} (h : OwnR w base v ts) : ∃ a cap, v = .slice a ts.length cap ∧ ts.length ≤ cap ∧ cap ≤ maxLen := by
  rcases h.2 with ⟨rfl, e⟩ | ⟨g, cap, cur, rfl, _, _, hnc, hcm, _⟩
  · exact ⟨none, 0, by rw [e], by omega, Nat.zero_le _⟩
  · exact ⟨_, _, rfl, hnc, hcm⟩
theorem OwnR.low {w : World} {base base' : Nat} {v : Value} {ts : List Tok} (h : OwnR w base v ts) (hb : base' ≤ base) : OwnR w base' v ts := by
  refine ⟨h.1, ?_⟩
  rcases h.2 with h2 | ⟨g, cap, cur, hv, hg, r⟩
  · exact .inl h2
  · exact .inr ⟨g, cap, cur, hv, Nat.le_trans hb hg, r⟩
theorem ownR_snoc {w : World} {base : Nat} {v : Value} {ts : List Tok} {t : Tok} (h : w.ownsRow base 62 3 v (ts.length + 1) (cells ts ++ tcells t)) : OwnR w base v (ts ++ [t]) := by
  unfold OwnR
  rw [cells_app, List.length_append]
  simpa [cells] using h
theorem ownR_app {w : World} {base : Nat} {v : Value} {a b : List Tok} (h : w.ownsRow base 62 3 v (a.length + b.length) (cells a ++ cells b)) : OwnR w base v (a ++ b) := by
  unfold OwnR
  rw [cells_app, List.length_append]
  exact h

end Go.Proofs.YtgjfhfjmdkhllaaDoor
