/- What holds at each label of scan, as plain mathematics; the class of a place; a string cut out of bytes. -/
import Derived.Test.YtgjfhfjmdkhllaaDoorLexC
namespace Go.Proofs.YtgjfhfjmdkhllaaDoor
open Go.RowKit
open M
set_option linter.unusedVariables false

/-- What holds at each label, of the bytes and the tokens so far. -/
def Inv (bs : List UInt8) (l n k fr line : Nat) (ts : List Tok) : Prop :=
  (l = 0 ∧ k ≤ bs.length ∧ ts.length ≤ k ∧ line ≤ k + 1 ∧ n = 2 * (bs.length - k) + 2 ∧ fin (run (.ok 0 [] ts line) (bs.drop k)) = fin (run init bs)) ∨
  ((l = 1 ∨ l = 2) ∧ fr ≤ k ∧ k < bs.length ∧ ts.length ≤ fr ∧ line ≤ k + 1 ∧ n = 2 * (bs.length - k) + 1 ∧ fin (run (.ok l ((bs.drop fr).take (k + 1 - fr)) ts line) (bs.drop (k + 1))) = fin (run init bs)) ∨
  (l = 3 ∧ k < bs.length ∧ ts.length ≤ k ∧ line ≤ k + 1 ∧ n = 2 * (bs.length - k) + 1 ∧ fin (run (.ok 3 [] ts line) (bs.drop (k + 1))) = fin (run init bs)) ∨
  (l = 4 ∧ k < bs.length ∧ ts.length ≤ k ∧ line ≤ k + 1 ∧ n = 2 * (bs.length - k) + 1 ∧ fin (run (.ok 0 [] (endLine ts line) (line + 1)) (bs.drop (k + 1))) = fin (run init bs)) ∨
  (l = 5 ∧ n = 0 ∧ line ≤ 65537 ∧ fin (run init bs) = ([], line, 2))

theorem drop_cons {bs : List UInt8} {k : Nat} (h : k < bs.length) : bs.drop k = bs[k] :: bs.drop (k + 1) := List.drop_eq_getElem_cons h
theorem take_one_more {bs : List UInt8} {fr k : Nat} (hf : fr ≤ k) (h : k < bs.length) : (bs.drop fr).take (k + 1 - fr) = (bs.drop fr).take (k - fr) ++ [bs[k]] := by
  rw [show k + 1 - fr = (k - fr) + 1 by omega, List.take_succ_eq_append_getElem (by simp; omega)]
  simp [show fr + (k - fr) = k by omega]

theorem inv_start {bs : List UInt8} : Inv bs 0 (2 * bs.length + 2) 0 0 1 [] := .inl ⟨rfl, by omega, by simp, by omega, by omega, rfl⟩

theorem inv01 {bs : List UInt8} {k line : Nat} {ts : List Tok} (hk : k < bs.length) (h : fin (run (.ok 0 [] ts line) (bs.drop k)) = fin (run init bs)) (ht : ts.length ≤ k) (hl : line ≤ k + 1) (hc : cls bs[k] = 1) : Inv bs 1 (2 * (bs.length - k) + 1) k k line ts := by
  rw [drop_cons hk, run_cons, step1 hc (by omega), if_neg (by omega)] at h
  exact .inr (.inl ⟨.inl rfl, by omega, hk, ht, hl, rfl, by rw [take_one_more (Nat.le_refl k) hk, Nat.sub_self, List.take_zero]; exact h⟩)
theorem inv02 {bs : List UInt8} {k line : Nat} {ts : List Tok} (hk : k < bs.length) (h : fin (run (.ok 0 [] ts line) (bs.drop k)) = fin (run init bs)) (ht : ts.length ≤ k) (hl : line ≤ k + 1) (hc : cls bs[k] = 2) : Inv bs 2 (2 * (bs.length - k) + 1) k k line ts := by
  rw [drop_cons hk, run_cons, step2 hc (by omega), if_neg (by omega)] at h
  exact .inr (.inl ⟨.inr rfl, by omega, hk, ht, hl, rfl, by rw [take_one_more (Nat.le_refl k) hk, Nat.sub_self, List.take_zero]; exact h⟩)
theorem inv00 {bs : List UInt8} {k line : Nat} {ts : List Tok} (hk : k < bs.length) (h : fin (run (.ok 0 [] ts line) (bs.drop k)) = fin (run init bs)) (ht : ts.length ≤ k) (hl : line ≤ k + 1) (hc : cls bs[k] = 3) : Inv bs 0 (2 * (bs.length - (k + 1)) + 2) (k + 1) k line ts := by
  rw [drop_cons hk, run_cons, step3 hc (by omega)] at h
  exact .inl ⟨rfl, by omega, by omega, by omega, rfl, h⟩
theorem inv03 {bs : List UInt8} {k line : Nat} {ts : List Tok} (hk : k < bs.length) (h : fin (run (.ok 0 [] ts line) (bs.drop k)) = fin (run init bs)) (ht : ts.length ≤ k) (hl : line ≤ k + 1) (hc : cls bs[k] = 4) : Inv bs 3 (2 * (bs.length - k) + 1) k k line ts := by
  rw [drop_cons hk, run_cons, step4 hc (by omega)] at h
  exact .inr (.inr (.inl ⟨rfl, hk, ht, hl, rfl, h⟩))
theorem inv04 {bs : List UInt8} {k line : Nat} {ts : List Tok} (hk : k < bs.length) (h : fin (run (.ok 0 [] ts line) (bs.drop k)) = fin (run init bs)) (ht : ts.length ≤ k) (hl : line ≤ k + 1) (hc : cls bs[k] = 5) : Inv bs 4 (2 * (bs.length - k) + 1) k k line ts := by
  rw [drop_cons hk, run_cons, step5 hc] at h
  exact .inr (.inr (.inr (.inl ⟨rfl, hk, ht, hl, rfl, h⟩)))
theorem inv05 {bs : List UInt8} {k line : Nat} {ts : List Tok} (hk : k < bs.length) (h : fin (run (.ok 0 [] ts line) (bs.drop k)) = fin (run init bs)) (ht : ts.length ≤ k) (hl : line ≤ k + 1) (hn : bs.length ≤ 65536) (hc : cls bs[k] = 0) : Inv bs 5 0 k k line ts := by
  rw [drop_cons hk, run_cons, step0 hc (by omega), run_bad] at h
  exact .inr (.inr (.inr (.inr ⟨rfl, rfl, by omega, h.symm⟩)))

theorem inv_end {bs : List UInt8} {line : Nat} {ts : List Tok} (h : fin (run (.ok 0 [] ts line) (bs.drop bs.length)) = fin (run init bs)) : fin (run init bs) = (endLine ts line, 0, 0) := by
  rw [List.drop_length, run_nil] at h
  rw [← h]; rfl

theorem inv_more {bs : List UInt8} {m k fr line : Nat} {ts : List Tok} (hm : m = 1 ∨ m = 2) (hf : fr ≤ k) (hk : k < bs.length) (ht : ts.length ≤ fr) (hl : line ≤ k + 1) (h : fin (run (.ok m ((bs.drop fr).take (k + 1 - fr)) ts line) (bs.drop (k + 1))) = fin (run init bs)) (hk' : k + 1 < bs.length) (hc : cls bs[k + 1] = m) : Inv bs m (2 * (bs.length - (k + 1)) + 1) (k + 1) fr line ts := by
  rw [drop_cons hk', run_cons] at h
  have e : M.step (.ok m ((bs.drop fr).take (k + 1 - fr)) ts line) bs[k + 1] = .ok m ((bs.drop fr).take (k + 1 + 1 - fr)) ts line := by
    rw [take_one_more (by omega) hk']
    rcases hm with rfl | rfl
    · rw [step1 hc (by omega), if_neg (by omega)]
    · rw [step2 hc (by omega), if_neg (by omega)]
  rw [e] at h
  exact .inr (.inl ⟨hm, by omega, hk', ht, by omega, rfl, h⟩)
theorem inv_wrong {bs : List UInt8} {m k fr line : Nat} {ts : List Tok} (hm : m = 1 ∨ m = 2) (hf : fr ≤ k) (hk : k < bs.length) (ht : ts.length ≤ fr) (hl : line ≤ k + 1) (h : fin (run (.ok m ((bs.drop fr).take (k + 1 - fr)) ts line) (bs.drop (k + 1))) = fin (run init bs)) (hn : bs.length ≤ 65536) (hk' : k + 1 < bs.length) (hc : cls bs[k + 1] + m = 3) (hc' : cls bs[k + 1] ≠ 0) : Inv bs 5 0 (k + 1) fr line ts := by
  rw [drop_cons hk', run_cons] at h
  have e : M.step (.ok m ((bs.drop fr).take (k + 1 - fr)) ts line) bs[k + 1] = St.bad line := by
    rcases hm with rfl | rfl
    · rw [step2 (by omega) (by omega), if_pos rfl]
    · rw [step1 (by omega) (by omega), if_pos rfl]
  rw [e, run_bad] at h
  exact .inr (.inr (.inr (.inr ⟨rfl, rfl, by omega, h.symm⟩)))
theorem inv_done {bs : List UInt8} {m k fr line : Nat} {ts : List Tok} (hm : m = 1 ∨ m = 2) (hf : fr ≤ k) (hk : k < bs.length) (ht : ts.length ≤ fr) (hl : line ≤ k + 1) (h : fin (run (.ok m ((bs.drop fr).take (k + 1 - fr)) ts line) (bs.drop (k + 1))) = fin (run init bs)) (hc : ∀ h : k + 1 < bs.length, cls bs[k + 1] ≠ 1 ∧ cls bs[k + 1] ≠ 2) : Inv bs 0 (2 * (bs.length - (k + 1)) + 2) (k + 1) fr line (ts ++ [⟨m, (bs.drop fr).take (k + 1 - fr), line⟩]) := by
  rw [done_word hm] at h
  · exact .inl ⟨rfl, by omega, by simp; omega, by omega, rfl, h⟩
  · intro c r e
    by_cases hk' : k + 1 < bs.length
    · rw [drop_cons hk'] at e
      cases e
      exact hc hk'
    · rw [List.drop_of_length_le (by omega)] at e
      cases e

theorem inv33 {bs : List UInt8} {k fr line : Nat} {ts : List Tok} (hk : k < bs.length) (ht : ts.length ≤ k) (hl : line ≤ k + 1) (h : fin (run (.ok 3 [] ts line) (bs.drop (k + 1))) = fin (run init bs)) (hk' : k + 1 < bs.length) (hc : cls bs[k + 1] ≠ 5) : Inv bs 3 (2 * (bs.length - (k + 1)) + 1) (k + 1) fr line ts := by
  rw [drop_cons hk', run_cons, step_cm hc] at h
  exact .inr (.inr (.inl ⟨rfl, hk', by omega, by omega, rfl, h⟩))
theorem inv30 {bs : List UInt8} {k fr line : Nat} {ts : List Tok} (hk : k < bs.length) (ht : ts.length ≤ k) (hl : line ≤ k + 1) (h : fin (run (.ok 3 [] ts line) (bs.drop (k + 1))) = fin (run init bs)) (hc : ∀ h : k + 1 < bs.length, cls bs[k + 1] = 5) : Inv bs 0 (2 * (bs.length - (k + 1)) + 2) (k + 1) fr line ts := by
  rw [done_comment] at h
  · exact .inl ⟨rfl, by omega, by omega, by omega, rfl, h⟩
  · intro c r e
    by_cases hk' : k + 1 < bs.length
    · rw [drop_cons hk'] at e
      cases e
      exact hc hk'
    · rw [List.drop_of_length_le (by omega)] at e
      cases e
theorem inv40 {bs : List UInt8} {k fr line : Nat} {ts : List Tok} (hk : k < bs.length) (ht : ts.length ≤ k) (hl : line ≤ k + 1) (h : fin (run (.ok 0 [] (endLine ts line) (line + 1)) (bs.drop (k + 1))) = fin (run init bs)) : Inv bs 0 (2 * (bs.length - (k + 1)) + 2) (k + 1) fr (line + 1) (endLine ts line) := by
  have : (endLine ts line).length ≤ ts.length + 1 := by unfold endLine; split <;> simp
  exact .inl ⟨rfl, by omega, by omega, by omega, rfl, h⟩

/-- The class of a place answered in one go, whatever it is. -/
theorem classAt_is (a : Option Addr) (cap : Nat) (bs : List UInt8) (w : World) (hn : bs.length ≤ 65536) (hb : Bytes w a bs) (k : Nat) (ki j : Int) (hk : k ≤ bs.length) (hki : ki = k) (hj : (((if h : k < bs.length then cls bs[k] else 6 : Nat)) : Int) = j) :
    Calls Tryd.prog 43 #[.slice a bs.length cap, .int .i64 ki] w fun e w' => e = .returned (.int .i64 j) ∧ w' = w := by
  subst hki
  subst hj
  by_cases h : k < bs.length
  · obtain ⟨b, o, rfl, hc⟩ := hb k h
    rw [dif_pos h]
    exact classAt_in b o _ cap k _ w (by unfold maxLen; omega) h hc
  · rw [dif_neg h]
    obtain rfl : k = bs.length := by omega
    exact classAt_end a _ cap w (by unfold maxLen; omega)

/-- A byte string cut out of a slice. -/
theorem cut_string {w : World} {b o : Nat} {bs : List UInt8} (hb : Bytes w (some ⟨b, o, none⟩) bs) (fr k : Nat) (hf : fr ≤ k) (hk : k < bs.length) (c : Nat) :
    (convert 22 9 (.slice (some ⟨b, o + fr, none⟩) (k + 1 - fr) c)).run Tryd.prog w = .ok (.string ⟨((bs.drop fr).take (k + 1 - fr)).toArray⟩) w := by
  have hl : ((bs.drop fr).take (k + 1 - fr)).length = k + 1 - fr := by simp; omega
  have := run_convert_bytes_back (P := Tryd.prog) w 22 9 5 ⟨b, o + fr, none⟩ c ((bs.drop fr).take (k + 1 - fr)) Tryd.underlying22 Tryd.underlying5 Tryd.underlying9 (fun j hj => by
    rw [hl] at hj
    obtain ⟨b', o', ha, hc⟩ := hb (fr + j) (by omega)
    cases ha
    rw [Addr.add_lit, show o + fr + j = o + (fr + j) by omega, hc]
    simp)
  rw [hl] at this
  exact this

end Go.Proofs.YtgjfhfjmdkhllaaDoor
