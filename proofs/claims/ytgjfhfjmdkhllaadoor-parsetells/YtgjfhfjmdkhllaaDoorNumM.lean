/-
  The plain mathematics of numerals: the number that digits tell, and what is wrong with a text that tells none. No Go in sight.
-/
import Derived.WalkKit
import Derived.Laws.Strings
namespace Go.Proofs.YtgjfhfjmdkhllaaDoor

def isD (c : UInt8) : Bool := decide (48 ≤ c.toNat ∧ c.toNat ≤ 57)
def allD (l : List UInt8) : Bool := l.all isD
/-- One digit more; once above the limit it stays. -/
def stepN (n : Int) (c : UInt8) : Int := if n ≤ 1048576 then n * 10 + ((c.toNat : Int) - 48) else n
def valN (l : List UInt8) : Int := l.foldl stepN 0
/-- A nought ahead of others. -/
def lead (l : List UInt8) : Bool := decide (l.head? = some 48 ∧ 1 < l.length)
/-- The error's number: 0 none, 2 syntax, 3 range. -/
def pE (l : List UInt8) : Int := if l = [] ∨ lead l = true ∨ allD l = false then 2 else if 1048576 < valN l then 3 else 0
def pV (l : List UInt8) : Int := if pE l = 0 then valN l else 0

theorem isD_iff (c : UInt8) : isD c = true ↔ 48 ≤ c.toNat ∧ c.toNat ≤ 57 := by unfold isD; simp
theorem isD_no (c : UInt8) : isD c = false ↔ ¬ (48 ≤ c.toNat ∧ c.toNat ≤ 57) := by unfold isD; simp
theorem allD_nil : allD [] = true := rfl
theorem allD_snoc (l : List UInt8) (c : UInt8) : allD (l ++ [c]) = (allD l && isD c) := by simp [allD]
theorem allD_append (l r : List UInt8) : allD (l ++ r) = (allD l && allD r) := by simp [allD]
theorem valN_nil : valN [] = 0 := rfl
theorem valN_snoc (l : List UInt8) (c : UInt8) : valN (l ++ [c]) = stepN (valN l) c := by simp [valN]
theorem stepN_le {n : Int} (c : UInt8) (h : n ≤ 1048576) : stepN n c = n * 10 + ((c.toNat : Int) - 48) := by unfold stepN; rw [if_pos h]
theorem stepN_gt {n : Int} (c : UInt8) (h : 1048576 < n) : stepN n c = n := by unfold stepN; rw [if_neg (by omega)]

/-- A list is nothing, or has a last one. -/
theorem snoc_cases {α : Type} (l : List α) : l = [] ∨ ∃ r c, l = r ++ [c] := by
  cases h : l.reverse with
  | nil => left; simpa using h
  | cons c r => right; exact ⟨r.reverse, c, by have := congrArg List.reverse h; simpa using this⟩

theorem valN_bd : ∀ (k : Nat) (l : List UInt8), l.length = k → allD l = true → 0 ≤ valN l ∧ valN l ≤ 10485769 := by
  intro k
  induction k with
  | zero => intro l hl _; rw [List.eq_nil_of_length_eq_zero hl, valN_nil]; omega
  | succ k ih =>
    intro l hl hd
    rcases snoc_cases l with rfl | ⟨r, c, rfl⟩
    · simp at hl
    · rw [allD_snoc, Bool.and_eq_true] at hd
      have hb := ih r (by simpa using hl) hd.1
      have hc := (isD_iff c).1 hd.2
      rw [valN_snoc]
      by_cases h : valN r ≤ 1048576
      · rw [stepN_le c h]; omega
      · rw [stepN_gt c (by omega)]; omega
theorem valN_bounds (l : List UInt8) (h : allD l = true) : 0 ≤ valN l ∧ valN l ≤ 10485769 := valN_bd _ l rfl h

theorem len_data (s : ByteArray) : s.data.toList.length = s.size := Array.length_toList
theorem take_snoc (s : ByteArray) (k : Nat) (h : k < s.size) : s.data.toList.take (k + 1) = s.data.toList.take k ++ [s[k]] := by
  rw [List.take_succ_eq_append_getElem (by simpa using h)]; rfl
theorem take_all (s : ByteArray) (k : Nat) (h : ¬ k < s.size) : s.data.toList.take k = s.data.toList :=
  List.take_of_length_le (by have := len_data s; omega)
theorem allD_take (s : ByteArray) (k : Nat) (h : k < s.size) (hd : isD s[k] = false) : allD s.data.toList = false := by
  rw [← List.take_append_drop (k + 1) s.data.toList, allD_append, take_snoc s k h, allD_snoc, hd]; simp
theorem nil_iff (s : ByteArray) : s.data.toList = [] ↔ s.size = 0 := by
  rw [← List.length_eq_zero_iff, len_data]
theorem head_of (s : ByteArray) (h : 0 < s.size) : s.data.toList.head? = some s[0] := by
  cases hl : s.data.toList with
  | nil => rw [nil_iff] at hl; omega
  | cons a r =>
    have : s.data.toList[0]? = some a := by rw [hl]; rfl
    have h2 : s.data.toList[0]? = some s[0] := by
      rw [List.getElem?_eq_getElem (by simpa using h)]; rfl
    rw [this] at h2; simpa using h2
theorem lead_iff (s : ByteArray) (h : 0 < s.size) : lead s.data.toList = true ↔ s[0].toNat = 48 ∧ 1 < s.size := by
  unfold lead
  rw [head_of s h]
  rw [len_data s]
  simp only [Option.some.injEq, decide_eq_true_eq]
  constructor
  · rintro ⟨h1, h2⟩; exact ⟨by rw [h1]; rfl, h2⟩
  · rintro ⟨h1, h2⟩; exact ⟨UInt8.toNat_inj.1 (by rw [h1]; rfl), h2⟩

/-! ### The four ends -/
theorem pE_two {l : List UInt8} (h : l = [] ∨ lead l = true ∨ allD l = false) : pE l = 2 ∧ pV l = 0 := by
  have e : pE l = 2 := by unfold pE; rw [if_pos h]
  exact ⟨e, by unfold pV; rw [e]; rfl⟩
theorem pE_three {l : List UInt8} (h0 : l ≠ []) (h1 : lead l = false) (h2 : allD l = true) (h : 1048576 < valN l) : pE l = 3 ∧ pV l = 0 := by
  have e : pE l = 3 := by
    unfold pE
    rw [if_neg (by simp [h0, h1, h2]), if_pos h]
  exact ⟨e, by unfold pV; rw [e]; rfl⟩
theorem pE_ok {l : List UInt8} (h0 : l ≠ []) (h1 : lead l = false) (h2 : allD l = true) (h : valN l ≤ 1048576) : pE l = 0 ∧ pV l = valN l := by
  have e : pE l = 0 := by
    unfold pE
    rw [if_neg (by simp [h0, h1, h2]), if_neg (by omega)]
  exact ⟨e, by unfold pV; rw [e]; rfl⟩

end Go.Proofs.YtgjfhfjmdkhllaaDoor
