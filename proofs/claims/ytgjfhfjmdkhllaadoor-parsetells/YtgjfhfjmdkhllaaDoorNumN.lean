/-
  Numerals and numbers, there and back: what Itoa writes is what Parse reads. No Go in sight.
-/
import Derived.Test.YtgjfhfjmdkhllaaDoorNumM
import Derived.Lib.ItoaMem
import Derived.Lib.ItoaLen
namespace Go.Proofs.YtgjfhfjmdkhllaaDoor
open Go.Lib (decDigits itoa)

theorem dec_lt {u : Nat} (h : u < 10) : decDigits u = [UInt8.ofNat (48 + u)] := Lib.decDigits_one h
theorem dec_ge {u : Nat} (h : ¬ u < 10) : decDigits u = decDigits (u / 10) ++ [UInt8.ofNat (48 + u % 10)] := by rw [decDigits, dif_neg h]
theorem dig_nat (v : Nat) (h : v < 10) : (UInt8.ofNat (48 + v)).toNat = 48 + v := by
  rw [UInt8.toNat_ofNat_of_lt' (by simp [UInt8.size]; omega)]
theorem dig_isD (v : Nat) (h : v < 10) : isD (UInt8.ofNat (48 + v)) = true := by
  rw [isD_iff, dig_nat v h]; omega
theorem nat_dig (c : UInt8) (h : isD c = true) : UInt8.ofNat (48 + (c.toNat - 48)) = c := by
  rw [isD_iff] at h
  apply UInt8.toNat_inj.1
  rw [dig_nat _ (by omega)]; omega

theorem dec_ne (u : Nat) : decDigits u ≠ [] := by
  by_cases h : u < 10
  · rw [dec_lt h]; simp
  · rw [dec_ge h]; simp
theorem dec_allD (u : Nat) : allD (decDigits u) = true := by
  induction u using Nat.strongRecOn with
  | _ u ih =>
    by_cases h : u < 10
    · rw [dec_lt h]
      show (isD _ && true) = true
      rw [dig_isD u h]; rfl
    · rw [dec_ge h, allD_snoc, ih (u / 10) (by omega), dig_isD (u % 10) (by omega)]; rfl
theorem dec_head (u : Nat) (hu : 1 ≤ u) : (decDigits u).head? ≠ some 48 := by
  induction u using Nat.strongRecOn with
  | _ u ih =>
    by_cases h : u < 10
    · rw [dec_lt h]
      simp only [List.head?_cons, ne_eq, Option.some.injEq]
      intro e
      have := congrArg UInt8.toNat e
      rw [dig_nat u h] at this
      have e2 : (48 : UInt8).toNat = 48 := rfl
      omega
    · rw [dec_ge h]
      have h2 := ih (u / 10) (by omega) (by omega)
      cases hd : decDigits (u / 10) with
      | nil => exact absurd hd (dec_ne _)
      | cons a r => rw [hd] at h2; simpa using h2
theorem dec_lead (u : Nat) : lead (decDigits u) = false := by
  by_cases h : u < 1
  · obtain rfl : u = 0 := by omega
    rw [dec_lt (by omega)]; simp [lead]
  · have := dec_head u (by omega)
    unfold lead
    simp [this]
theorem dec_val (u : Nat) : (u ≤ 1048576 → valN (decDigits u) = u) ∧ (1048576 < u → 1048576 < valN (decDigits u)) := by
  induction u using Nat.strongRecOn with
  | _ u ih =>
    by_cases h : u < 10
    · rw [dec_lt h]
      have : valN [UInt8.ofNat (48 + u)] = (u : Int) := by
        show stepN 0 _ = _
        rw [stepN_le _ (by omega), dig_nat u h]; omega
      rw [this]
      exact ⟨fun _ => rfl, fun h => by omega⟩
    · rw [dec_ge h, valN_snoc]
      obtain ⟨i1, i2⟩ := ih (u / 10) (by omega)
      by_cases h2 : u / 10 ≤ 1048576
      · rw [i1 h2, stepN_le _ (by omega), dig_nat _ (by omega)]
        exact ⟨fun _ => by omega, fun _ => by omega⟩
      · rw [stepN_gt _ (i2 (by omega))]
        exact ⟨fun _ => by omega, fun _ => i2 (by omega)⟩

/-- What Parse makes of what Text makes. -/
theorem itoa_neg_E (n : Int) (h : n < 0) : pE (itoa n) = 2 ∧ pV (itoa n) = 0 := by
  refine pE_two (.inr (.inr ?_))
  unfold itoa
  rw [if_pos h]
  simp [allD, isD]
theorem itoa_ok (n : Int) (h0 : 0 ≤ n) (h1 : n ≤ 1048576) : pE (itoa n) = 0 ∧ pV (itoa n) = n := by
  have e : itoa n = decDigits n.toNat := by unfold itoa; rw [if_neg (by omega)]
  have hv := (dec_val n.toNat).1 (by omega)
  rw [e]
  obtain ⟨a, b⟩ := pE_ok (dec_ne n.toNat) (dec_lead _) (dec_allD _) (by rw [hv]; omega)
  exact ⟨a, by rw [b, hv]; omega⟩
theorem itoa_large (n : Int) (h : 1048576 < n) : pE (itoa n) = 3 ∧ pV (itoa n) = 0 := by
  have e : itoa n = decDigits n.toNat := by unfold itoa; rw [if_neg (by omega)]
  rw [e]
  exact pE_three (dec_ne n.toNat) (dec_lead _) (dec_allD _) ((dec_val n.toNat).2 (by omega))

/-- What Parse reads Text writes. -/
theorem dec_back : ∀ (k : Nat) (l : List UInt8), l.length = k → l ≠ [] → lead l = false → allD l = true → valN l ≤ 1048576 → decDigits (valN l).toNat = l := by
  intro k
  induction k with
  | zero => intro l hl hn; exact absurd (List.eq_nil_of_length_eq_zero hl) hn
  | succ k ih =>
    intro l hl _ hld hd hv
    rcases snoc_cases l with rfl | ⟨r, c, rfl⟩
    · simp at hl
    rw [allD_snoc, Bool.and_eq_true] at hd
    have hc := (isD_iff c).1 hd.2
    rw [valN_snoc] at hv ⊢
    by_cases hr : r = []
    · subst hr
      rw [valN_nil, stepN_le c (by omega)]
      rw [show (0 * 10 + ((c.toNat : Int) - 48)).toNat = c.toNat - 48 by omega, dec_lt (by omega), nat_dig c hd.2]
      rfl
    have hb := valN_bounds r hd.1
    have hr1 : valN r ≤ 1048576 := by
      by_cases h : valN r ≤ 1048576
      · exact h
      · rw [stepN_gt c (by omega)] at hv; exact hv
    have hlen : 1 < (r ++ [c]).length := by
      cases r with
      | nil => exact absurd rfl hr
      | cons a t => simp
    have hhead : (r ++ [c]).head? ≠ some 48 := by
      intro e
      unfold lead at hld
      simp only [decide_eq_false_iff_not] at hld
      exact hld ⟨e, hlen⟩
    have hhr : r.head? ≠ some 48 := by
      cases r with
      | nil => exact absurd rfl hr
      | cons a t => simpa using hhead
    have hlr : lead r = false := by unfold lead; simp [hhr]
    have hi := ih r (by simpa using hl) hr hlr hd.1 hr1
    have hpos : valN r ≠ 0 := by
      intro e
      rw [e] at hi
      have : decDigits 0 = [48] := by rw [dec_lt (by omega)]; rfl
      rw [show (0 : Int).toNat = 0 from rfl, this] at hi
      rw [← hi] at hhr
      exact hhr rfl
    rw [stepN_le c hr1]
    have e1 : (valN r * 10 + ((c.toNat : Int) - 48)).toNat = (valN r).toNat * 10 + (c.toNat - 48) := by omega
    rw [e1, dec_ge (by omega), show ((valN r).toNat * 10 + (c.toNat - 48)) / 10 = (valN r).toNat by omega, show ((valN r).toNat * 10 + (c.toNat - 48)) % 10 = c.toNat - 48 by omega, hi, nat_dig c hd.2]
theorem pE_zero {l : List UInt8} (h : pE l = 0) : l ≠ [] ∧ lead l = false ∧ allD l = true ∧ valN l ≤ 1048576 ∧ pV l = valN l := by
  have hV : pV l = valN l := by unfold pV; rw [if_pos h]
  unfold pE at h
  by_cases c : l = [] ∨ lead l = true ∨ allD l = false
  · rw [if_pos c] at h; omega
  · rw [if_neg c] at h
    by_cases d : 1048576 < valN l
    · rw [if_pos d] at h; omega
    · refine ⟨fun e => c (.inl e), ?_, ?_, by omega, hV⟩
      · cases hl : lead l with
        | false => rfl
        | true => exact absurd (.inr (.inl hl)) c
      · cases hl : allD l with
        | true => rfl
        | false => exact absurd (.inr (.inr hl)) c
theorem read_back {l : List UInt8} (h : pE l = 0) : itoa (pV l) = l ∧ 0 ≤ pV l ∧ pV l ≤ 1048576 := by
  obtain ⟨h0, h1, h2, h3, h4⟩ := pE_zero h
  have hb := valN_bounds l h2
  rw [h4]
  refine ⟨?_, hb.1, h3⟩
  unfold itoa
  rw [if_neg (by omega)]
  exact dec_back _ l rfl h0 h1 h2 h3
theorem pE_cases (l : List UInt8) : pE l = 0 ∨ pE l = 2 ∨ pE l = 3 := by
  unfold pE
  by_cases c : l = [] ∨ lead l = true ∨ allD l = false
  · rw [if_pos c]; simp
  · rw [if_neg c]
    by_cases d : 1048576 < valN l
    · rw [if_pos d]; simp
    · rw [if_neg d]; simp

/-! ### One byte more -/
theorem lead_snoc (u : Nat) (hu : 1 ≤ u) (c : UInt8) : lead (decDigits u ++ [c]) = false := by
  have h := dec_head u hu
  unfold lead
  cases hd : decDigits u with
  | nil => exact absurd hd (dec_ne u)
  | cons a r => rw [hd] at h; simp at h; simp [h]
theorem more_nought (c : UInt8) : pE (decDigits 0 ++ [c]) = 2 ∧ pV (decDigits 0 ++ [c]) = 0 := by
  refine pE_two (.inr (.inl ?_))
  have : decDigits 0 = [48] := by rw [dec_lt (by omega)]; rfl
  rw [this]
  simp [lead]
theorem more_digit (u : Nat) (hu : 1 ≤ u) (hm : u ≤ 1048576) (c : UInt8) (hc : isD c = true) :
    (10 * (u : Int) + ((c.toNat : Int) - 48) ≤ 1048576 → pE (decDigits u ++ [c]) = 0 ∧ pV (decDigits u ++ [c]) = 10 * (u : Int) + ((c.toNat : Int) - 48)) ∧
    (1048576 < 10 * (u : Int) + ((c.toNat : Int) - 48) → pE (decDigits u ++ [c]) = 3 ∧ pV (decDigits u ++ [c]) = 0) := by
  have hv : valN (decDigits u ++ [c]) = (u : Int) * 10 + ((c.toNat : Int) - 48) := by
    rw [valN_snoc, (dec_val u).1 hm, stepN_le c (by omega)]
  have hn : decDigits u ++ [c] ≠ [] := by simp
  have hd : allD (decDigits u ++ [c]) = true := by rw [allD_snoc, dec_allD, hc]; rfl
  constructor
  · intro h
    obtain ⟨a, b⟩ := pE_ok hn (lead_snoc u hu c) hd (by rw [hv]; omega)
    exact ⟨a, by rw [b, hv]; omega⟩
  · intro h
    exact pE_three hn (lead_snoc u hu c) hd (by rw [hv]; omega)
theorem more_behind (u : Nat) (c : UInt8) (hc : isD c = false) : pE (decDigits u ++ [c]) = 2 ∧ pV (decDigits u ++ [c]) = 0 :=
  pE_two (.inr (.inr (by rw [allD_snoc, hc]; simp)))
theorem more_ahead (u : Nat) (c : UInt8) (hc : isD c = false) : pE (c :: decDigits u) = 2 ∧ pV (c :: decDigits u) = 0 :=
  pE_two (.inr (.inr (by simp [allD, hc])))

end Go.Proofs.YtgjfhfjmdkhllaaDoor
