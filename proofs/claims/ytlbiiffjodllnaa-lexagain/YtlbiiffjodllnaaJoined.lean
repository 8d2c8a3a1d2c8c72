/- What 'joined' of the statements answers: the tokens as text. -/
import Derived.Test.YtlbiiffjodllnaaRowsB
import Derived.Test.YtlbiiffjodllnaaMathC
namespace Go.Proofs.Ytlbiiffjodllnaa
open Go.RowKit
open M

theorem joined_snoc {ts : List Tok} {k : Nat} (h : k < ts.length) : joined (ts.take (k + 1)) = joined (ts.take k) ++ (if ts[k].kind = 3 then [10] else ts[k].text ++ [32]) := by
  rw [List.take_succ_eq_append_getElem h, joined_app]
  simp [joined]
theorem joined_take_le (ts : List Tok) (k : Nat) : (joined (ts.take k)).length ≤ (joined ts).length := by
  conv => rhs; rw [← List.take_append_drop k ts, joined_app]
  simp
theorem ba_of {s : ByteArray} {l : List UInt8} (h : s.data.toList = l) : s = ⟨l.toArray⟩ := by
  subst h
  rfl
theorem ba_size {s : ByteArray} {l : List UInt8} (h : s.data.toList = l) : s.size = l.length := by
  rw [← h, Array.length_toList]; rfl

set_option maxRecDepth 1000000 in
set_option maxHeartbeats 2000000 in
theorem joined_any (ts : List Tok) (v : Value) (base : Nat) (w : World) (hown : Own w base v ts) (hl : (joined ts).length ≤ 9000) :
    Calls Try.prog 14 #[v] w fun e w' => e = .returned (.string ⟨(joined ts).toArray⟩) ∧ w' = w := by
  obtain ⟨a, cap, rfl, h1, h2⟩ := own_slice hown
  unfold maxLen at h2
  have HO : Hid (Own w base (.slice a ts.length cap) ts) := hown
  clear hown
  go_enter Try.func14, Try.ntmps14
  go_wp2
  go_loop [3, 4] (fun sv iv => ∃ (k : Nat) (s : ByteArray), k ≤ ts.length ∧ iv = .int .i64 k ∧ sv = .string s ∧ s.data.toList = joined (ts.take k)) (fun _ iv => ts.length - (intOf iv).toNat)
  case atStart => exact ⟨0, _, Nat.zero_le _, rfl, rfl, rfl⟩
  case round =>
    obtain ⟨k, s, hk, rfl, rfl, hs⟩ := hrel
    have hsz := ba_size hs
    have hsl := joined_take_le ts k
    have hs9 : s.size ≤ 9000 := by omega
    have HS : Hid (s.data.toList = joined (ts.take k)) := hs
    clear hs hsz hsl
    by_cases hlt : k < ts.length
    · obtain ⟨g, x, ex, _, _⟩ := HO.out.form (by omega)
      cases ex
      obtain ⟨p0, p1, _⟩ := Own.cellsAt HO.out k hlt
      have HJ : Hid _ := joined_snoc hlt
      have hsl := joined_take_le ts (k + 1)
      rw [HJ.out] at hsl
      by_cases h3 : ts[k].kind = 3
      · have d : (((ts[k].kind : Nat) : Int) == 3) = true := by rw [h3]; rfl
        have H3 : Hid (ts[k].kind = 3) := h3
        clear h3 hsl
        go_wp2
        go_round
        case rel => exact ⟨k + 1, _, by omega, by go_num, rfl, by rw [HJ.out, if_pos H3.out, ← HS.out]; simp⟩
        case measure => simp [intOf]; omega
      · rw [if_neg h3] at hsl
        have d : (((ts[k].kind : Nat) : Int) == 3) = false := beq_eq_false_iff_ne.2 (by omega)
        have H3 : Hid (ts[k].kind ≠ 3) := h3
        obtain ⟨t, ht⟩ : ∃ t : ByteArray, t = ⟨ts[k].text.toArray⟩ := ⟨_, rfl⟩
        rw [← ht] at p1
        have htl : t.data.toList = ts[k].text := by rw [ht]
        have hts := ba_size htl
        have ht9 : t.size ≤ 9000 := by simp at hsl; omega
        have HTL : Hid (t.data.toList = ts[k].text) := htl
        clear h3 hsl ht htl hts
        have hadd : (s ++ t).size = s.size + t.size := by simp
        go_wp2
        go_round
        case rel => exact ⟨k + 1, _, by omega, by go_num, rfl, by rw [HJ.out, if_neg H3.out, ← HS.out, ← HTL.out]; simp⟩
        case measure => simp [intOf]; omega
    · obtain rfl : k = ts.length := by omega
      have HE : Hid (s = ⟨(joined ts).toArray⟩) := by have := HS.out; rw [List.take_length] at this; exact ba_of this
      go_wp2
      go_ret
      exact ⟨by rw [← HE.out]; rfl, rfl⟩

end Go.Proofs.Ytlbiiffjodllnaa
