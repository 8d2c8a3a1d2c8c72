/- Len and Less of the order. -/
import Derived.Test.YtlpbjafdmhcmgaaMem
import Derived.BigQuiet
namespace Go.Proofs.Ytlpbjafdmhcmgaa
open Go.RowKit
open M
set_option linter.unusedVariables false
set_option linter.unusedSimpArgs false

set_option maxRecDepth 1000000 in
set_option maxHeartbeats 2000000 in
theorem olen_any {w : World} {g kb pb n m : Nat} {v : Value} {f P : Nat → Nat} {K : Nat → Int} (h : HM w g kb pb n v m f K P) :
    Calls Try.prog 29 #[ptr g] w fun e w' => e = .returned (.int .i64 m) ∧ w' = w := by
  have q0 := h.c0
  obtain ⟨ao, cap, rfl, _, _⟩ := h.form0
  have hm := h.hm
  have hn := h.hn
  clear h
  go_enter Try.func29, Try.ntmps29
  go_wp2
  go_ret
  exact ⟨rfl, rfl⟩

def ltB (K : Nat → Int) (a b : Nat) : Bool := decide (K a < K b) || (decide (K a = K b) && decide (a < b))
theorem ltB_iff {K : Nat → Int} {a b : Nat} : ltB K a b = true ↔ ltP K a b := by simp [ltB, ltP]

set_option maxRecDepth 1000000 in
set_option maxHeartbeats 2000000 in
theorem less_any {w : World} {g kb pb n m : Nat} {v : Value} {f P : Nat → Nat} {K : Nat → Int} (h : HM w g kb pb n v m f K P) {i j : Nat} (hi : i < m) (hj : j < m) (hfi : f i < n) (hfj : f j < n) :
    Calls Try.prog 56 #[ptr g, .int .i64 i, .int .i64 j] w fun e w' => e = .returned (.bool (ltB K (f i) (f j))) ∧ Below w.heap.size w w' := by
  have q0 := h.c0
  have q1 := h.c1
  obtain ⟨ib, cap, rfl, _, _, hc, _⟩ := h.form (by omega)
  have ci := hc i hi
  have cj := hc j hj
  have ki := h.ck (f i) hfi
  have kj := h.ck (f j) hfj
  have hm := h.hm
  have hn := h.hn
  unfold ltB
  clear h hc
  generalize f i = a at *
  generalize f j = b at *
  generalize K a = x at *
  generalize K b = y at *
  by_cases e : x = y
  · have e2 : (x != y) = false := by simp [e]
    subst e
    go_enter Try.func56, Try.ntmps56
    go_wp2_with (go_big_quiet (fail))
    go_ret
    exact ⟨ret_bool (by simp), ⟨rfl, rfl, rfl, Nat.le_refl _, fun _ _ => rfl⟩⟩
  · have e2 : (x != y) = true := by simp [e]
    go_enter Try.func56, Try.ntmps56
    go_wp2_with (go_big_quiet (fail))
    go_ret
    exact ⟨ret_bool (by simp [e]), ⟨rfl, rfl, rfl, Nat.le_refl _, fun _ _ => rfl⟩⟩
end Go.Proofs.Ytlpbjafdmhcmgaa
