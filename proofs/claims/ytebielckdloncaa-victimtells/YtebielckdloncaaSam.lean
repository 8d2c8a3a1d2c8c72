/- Two rows: are they the same? -/
import Derived.Test.YtebielckdloncaaMem
import Derived.BigQuiet
namespace Go.Proofs.Ytebielckdloncaa
open Go.RowKit
open M
set_option linter.unusedVariables false
set_option linter.unusedSimpArgs false

set_option maxRecDepth 1000000 in
set_option maxHeartbeats 4000000 in
theorem same_any {w : World} {a b : Option Addr} {L M : List Int} {ca cb : Nat} (ha : Rd w a L ca) (hb : Rd w b M cb) (hL : L.length ≤ 1000000) (hM : M.length ≤ 1000000) :
    Calls Try.prog 12 #[.slice a L.length ca, .slice b M.length cb] w fun e w' => e = .returned (.bool (decide (L = M))) ∧ Below w.heap.size w w' := by
  by_cases hlen : L.length = M.length
  · have HA : Hid (∀ W, Below w.heap.size w W → Rd W a L ca ∧ Rd W b M cb) := fun W q => ⟨ha.below q, hb.below q⟩
    have HS : Hid (L.length = M.length) := hlen
    have s0 := hide_it (Below.refl w.heap.size w)
    obtain ⟨m, hm⟩ : ∃ m, L.length = m := ⟨_, rfl⟩
    have HMl := hide_it hm
    rw [hm] at hL
    rw [← hlen, hm]
    clear ha hb hM hlen hm
    generalize hR : decide (L = M) = R
    have HR := hide_it hR
    clear hR
    go_enter Try.func12, Try.ntmps12
    go_wp2
    go_loopw [5] (fun iv W => ∃ i : Nat, iv = .int .i64 i ∧ i ≤ m ∧ Hid (Below w.heap.size w W) ∧ Hid (∀ j, j < i → L[j]? = M[j]?)) (fun iv _ => m - (intOf iv).toNat)
    case atStart => exact ⟨0, rfl, Nat.zero_le _, s0, fun j hj => by omega⟩
    case round =>
      clear s0
      obtain ⟨i, rfl, hi, s, HP⟩ := hrel
      by_cases hlt : i < m
      · have H1 := HA.out _ s.out
        obtain ⟨ba, oa, x, rfl, e1, c1⟩ := H1.1.get (i := i) (by rw [HMl.out]; exact hlt)
        obtain ⟨bb, ob, y, rfl, e2, c2⟩ := H1.2.get (i := i) (by rw [← HS.out, HMl.out]; exact hlt)
        have HY := hide_it (And.intro e1 e2)
        clear H1 e1 e2
        by_cases q : x = y
        · have d : (x != y) = false := by simp [q]
          go_wp2
          go_big_quiet (fail)
          go_wp2
          go_roundw
          case rel =>
            refine ⟨i + 1, by go_num, by omega, (Below.drewN s.out _), fun j hj => ?_⟩
            by_cases e : j = i
            · subst e; rw [HY.out.1, HY.out.2, q]
            · exact HP.out j (by omega)
          case measure => simp [intOf]; omega
        · have d : (x != y) = true := by simp [q]
          go_wp2
          go_big_quiet (fail)
          go_wp2
          go_ret
          refine ⟨ret_bool ?_, Below.drewN s.out _⟩
          rw [← HR.out]
          refine (decide_eq_false (fun e => q ?_)).symm
          have h1 := HY.out.1
          have h2 := HY.out.2
          rw [e, h2] at h1
          cases h1; rfl
      · have d1 : decide ((i : Int) < m) = false := by simp; omega
        have d2 : decide (i < m) = false := by simp; omega
        go_wp2
        go_ret
        refine ⟨ret_bool ?_, s.out⟩
        rw [← HR.out]
        refine (decide_eq_true ?_).symm
        refine List.ext_getElem? (fun j => ?_)
        by_cases hj : j < i
        · exact HP.out j hj
        · have h1 := HMl.out
          have h2 := HS.out
          rw [List.getElem?_eq_none (by omega), List.getElem?_eq_none (by omega)]
  · have d : decide (L = M) = false := decide_eq_false (fun e => hlen (by rw [e]))
    rw [d]
    obtain ⟨m, hm⟩ : ∃ m, L.length = m := ⟨_, rfl⟩
    obtain ⟨m', hm'⟩ : ∃ m, M.length = m := ⟨_, rfl⟩
    rw [hm, hm'] at hlen
    rw [hm] at hL ⊢
    rw [hm'] at hM ⊢
    have d1 : ((m : Int) != (m' : Int)) = true := by simp; omega
    have d2 : (m != m') = true := by simp; omega
    clear ha hb d hm hm'
    go_enter Try.func12, Try.ntmps12
    go_wp2
    go_ret
    exact ⟨rfl, Below.refl _ _⟩
end Go.Proofs.Ytebielckdloncaa
