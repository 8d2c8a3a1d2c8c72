/- Weights out of what came in; one want in a block. -/
import Derived.Test.YtlhkahincnchjaaArg
import Derived.Test.YtlhkahincnchjaaJoi
namespace Go.Proofs.Ytlhkahincnchjaa
open Go.RowKit
open M
set_option linter.unusedVariables false
set_option linter.unusedSimpArgs false

/-- The weight of a place. -/
def wOf (M : Int) (ws : List Int) (j : Nat) : Int := 1 + ((ws[j]?).getD 0 % 65536) % M
theorem wOf_bnd (ws : List Int) (j : Nat) {M : Int} (hM : 0 < M ∧ M ≤ 100) : 1 ≤ wOf M ws j ∧ wOf M ws j ≤ M := by
  unfold wOf
  have h1 := Int.emod_nonneg ((ws[j]?).getD 0 % 65536) (show M ≠ 0 by omega)
  have h2 := Int.emod_lt_of_pos ((ws[j]?).getD 0 % 65536) hM.1
  omega
theorem wOf_is (ws : List Int) {k : Nat} (hk : k < ws.length) {M : Int} (hM : 0 < M ∧ M ≤ 100) : ∃ A A1, bits .and .i64 ws[k] 65535 = A ∧ A.tmod M = A1 ∧ IntKind.i64.wrap (1 + A1) = wOf M ws k ∧ wrap64 (1 + A1) = wOf M ws k ∧ 1 ≤ wOf M ws k ∧ wOf M ws k ≤ 100 := by
  have hb := wOf_bnd ws k hM
  have e : wOf M ws k = 1 + (ws[k] % 65536) % M := by unfold wOf; rw [List.getElem?_eq_getElem hk]; rfl
  have h0 : 0 ≤ ws[k] % 65536 := Int.emod_nonneg _ (by omega)
  refine ⟨ws[k] % 65536, (ws[k] % 65536) % M, i64_and16 _, Int.tmod_eq_emod_of_nonneg h0, ?_, ?_, hb.1, by omega⟩
  · rw [← e]; exact (wr_int (by omega)).1
  · rw [← e]; exact (wr_int (by omega)).2
theorem ws_one {W : World} {n : Nat} {a b : Int} (h : W.heap[n]? = some (.cells #[.int .i64 a, .int .i64 b] 37)) : Ws W (some ⟨n, 0, none⟩) [(a, b)] := fun i hi => by
  have hi2 : i = 0 := by simp at hi; omega
  subst hi2
  exact ⟨n, 0, rfl, block_lt h, by rw [cell_of_row _ n _ _ _ _ h]; rfl, by rw [cell_of_row _ n _ _ _ _ h]; rfl⟩
end Go.Proofs.Ytlhkahincnchjaa
