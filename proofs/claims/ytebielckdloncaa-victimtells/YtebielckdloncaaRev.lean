/- Turning round. -/
import Derived.Test.YtebielckdloncaaSrt
import Derived.Sort.WalkA
import Derived.Sort.WalkB2
import Derived.Sort.WalkB12
import Derived.Sort.Lot0
import Derived.Deep.LoopGhost
namespace Go.Proofs.Ytebielckdloncaa
open Go.Shelf Go.RowKit Go.Lib Go.Sort
set_option linter.unusedVariables false
set_option linter.unusedSimpArgs false
section
variable {α : Type} [Inhabited α] {enc : α → Value} {cf : α → α → Int} {C : Value} {w0 W : World} {blk off cap : Nat} {dk d0 : Array α}
set_option maxHeartbeats 8000000 in
set_option maxRecDepth 1000000 in
theorem reverse_any (R : Row1 enc w0 blk off d0) (a b : Nat) (d : Array α) (w : World) (hs : d0.size = d.size) (S : SW enc w0 blk off d w) (hab : a < b) (hb : b ≤ d.size) (hsz : d.size < 50) :
    Calls Try.prog 30 #[.slice (some ⟨blk, off, none⟩) d.size cap, .int .i64 a, .int .i64 b, .func (.func 21) #[C] #[]] w fun e w' => e = .returned (.tuple #[]) ∧ ∃ d', PermIn a b d d' ∧ SW enc w0 blk off d' w' := by
  have mx := mixedT
  have S0 : Aside (SW enc w0 blk off d w) := S
  have hcl0 := R.hO.cells
  simp only [Value.cells] at hcl0
  have hst := R.hO.store Try.prog
  clear S
  go_enter Try.func30, Try.ntmps30
  go_wp2
  go_loopg [8, 9] (b - 1 - a) (fun g1 si sj wr => ∃ (i j : Nat) (dk : Array α), si = .int .i64 i ∧ sj = .int .i64 j ∧ a ≤ i ∧ i ≤ j + 1 ∧ j < b ∧ j - i ≤ g1 ∧ dk.size = d.size ∧ Aside (SW enc w0 blk off dk wr) ∧ Hid (PermIn a b d dk))
  case atStart => exact ⟨a, b - 1, d, rfl, by first | rfl | go_num | (congr 1; omega), Nat.le_refl _, by omega, by omega, Nat.le_refl _, rfl, S0, permIn_refl d a b⟩
  case round =>
    clear S0
    obtain ⟨i, j, dk, rfl, rfl, hai, hij, hjb, hg1, hsk, S2, HO⟩ := hrel
    by_cases hlt : i < j
    · have hltz : (i : Int) < (j : Int) := by omega
      go_wp2_with fail
      obtain ⟨iN1, hiN1⟩ : ∃ q, q = i := ⟨_, rfl⟩
      have ei1 : ((i : Int)).toNat = iN1 := by omega
      have pi1 : (0 : Int) ≤ (i : Int) := by omega
      have bi1 : (i : Int) < (d.size : Int) := by omega
      have ri1 : IntKind.i64.wrap ((i : Int)) = (i : Int) := by rw [IntKind.wrap_i64]; omega
      obtain ⟨jN1, hjN1⟩ : ∃ q, q = j := ⟨_, rfl⟩
      have ej1 : ((j : Int)).toNat = jN1 := by omega
      have pj1 : (0 : Int) ≤ (j : Int) := by omega
      have bj1 : (j : Int) < (d.size : Int) := by omega
      have rj1 : IntKind.i64.wrap ((j : Int)) = (j : Int) := by rw [IntKind.wrap_i64]; omega
      obtain ⟨x1, hx1⟩ : ∃ v9, v9 = dk[i]! := ⟨_, rfl⟩
      obtain ⟨y1, hy1⟩ : ∃ v9, v9 = dk[j]! := ⟨_, rfl⟩
      have S6 : Aside (SW enc w0 blk off (swp dk (i) (j)) ((wr.setCell ⟨blk, off + iN1, none⟩ (enc y1)).setCell ⟨blk, off + jN1, none⟩ (enc x1)).drew) := by rw [hiN1, hjN1, hx1, hy1]; exact S2.out.swapped R (i) (j) (by omega) (by omega)
      have ca1 := S2.out.c1 R (by omega) (i) (by omega)
      have cb1 := S2.out.c1 R (by omega) (j) (by omega)
      have fa1 := S2.out.f1 R (by omega) (i) (by omega)
      have fb1 := S2.out.f1 R (by omega) (j) (by omega)
      obtain ⟨u1, cc1⟩ := S2.out.c2 R (by omega) (i) (j) (by omega) (by omega) (enc y1)
      rw [← hjN1, ← hiN1] at cc1
      rw [← hx1, ← hiN1] at ca1
      rw [← hy1, ← hjN1] at cb1
      rw [← hiN1] at fa1
      rw [← hjN1] at fb1
      clear S2 hx1 hy1 hiN1 hjN1
      go_wp2_with fail
      go_big_region_o
      clear ca1 cb1 cc1 fa1 fb1
      generalize ((wr.setCell ⟨blk, off + iN1, none⟩ (enc y1)).setCell ⟨blk, off + jN1, none⟩ (enc x1)).drew = w6 at S6 ⊢
      clear ei1 ej1
      go_wp2
      go_roundg (j - 1 - (i + 1))
      case measure => omega
      case rel => exact ⟨i + 1, j - 1, swp dk i j, by go_num, by first | rfl | go_num | (congr 1; omega), by omega, by omega, by omega, Nat.le_refl _, by rw [size_swp]; exact hsk, S6, (show Hid _ from permIn_trans _ _ _ a b HO.out (swp_permIn dk a b i j hai (by omega) (by omega) (by omega) (by omega)))⟩
    · have hltz : ¬ (i : Int) < (j : Int) := by omega
      go_wp2
      go_end0
      exact ⟨rfl, dk, HO.out, S2.out⟩
end
end Go.Proofs.Ytebielckdloncaa
