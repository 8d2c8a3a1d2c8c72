/- Miss. -/
import Derived.Test.YtjdgndbdoceifaaCnt
import Derived.Deep.RegionHeld3
import Derived.Deep.CutRange
import Derived.Deep.CutBlock
namespace Go.Proofs.Ytjdgndbdoceifaa
open Go.RowKit
open M
set_option linter.unusedVariables false
set_option linter.unusedSimpArgs false

section
variable {B : Nat} {w0 w : World} {b : Nat} {T P : Int} {x : Lf} {R : List (Nat × Obj)}
set_option maxRecDepth 1000000 in
set_option maxHeartbeats 1000000 in
theorem miss_any (h : LX B w0 w b T P x R) (he : x.e ≤ 1000000) : Calls Try.prog 23 #[ptr b] w fun e w' => e = .returned (.int .i64 (er P 6 x)) ∧ Hid (LX B w0 w' b T P (st T P 6 x) R) := by
  have hxm : x.m ≤ 1000000 := by have := h.inv.sum; omega
  have c2 := h.cells.2.2.1
  have c4 := h.cells.2.2.2.2.1
  have KK : Hid (∀ W, LX B w0 W b T P x R → ∀ y : Nat, (if T ≤ (x.m : Int) + 1 then 6 else 4) = y → ∃ (E : Int) (W2 : World), (Calls Try.prog 33 #[ptr b, .int .i64 y, .slice (some ⟨W.heap.size, 0, none⟩) 1 1] (W.drew.alloc (.cells #[.int .i64 2] 3)) fun e w' => e = .returned (.int .i64 E) ∧ w' = W2) ∧
      Calls Try.prog 34 #[ptr b, .pointer (some ⟨b, 2, none⟩), .int .i64 E] W2 fun e w' => e = .returned (.int .i64 (er P 6 x)) ∧ Hid (LX B w0 w' b T P (st T P 6 x) R)) := fun W h y hy =>
      countNew (h.below (w' := W.drew) ((Below.refl _ _).drew)) 6 y 2 x.m (by omega) [2] (fun _ => by omega) rfl (decide_eq_decide.2 (by simp)) (.inr (.inl rfl)) rfl (by omega) (fun _ => by rw [← hy]; rfl)
  have HS : Hid (∀ n, LX B w0 (w.drewN n) b T P x R) := fun n => h.below (below_drewN (Below.refl _ _) n)
  clear h
  generalize er P 6 x = G at *
  generalize st T P 6 x = X at *
  by_cases ht : T ≤ (x.m : Int) + 1
  · have h1 : decide (T ≤ (x.m : Int) + 1) = true := by simpa using ht
    have K2 : Hid (∀ n : Nat, _) := fun n => KK.out _ (HS.out n) 6 (if_pos ht)
    clear ht KK HS
    go_enter Try.func23, Try.ntmps23
    go_upto_region 2 with fail
    go_big_quiet (fail)
    obtain ⟨E, W2, k1, k2⟩ := K2.out nq
    go_upto_region 4 with fail
    (go_region_held3 (fun V => True) (first | trivial | go_keep) (first | (go_at_call 33; refine k1.mono ?_; rintro e w4 ⟨rfl, rfl⟩) | (go_at_call 34; refine k2.mono ?_; rintro e w5 ⟨rfl, s5⟩)))
    go_wp2
    go_ret
    exact ⟨rfl, s5⟩
  · have h1 : decide (T ≤ (x.m : Int) + 1) = false := by simpa using ht
    have K2 : Hid (∀ n : Nat, _) := fun n => KK.out _ (HS.out n) 4 (if_neg ht)
    clear ht KK HS
    go_enter Try.func23, Try.ntmps23
    go_upto_region 2 with fail
    go_big_quiet (fail)
    obtain ⟨E, W2, k1, k2⟩ := K2.out nq
    go_upto_region 4 with fail
    (go_region_held3 (fun V => True) (first | trivial | go_keep) (first | (go_at_call 33; refine k1.mono ?_; rintro e w4 ⟨rfl, rfl⟩) | (go_at_call 34; refine k2.mono ?_; rintro e w5 ⟨rfl, s5⟩)))
    go_wp2
    go_ret
    exact ⟨rfl, s5⟩
end
end Go.Proofs.Ytjdgndbdoceifaa
