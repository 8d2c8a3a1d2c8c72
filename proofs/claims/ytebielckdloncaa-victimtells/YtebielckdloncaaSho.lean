/- What must be in any case. -/
import Derived.Test.YtebielckdloncaaFew
import Derived.Test.YtebielckdloncaaSam
import Derived.BigQuiet
import Derived.Deep.QuietTactic
import Derived.Deep.RegionHeld3
namespace Go.Proofs.Ytebielckdloncaa
open Go.RowKit
open M
set_option linter.unusedVariables false
set_option linter.unusedSimpArgs false

/-- Choose, its answer named. -/
theorem choose_at {l : List R} {la : Option Addr} {n cap : Nat} {prio mem free slots most : Int} {w : World} (hl : l.length = n) (hn : n ≤ 1000000) (hR : RunsIn w la l) (h49 : (vics l prio most).length < 50) {L : List Int} {B : Bool} {m : Nat} (h1 : ansL l prio mem free slots most = L) (h2 : ansB l prio mem free slots most = B) (h3 : L.length = m) :
    Calls Try.prog 10 #[.slice la n cap, .int .i64 prio, .int .i64 mem, .int .i64 free, .int .i64 slots, .int .i64 most] w fun e w' => ∃ ao c, e = .returned (.tuple #[.slice ao m c, .bool B]) ∧ Hid (Below w.heap.size w w' ∧ Rd w' ao L c) := by
  refine (choose_vic l la n cap prio mem free slots most w hl hn hR h49).mono ?_
  rintro e w' ⟨ao, m', c, rfl, h⟩
  obtain ⟨e1, e2⟩ := h.out
  rw [h1] at e1 e2
  rw [h2]
  have e3 : m' = m := by omega
  subst e3
  have o := owns_base (base' := 0) e2.own (fun q _ => Nat.zero_le _)
  have hm : L.length = m' := by omega
  rw [← hm] at o
  exact ⟨ao, c, rfl, e2.bel, own_rd o⟩
theorem vic_of {l : List R} {prio most : Int} {S : List Nat} (h1 : ∀ i, i < l.length → (i ∈ S ↔ mayB prio most (at' l i) = true)) (h2 : ∀ i ∈ S, i < l.length) (h3 : S.Pairwise (plt l)) : vics l prio most = S :=
  (Vic.eq ⟨fun i => ⟨fun h => ⟨h2 i h, (h1 i (h2 i h)).1 h⟩, fun h => (h1 i h.1).2 h.2⟩, h3⟩).symm
def l0 : List R := [⟨1, 2, 5, 0, 0⟩, ⟨2, 1, 3, 0, 4⟩, ⟨3, 1, 3, 0, 6⟩, ⟨4, 0, 9, 2, 0⟩]
theorem v1 : vics l0 3 2 = [2, 1, 0] := vic_of (by decide) (by decide) (by decide)
theorem v2 : vics l0 2 2 = [2, 1] := vic_of (by decide) (by decide) (by decide)
theorem v3 : vics l0 0 2 = [] := vic_of (by decide) (by decide) (by decide)
theorem a1 : ans l0 3 4 0 0 2 = some [3, 2] := by unfold ans vrun; rw [v1]; decide
theorem a2 : ans l0 2 7 0 0 2 = none := by unfold ans vrun; rw [v2]; decide
theorem a3 : ans l0 0 4 4 1 2 = some [] := by unfold ans vrun; rw [v3]; decide
theorem a4 : ans l0 3 2 9 0 2 = some [3] := by unfold ans vrun; rw [v1]; decide

theorem same_true {w : World} {a b : Option Addr} {L : List Int} {ca cb m : Nat} (ha : Rd w a L ca) (hb : Rd w b L cb) (hL : L.length ≤ 1000000) (hm : L.length = m) :
    Calls Try.prog 12 #[.slice a m ca, .slice b m cb] w fun e w' => e = .returned (.bool true) ∧ Below w.heap.size w w' := by
  subst hm
  refine (same_any ha hb hL hL).mono ?_
  rintro e w' ⟨rfl, h⟩
  exact ⟨by simp, h⟩
theorem rd_two {W : World} {n : Nat} (h : W.heap.size = n) (x y : Int) : Rd (W.alloc (.cells #[.int .i64 x, .int .i64 y] 3)) (some ⟨n, 0, none⟩) [x, y] 2 :=
  ⟨Nat.le_refl _, by unfold maxLen; omega, .inr ⟨n, 0, rfl, block_lt (heap_alloc_at h _), fun i hi => by
    rw [cell_of_row _ n _ _ _ _ (heap_alloc_at h _)]
    have : i = 0 ∨ i = 1 := by simp at hi; omega
    rcases this with rfl | rfl <;> rfl⟩⟩
theorem below_alloc {B : Nat} {w W : World} (h : Below B w W) (hs : B ≤ W.heap.size) (o : Obj) : Below B w (W.alloc o) := h.alloc hs o

set_option maxRecDepth 1000000 in
set_option maxHeartbeats 8000000 in
theorem shown_any (w : World) : Calls Try.prog 8 #[] w fun e w' => e = .returned (.bool true) ∧ Below w.heap.size w w' := by
  have HR : ∀ b, b = w.heap.size → RunsIn (w.alloc (.cells #[.int .i64 1, .int .i64 2, .int .i64 5, .int .i64 0, .int .i64 0, .int .i64 2, .int .i64 1, .int .i64 3, .int .i64 0, .int .i64 4, .int .i64 3, .int .i64 1, .int .i64 3, .int .i64 0, .int .i64 6, .int .i64 4, .int .i64 0, .int .i64 9, .int .i64 2, .int .i64 0] 27)) (some ⟨b, 0, none⟩) l0 := by
    rintro _ rfl i hi
    refine ⟨w.heap.size, 0, rfl, by simp, ?_⟩
    have : i = 0 ∨ i = 1 ∨ i = 2 ∨ i = 3 := by simp [l0] at hi; omega
    rcases this with rfl | rfl | rfl | rfl <;> simp [l0]
  have hb0 : Below w.heap.size w (w.alloc (.cells #[.int .i64 1, .int .i64 2, .int .i64 5, .int .i64 0, .int .i64 0, .int .i64 2, .int .i64 1, .int .i64 3, .int .i64 0, .int .i64 4, .int .i64 3, .int .i64 1, .int .i64 3, .int .i64 0, .int .i64 6, .int .i64 4, .int .i64 0, .int .i64 9, .int .i64 2, .int .i64 0] 27)) := (Below.refl _ _).alloc (Nat.le_refl _) _
  have HB := hide_it hb0
  have HR2 := hide_it (HR _ rfl)
  have n1 : (vics l0 3 2).length < 50 := by rw [v1]; decide
  have n2 : (vics l0 2 2).length < 50 := by rw [v2]; decide
  have n3 : (vics l0 0 2).length < 50 := by rw [v3]; decide
  have k1 := fun W a (h : RunsIn W a l0) => choose_at (la := a) (cap := 4) (w := W) (l := l0) (n := 4) rfl (by omega) h n1 (L := [3, 2]) (B := true) (m := 2) (by unfold ansL; rw [a1]; rfl) (by unfold ansB; rw [a1]; rfl) rfl
  have k2 := fun W a (h : RunsIn W a l0) => choose_at (la := a) (cap := 4) (w := W) (l := l0) (n := 4) rfl (by omega) h n2 (L := []) (B := false) (m := 0) (by unfold ansL; rw [a2]; rfl) (by unfold ansB; rw [a2]; rfl) rfl
  have k3 := fun W a (h : RunsIn W a l0) => choose_at (la := a) (cap := 4) (w := W) (l := l0) (n := 4) rfl (by omega) h n3 (L := []) (B := true) (m := 0) (by unfold ansL; rw [a3]; rfl) (by unfold ansB; rw [a3]; rfl) rfl
  have k4 := fun W a (h : RunsIn W a l0) => choose_at (la := a) (cap := 4) (w := W) (l := l0) (n := 4) rfl (by omega) h n1 (L := [3]) (B := true) (m := 1) (by unfold ansL; rw [a4]; rfl) (by unfold ansB; rw [a4]; rfl) rfl
  have K1 := hide_it k1
  have K2 := hide_it k2
  have K3 := hide_it k3
  have K4 := hide_it k4
  clear HR hb0 k1 k2 k3 k4 n1 n2 n3
  go_enter Try.func8, Try.ntmps8
  go_wp2_with (go_at_call 10; refine (K1.out _ _ HR2.out).mono ?_; rintro e w1 ⟨x1, c1, rfl, h1⟩; clear K1; refine Hid.out ?_)
  refine hide_it ?_
  go_wp2_with (go_at_call 10; refine (K2.out _ _ (HR2.out.below h1.out.1)).mono ?_; rintro e w2 ⟨x2, c2, rfl, h2⟩; clear K2; refine Hid.out ?_)
  refine hide_it ?_
  go_wp2_with (go_at_call 10; refine (K3.out _ _ ((HR2.out.below h1.out.1).below h2.out.1)).mono ?_; rintro e w3 ⟨x3, c3, rfl, h3⟩; clear K3; refine Hid.out ?_)
  refine hide_it ?_
  go_wp2_with (go_at_call 10; refine (K4.out _ _ (((HR2.out.below h1.out.1).below h2.out.1).below h3.out.1)).mono ?_; rintro e w4 ⟨x4, c4, rfl, h4⟩; clear K4; refine Hid.out ?_)
  refine hide_it ?_
  have s1 := HB.out.size
  have s2 := h1.out.1.size
  have s3 := h2.out.1.size
  have s4 := h3.out.1.size
  have s5 := h4.out.1.size
  have HB4 := hide_it ((((HB.out.trans (h1.out.1.mono s1)).trans (h2.out.1.mono (by omega))).trans (h3.out.1.mono (by omega))).trans (h4.out.1.mono (by omega)))
  have R1 := hide_it (((h1.out.2.below h2.out.1).below h3.out.1).below h4.out.1)
  have R4 := hide_it h4.out.2
  have hs : w.heap.size ≤ w4.heap.size := HB4.out.size
  clear s1 s2 s3 s4 s5 h1 h2 h3 h4 HB HR2
  go_wp2_with (go_at_call 12; refine (same_true (R1.out.below ((Below.refl _ _).alloc (Nat.le_refl _) _)) (rd_two rfl 3 2) (by simp) rfl).mono ?_; rintro e w5 ⟨rfl, hb5⟩; have H5 := hide_it hb5; clear hb5; refine Hid.out ?_)
  refine hide_it ?_
  go_wp2_with (go_at_call 12; refine (same_true ((R4.out.below (((Below.refl _ _).alloc (Nat.le_refl _) _).trans (H5.out.mono (by simp)))).below ((Below.refl _ _).alloc (Nat.le_refl _) _)) (rd_one rfl 3) (by simp) rfl).mono ?_; rintro e w6 ⟨rfl, hb6⟩; have H6 := hide_it hb6; clear hb6)
  go_ret
  have h1 : Below w.heap.size w (w4.alloc (.cells #[.int .i64 3, .int .i64 2] 3)) := HB4.out.alloc hs _
  have h2 := h1.trans (H5.out.mono h1.size)
  have h3 := h2.alloc h2.size (.cells #[.int .i64 3] 3)
  exact ⟨rfl, h3.trans (H6.out.mono h3.size)⟩
end Go.Proofs.Ytebielckdloncaa
