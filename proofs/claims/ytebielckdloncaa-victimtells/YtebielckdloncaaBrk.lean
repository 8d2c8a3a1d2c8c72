/- Breaking patterns. -/
import Derived.Test.YtebielckdloncaaShelf
import Derived.Test.YtebielckdloncaaSrt
import Derived.Sort.LotD1
import Derived.Sort.LotD5
import Derived.Laws.Bits64b
import Derived.Sort.WalkA
import Derived.Sort.WalkB2
import Derived.Sort.WalkB12
import Derived.Sort.Lot0
import Derived.Deep.LoopGhost
import Derived.Deep.CutRange
namespace Go.Proofs.Ytebielckdloncaa
open Go.Shelf Go.RowKit Go.Lib Go.Sort
set_option linter.unusedVariables false
set_option linter.unusedSimpArgs false
section
variable {α : Type} [Inhabited α] {enc : α → Value} {cf : α → α → Int} {C : Value} {w0 W : World} {blk off cap : Nat} {dk d0 : Array α}
set_option maxHeartbeats 8000000 in
set_option maxRecDepth 1000000 in
theorem next_any (rb X : Nat) (w : World) (hX : X < 18446744073709551616) (hc : w.cell? ⟨rb, 0, none⟩ = some (.int .u64 X)) (hf : w.frozen? ⟨rb, 0, none⟩ = false) :
    Calls Try.prog 39 #[.pointer (some ⟨rb, 0, none⟩)] w fun e w' => ∃ Y : Nat, e = .returned (.int .u64 Y) ∧ Y < 18446744073709551616 ∧ Hid (w' = (w.setCell ⟨rb, 0, none⟩ (.int .u64 (Y : Nat))).drewN 3) := by
  have h := AnyF.xorshift_Next Try.xorL rb 0 X hX w hc hf
  change Calls Try.prog 39 _ _ _ at h
  exact h.mono (fun e w' q => ⟨_, q.1, xorNextN_lt X hX, q.2⟩)
theorem npo_any (L : Nat) (hL : 0 < L) (hl : L < 50) : ∃ M : Nat, 1 ≤ M ∧ M ≤ 2 * L ∧ ∀ w : World, Calls Try.prog 38 #[.int .i64 L] w fun e w' => e = .returned (.int .u64 (M : Nat)) ∧ w' = w := by
  refine ⟨1 <<< bitsLen L, by rw [Nat.one_shiftLeft]; exact Nat.two_pow_pos _, by rw [Nat.one_shiftLeft]; exact two_pow_bitsLen_le hL, fun w => ?_⟩
  have h := AnyF.nextPowerOfTwo Try.npL L (by omega) w
  change Calls Try.prog 38 _ _ _ at h
  exact h
theorem and_low (Y M : Nat) (hY : Y < 18446744073709551616) (hM : 1 ≤ M) (hM2 : M ≤ 100) : ∃ o : Nat, bits .and .u64 (Y : Int) ((M : Int) - 1) = (o : Int) ∧ o < M := by
  refine ⟨Y &&& (M - 1), ?_, Nat.lt_of_le_of_lt Nat.and_le_right (by omega)⟩
  rw [show (M : Int) - 1 = ((M - 1 : Nat) : Int) by omega, bits_and_u64_nat Y (M - 1) hY (by omega)]
set_option maxHeartbeats 8000000 in
set_option maxRecDepth 1000000 in
theorem break_any (R : Row1 enc w0 blk off d0) (a b : Nat) (d : Array α) (w : World) (hs : d0.size = d.size) (S : SW enc w0 blk off d w) (hab : a + 12 < b) (hb : b ≤ d.size) (hsz : d.size < 50) :
    Calls Try.prog 28 #[.slice (some ⟨blk, off, none⟩) d.size cap, .int .i64 a, .int .i64 b, .func (.func 21) #[C] #[]] w fun e w' => e = .returned (.tuple #[]) ∧ ∃ d', PermIn a b d d' ∧ SW enc w0 blk off d' w' := by
  obtain ⟨L, hL⟩ : ∃ L, b = a + L := ⟨b - a, by omega⟩
  subst hL
  obtain ⟨M, hM1, hM2, kN⟩ := npo_any L (by omega) (by omega)
  obtain ⟨q, hq⟩ : ∃ q : Nat, q = L / 4 := ⟨_, rfl⟩
  have hq1 : 3 ≤ q := by omega
  have hq2 : 4 * q ≤ L := by omega
  have zq : (L : Int) / 4 = (q : Int) := by omega
  have zL : (a : Int) + (L : Int) - (a : Int) = (L : Int) := by omega
  have hL8 : (8 : Int) ≤ (L : Int) := by omega
  have hq3 : q < 13 := by omega
  have hM3 : M ≤ 100 := by omega
  have mx := mixedT
  have S0 : Aside (SW enc w0 blk off d w) := S
  have hcl0 := R.hO.cells
  simp only [Value.cells] at hcl0
  have hst := R.hO.store Try.prog
  have hle0 : Hid (w0.heap.size ≤ w.heap.size) := S.le
  have hne : w.heap.size ≠ blk := by have := S.lt R.hblk; omega
  clear S hq
  go_enter Try.func28, Try.ntmps28
  go_wp2_with (go_at_call 38; refine (kN _).mono ?_; rintro e w' ⟨rfl, rfl⟩)
  go_loopg [11] (a + 2 * q + 2 - (a + 2 * q - 1)) (fun g1 vi wr => ∃ (x X : Nat) (dk : Array α), vi = .int .i64 x ∧ a + 2 * q ≤ x + 1 ∧ x ≤ a + 2 * q + 2 ∧ a + 2 * q + 2 - x ≤ g1 ∧ dk.size = d.size ∧ Aside (SW enc w0 blk off dk wr) ∧ X < 18446744073709551616 ∧ wr.cell? ⟨w.heap.size, 0, none⟩ = some (.int .u64 X) ∧ wr.frozen? ⟨w.heap.size, 0, none⟩ = false ∧ Hid (PermIn a (a + L) d dk))
  case atStart => exact ⟨a + 2 * q - 1, L, d, by first | rfl | (congr 1; omega), by omega, by omega, Nat.le_refl _, rfl, S0.out.alloc _, by omega, by simp, by simp, permIn_refl d _ _⟩
  case round =>
    clear S0 kN
    obtain ⟨x, X, dk, rfl, hx1, hx2, hg1, hsk, S1, hX, cX, fX, HO⟩ := hrel
    by_cases hlt : x < a + 2 * q + 2
    · have hltz : (x : Int) ≤ (a : Int) + (q : Int) * 2 + 1 := by omega
      have kX := next_any w.heap.size X wr hX cX fX
      have S2 : ∀ v n, SW enc w0 blk off dk ((wr.setCell ⟨w.heap.size, 0, none⟩ v).drewN n) := fun v n => (S1.out.setCell_new _ 0 v hle0.out).drewN n
      clear S1
      go_upto_if 45 with (go_at_call 39; refine kX.mono ?_; rintro e w5 ⟨Y, rfl, hY, hw5⟩; obtain ⟨o, ho1, ho2⟩ := and_low Y M hY hM1 hM3)
      have S5 : Aside (SW enc w0 blk off dk w5) := by rw [hw5.out]; exact S2 _ 3
      have c5 : w5.cell? ⟨w.heap.size, 0, none⟩ = some (.int .u64 (Y : Nat)) := by
        rw [hw5.out]
        exact World.cell?_setCell_same' _ _ _ (by rw [cX]; rfl)
      have f5 : w5.frozen? ⟨w.heap.size, 0, none⟩ = false := by
        rw [hw5.out]
        show (wr.setCell _ _).frozen? _ = false
        rw [World.frozen?_setCell]; exact fX
      clear hw5 S2 cX fX kX
      obtain ⟨x1, y1, hxy⟩ : ∃ x1 y1 : Nat, x1 = 0 ∧ y1 = 0 := ⟨0, 0, rfl, rfl⟩
      clear hxy x1 y1 ho1
      have hMo : o < 2 * L := by omega
      have KB := fun (w' : World) (x y : Nat) (u u' : Value) (h1 : w'.cell? ⟨w.heap.size, 0, none⟩ = some (.int .u64 (Y : Nat))) (h2 : w'.frozen? ⟨w.heap.size, 0, none⟩ = false) => box_kept_swap1 (W := w') (blk := blk) (c := w.heap.size) hne h1 h2 x y u u'
      have HKB : Aside _ := KB
      clear KB
      by_cases hLo : L ≤ o
      · obtain ⟨p, hp⟩ : ∃ p, o = L + p := ⟨o - L, by omega⟩
        subst hp
        have zp : (L : Int) + (p : Int) - (L : Int) = (p : Int) := by omega
        have hp1 : p < L := by omega
        have hLoz : (L : Int) ≤ (L : Int) + (p : Int) := by omega
        have hLod : decide (L ≤ L + p) = true := decide_eq_true hLo
        go_wp2_with fail
        obtain ⟨iN1, hiN1⟩ : ∃ q, q = x := ⟨_, rfl⟩
        have ei1 : ((x : Int)).toNat = iN1 := by omega
        have pi1 : (0 : Int) ≤ (x : Int) := by omega
        have bi1 : (x : Int) < (d.size : Int) := by omega
        have ri1 : IntKind.i64.wrap ((x : Int)) = (x : Int) := by rw [IntKind.wrap_i64]; omega
        obtain ⟨jN1, hjN1⟩ : ∃ q, q = a + p := ⟨_, rfl⟩
        have ej1 : ((a : Int) + (p : Int)).toNat = jN1 := by omega
        have pj1 : (0 : Int) ≤ (a : Int) + (p : Int) := by omega
        have bj1 : (a : Int) + (p : Int) < (d.size : Int) := by omega
        have rj1 : IntKind.i64.wrap ((a : Int) + (p : Int)) = (a : Int) + (p : Int) := by rw [IntKind.wrap_i64]; omega
        obtain ⟨x1, hx1⟩ : ∃ v9, v9 = dk[x]! := ⟨_, rfl⟩
        obtain ⟨y1, hy1⟩ : ∃ v9, v9 = dk[a + p]! := ⟨_, rfl⟩
        have S6 : Aside (SW enc w0 blk off (swp dk (x) (a + p)) ((w5.setCell ⟨blk, off + iN1, none⟩ (enc y1)).setCell ⟨blk, off + jN1, none⟩ (enc x1)).drew) := by rw [hiN1, hjN1, hx1, hy1]; exact S5.out.swapped R (x) (a + p) (by omega) (by omega)
        have ca1 := S5.out.c1 R (by omega) (x) (by omega)
        have cb1 := S5.out.c1 R (by omega) (a + p) (by omega)
        have fa1 := S5.out.f1 R (by omega) (x) (by omega)
        have fb1 := S5.out.f1 R (by omega) (a + p) (by omega)
        obtain ⟨u1, cc1⟩ := S5.out.c2 R (by omega) (x) (a + p) (by omega) (by omega) (enc y1)
        rw [← hjN1, ← hiN1] at cc1
        rw [← hx1, ← hiN1] at ca1
        rw [← hy1, ← hjN1] at cb1
        rw [← hiN1] at fa1
        rw [← hjN1] at fb1
        clear S5 hx1 hy1 hiN1 hjN1
        go_wp2_with fail
        go_big_region_o
        have C6 := HKB.out w5 (off + iN1) (off + jN1) (enc y1) (enc x1) c5 f5
        clear ca1 cb1 cc1 fa1 fb1
        generalize ((w5.setCell ⟨blk, off + iN1, none⟩ (enc y1)).setCell ⟨blk, off + jN1, none⟩ (enc x1)).drew = w6 at S6 C6 ⊢
        clear ei1 ej1
        clear c5 f5
        obtain ⟨c6, f6⟩ := C6
        go_wp2
        go_roundg (a + 2 * q + 2 - (x + 1))
        case measure => omega
        case rel => exact ⟨x + 1, Y, swp dk x (a + p), by go_num, by omega, by omega, Nat.le_refl _, by rw [size_swp]; exact hsk, S6, hY, c6, f6, (show Hid _ from permIn_trans _ _ _ a (a + L) HO.out (swp_permIn dk a (a + L) x (a + p) (by omega) (by omega) (by omega) (by omega) (by omega)))⟩
      · have hLod : decide (L ≤ o) = false := decide_eq_false hLo
        go_wp2_with fail
        obtain ⟨iN2, hiN2⟩ : ∃ q, q = x := ⟨_, rfl⟩
        have ei2 : ((x : Int)).toNat = iN2 := by omega
        have pi2 : (0 : Int) ≤ (x : Int) := by omega
        have bi2 : (x : Int) < (d.size : Int) := by omega
        have ri2 : IntKind.i64.wrap ((x : Int)) = (x : Int) := by rw [IntKind.wrap_i64]; omega
        obtain ⟨jN2, hjN2⟩ : ∃ q, q = a + o := ⟨_, rfl⟩
        have ej2 : ((a : Int) + (o : Int)).toNat = jN2 := by omega
        have pj2 : (0 : Int) ≤ (a : Int) + (o : Int) := by omega
        have bj2 : (a : Int) + (o : Int) < (d.size : Int) := by omega
        have rj2 : IntKind.i64.wrap ((a : Int) + (o : Int)) = (a : Int) + (o : Int) := by rw [IntKind.wrap_i64]; omega
        obtain ⟨x2, hx2⟩ : ∃ v9, v9 = dk[x]! := ⟨_, rfl⟩
        obtain ⟨y2, hy2⟩ : ∃ v9, v9 = dk[a + o]! := ⟨_, rfl⟩
        have S6 : Aside (SW enc w0 blk off (swp dk (x) (a + o)) ((w5.setCell ⟨blk, off + iN2, none⟩ (enc y2)).setCell ⟨blk, off + jN2, none⟩ (enc x2)).drew) := by rw [hiN2, hjN2, hx2, hy2]; exact S5.out.swapped R (x) (a + o) (by omega) (by omega)
        have ca2 := S5.out.c1 R (by omega) (x) (by omega)
        have cb2 := S5.out.c1 R (by omega) (a + o) (by omega)
        have fa2 := S5.out.f1 R (by omega) (x) (by omega)
        have fb2 := S5.out.f1 R (by omega) (a + o) (by omega)
        obtain ⟨u2, cc2⟩ := S5.out.c2 R (by omega) (x) (a + o) (by omega) (by omega) (enc y2)
        rw [← hjN2, ← hiN2] at cc2
        rw [← hx2, ← hiN2] at ca2
        rw [← hy2, ← hjN2] at cb2
        rw [← hiN2] at fa2
        rw [← hjN2] at fb2
        clear S5 hx2 hy2 hiN2 hjN2
        go_wp2_with fail
        go_big_region_o
        have C6 := HKB.out w5 (off + iN2) (off + jN2) (enc y2) (enc x2) c5 f5
        clear ca2 cb2 cc2 fa2 fb2
        generalize ((w5.setCell ⟨blk, off + iN2, none⟩ (enc y2)).setCell ⟨blk, off + jN2, none⟩ (enc x2)).drew = w6 at S6 C6 ⊢
        clear ei2 ej2
        clear c5 f5
        obtain ⟨c6, f6⟩ := C6
        go_wp2
        go_roundg (a + 2 * q + 2 - (x + 1))
        case measure => omega
        case rel => exact ⟨x + 1, Y, swp dk x (a + o), by go_num, by omega, by omega, Nat.le_refl _, by rw [size_swp]; exact hsk, S6, hY, c6, f6, (show Hid _ from permIn_trans _ _ _ a (a + L) HO.out (swp_permIn dk a (a + L) x (a + o) (by omega) (by omega) (by omega) (by omega) (by omega)))⟩
    · obtain rfl : x = a + 2 * q + 2 := by omega
      have hltz : ¬ ((a : Int) + 2 * (q : Int) + 2 ≤ (a : Int) + (q : Int) * 2 + 1) := by omega
      go_wp2
      go_end0
      exact ⟨rfl, dk, HO.out, S1.out⟩
end
end Go.Proofs.Ytebielckdloncaa
