/- Heap sort. -/
import Derived.Test.YtebielckdloncaaSif
import Derived.Sort.WalkA
import Derived.Sort.WalkB2
import Derived.Sort.WalkB12
import Derived.Deep.LoopGhost
import Derived.Sort.WalkB3
namespace Go.Proofs.Ytebielckdloncaa
open Go.Shelf Go.RowKit Go.Lib Go.Sort
set_option linter.unusedVariables false
set_option linter.unusedSimpArgs false
section
variable {α : Type} [Inhabited α] {enc : α → Value} {cf : α → α → Int} {C : Value} {w0 W : World} {blk off cap : Nat} {dk d0 : Array α}
set_option maxHeartbeats 8000000 in
set_option maxRecDepth 1000000 in
theorem heap_any (hC : CmpM C enc cf blk off d0.size w0) (R : Row1 enc w0 blk off d0) (a b : Nat) (d : Array α) (w : World) (hs : d0.size = d.size) (S : SW enc w0 blk off d w) (hab : a ≤ b) (hb : b ≤ d.size) (hsz : d.size < 50) :
    Calls Try.prog 27 #[.slice (some ⟨blk, off, none⟩) d.size cap, .int .i64 a, .int .i64 b, .func (.func 21) #[C] #[]] w fun e w' => e = .returned (.tuple #[]) ∧ SW enc w0 blk off (Sort.heapSort (ltOf cf) d a b) w' := by
  have kS : ∀ (lo hi F : Nat) (dk : Array α) (W : World), dk.size = d.size → SW enc w0 blk off dk W → lo ≤ hi → F + hi ≤ d.size → Calls Try.prog 37 #[.slice (some ⟨blk, off, none⟩) d.size cap, .int .i64 lo, .int .i64 hi, .int .i64 F, .func (.func 21) #[C] #[]] W fun e w' => e = .returned (.tuple #[]) ∧ Hid (SW enc w0 blk off (siftDown (ltOf cf) hi F lo dk) w') := fun lo hi F dk W h1 h2 h3 h4 => by
    have := sift_any (cap := cap) hC R lo hi F dk W (by omega) h2 h3 (by omega) (by omega)
    rw [h1] at this
    exact this
  have mx := mixedT
  have S0 : Aside (SW enc w0 blk off d w) := S
  have hcl0 := R.hO.cells
  simp only [Value.cells] at hcl0
  have hst := R.hO.store Try.prog
  clear S hC
  obtain ⟨h, hh⟩ : ∃ h, h = b - a := ⟨_, rfl⟩
  have hh1 : a + h ≤ d.size := by omega
  have z1 : IntKind.i64.wrap ((b : Int) - (a : Int)) = (h : Int) := by rw [IntKind.wrap_i64]; omega
  have z2 : wrap64 ((b : Int) - (a : Int)) = (h : Int) := (IntWalk.wrap64_in _ (by constructor <;> omega)).trans (by omega)
  have HH : Hid (h = b - a) := hh
  clear hh
  obtain ⟨k0, hk0⟩ : ∃ k0 : Nat, ((h : Int) - 1).tdiv 2 = (k0 : Int) := by
    rcases Nat.eq_zero_or_pos h with q | q
    · exact ⟨0, by subst q; rfl⟩
    · exact ⟨(h - 1) / 2, by rw [Int.tdiv_eq_ediv_of_nonneg (by omega)]; omega⟩
  have HK : Hid (k0 = (h - 1) / 2) := by
    rcases Nat.eq_zero_or_pos h with q | q
    · subst q; exact (show k0 = _ from by have : (k0 : Int) = 0 := by rw [← hk0]; rfl
                                          omega)
    · rw [Int.tdiv_eq_ediv_of_nonneg (by omega)] at hk0; exact (show k0 = _ from by omega)
  have hk50 : k0 ≤ h := by have := HK.out; omega
  have hk51 : wrap64 (k0 : Int) = (k0 : Int) := IntWalk.wrap64_in _ (by constructor <;> omega)
  go_enter Try.func27, Try.ntmps27
  go_wp2
  go_loopg [11] (k0 + 1) (fun g1 vi wr => ∃ (k : Nat) (z : Int) (dk : Array α), vi = .int .i64 z ∧ z + 1 = (k : Int) ∧ k ≤ g1 ∧ k ≤ k0 + 1 ∧ dk.size = d.size ∧ Aside (SW enc w0 blk off dk wr) ∧ Hid (heapBuild (ltOf cf) h a k dk = heapBuild (ltOf cf) h a (k0 + 1) d))
  case atStart => exact ⟨k0 + 1, k0, d, rfl, rfl, Nat.le_refl _, Nat.le_refl _, rfl, S0, rfl⟩
  case round =>
    clear S0
    obtain ⟨k, z, dk, rfl, hz, hkg, hk1, hsk, S1, HO⟩ := hrel
    by_cases h0 : 0 < k
    · obtain ⟨k', rfl⟩ : ∃ q, k = q + 1 := ⟨k - 1, by omega⟩
      obtain rfl : z = (k' : Int) := by omega
      clear hz
      go_wp2_with (go_at_call 37; refine (kS _ _ _ _ _ hsk S1.out (by omega) (by omega)).mono ?_; rintro e w1 ⟨rfl, S2⟩)
      go_roundg k'
      case measure => omega
      case rel => exact ⟨k', _, _, rfl, by omega, Nat.le_refl _, by omega, by rw [size_siftDown (ltOf cf) _ _ _ _ _ (Nat.le_refl _)]; exact hsk, S2.out, HO⟩
    · obtain rfl : k = 0 := by omega
      obtain rfl : z = -1 := by omega
      clear hz
      have HO' : Hid (dk = heapBuild (ltOf cf) h a (k0 + 1) d) := HO
      clear HO
      go_wp2
      go_loopg [12] h (fun g1 vi wr => ∃ (k : Nat) (z : Int) (dj : Array α), vi = .int .i64 z ∧ z + 1 = (k : Int) ∧ k ≤ g1 ∧ k ≤ h ∧ dj.size = d.size ∧ Aside (SW enc w0 blk off dj wr) ∧ Hid (heapPop (ltOf cf) a k dj = heapPop (ltOf cf) a h dk))
      case atStart => exact ⟨h, _, dk, rfl, by omega, Nat.le_refl _, Nat.le_refl _, hsk, S1, rfl⟩
      case round =>
        clear S1
        obtain ⟨k, z, dj, rfl, hz, hkg, hk1, hsj, SJ, HP⟩ := hrel
        by_cases h0 : 0 < k
        · obtain ⟨k', rfl⟩ : ∃ q, k = q + 1 := ⟨k - 1, by omega⟩
          obtain rfl : z = (k' : Int) := by omega
          clear hz
          go_wp2_with fail
          obtain ⟨iN1, hiN1⟩ : ∃ q, q = a := ⟨_, rfl⟩
          have ei1 : ((a : Int)).toNat = iN1 := by omega
          have pi1 : (0 : Int) ≤ (a : Int) := by omega
          have bi1 : (a : Int) < (d.size : Int) := by omega
          have ri1 : IntKind.i64.wrap ((a : Int)) = (a : Int) := by rw [IntKind.wrap_i64]; omega
          obtain ⟨jN1, hjN1⟩ : ∃ q, q = a + k' := ⟨_, rfl⟩
          have ej1 : ((a : Int) + (k' : Int)).toNat = jN1 := by omega
          have pj1 : (0 : Int) ≤ (a : Int) + (k' : Int) := by omega
          have bj1 : (a : Int) + (k' : Int) < (d.size : Int) := by omega
          have rj1 : IntKind.i64.wrap ((a : Int) + (k' : Int)) = (a : Int) + (k' : Int) := by rw [IntKind.wrap_i64]; omega
          obtain ⟨x1, hx1⟩ : ∃ x, x = dj[a]! := ⟨_, rfl⟩
          obtain ⟨y1, hy1⟩ : ∃ x, x = dj[a + k']! := ⟨_, rfl⟩
          have S3 : Aside (SW enc w0 blk off (swp dj (a) (a + k')) ((wr.setCell ⟨blk, off + iN1, none⟩ (enc y1)).setCell ⟨blk, off + jN1, none⟩ (enc x1)).drew) := by rw [hiN1, hjN1, hx1, hy1]; exact SJ.out.swapped R (a) (a + k') (by omega) (by omega)
          have ca1 := SJ.out.c1 R (by omega) (a) (by omega)
          have cb1 := SJ.out.c1 R (by omega) (a + k') (by omega)
          have fa1 := SJ.out.f1 R (by omega) (a) (by omega)
          have fb1 := SJ.out.f1 R (by omega) (a + k') (by omega)
          obtain ⟨u1, cc1⟩ := SJ.out.c2 R (by omega) (a) (a + k') (by omega) (by omega) (enc y1)
          rw [← hjN1, ← hiN1] at cc1
          rw [← hx1, ← hiN1] at ca1
          rw [← hy1, ← hjN1] at cb1
          rw [← hiN1] at fa1
          rw [← hjN1] at fb1
          clear SJ hx1 hy1 hiN1 hjN1
          go_wp2_with fail
          go_big_region_o
          clear ca1 cb1 cc1 fa1 fb1
          generalize ((wr.setCell ⟨blk, off + iN1, none⟩ (enc y1)).setCell ⟨blk, off + jN1, none⟩ (enc x1)).drew = w3 at S3 ⊢
          clear ei1 ej1
          go_wp2_with (go_at_call 37; refine (kS 0 _ _ _ _ (by rw [size_swp]; exact hsj) S3.out (by omega) (by omega)).mono ?_; rintro e w1 ⟨rfl, S4⟩)
          go_roundg k'
          case measure => omega
          case rel => exact ⟨k', _, _, rfl, by omega, Nat.le_refl _, by omega, by rw [size_siftDown (ltOf cf) _ _ _ _ _ (Nat.le_refl _), size_swp]; exact hsj, S4.out, HP⟩
        · obtain rfl : k = 0 := by omega
          obtain rfl : z = -1 := by omega
          clear hz
          go_wp2
          go_end0
          refine ⟨rfl, ?_⟩
          have e1 : dj = heapPop (ltOf cf) a h dk := HP.out
          unfold Sort.heapSort
          rw [← HH.out, ← HK.out, ← HO'.out, ← e1]
          exact SJ.out
end
end Go.Proofs.Ytebielckdloncaa
