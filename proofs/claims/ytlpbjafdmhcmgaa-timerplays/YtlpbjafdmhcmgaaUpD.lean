/- up and down of the library. -/
import Derived.Test.YtlpbjafdmhcmgaaSwp
namespace Go.Proofs.Ytlpbjafdmhcmgaa
open Go.RowKit
open M
set_option linter.unusedVariables false
set_option linter.unusedSimpArgs false

/-- A heap in memory, each id where its place says. -/
def HI (w : World) (g kb pb n : Nat) (v : Value) (m : Nat) (f : Nat → Nat) (K : Nat → Int) : Prop := ∃ P, HM w g kb pb n v m f K P ∧ Inv n m f P
theorem HI.below {w w' : World} {g kb pb n m : Nat} {v : Value} {f : Nat → Nat} {K : Nat → Int} (h : HI w g kb pb n v m f K) (hb : Below w.heap.size w w') : HI w' g kb pb n v m f K := by
  obtain ⟨P, h1, h2⟩ := h; exact ⟨P, h1.below hb, h2⟩
theorem HI.lt {w : World} {g kb pb n m : Nat} {v : Value} {f : Nat → Nat} {K : Nat → Int} (h : HI w g kb pb n v m f K) (k : Nat) (hk : Foot g kb pb v k) : k < w.heap.size := by
  obtain ⟨P, h1, h2⟩ := h; exact h1.lt k hk
theorem hi_less {w : World} {g kb pb n m : Nat} {v : Value} {f : Nat → Nat} {K : Nat → Int} (h : HI w g kb pb n v m f K) {i j : Nat} (hi : i < m) (hj : j < m) :
    Calls Try.prog 56 #[ptr g, .int .i64 i, .int .i64 j] w fun e w' => e = .returned (.bool (ltB K (f i) (f j))) ∧ Below w.heap.size w w' := by
  obtain ⟨P, h1, h2⟩ := h
  exact less_any h1 hi hj (h2.at1 i hi).1 (h2.at1 j hj).1
theorem hi_swap {w : World} {g kb pb n m : Nat} {v : Value} {f : Nat → Nat} {K : Nat → Int} (h : HI w g kb pb n v m f K) {i j : Nat} (hi : i < m) (hj : j < m) :
    Calls Try.prog 59 #[ptr g, .int .i64 i, .int .i64 j] w fun e w' => e = .returned (.tuple #[]) ∧ HI w' g kb pb n v m (sw f i j) K ∧ Turn (Foot g kb pb v) w w' := by
  obtain ⟨P, h1, h2⟩ := h
  refine (swap_any h1 hi hj (h2.at1 i hi).1 (h2.at1 j hj).1).mono ?_
  rintro e w' ⟨rfl, k1, k2⟩
  exact ⟨rfl, ⟨_, k1, h2.sw hi hj⟩, k2⟩
theorem hi_len {w : World} {g kb pb n m : Nat} {v : Value} {f : Nat → Nat} {K : Nat → Int} (h : HI w g kb pb n v m f K) :
    Calls Try.prog 29 #[ptr g] w fun e w' => e = .returned (.int .i64 m) ∧ w' = w := by
  obtain ⟨P, h1, h2⟩ := h
  exact olen_any h1

theorem meth_less (a : Addr) (w : World) : (method 194 66 (.pointer (some a)) "Less").run Try.prog w = .ok (56, .pointer (some a)) w := by kernel_rfl
theorem meth_swap (a : Addr) (w : World) : (method 194 66 (.pointer (some a)) "Swap").run Try.prog w = .ok (59, .pointer (some a)) w := by kernel_rfl
theorem meth_len (a : Addr) (w : World) : (method 194 66 (.pointer (some a)) "Len").run Try.prog w = .ok (29, .pointer (some a)) w := by kernel_rfl
theorem meth_push (a : Addr) (w : World) : (method 194 66 (.pointer (some a)) "Push").run Try.prog w = .ok (58, .pointer (some a)) w := by kernel_rfl
theorem meth_pop (a : Addr) (w : World) : (method 194 66 (.pointer (some a)) "Pop").run Try.prog w = .ok (57, .pointer (some a)) w := by kernel_rfl

/-- What a loop of up or down may turn: among the first nn. -/
structure Rea (f f' : Nat → Nat) (nn : Nat) : Prop where
  out : ∀ k, nn ≤ k → f' k = f k
  mem : ∀ x, In f' nn x ↔ In f nn x
theorem Rea.refl (f : Nat → Nat) (nn : Nat) : Rea f f nn := ⟨fun _ _ => rfl, fun _ => Iff.rfl⟩
theorem Rea.sw {f f' : Nat → Nat} {nn : Nat} (h : Rea f f' nn) {i j : Nat} (hi : i < nn) (hj : j < nn) : Rea f (sw f' i j) nn :=
  ⟨fun k hk => (sw_o f' (by omega) (by omega)).trans (h.out k hk), fun x => (in_sw f' hi hj x).trans (h.mem x)⟩

set_option maxRecDepth 1000000 in
set_option maxHeartbeats 2000000 in
theorem up_any {w : World} {g kb pb n m : Nat} {v : Value} {f : Nat → Nat} {K : Nat → Int} (h : HI w g kb pb n v m f K) {nn j : Nat} (hnn : nn ≤ m) (hj : j < nn) (hm : m ≤ 65536) (hu : Up K f nn j) :
    Calls Try.prog 38 #[ifc g, .int .i64 j] w fun e w' => e = .returned (.tuple #[]) ∧ ∃ f', HI w' g kb pb n v m f' K ∧ Rea f f' nn ∧ Ord K f' nn ∧ Turn (Foot g kb pb v) w w' := by
  have n1 := meth_less
  have n2 := meth_swap
  have H0 := hide_it h
  have HU := hide_it hu
  clear h hu
  go_enter Try.func38, Try.ntmps38
  go_wp2
  go_loopw [1] (fun jv W => ∃ (j : Nat) (f' : Nat → Nat), jv = .int .i64 j ∧ j < nn ∧ Hid (HI W g kb pb n v m f' K) ∧ Hid (Rea f f' nn) ∧ Hid (Up K f' nn j) ∧ Hid (Turn (Foot g kb pb v) w W)) (fun jv _ => (intOf jv).toNat)
  case atStart => exact ⟨j, f, rfl, hj, H0, Rea.refl _ _, HU, Turn.refl _ _⟩
  case round =>
    clear hj H0 HU
    obtain ⟨j, f', rfl, hj, H, HR, HU, HT⟩ := hrel
    rcases Nat.eq_zero_or_pos j with e | e
    · subst e
      go_wp2
      go_end0
      exact ⟨rfl, f', H.out, HR.out, up_end HU.out (.inl rfl), HT.out⟩
    · obtain ⟨p, hp⟩ : ∃ p, par j = p := ⟨_, rfl⟩
      have hpj : p < j := by rw [← hp]; exact par_lt e
      have hq : ((j : Int) - 1).tdiv 2 = (p : Int) := by rw [Int.tdiv_eq_ediv_of_nonneg (by omega), ← hp]; unfold par; omega
      have hq2 : ((j : Int) - 1) / 2 = (p : Int) := by rw [← hp]; unfold par; omega
      have hne : ((p : Int) == (j : Int)) = false := by rw [beq_eq_false_iff_ne]; omega
      have hne2 : ¬ p = j := by omega
      have HP := hide_it hp
      have kl := hi_less H.out (i := j) (j := p) (by omega) (by omega)
      clear hp
      cases hl : ltB K (f' j) (f' p) with
      | false =>
        rw [hl] at kl
        have HE := hide_it hl
        clear hl
        go_wp2_with (go_at_call 56; refine kl.mono ?_; rintro e w' ⟨rfl, hb⟩)
        go_end0
        exact ⟨rfl, f', H.out.below hb, HR.out, up_end HU.out (.inr (by rw [HP.out]; exact fun q => by rw [ltB_iff.2 q] at HE; exact absurd HE.out (by simp))), (HT.out.trans (Turn.of_below hb))⟩
      | true =>
        rw [hl] at kl
        have HE := hide_it hl
        clear hl
        have ks : ∀ W, Below wr.heap.size wr W → Calls Try.prog 59 #[ptr g, .int .i64 p, .int .i64 j] W fun e w' => e = .returned (.tuple #[]) ∧ HI w' g kb pb n v m (sw f' p j) K ∧ Turn (Foot g kb pb v) W w' := fun W hb => hi_swap (H.out.below hb) (by omega) (by omega)
        go_wp2_with (first | (go_at_call 56; refine kl.mono ?_; rintro e w' ⟨rfl, hb⟩; have HB := hide_it hb; clear hb) | (go_at_call 59; refine (ks _ HB.out).mono ?_; rintro e w2 ⟨rfl, h2, t2⟩))
        go_roundw
        case rel =>
          refine ⟨p, _, rfl, by omega, h2, HR.out.sw (by omega) (by omega), ?_, (HT.out.trans (Turn.of_below HB.out)).trans t2⟩
          have := up_step HU.out (by omega) hj (by rw [HP.out]; exact ltB_iff.1 HE.out)
          rw [HP.out] at this
          exact this
        case measure => simp [intOf]; omega
end Go.Proofs.Ytlpbjafdmhcmgaa
