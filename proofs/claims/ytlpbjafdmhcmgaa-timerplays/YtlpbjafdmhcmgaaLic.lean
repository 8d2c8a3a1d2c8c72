/- Fix and Remove of the library. -/
import Derived.Test.YtlpbjafdmhcmgaaLib
namespace Go.Proofs.Ytlpbjafdmhcmgaa
open Go.RowKit
open M
set_option linter.unusedVariables false
set_option linter.unusedSimpArgs false

set_option maxRecDepth 1000000 in
set_option maxHeartbeats 2000000 in
theorem cremove_any {w : World} {g kb pb n m : Nat} {v : Value} {f : Nat → Nat} {K : Nat → Int} (h : HI w g kb pb n v (m + 1) f K) (ho : Ord K f (m + 1)) {i x : Nat} (hi : i < m + 1) (hx : f i = x) :
    Calls Try.prog 31 #[ifc g, .int .i64 i] w fun e w' => e = .returned (.iface 3 (.int .i64 x)) ∧ ∃ v' f', HI w' g kb pb n v' m f' (upK K x 0) ∧ Ord (upK K x 0) f' m ∧ (∀ y, In f' m y ↔ In f (m + 1) y ∧ y ≠ x) ∧ Turn (Foot g kb pb v) w w' ∧ Fresh w v v' := by
  have n1 := meth_len
  have n2 := meth_swap
  have n3 := meth_pop
  have hmn := h.hm
  have HIN := hide_it (in_sw f (i := i) (j := m) (m := m + 1) (by omega) (by omega))
  have hl : sw f i m m = x := by rw [sw_r]; exact hx
  have k1 := hi_len h
  have k4 : ∀ W f', HI W g kb pb n v (m + 1) f' K → f' m = x → Calls Try.prog 57 #[ptr g] W fun e w' => e = .returned (.iface 3 (.int .i64 x)) ∧ ∃ v', HI w' g kb pb n v' m f' (upK K x 0) ∧ Turn (Foot g kb pb v) W w' ∧ Fresh W v v' := fun W f' h hf => hi_pop h hf
  by_cases him : i = m
  · subst him
    have k5 := k4 w f h hx
    have H := hide_it h
    have HP := hide_it (ord_pop h (fun k k0 kn => ho k k0 (by omega)))
    have HX := hide_it hx
    have he : ((i : Int) != (i : Int)) = false := by simp
    clear h ho hx k4 hl
    go_enter Try.func31, Try.ntmps31
    go_wp2_with (first | (go_at_call 29; refine k1.mono ?_; rintro e w1 ⟨rfl, rfl⟩) | (go_at_call 57; refine k5.mono ?_; rintro e w4 ⟨rfl, v', h4, t4, fr⟩))
    go_ret
    have hp := HP.out
    rw [HX.out] at hp
    exact ⟨rfl, v', f, h4, hp, fun y => by rw [in_pop H.out.inj y, HX.out], t4, fr⟩
  · have k2 := hi_swap h (i := i) (j := m) (by omega) (by omega)
    have HD : Hid (Dn K (sw f i m) m i i) := ord_cut ho (by omega)
    have k3 : ∀ W, HI W g kb pb n v (m + 1) (sw f i m) K → Calls Try.prog 37 #[ifc g, .int .i64 i, .int .i64 m] W fun e w' => ∃ mv f', e = .returned (.bool mv) ∧ HI w' g kb pb n v (m + 1) f' K ∧ Rea (sw f i m) f' m ∧ (mv = true → Ord K f' m) ∧ (mv = false → Up K f' m i) ∧ Turn (Foot g kb pb v) W w' := fun W h => down_any (i0 := i) (nn := m) h (by omega) (by omega) (by omega) HD.out
    have k6 : ∀ W f', HI W g kb pb n v (m + 1) f' K → Up K f' m i → Calls Try.prog 38 #[ifc g, .int .i64 i] W fun e w' => e = .returned (.tuple #[]) ∧ ∃ f'', HI w' g kb pb n v (m + 1) f'' K ∧ Rea f' f'' m ∧ Ord K f'' m ∧ Turn (Foot g kb pb v) W w' := fun W f' h hu => up_any h (by omega) (by omega) (by omega) hu
    clear h ho hx
    have HL := hide_it hl
    clear hl
    have he : ((m : Int) != (i : Int)) = true := by simp; omega
    have he2 : ¬ (m : Int) = (i : Int) := by omega
    have he3 : ¬ m = i := by omega
    generalize sw f i m = f1 at *
    have fin : Hid (∀ (w2 w3 w4 : World) (f' : Nat → Nat) (v' : Value), HI w2 g kb pb n v (m + 1) f1 K → HI w3 g kb pb n v (m + 1) f' K → Rea f1 f' m → Ord K f' m → HI w4 g kb pb n v' m f' (upK K x 0) → HI w4 g kb pb n v' m f' (upK K x 0) ∧ Ord (upK K x 0) f' m ∧ (∀ y, In f' m y ↔ In f (m + 1) y ∧ y ≠ x)) := by
      intro w2 w3 w4 f' v' h2 h3 r3 o3 h4
      have HF : f' m = x := (r3.out m (Nat.le_refl _)).trans HL.out
      have hp := ord_pop h3 o3
      rw [HF] at hp
      refine ⟨h4, hp, fun y => ?_⟩
      rw [in_pop h3.inj y, HF]
      refine and_congr_left fun hy => ?_
      constructor
      · intro q
        have := (in_pop h3.inj y).2 ⟨q, by rw [HF]; exact hy⟩
        obtain ⟨k, hk, e⟩ := (r3.mem y).1 this
        exact (HIN.out y).1 ⟨k, by omega, e⟩
      · intro q
        have q1 := (HIN.out y).2 q
        have : In f1 m y := (in_pop h2.inj y).2 ⟨q1, by rw [HL.out]; exact hy⟩
        obtain ⟨k, hk, e⟩ := (r3.mem y).2 this
        exact ⟨k, by omega, e⟩
    have ff : ∀ {w0 w9 : World} {v' : Value}, Fresh w9 v v' → w0.heap.size ≤ w9.heap.size → Fresh w0 v v' := fun fr hs => by
      rcases fr with e | ⟨k, e, hl⟩
      · exact .inl e
      · exact .inr ⟨k, e, by omega⟩
    go_enter Try.func31, Try.ntmps31
    go_wp2_with (first | (go_at_call 29; refine k1.mono ?_; rintro e w1 ⟨rfl, rfl⟩) | (go_at_call 59; refine k2.mono ?_; rintro e w2 ⟨rfl, h2, t2⟩; have H2 := hide_it h2; clear h2) | (go_at_call 37; refine (k3 _ H2.out).mono ?_; rintro e w3 ⟨mv, f', rfl, h3, r3, o3, u3, t3⟩; have H3 := hide_it h3; clear h3; have HF : Hid (f' m = x) := (r3.out m (Nat.le_refl _)).trans HL.out; refine Hid.out ?_))
    refine hide_it ?_
    cases mv with
    | true =>
      have O := hide_it (o3 rfl)
      clear u3 o3
      go_wp2_with (go_at_call 57; refine (k4 _ _ H3.out HF.out).mono ?_; rintro e w4 ⟨rfl, v', h4, t4, fr⟩)
      go_ret
      obtain ⟨z1, z2, z3⟩ := fin.out _ _ _ _ _ H2.out H3.out r3 O.out h4
      exact ⟨rfl, v', f', z1, z2, z3, (t2.trans t3).trans t4, ff fr (by have := t2.size; have := t3.size; omega)⟩
    | false =>
      have U := hide_it (u3 rfl)
      clear u3 o3
      go_wp2_with (first | (go_at_call 38; refine (k6 _ _ H3.out U.out).mono ?_; rintro e w5 ⟨rfl, f'', h5, r5, o5, t5⟩; have H5 := hide_it h5; clear h5; have HF5 : Hid (f'' m = x) := (r5.out m (Nat.le_refl _)).trans HF.out) | (go_at_call 57; refine (k4 _ _ H5.out HF5.out).mono ?_; rintro e w4 ⟨rfl, v', h4, t4, fr⟩))
      go_ret
      obtain ⟨z1, z2, z3⟩ := fin.out _ _ _ _ _ H2.out H5.out ⟨fun k hk => (r5.out k hk).trans (r3.out k hk), fun y => (r5.mem y).trans (r3.mem y)⟩ o5 h4
      exact ⟨rfl, v', f'', z1, z2, z3, ((t2.trans t3).trans t5).trans t4, ff fr (by have := t2.size; have := t3.size; have := t5.size; omega)⟩
end Go.Proofs.Ytlpbjafdmhcmgaa
