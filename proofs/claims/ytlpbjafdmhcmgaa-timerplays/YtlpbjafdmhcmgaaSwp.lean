/- Swap of the order. -/
import Derived.Test.YtlpbjafdmhcmgaaLes
import Derived.Deep.RegionHeld3
import Derived.BigRegion
namespace Go.Proofs.Ytlpbjafdmhcmgaa
open Go.RowKit
open M
set_option linter.unusedVariables false
set_option linter.unusedSimpArgs false

set_option maxRecDepth 1000000 in
set_option maxHeartbeats 4000000 in
theorem swap_any {w : World} {g kb pb n m : Nat} {v : Value} {f P : Nat → Nat} {K : Nat → Int} (h : HM w g kb pb n v m f K P) {i j : Nat} (hi : i < m) (hj : j < m) (hfi : f i < n) (hfj : f j < n) :
    Calls Try.prog 59 #[ptr g, .int .i64 i, .int .i64 j] w fun e w' => e = .returned (.tuple #[]) ∧ HM w' g kb pb n v m (sw f i j) K (swP f P i j) ∧ Turn (Foot g kb pb v) w w' := by
  have q0 := h.c0
  have q2 := h.c2
  obtain ⟨ib, cap, rfl, _, _, hc, hf⟩ := h.form (by omega)
  have ci := hc i hi
  have cj := hc j hj
  have fi := hf i
  have fj := hf j
  have hm := h.hm
  have hn := h.hn
  have hgi : g ≠ ib := fun e => h.vg (by rw [e]; rfl)
  clear hc hf
  generalize ha : f i = a at *
  generalize hb : f j = b at *
  have H := hide_it h
  clear h
  have cj2 : (w.setCell ⟨ib, i, none⟩ (.int .i64 (b : Nat))).cell? ⟨ib, j, none⟩ = some (.int .i64 (b : Nat)) := by
    have h1 := H.out.setI (cap := cap) i b
    obtain ⟨ib', cap', he, _, _, hc', _⟩ := h1.form (by omega)
    cases he
    rw [hc' j hj]
    by_cases e : j = i
    · simp [e]
    · simp [e, hb]
  have fj2 : (w.setCell ⟨ib, i, none⟩ (.int .i64 (b : Nat))).frozen? ⟨ib, j, none⟩ = false := by
    have h1 := H.out.setI (cap := cap) i b
    obtain ⟨ib', cap', he, _, _, _, hf'⟩ := h1.form (by omega)
    cases he
    exact hf' j
  go_enter Try.func59, Try.ntmps59
  go_wp2_with (fail)
  go_region
  have H1 : Hid (HM ((w.setCell ⟨ib, i, none⟩ (.int .i64 (b : Nat))).setCell ⟨ib, j, none⟩ (.int .i64 (a : Nat))) g kb pb n (.slice (some ⟨ib, 0, none⟩) m cap) m (sw f i j) K P) := by
    refine ((H.out.setI i b).setI j a).congr (fun k hk => ?_) (fun _ _ => rfl) (fun _ _ => rfl)
    unfold sw
    by_cases e1 : k = j
    · subst e1
      by_cases e2 : k = i
      · subst e2; simp [ha]
      · simp [e2, ha]
    · by_cases e2 : k = i
      · subst e2; simp [e1, hb]
      · simp [e1, e2]
  have T1 : Hid (Turn (Foot g kb pb (.slice (some ⟨ib, 0, none⟩) m cap)) w ((w.setCell ⟨ib, i, none⟩ (.int .i64 (b : Nat))).setCell ⟨ib, j, none⟩ (.int .i64 (a : Nat)))) :=
    ((Turn.refl _ w).setCell (.inl (.inr (.inr (.inr rfl)))) _).setCell (.inl (.inr (.inr (.inr rfl)))) _
  have H2 := hide_it (HM.drew H1.out)
  have T2 := hide_it (Turn.drew T1.out)
  clear H1 T1 cj2 fj2 fi fj ci cj q0 q2
  generalize ((w.setCell ⟨ib, i, none⟩ (.int .i64 (b : Nat))).setCell ⟨ib, j, none⟩ (.int .i64 (a : Nat))).drew = w1 at *
  have hsi : sw f i j i = b := by rw [sw_l]; exact hb
  have hsj : sw f i j j = a := by rw [sw_r]; exact ha
  have q0 := H2.out.c0
  have q2 := H2.out.c2
  obtain ⟨ib', cap', he, _, _, hc, _⟩ := H2.out.form (by omega)
  cases he
  have ci := hc i hi
  have cj := hc j hj
  rw [hsi] at ci
  rw [hsj] at cj
  have pa := H2.out.cp a hfi
  have pb0 := H2.out.cp b hfj
  have fb := H2.out.fp b
  obtain ⟨i1, hi1⟩ : ∃ i1, i + 1 = i1 := ⟨_, rfl⟩
  obtain ⟨j1, hj1⟩ : ∃ j1, j + 1 = j1 := ⟨_, rfl⟩
  have wi : IntKind.i64.wrap ((i : Int) + 1) = (i1 : Int) := by rw [← hi1, IntKind.wrap_i64]; omega
  have wj : IntKind.i64.wrap ((j : Int) + 1) = (j1 : Int) := by rw [← hj1, IntKind.wrap_i64]; omega
  have pa2 := (H2.out.setP b i1).cp a hfi
  have fa2 := (H2.out.setP b i1).fp a
  have H3 := hide_it ((H2.out.setP b i1).setP a j1)
  have T3 := hide_it ((T2.out.setCell (p := ⟨pb, b, none⟩) (.inl (.inr (.inr (.inl rfl)))) (.int .i64 (i1 : Nat))).setCell (p := ⟨pb, a, none⟩) (.inl (.inr (.inr (.inl rfl)))) (.int .i64 (j1 : Nat)))
  have HP : Hid (∀ x, swP f P i j x = if x = a then j1 else if x = b then i1 else P x) := fun x => by unfold swP; rw [ha, hb, hi1, hj1]
  clear H T2 hc hsi hsj hi1 hj1
  generalize (if a = b then i1 else P a) = xa at *
  generalize P b = xb at *
  generalize P a = xa' at *
  have ngp : ¬ g = pb := H2.out.gp
  have nip : ¬ ib = pb := fun e => H2.out.vp (by rw [e]; rfl)
  have HK : Hid (∀ (V : World) (o : Nat) (u : Value) (k p : Nat), ¬ k = pb → (V.setCell ⟨pb, o, none⟩ u).drew.cell? ⟨k, p, none⟩ = V.cell? ⟨k, p, none⟩) := fun V o u k p hk => World.cell?_of_block (w := V) (Below.heap_setCell _ _ _ _ hk)
  go_wp2_with (fail)
  (go_region_held3 (fun V => V.cell? ⟨g, 0, none⟩ = some (.slice (some ⟨ib, 0, none⟩) m cap) ∧ V.cell? ⟨g, 2, none⟩ = some (.slice (some ⟨pb, 0, none⟩) n n) ∧ V.cell? ⟨ib, i, none⟩ = some (.int .i64 (b : Nat)) ∧ V.cell? ⟨ib, j, none⟩ = some (.int .i64 (a : Nat))) (first | exact ⟨(HK.out _ _ _ _ _ ngp).trans q0, (HK.out _ _ _ _ _ ngp).trans q2, (HK.out _ _ _ _ _ nip).trans ci, (HK.out _ _ _ _ _ nip).trans cj⟩ | exact ⟨(HK.out _ _ _ _ _ ngp).trans ((HK.out _ _ _ _ _ ngp).trans q0), (HK.out _ _ _ _ _ ngp).trans ((HK.out _ _ _ _ _ ngp).trans q2), (HK.out _ _ _ _ _ nip).trans ((HK.out _ _ _ _ _ nip).trans ci), (HK.out _ _ _ _ _ nip).trans ((HK.out _ _ _ _ _ nip).trans cj)⟩ | go_keep) (fail))
  go_wp2
  go_end0
  refine ⟨rfl, (H3.out.drew).congr (fun _ _ => rfl) (fun _ _ => rfl) (fun x _ => HP.out x), T3.out.drew⟩
end Go.Proofs.Ytlpbjafdmhcmgaa
