/- The document's own heap: cut. -/
import Derived.Test.YtpcjaleogeoabaaRfB
namespace Go.Proofs.Ytpcjaleogeoabaa
open Go.RowKit
open M
set_option linter.unusedVariables false
set_option linter.unusedSimpArgs false

theorem icells_take (L : List It) (i : Nat) : icells (L.take i) = (icells L).take (i * 2) := by
  induction L generalizing i with
  | nil => simp [icells]
  | cons e r ih =>
    obtain ⟨x, y⟩ := e
    cases i with
    | zero => simp [icells]
    | succ i => rw [show (i + 1) * 2 = i * 2 + 1 + 1 by omega]; simp [icells, ih]
theorem icells_drop (L : List It) (i : Nat) : icells (L.drop i) = (icells L).drop (i * 2) := by
  induction L generalizing i with
  | nil => simp [icells]
  | cons e r ih =>
    obtain ⟨x, y⟩ := e
    cases i with
    | zero => simp [icells]
    | succ i => rw [show (i + 1) * 2 = i * 2 + 1 + 1 by omega]; simp [icells, ih]

set_option maxRecDepth 1000000 in
set_option maxHeartbeats 4000000 in
theorem cut_any {w : World} {rb : Nat} {n : Int} {v : Value} {L : List It} (h : RM w rb n v L) (hlen : L.length ≤ 1000000) {i : Nat} (hi : i < L.length) :
    Calls Try.prog 35 #[ptr rb, .int .i64 i] w fun e w' => e = .returned (.tuple #[]) ∧ ∃ v', RM w' rb n v' (L.eraseIdx i) ∧ Turn (RFoot rb v) w w' ∧ ∀ k, RFoot rb v' k → k = rb ∨ w.heap.size ≤ k := by
  obtain ⟨i0, hi0, hz0, hz1, hz2⟩ := info_parts info39
  obtain ⟨ib, cap, hv, hc1, hc2, hc, hf⟩ := h.form (by omega)
  subst hv
  have H := hide_it h
  have hrl := h.lt rb (.inl rfl)
  have hil := h.lt ib (.inr rfl)
  have q1 := h.c1
  have HN1 : Hid (∀ W, Below w.heap.size w W → ∀ j u, (icells (L.take i))[j]? = some u → W.cell? ((⟨ib, 0, none⟩ : Addr).add j) = some u) := fun W hb j u hu => by
    rw [icells_take, List.getElem?_take] at hu
    split at hu
    · have := (h.below hb).own.cells (g := ib) rfl j u hu
      exact this
    · cases hu
  have HN2 : Hid (∀ W, Below w.heap.size w W → ∀ j u, (icells (L.drop (i + 1)))[j]? = some u → W.cell? ((⟨ib, (i + 1) * 2, none⟩ : Addr).add j) = some u) := fun W hb j u hu => by
    rw [icells_drop, List.getElem?_drop] at hu
    have := (h.below hb).own.cells (g := ib) rfl _ u hu
    rw [Addr.add_lit] at this ⊢
    simpa using this
  have l1 : (icells (L.take i)).length = i * 2 := by rw [icells_len, List.length_take]; congr 1; omega
  have l2 : (icells (L.drop (i + 1))).length = (L.length - (i + 1)) * 2 := by rw [icells_len, List.length_drop]
  have HR : Hid (icells (L.take i) ++ icells (L.drop (i + 1)) = icells (L.eraseIdx i) ∧ (L.eraseIdx i).length = i + (L.length - (i + 1))) := by
    refine ⟨?_, ?_⟩
    · rw [← icells_app, List.eraseIdx_eq_take_drop_succ]
    · rw [List.length_eraseIdx_of_lt hi]; omega
  obtain ⟨L2, hL2⟩ : ∃ L2, L.eraseIdx i = L2 := ⟨_, rfl⟩
  rw [hL2] at HR ⊢
  clear hL2
  have litA : (w.alloc (.cells #[] 39)).drew.ownsRow w.heap.size 39 2 (.slice (some ⟨w.heap.size, 0, none⟩) 0 0) 0 [] := (World.ownsRow_lit w #[] 0 (Nat.le_refl _) (Nat.zero_le _) rfl : (w.alloc (.cells #[] 39)).ownsRow w.heap.size 39 2 (.slice (some ⟨w.heap.size, 0, none⟩) 0 0) 0 []).drew
  have LA := hide_it litA
  have bA : Below w.heap.size w (w.alloc (.cells #[] 39)).drew := ((Below.refl _ _).alloc (Nat.le_refl _) _).drew
  have BA := hide_it bA
  have o1 := icells_one (L.take i)
  have o2 := icells_one (L.drop (i + 1))
  generalize icells (L.take i) = A at *
  generalize icells (L.drop (i + 1)) = C at *
  have q2 : (w.alloc (.cells #[] 39)).drew.cell? ⟨rb, 1, none⟩ = some (.slice (some ⟨ib, 0, none⟩) L.length cap) := by rw [bA.cell (p := ⟨rb, 1, none⟩) hrl]; exact q1
  have q3 : ∀ W, Below w.heap.size w W → W.cell? ⟨rb, 1, none⟩ = some (.slice (some ⟨ib, 0, none⟩) L.length cap) ∧ W.frozen? ⟨rb, 1, none⟩ = false := fun W hb => ⟨by rw [hb.cell (p := ⟨rb, 1, none⟩) hrl]; exact q1, (h.below hb).fr 1⟩
  have HQ := hide_it q3
  clear litA bA hc hf h q3
  obtain ⟨m, hm⟩ : ∃ m, L.length = m := ⟨_, rfl⟩
  rw [hm] at q1 q2 hi hc1 hlen l2 HR HQ H
  rw [hm]
  have x1 : IntKind.i64.wrap ((i : Int) + 1) = ((i + 1 : Nat) : Int) := by rw [IntKind.wrap_i64]; omega
  have b1 : i ≤ cap := by omega
  have b2 : i + 1 ≤ m := by omega
  have b3 : i + 1 ≤ cap := by omega
  have y1 : (0 : Int) ≤ (i : Int) + 1 := by omega
  have y2 : (i : Int) + 1 ≤ (m : Int) := by omega
  have y3 : (i : Int) ≤ (i : Int) + 1 := by omega
  have y4 : (i : Int) ≤ (cap : Int) := by omega
  by_cases hcap : cap = i + 1
  · have hC : C = [] := by
      have : C.length = 0 := by rw [l2]; omega
      exact List.eq_nil_of_length_eq_zero this
    have hmi : m = i + 1 := by omega
    subst hC
    rw [hcap, hmi] at q1 q2 HQ H
    rw [hcap, hmi]
    rw [hmi] at HR
    have HR2 : Hid (A ++ [] = icells L2 ∧ L2.length = i) := ⟨HR.out.1, by have := HR.out.2; omega⟩
    clear HR
    have HR := HR2
    clear HR2
    have hib : i ≤ 1000000 := by omega
    have HMI := hide_it (And.intro hcap hmi)
    clear y2 y4 b1 b2 b3 hc1 hi l2 hcap hmi HN2 o2
    go_enter Try.func35, Try.ntmps35
    go_wp2_with (fail)
    go_region_law
      (first
        | (refine step_append_tell _ (by rfl) (.tmp 5) (.tmp 11) 27 (by rfl) w.heap.size 39 i0 _ 2 16 Try.underlying27 hi0 hz0 hz1 hz2 rfl (by omega) (.slice (some ⟨w.heap.size, 0, none⟩) 0 0) 0 [] (by rfl) LA.out ⟨ib, 0, none⟩ i (i + 1) A (by rfl) l1 (HN1.out _ BA.out) o1 (by unfold maxLen; omega) (by omega) BA.out.size ?_; intro v1 w1 hown1 hgrow1; have hB1 := hide_it (BA.out.grown hgrow1 BA.out.size (fun q hq => (LA.out.lt q hq).1)); obtain ⟨c1, f1⟩ := HQ.out _ hB1.out)
        | (refine step_append_tell _ (by rfl) (.tmp 12) (.tmp 19) 27 (by rfl) w.heap.size 39 i0 _ 2 16 Try.underlying27 hi0 hz0 hz1 hz2 rfl (by omega) v1 (0 + i) ([] ++ A) (by rfl) hown1 ⟨ib, 0, none⟩ 0 0 [] (by rfl) (by rfl) (fun j u hu => by simp at hu) (fun u hu => by simp at hu) (by unfold maxLen; omega) (by omega) hB1.out.size ?_; intro v2 w2 hown2 hgrow2; obtain ⟨ao2, cap2, hv2⟩ := own_slice hown2; subst hv2; have hB2 := hide_it (hB1.out.grown hgrow2 hB1.out.size (fun q hq => (hown1.lt q hq).1)); obtain ⟨c2, f2⟩ := HQ.out _ hB2.out))
    all_goals
      go_wp2
      go_end0
      have q := hown2
      simp only [Nat.zero_add, Nat.add_zero, List.nil_append] at q
      rw [HR.out.1, ← HR.out.2] at q
      obtain ⟨z1, z2, z3⟩ := rm_new H.out hB2.out q
      rw [HR.out.2] at z1 z2 z3
      first | exact ⟨rfl, _, z1, z2, z3⟩ | (simp only [Nat.sub_self, Nat.add_zero] at z1 z2 z3; exact ⟨rfl, _, z1, z2, z3⟩)
  · have hcap2 : ¬ (cap : Int) = (i : Int) + 1 := by omega
    go_enter Try.func35, Try.ntmps35
    go_wp2_with (fail)
    go_region_law
      (first
        | (refine step_append_tell _ (by rfl) (.tmp 5) (.tmp 11) 27 (by rfl) w.heap.size 39 i0 _ 2 16 Try.underlying27 hi0 hz0 hz1 hz2 rfl (by omega) (.slice (some ⟨w.heap.size, 0, none⟩) 0 0) 0 [] (by rfl) LA.out ⟨ib, 0, none⟩ i cap A (by rfl) l1 (HN1.out _ BA.out) o1 (by unfold maxLen; omega) (by omega) BA.out.size ?_; intro v1 w1 hown1 hgrow1; have hB1 := hide_it (BA.out.grown hgrow1 BA.out.size (fun q hq => (LA.out.lt q hq).1)); obtain ⟨c1, f1⟩ := HQ.out _ hB1.out)
        | (refine step_append_tell _ (by rfl) (.tmp 12) (.tmp 19) 27 (by rfl) w.heap.size 39 i0 _ 2 16 Try.underlying27 hi0 hz0 hz1 hz2 rfl (by omega) v1 (0 + i) ([] ++ A) (by rfl) hown1 ⟨ib, (i + 1) * 2, none⟩ (m - (i + 1)) (cap - (i + 1)) C (by rfl) l2 (HN2.out _ hB1.out) o2 (by unfold maxLen; omega) (by omega) hB1.out.size ?_; intro v2 w2 hown2 hgrow2; obtain ⟨ao2, cap2, hv2⟩ := own_slice hown2; subst hv2; have hB2 := hide_it (hB1.out.grown hgrow2 hB1.out.size (fun q hq => (hown1.lt q hq).1)); obtain ⟨c2, f2⟩ := HQ.out _ hB2.out))
    all_goals
      go_wp2
      go_end0
      have q := hown2
      simp only [Nat.zero_add, List.nil_append] at q
      rw [HR.out.1, ← HR.out.2] at q
      obtain ⟨z1, z2, z3⟩ := rm_new H.out hB2.out q
      rw [HR.out.2] at z1 z2 z3
      first | exact ⟨rfl, _, z1, z2, z3⟩ | (simp only [Nat.sub_self, Nat.add_zero] at z1 z2 z3; exact ⟨rfl, _, z1, z2, z3⟩)
end Go.Proofs.Ytpcjaleogeoabaa
