/- What is shown in any case. -/
import Derived.Test.YtlhkahincnchjaaMul
namespace Go.Proofs.Ytlhkahincnchjaa
open Go.RowKit
open M
set_option linter.unusedVariables false
set_option linter.unusedSimpArgs false

def sA : Tn := joinX (mk0 5) 7 1
def sB : Tn := joinX sA 9 1
def sL : List Wn := [(7, 10), (9, 10)]
def sC : Tn := pay (costs sL sB) (go (costs sL sB) 3 sB)
def sD : Tn := pay (costs sL sC) (go (costs sL sC) 1 sC)
theorem sA_e : joinE (mk0 5) 7 1 = 0 := by decide
theorem sB_e : joinE sA 9 1 = 0 := by decide
theorem sB_f : joinE sB 7 1 = 8 := by decide
theorem sB_g : joinE sB 3 0 = 1 := by decide
theorem sB_x : joinX sB 7 1 = sB := by unfold joinX; rw [sB_f]; rfl
theorem sB_y : joinX sB 3 0 = sB := by unfold joinX; rw [sB_g]; rfl
theorem not_stop {cs : Nat → Int} {x : Tn} (h : decide (cs x.k ≠ 0 ∧ cs x.k ≤ x.C x.k) = false) : ¬ Stop cs x := by unfold Stop; exact of_decide_eq_false h
theorem is_stop {cs : Nat → Int} {x : Tn} (h : decide (cs x.k ≠ 0 ∧ cs x.k ≤ x.C x.k) = true) : Stop cs x := by unfold Stop; exact of_decide_eq_true h
theorem sC_t : TakeP sL sB sC 9 true := by
  refine .inr ⟨⟨0, by decide, by decide⟩, ⟨_, ⟨3, rfl, fun j hj => ?_⟩, is_stop (by decide), rfl⟩, by decide, rfl⟩
  match j, hj with
  | 0, _ => exact not_stop (by decide)
  | 1, _ => exact not_stop (by decide)
  | 2, _ => exact not_stop (by decide)
theorem sD_t : TakeP sL sC sD 7 true := by
  refine .inr ⟨⟨0, by decide, by decide⟩, ⟨_, ⟨1, rfl, fun j hj => ?_⟩, is_stop (by decide), rfl⟩, by decide, rfl⟩
  match j, hj with
  | 0, _ => exact not_stop (by decide)
theorem sD_u : TakeP [] sD sD 0 false := .inl ⟨fun _ _ => rfl, rfl, rfl, rfl⟩
theorem sD_e : leaveE sD 5 = 6 := by decide
theorem sD_x : leaveX sD 5 = sD := by
  unfold leaveX
  rw [if_neg (by decide)]
theorem sA_g : Gd 1048576 10 sB := by
  refine ⟨⟨by decide, by decide, fun j hj => ?_, fun j hj => ?_, fun j hj _ => ?_, fun _ => by decide, fun _ => by decide, fun e => absurd e (by decide)⟩, by decide, fun j hj => ?_⟩ <;>
  · have hj : j < 2 := hj
    match j, hj with
    | 0, _ => first | exact ⟨by decide, by decide⟩ | decide
    | 1, _ => first | exact ⟨by decide, by decide⟩ | decide
theorem Gd.take {M : Int} {N : Nat} {l : List Wn} {x y : Tn} {id : Int} {ok : Bool} (h : Gd M N x) (hM : 1 ≤ M) (hl : ∀ j, j < x.n → costs l x j ≤ M) (ht : TakeP l x y id ok) : Gd M N y := by
  have s := ht.same
  refine ⟨inv_takeP h.iv hM hl ht, by rw [s.n]; exact h.len, fun j hj => ?_⟩
  rw [s.I]
  exact h.ids j (by rw [← s.n]; exact hj)
theorem ws_two {W : World} {n : Nat} (h : W.heap[n]? = some (.cells #[.int .i64 7, .int .i64 10, .int .i64 9, .int .i64 10] 37)) : Ws W (some ⟨n, 0, none⟩) sL := fun i hi => by
  have hi2 : i < 2 := hi
  match i, hi2 with
  | 0, _ => exact ⟨n, 0, rfl, block_lt h, by rw [cell_of_row _ n _ _ _ _ h]; rfl, by rw [cell_of_row _ n _ _ _ _ h]; rfl⟩
  | 1, _ => exact ⟨n, 0, rfl, block_lt h, by rw [cell_of_row _ n _ _ _ _ h]; rfl, by rw [cell_of_row _ n _ _ _ _ h]; rfl⟩

set_option maxRecDepth 1000000 in
set_option maxHeartbeats 4000000 in
theorem shown_any (w : World) : Calls Try.prog 10 #[] w fun e w' => e = .returned (.bool true) ∧ Hid (Below w.heap.size w w') := by
  have h0 := hide_it (mx_start (Below.refl w.heap.size w) (Nat.le_refl _))
  have k0 := h0.out.new 5
  have HW : Hid (Ws w none []) := fun i hi => by simp at hi
  go_enter Try.func10, Try.ntmps10
  go_wp2_with (go_at_call 11; refine k0.mono ?_; rintro e w1 ⟨t, rfl, s1⟩; refine Hid.out ?_)
  refine hide_it ?_
  have k1 := s1.out.join 0 rfl (by show 0 < 1000000; omega) 7 1
  rw [sA_e] at k1
  have q24 : ∀ (w : World), (binOp .eql 24 (ptr t) (.pointer none)).run Try.prog w = .ok (.bool false) w := fun w => by rfl
  go_wp2_with (go_at_call 13; refine k1.mono ?_; rintro e w2 ⟨rfl, s2⟩; refine Hid.out ?_)
  refine hide_it ?_
  have k2 := s2.out.join 0 (x := sA) rfl (by decide) 9 1
  rw [sB_e] at k2
  clear k0 k1 s1
  go_wp2_with (go_at_call 13; refine k2.mono ?_; rintro e w3 ⟨rfl, s3⟩; refine Hid.out ?_)
  refine hide_it ?_
  have k3 := s3.out.join 0 (x := sB) rfl (by decide) 7 1
  rw [sB_f, sB_x] at k3
  clear k2 s2
  go_wp2_with (go_at_call 13; refine k3.mono ?_; rintro e w4 ⟨rfl, s4⟩; refine Hid.out ?_)
  refine hide_it ?_
  have k4 := s4.out.join 0 (x := sB) rfl (by decide) 3 0
  rw [sB_g, sB_y] at k4
  clear k3 s3
  go_wp2_with (go_at_call 13; refine k4.mono ?_; rintro e w5 ⟨rfl, s5⟩; refine Hid.out ?_)
  refine hide_it ?_
  clear k4 s4
  have s6 := hide_it (s5.out.alloc (.cells #[.int .i64 7, .int .i64 10, .int .i64 9, .int .i64 10] 37))
  have hl := hide_it (ws_two (heap_alloc_new w5 (.cells #[.int .i64 7, .int .i64 10, .int .i64 9, .int .i64 10] 37)))
  have k5 := s6.out.take 0 (x := sB) rfl (Int.le_refl _) sA_g (by decide) (lc := 2) hl.out (by decide) (fun p hp => by simp [sL] at hp; rcases hp with rfl | rfl <;> exact ⟨by decide, by decide⟩)
  change Calls Try.prog 18 #[ptr t, .slice (some ⟨w5.heap.size, 0, none⟩) 2 2] _ _ at k5
  have HK5 : Hid (∀ (e : Ending) (w' : World), (∃ y id ok, e = .returned (.tuple #[.int .i64 id, .bool ok]) ∧ Hid (TakeP sL sB y id ok ∧ MX w.heap.size w w' [obA t y] [(w5.heap.size, .cells #[.int .i64 7, .int .i64 10, .int .i64 9, .int .i64 10] 37)])) → e = .returned (.tuple #[.int .i64 9, .bool true]) ∧ Hid (MX w.heap.size w w' [obA t sC] [(w5.heap.size, .cells #[.int .i64 7, .int .i64 10, .int .i64 9, .int .i64 10] 37)])) := by
    rintro e w' ⟨y, id, ok, rfl, s⟩
    obtain ⟨e1, e2, e3⟩ := s.out.1.uniq sC_t
    subst e1 e2 e3
    exact ⟨rfl, s.out.2⟩
  have k5b := k5.mono HK5.out
  clear k5 HK5 s5
  go_wp2_with (go_at_call 18; refine k5b.mono ?_; rintro e w6 ⟨rfl, s7⟩; refine Hid.out ?_)
  refine hide_it ?_
  clear k5b s6
  have hl2 := hide_it (ws_two (s7.out.row (List.mem_singleton.2 rfl)))
  have k6 := s7.out.take 0 (x := sC) rfl (Int.le_refl _) (sA_g.take (by decide) (fun j _ => (costOf_bnd _ _).2) sC_t) (by decide) (lc := 2) hl2.out (by decide) (fun p hp => by simp [sL] at hp; rcases hp with rfl | rfl <;> exact ⟨by decide, by decide⟩)
  change Calls Try.prog 18 #[ptr t, .slice (some ⟨w5.heap.size, 0, none⟩) 2 2] _ _ at k6
  have HK6 : Hid (∀ (e : Ending) (w' : World), (∃ y id ok, e = .returned (.tuple #[.int .i64 id, .bool ok]) ∧ Hid (TakeP sL sC y id ok ∧ MX w.heap.size w w' [obA t y] [(w5.heap.size, .cells #[.int .i64 7, .int .i64 10, .int .i64 9, .int .i64 10] 37)])) → e = .returned (.tuple #[.int .i64 7, .bool true]) ∧ Hid (MX w.heap.size w w' [obA t sD] [(w5.heap.size, .cells #[.int .i64 7, .int .i64 10, .int .i64 9, .int .i64 10] 37)])) := by
    rintro e w' ⟨y, id, ok, rfl, s⟩
    obtain ⟨e1, e2, e3⟩ := s.out.1.uniq sD_t
    subst e1 e2 e3
    exact ⟨rfl, s.out.2⟩
  have k6b := k6.mono HK6.out
  clear k6 HK6
  go_wp2_with (go_at_call 18; refine k6b.mono ?_; rintro e w7 ⟨rfl, s8⟩; refine Hid.out ?_)
  refine hide_it ?_
  clear k6b s7 hl hl2
  have HG := hide_it ((sA_g.take (by decide) (fun j _ => (costOf_bnd _ _).2) sC_t).take (by decide) (fun j _ => (costOf_bnd _ _).2) sD_t)
  have hl3 : Hid (Ws w7 none []) := fun i hi => by simp at hi
  have k7 := s8.out.take 0 (x := sD) rfl (Int.le_refl _) HG.out (by decide) (lc := 0) hl3.out (by decide) (fun p hp => by simp at hp)
  change Calls Try.prog 18 #[ptr t, .slice none 0 0] _ _ at k7
  have HK7 : Hid (∀ (e : Ending) (w' : World), (∃ y id ok, e = .returned (.tuple #[.int .i64 id, .bool ok]) ∧ Hid (TakeP [] sD y id ok ∧ MX w.heap.size w w' [obA t y] [(w5.heap.size, .cells #[.int .i64 7, .int .i64 10, .int .i64 9, .int .i64 10] 37)])) → e = .returned (.tuple #[.int .i64 0, .bool false]) ∧ Hid (MX w.heap.size w w' [obA t sD] [(w5.heap.size, .cells #[.int .i64 7, .int .i64 10, .int .i64 9, .int .i64 10] 37)])) := by
    rintro e w' ⟨y, id, ok, rfl, s⟩
    obtain ⟨e1, e2, e3⟩ := s.out.1.uniq sD_u
    subst e1 e2 e3
    exact ⟨rfl, s.out.2⟩
  have k7b := k7.mono HK7.out
  clear k7 HK7
  go_wp2_with (go_at_call 18; refine k7b.mono ?_; rintro e w8 ⟨rfl, s9⟩; refine Hid.out ?_)
  refine hide_it ?_
  clear k7b s8 hl3
  have k8 := s9.out.leave 0 (x := sD) rfl (by decide) (fun _ => by decide) 5
  rw [sD_e, sD_x] at k8
  go_wp2_with (go_at_call 15; refine k8.mono ?_; rintro e w9 ⟨rfl, s10⟩; refine Hid.out ?_)
  refine hide_it ?_
  clear k8 s9
  have k9 := s10.out.len 0 (x := sD) rfl
  change Calls Try.prog 23 #[ptr t] w9 (fun e w' => e = .returned (.int .i64 2) ∧ _) at k9
  go_wp2_with (go_at_call 23; refine k9.mono ?_; rintro e w10 ⟨rfl, s11⟩)
  go_ret
  exact ⟨rfl, s11.out.bel⟩
end Go.Proofs.Ytlhkahincnchjaa
