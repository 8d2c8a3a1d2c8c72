/- Push, Pop, Fix and Remove of the library. -/
import Derived.Test.YtlpbjafdmhcmgaaDwn
import Derived.Test.YtlpbjafdmhcmgaaPup
namespace Go.Proofs.Ytlpbjafdmhcmgaa
open Go.RowKit
open M
set_option linter.unusedVariables false
set_option linter.unusedSimpArgs false

theorem turn_fresh {w w1 w2 : World} {g kb pb : Nat} {v v' : Value} (hf : Fresh w v v') (t1 : Turn (Foot g kb pb v) w w1) (t2 : Turn (Foot g kb pb v') w1 w2) : Turn (Foot g kb pb v) w w2 :=
  ⟨t2.os.trans t1.os, t2.tape.trans t1.tape, t2.output.trans t1.output, Nat.le_trans t1.size t2.size, fun k hk hn => by
    rw [t2.block k (Nat.lt_of_lt_of_le hk t1.size) (fun q => ?_)]
    · exact t1.block k hk hn
    · rcases q with q | q | q | q
      · exact hn (.inl q)
      · exact hn (.inr (.inl q))
      · exact hn (.inr (.inr (.inl q)))
      · rcases hf with e | ⟨k', e, hl⟩
        · exact hn (.inr (.inr (.inr (by rw [← e]; exact q))))
        · rw [e] at q; cases q; omega⟩
theorem fresh_trans {w w1 : World} {v v' v'' : Value} (hs : w.heap.size ≤ w1.heap.size) (h1 : Fresh w v v') (h2 : Fresh w1 v' v'') : Fresh w v v'' := by
  rcases h2 with e | ⟨k, e, hl⟩
  · rcases h1 with e1 | ⟨k, e1, hl⟩
    · exact .inl (e.trans e1)
    · exact .inr ⟨k, e.trans e1, hl⟩
  · exact .inr ⟨k, e, by omega⟩

theorem in_pop {f : Nat → Nat} {m : Nat} (hi : ∀ a b, a < m + 1 → b < m + 1 → f a = f b → a = b) (y : Nat) : In f m y ↔ In f (m + 1) y ∧ y ≠ f m := by
  constructor
  · rintro ⟨k, hk, rfl⟩
    exact ⟨⟨k, by omega, rfl⟩, fun e => by have := hi k m (by omega) (by omega) e; omega⟩
  · rintro ⟨⟨k, hk, rfl⟩, hne⟩
    refine ⟨k, ?_, rfl⟩
    rcases Nat.lt_or_ge k m with q | q
    · exact q
    · have : k = m := by omega
      subst this
      exact absurd rfl hne
theorem HI.inj {w : World} {g kb pb n m : Nat} {v : Value} {f : Nat → Nat} {K : Nat → Int} (h : HI w g kb pb n v m f K) : ∀ a b, a < m → b < m → f a = f b → a = b := by
  obtain ⟨P, h1, h2⟩ := h; exact h2.inj
theorem HI.hm {w : World} {g kb pb n m : Nat} {v : Value} {f : Nat → Nat} {K : Nat → Int} (h : HI w g kb pb n v m f K) : m ≤ n ∧ n ≤ 65536 := by
  obtain ⟨P, h1, h2⟩ := h; exact ⟨h1.hm, h1.hn⟩
theorem HI.idlt {w : World} {g kb pb n m : Nat} {v : Value} {f : Nat → Nat} {K : Nat → Int} (h : HI w g kb pb n v m f K) : ∀ i, i < m → f i < n := by
  obtain ⟨P, h1, h2⟩ := h; exact fun i hi => (h2.at1 i hi).1

/-- One of the keys is another one. -/
def upK (K : Nat → Int) (x : Nat) (y : Int) (k : Nat) : Int := if k = x then y else K k

theorem hi_push {w : World} {g kb pb n m : Nat} {v : Value} {f : Nat → Nat} {K : Nat → Int} (h : HI w g kb pb n v m f K) (hm1 : m + 1 ≤ n) {x : Nat} (hx : x < n) (hin : ¬ In f m x) :
    Calls Try.prog 58 #[ptr g, .iface 3 (.int .i64 x)] w fun e w' => e = .returned (.tuple #[]) ∧ ∃ v', HI w' g kb pb n v' (m + 1) (up1 f m x) K ∧ Turn (Foot g kb pb v) w w' ∧ Fresh w v v' := by
  obtain ⟨P, h1, h2⟩ := h
  refine (opush_any h1 hm1 hx).mono ?_
  rintro e w' ⟨rfl, v', k1, k2, k3⟩
  refine ⟨rfl, v', ⟨_, k1, h2.push hx ?_⟩, k2, k3⟩
  rcases Nat.eq_zero_or_pos (P x) with q | q
  · exact q
  · exact absurd ((h2.has hx).1 (by omega)) hin
theorem hi_pop {w : World} {g kb pb n m : Nat} {v : Value} {f : Nat → Nat} {K : Nat → Int} (h : HI w g kb pb n v (m + 1) f K) {x : Nat} (hfx : f m = x) :
    Calls Try.prog 57 #[ptr g] w fun e w' => e = .returned (.iface 3 (.int .i64 x)) ∧ ∃ v', HI w' g kb pb n v' m f (upK K x 0) ∧ Turn (Foot g kb pb v) w w' ∧ Fresh w v v' := by
  obtain ⟨P, h1, h2⟩ := h
  refine (opop_any h1 hfx (by rw [← hfx]; exact (h2.at1 m (by omega)).1)).mono ?_
  rintro e w' ⟨rfl, v', k1, k2, k3⟩
  exact ⟨rfl, v', ⟨_, k1, by subst hfx; exact h2.pop⟩, k2, k3⟩

set_option maxRecDepth 1000000 in
set_option maxHeartbeats 2000000 in
theorem cpush_any {w : World} {g kb pb n m : Nat} {v : Value} {f : Nat → Nat} {K : Nat → Int} (h : HI w g kb pb n v m f K) (ho : Ord K f m) (hm1 : m + 1 ≤ n) {x : Nat} (hx : x < n) (hin : ¬ In f m x) :
    Calls Try.prog 35 #[ifc g, .iface 3 (.int .i64 x)] w fun e w' => e = .returned (.tuple #[]) ∧ ∃ v' f', HI w' g kb pb n v' (m + 1) f' K ∧ Ord K f' (m + 1) ∧ (∀ y, In f' (m + 1) y ↔ In f m y ∨ y = x) ∧ Turn (Foot g kb pb v) w w' ∧ Fresh w v v' := by
  have n1 := meth_push
  have n2 := meth_len
  have hmn := h.hm
  have k1 := hi_push h hm1 hx hin
  have k2 : ∀ W v', HI W g kb pb n v' (m + 1) (up1 f m x) K → Calls Try.prog 29 #[ptr g] W fun e w' => e = .returned (.int .i64 (m + 1 : Nat)) ∧ w' = W := fun W v' h => hi_len h
  have HU : Hid (Up K (up1 f m x) (m + 1) m) := ord_up (ho.congr (fun k hk => by simp [up1]; omega) (fun _ _ => rfl)) rfl
  have k3 : ∀ W v', HI W g kb pb n v' (m + 1) (up1 f m x) K → Calls Try.prog 38 #[ifc g, .int .i64 m] W fun e w' => e = .returned (.tuple #[]) ∧ ∃ f', HI w' g kb pb n v' (m + 1) f' K ∧ Rea (up1 f m x) f' (m + 1) ∧ Ord K f' (m + 1) ∧ Turn (Foot g kb pb v') W w' := fun W v' h => up_any h (Nat.le_refl _) (by omega) (by omega) HU.out
  clear h ho hin
  go_enter Try.func35, Try.ntmps35
  go_wp2_with (first | (go_at_call 58; refine k1.mono ?_; rintro e w1 ⟨rfl, v', h1, t1, fr⟩; have H1 := hide_it h1; clear h1) | (go_at_call 29; refine (k2 _ _ H1.out).mono ?_; rintro e w2 ⟨rfl, rfl⟩) | (go_at_call 38; refine (k3 _ _ H1.out).mono ?_; rintro e w3 ⟨rfl, f', h3, r3, o3, t3⟩))
  go_end0
  refine ⟨rfl, v', f', h3, o3, fun y => (r3.mem y).trans ?_, turn_fresh fr t1 t3, fr⟩
  constructor
  · rintro ⟨k, hk, rfl⟩
    by_cases e : k = m
    · subst e; exact .inr (by simp [up1])
    · exact .inl ⟨k, by omega, by simp [up1, e]⟩
  · rintro (⟨k, hk, rfl⟩ | rfl)
    · exact ⟨k, by omega, by simp [up1]; omega⟩
    · exact ⟨m, by omega, by simp [up1]⟩

/-- The end of Pop and of Remove: the last one goes. -/
theorem ord_pop {w : World} {g kb pb n m : Nat} {v : Value} {f : Nat → Nat} {K : Nat → Int} (h : HI w g kb pb n v (m + 1) f K) (ho : Ord K f m) : Ord (upK K (f m) 0) f m :=
  ho.congr (fun _ _ => rfl) (fun k hk => by
    unfold upK
    rw [if_neg (fun e => by have := h.inj k m (by omega) (by omega) e; omega)])

set_option maxRecDepth 1000000 in
set_option maxHeartbeats 2000000 in
theorem cpop_any {w : World} {g kb pb n m : Nat} {v : Value} {f : Nat → Nat} {K : Nat → Int} (h : HI w g kb pb n v (m + 1) f K) (ho : Ord K f (m + 1)) {x : Nat} (hx : f 0 = x) :
    Calls Try.prog 36 #[ifc g] w fun e w' => e = .returned (.iface 3 (.int .i64 x)) ∧ ∃ v' f', HI w' g kb pb n v' m f' (upK K x 0) ∧ Ord (upK K x 0) f' m ∧ (∀ y, In f' m y ↔ In f (m + 1) y ∧ y ≠ x) ∧ Turn (Foot g kb pb v) w w' ∧ Fresh w v v' := by
  have n1 := meth_len
  have n2 := meth_swap
  have n3 := meth_pop
  have hmn := h.hm
  have HIN := hide_it (in_sw f (i := 0) (j := m) (m := m + 1) (by omega) (by omega))
  have hl : sw f 0 m m = x := by rw [sw_r]; exact hx
  have k1 := hi_len h
  have k2 : Calls Try.prog 59 #[ptr g, .int .i64 0, .int .i64 m] w fun e w' => e = .returned (.tuple #[]) ∧ HI w' g kb pb n v (m + 1) (sw f 0 m) K ∧ Turn (Foot g kb pb v) w w' := hi_swap h (i := 0) (j := m) (by omega) (by omega)
  have HD : Hid (Dn K (sw f 0 m) m 0 0) := by
    rcases Nat.eq_zero_or_pos m with e | e
    · subst e; exact ⟨fun k k0 km => by omega, fun k k0 km => by omega⟩
    · exact ord_cut ho e
  have k3 : ∀ W, HI W g kb pb n v (m + 1) (sw f 0 m) K → Calls Try.prog 37 #[ifc g, .int .i64 0, .int .i64 m] W fun e w' => ∃ mv f', e = .returned (.bool mv) ∧ HI w' g kb pb n v (m + 1) f' K ∧ Rea (sw f 0 m) f' m ∧ (mv = true → Ord K f' m) ∧ (mv = false → Up K f' m 0) ∧ Turn (Foot g kb pb v) W w' := fun W h => down_any (i0 := 0) (nn := m) h (by omega) (by omega) (by omega) HD.out
  have k4 : ∀ W f', HI W g kb pb n v (m + 1) f' K → f' m = x → Calls Try.prog 57 #[ptr g] W fun e w' => e = .returned (.iface 3 (.int .i64 x)) ∧ ∃ v', HI w' g kb pb n v' m f' (upK K x 0) ∧ Turn (Foot g kb pb v) W w' ∧ Fresh W v v' := fun W f' h hf => hi_pop h hf
  clear h ho hx
  have HL := hide_it hl
  clear hl
  generalize sw f 0 m = f1 at *
  go_enter Try.func36, Try.ntmps36
  go_wp2_with (first | (go_at_call 29; refine k1.mono ?_; rintro e w1 ⟨rfl, rfl⟩) | (go_at_call 59; refine k2.mono ?_; rintro e w2 ⟨rfl, h2, t2⟩; have H2 := hide_it h2; clear h2) | (go_at_call 37; refine (k3 _ H2.out).mono ?_; rintro e w3 ⟨mv, f', rfl, h3, r3, o3, u3, t3⟩; have H3 := hide_it h3; clear h3; have HF : Hid (f' m = x) := (r3.out m (Nat.le_refl _)).trans HL.out) | (go_at_call 57; refine (k4 _ _ H3.out HF.out).mono ?_; rintro e w4 ⟨rfl, v', h4, t4, fr⟩))
  go_ret
  have ho : Ord K f' m := by
    cases mv with
    | true => exact o3 rfl
    | false => exact up_end (u3 rfl) (.inl rfl)
  have hp := ord_pop H3.out ho
  rw [HF.out] at hp
  refine ⟨rfl, v', f', h4, hp, fun y => ?_, (t2.trans t3).trans t4, ?_⟩
  · rw [in_pop H3.out.inj y, HF.out]
    refine and_congr_left fun hy => ?_
    constructor
    · intro q
      have := (in_pop H3.out.inj y).2 ⟨q, by rw [HF.out]; exact hy⟩
      obtain ⟨k, hk, e⟩ := (r3.mem y).1 this
      exact (HIN.out y).1 ⟨k, by omega, e⟩
    · intro q
      have q1 := (HIN.out y).2 q
      have : In f1 m y := (in_pop H2.out.inj y).2 ⟨q1, by rw [HL.out]; exact hy⟩
      obtain ⟨k, hk, e⟩ := (r3.mem y).2 this
      exact ⟨k, by omega, e⟩
  · rcases fr with e | ⟨k, e, hl⟩
    · exact .inl e
    · exact .inr ⟨k, e, by have := t2.size; have := t3.size; omega⟩
end Go.Proofs.Ytlpbjafdmhcmgaa
