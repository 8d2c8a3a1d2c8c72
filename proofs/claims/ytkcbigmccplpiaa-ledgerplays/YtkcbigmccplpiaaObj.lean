/- Room, At, New, Take and Free of a ledger. -/
import Derived.Test.YtkcbigmccplpiaaOps
import Derived.Deep.RegionHeld3
import Derived.Deep.CutRange
import Derived.Deep.CutBlock
import Derived.BigQuiet
namespace Go.Proofs.Ytkcbigmccplpiaa
open Go.RowKit
open M
set_option linter.unusedVariables false
set_option linter.unusedSimpArgs false

theorem max_num (x y : Int) (ts : Array TypeId) (t : TypeId) (W : World) : (Builtin.max_ ts t #[.int .i64 x, .int .i64 y]).run Try.prog W = .ok (.int .i64 (max x y)) W := by
  rw [run_max_int2]
  congr 2
  split <;> omega
theorem min_num (x y : Int) (ts : Array TypeId) (t : TypeId) (W : World) : (Builtin.min_ ts t #[.int .i64 x, .int .i64 y]).run Try.prog W = .ok (.int .i64 (min x y)) W := by
  rw [run_min_int2]
  congr 2
  split <;> omega

section
variable {B : Nat} {w0 w : World} {b : Nat} {x : Lg} {R : List (Nat × Obj)}
set_option maxRecDepth 1000000 in
set_option maxHeartbeats 2000000 in
theorem room_any (h : LX B w0 w b x R) : Calls Try.prog 20 #[ptr b] w fun e w' => e = .returned (.int .i64 (room x)) ∧ Hid (LX B w0 w' b x R) := by
  have k : ∀ W, LX B w0 W b x R → Calls Try.prog 18 #[ptr b] W fun e w' => e = .returned (.int .i64 (us x.P 16)) ∧ Hid (LX B w0 w' b x R) := fun W h => used_any h
  have K0 : Hid (∀ W, LX B w0 W b x R → W.cell? ⟨b, 0, none⟩ = some (.int .i64 x.bu)) := fun W h => h.c0
  have c0 := h.c0
  have hu := h.inv.usP (k := 16) (by omega)
  have hM := h.inv.bM
  have H := hide_it h
  have HR : Hid (room x = x.bu - us x.P 16) := rfl
  have hD : Hid (LX B w0 w.drew b x R) := h.below ((Below.refl _ _).drew)
  clear h
  generalize us x.P 16 = U at *
  generalize x.bu = N at *
  obtain ⟨u1, u2⟩ := hu
  go_enter Try.func20, Try.ntmps20
  go_upto_region 1 with fail
  (go_region_held3 (fun V => V.cell? ⟨b, 0, none⟩ = some (.int .i64 N)) (first | exact c0 | (rename_i s; exact K0.out _ s.out) | go_keep) (first | (go_at_call 18; refine (k _ hD.out).mono ?_; rintro e w3 ⟨rfl, s⟩)))
  have hw : IntKind.i64.wrap (N - U) = N - U := by rw [IntKind.wrap_i64]; omega
  rw [hw, ← HR.out]
  go_wp2
  go_ret
  exact ⟨rfl, s⟩

set_option maxRecDepth 1000000 in
set_option maxHeartbeats 2000000 in
theorem at_any (h : LX B w0 w b x R) (s : Int) : Calls Try.prog 23 #[ptr b, .int .i64 s] w fun e w' => e = .returned (.tuple #[.int .i64 (atI x s), .bool (atB x s)]) ∧ Hid (LX B w0 w' b x R) := by
  have c1 := h.c1
  have hn := h.inv.n16
  by_cases h0 : s < 0
  · have e1 : atI x s = 0 := by unfold atI; rw [if_neg (by omega)]
    have e2 : atB x s = false := by unfold atB; rw [show decide (0 ≤ s ∧ s < (x.n : Int)) = false by simp; omega]; rfl
    rw [e1, e2]
    have H := hide_it h
    have d : decide (s < 0) = true := by simpa using h0
    clear h e1 e2
    go_enter Try.func23, Try.ntmps23
    go_wp2
    go_ret2
    exact ⟨rfl, H.out⟩
  · obtain ⟨k, rfl⟩ : ∃ k : Nat, s = k := ⟨s.toNat, by omega⟩
    by_cases h1 : k < x.n
    · have e1 : atI x k = (x.P k).i := by unfold atI; rw [if_pos (by omega)]; simp
      have e2 : atB x k = (x.P k).t := by unfold atB; rw [show decide (0 ≤ (k : Int) ∧ (k : Int) < (x.n : Int)) = true by simp; omega]; simp
      rw [e1, e2]
      obtain ⟨q1, q2, q3⟩ := h.cp (k := k) (by omega)
      have H := hide_it h
      have d1 : decide ((x.n : Int) ≤ (k : Int)) = false := by simp; omega
      have d2 : decide (x.n ≤ k) = false := by simp; omega
      have b1 : (k : Int) < 16 := by omega
      have b2 : k < 16 := by omega
      have HD : Hid (∀ j, LX B w0 (w.drewN j) b x R) := fun j => h.below (below_drewN (Below.refl _ _) j)
      clear h e1 e2 q3
      generalize (x.P k).t = t at *
      generalize (x.P k).i = i at *
      go_enter Try.func23, Try.ntmps23
      go_wp2_with (go_big_quiet (fail))
      go_ret2
      exact ⟨rfl, HD.out _⟩
    · have e1 : atI x k = 0 := by unfold atI; rw [if_neg (by omega)]
      have e2 : atB x k = false := by unfold atB; rw [show decide (0 ≤ (k : Int) ∧ (k : Int) < (x.n : Int)) = false by simp; omega]; rfl
      rw [e1, e2]
      have H := hide_it h
      have d1 : decide ((x.n : Int) ≤ (k : Int)) = true := by simp; omega
      have d2 : decide (x.n ≤ k) = true := by simp; omega
      clear h e1 e2
      go_enter Try.func23, Try.ntmps23
      go_wp2
      go_ret2
      exact ⟨rfl, H.out⟩

set_option maxRecDepth 1000000 in
set_option maxHeartbeats 2000000 in
theorem new_any (hb : Below B w0 w) (hlo : B ≤ w0.heap.size) (bu sl : Int) (hM : bu ≤ 9223372036854775807) (N : Int) (n : Nat) (h1 : max bu 0 = N) (h2 : min (max sl 0) 16 = (n : Int)) : Calls Try.prog 11 #[.int .i64 bu, .int .i64 sl] w fun e w' => ∃ b, e = .returned (ptr b) ∧ Hid (LX B w0 w' b ⟨N, n, fun _ => no⟩ []) := by
  have k1 : ∀ ts u W, (Builtin.max_ ts u #[.int .i64 bu, .int .i64 0]).run Try.prog W = .ok (.int .i64 N) W := fun ts u W => by rw [← h1]; exact max_num _ _ ts u W
  obtain ⟨m, hm⟩ : ∃ m, max sl 0 = m := ⟨_, rfl⟩
  have k2 : ∀ ts u W, (Builtin.max_ ts u #[.int .i64 sl, .int .i64 0]).run Try.prog W = .ok (.int .i64 m) W := fun ts u W => by rw [← hm]; exact max_num _ _ ts u W
  have k3 : ∀ ts u W, (Builtin.min_ ts u #[.int .i64 m, .int .i64 16]).run Try.prog W = .ok (.int .i64 n) W := fun ts u W => by rw [← h2, hm]; exact min_num _ _ ts u W
  have HL : Hid (LX B w0 (w.alloc (blk ⟨N, n, fun _ => no⟩)) w.heap.size ⟨N, n, fun _ => no⟩ []) := by
    have hsz := hb.size
    exact ⟨hb.alloc (by omega) _, by omega, hlo, heap_alloc_new _ _, inv_new (by omega) (by omega) (by omega), fun p hp => by simp at hp⟩
  clear h1 h2 hm hM hb
  go_enter Try.func11, Try.ntmps11
  go_wp2
  go_ret
  exact ⟨_, rfl, HL⟩

theorem te_arg {id mem : Int} (h : id < 0 ∨ mem < 0) : te x id mem = 1 := by unfold te; rw [if_pos h]
theorem te_big {id mem : Int} (h : ¬ (id < 0 ∨ mem < 0)) (h2 : x.bu < mem) : te x id mem = 5 := by unfold te; rw [if_neg h, if_pos h2]
theorem te_state {id mem : Int} (h : ¬ (id < 0 ∨ mem < 0)) (h2 : ¬ x.bu < mem) (h3 : (slo x id).isSome = true) : te x id mem = 8 := by unfold te; rw [if_neg h, if_neg h2, if_pos h3]
theorem te_full {id mem : Int} (h : ¬ (id < 0 ∨ mem < 0)) (h2 : ¬ x.bu < mem) (h3 : (slo x id).isSome = false) (h4 : (low x).isNone = true ∨ room x < mem) : te x id mem = 4 := by unfold te; rw [if_neg h, if_neg h2, if_neg (by simp [h3]), if_pos h4]
theorem te_good {id mem : Int} (h : ¬ (id < 0 ∨ mem < 0)) (h2 : ¬ x.bu < mem) (h3 : (slo x id).isSome = false) (h4 : ¬ ((low x).isNone = true ∨ room x < mem)) : te x id mem = 0 := by unfold te; rw [if_neg h, if_neg h2, if_neg (by simp [h3]), if_neg h4]

set_option maxRecDepth 1000000 in
set_option maxHeartbeats 4000000 in
theorem take_any (h : LX B w0 w b x R) (id mem : Int) : Calls Try.prog 12 #[ptr b, .int .i64 id, .int .i64 mem] w fun e w' => e = .returned (.tuple #[.int .i64 (ts x id mem : Nat), .int .i64 (te x id mem : Nat)]) ∧ Hid (LX B w0 w' b (tx x id mem) R) := by
  have H := hide_it h
  have bad : ∀ E, te x id mem = E → E ≠ 0 → ts x id mem = 0 ∧ tx x id mem = x := fun E e hE => ⟨by unfold ts; rw [if_neg (by omega)], by unfold tx; rw [if_neg (by omega)]⟩
  by_cases hA : id < 0 ∨ mem < 0
  · have e := te_arg (x := x) hA
    obtain ⟨e1, e2⟩ := bad 1 e (by omega)
    rw [e, e1, e2]
    clear bad e e1 e2 h
    by_cases h0 : id < 0
    · clear hA
      have d : decide (id < 0) = true := by simpa using h0
      go_enter Try.func12, Try.ntmps12
      go_wp2
      go_ret2
      exact ⟨rfl, H⟩
    · have h1 : mem < 0 := by omega
      clear hA
      have d : decide (id < 0) = false := by simpa using h0
      have d1 : decide (mem < 0) = true := by simpa using h1
      go_enter Try.func12, Try.ntmps12
      go_wp2
      go_ret2
      exact ⟨rfl, H⟩
  · have a1 : ¬ id < 0 := by omega
    have a2 : ¬ mem < 0 := by omega
    have d1 : decide (id < 0) = false := by simpa using a1
    have d2 : decide (mem < 0) = false := by simpa using a2
    have c0 := h.c0
    by_cases hB : x.bu < mem
    · have e := te_big (x := x) hA hB
      obtain ⟨e1, e2⟩ := bad 5 e (by omega)
      rw [e, e1, e2]
      have d3 : decide (x.bu < mem) = true := by simpa using hB
      clear bad e e1 e2 h hA a1 a2
      go_enter Try.func12, Try.ntmps12
      go_wp2
      go_ret2
      exact ⟨rfl, H⟩
    · have d3 : decide (x.bu < mem) = false := by simpa using hB
      have k16 := slot_any h id
      cases hS : (slo x id).isSome with
      | true =>
        have e := te_state (x := x) hA hB hS
        obtain ⟨e1, e2⟩ := bad 8 e (by omega)
        rw [e, e1, e2]
        rw [hS] at k16
        generalize (((slo x id).getD 0 : Nat) : Int) = z at *
        clear bad e e1 e2 h hA a1 a2 hS
        go_enter Try.func12, Try.ntmps12
        go_wp2_with (go_at_call 16; refine k16.mono ?_; rintro e w1 ⟨rfl, s⟩)
        go_ret2
        exact ⟨rfl, s⟩
      | false =>
        rw [hS] at k16
        have k25 : ∀ W, LX B w0 W b x R → Calls Try.prog 25 #[ptr b] W fun e w' => e = .returned (.tuple #[.int .i64 ((low x).getD 0 : Nat), .bool (low x).isSome]) ∧ w' = W := fun W h => lowest_any h
        have k20 : ∀ W, LX B w0 W b x R → Calls Try.prog 20 #[ptr b] W fun e w' => e = .returned (.int .i64 (room x)) ∧ Hid (LX B w0 w' b x R) := fun W h => room_any h
        generalize (((slo x id).getD 0 : Nat) : Int) = z at *
        cases hL : low x with
        | none =>
          have e := te_full (x := x) hA hB hS (.inl (by simp [hL]))
          obtain ⟨e1, e2⟩ := bad 4 e (by omega)
          rw [e, e1, e2]
          simp only [hL, Option.getD_none, Option.isSome_none] at k25
          clear bad e e1 e2 h hA a1 a2 hS hL k20
          go_enter Try.func12, Try.ntmps12
          go_wp2_with (first | (go_at_call 16; refine k16.mono ?_; rintro e w1 ⟨rfl, s⟩) | (go_at_call 25; refine (k25 _ s.out).mono ?_; rintro e w2 ⟨rfl, rfl⟩))
          go_ret2
          exact ⟨rfl, s⟩
        | some k =>
          simp only [hL, Option.getD_some, Option.isSome_some] at k25
          by_cases hR : room x < mem
          · have e := te_full (x := x) hA hB hS (.inr hR)
            obtain ⟨e1, e2⟩ := bad 4 e (by omega)
            rw [e, e1, e2]
            have d4 : decide (room x < mem) = true := by simpa using hR
            generalize room x = Q at *
            clear bad e e1 e2 h hA a1 a2 hS hL hR
            go_enter Try.func12, Try.ntmps12
            go_wp2_with (first | (go_at_call 16; refine k16.mono ?_; rintro e w1 ⟨rfl, s⟩) | (go_at_call 25; refine (k25 _ s.out).mono ?_; rintro e w2 ⟨rfl, rfl⟩) | (go_at_call 20; refine (k20 _ s.out).mono ?_; rintro e w3 ⟨rfl, s3⟩))
            go_ret2
            exact ⟨rfl, s3⟩
          · have e := te_good (x := x) hA hB hS (by rw [hL]; simpa using hR)
            have d4 : decide (room x < mem) = false := by simpa using hR
            have e1 : ts x id mem = k := by unfold ts; rw [if_pos e, hL]; rfl
            have e2 : tx x id mem = ⟨x.bu, x.n, setP x.P k ⟨true, id, mem⟩⟩ := by unfold tx; rw [if_pos e, hL]; rfl
            have hi := h.inv.take id mem
            have hk : k < 16 := by have := low_lt hL; have := h.inv.n16; omega
            have hk2 : (k : Int) < 16 := by omega
            rw [e2] at hi
            rw [e, e1, e2]
            have HW : Hid (∀ W, LX B w0 W b x R → LX B w0 (((W.setCell ⟨b, 2 + k * 3, none⟩ (.bool true)).setCell ⟨b, 2 + k * 3 + 1, none⟩ (.int .i64 id)).setCell ⟨b, 2 + k * 3 + 2, none⟩ (.int .i64 mem)) b ⟨x.bu, x.n, setP x.P k ⟨true, id, mem⟩⟩ R) := fun W h => h.turn3 k ⟨true, id, mem⟩ hk hi
            have HC : Hid (∀ W, LX B w0 W b x R → (∃ t i m, W.cell? ⟨b, 2 + k * 3, none⟩ = some (.bool t) ∧ W.cell? ⟨b, 2 + k * 3 + 1, none⟩ = some (.int .i64 i) ∧ W.cell? ⟨b, 2 + k * 3 + 2, none⟩ = some (.int .i64 m)) ∧ W.frozen? ⟨b, 2 + k * 3, none⟩ = false ∧ W.frozen? ⟨b, 2 + k * 3 + 1, none⟩ = false ∧ W.frozen? ⟨b, 2 + k * 3 + 2, none⟩ = false) := fun W h => ⟨⟨_, _, _, h.cp hk⟩, h.fr _, h.fr _, h.fr _⟩
            generalize (⟨x.bu, x.n, setP x.P k ⟨true, id, mem⟩⟩ : Lg) = X at *
            generalize room x = Q at *
            clear bad e e1 e2 h hA a1 a2 hS hL hR hi
            go_enter Try.func12, Try.ntmps12
            go_wp2_with (first | (go_at_call 16; refine k16.mono ?_; rintro e w1 ⟨rfl, s⟩) | (go_at_call 25; refine (k25 _ s.out).mono ?_; rintro e w2 ⟨rfl, rfl⟩) | (go_at_call 20; refine (k20 _ s.out).mono ?_; rintro e w3 ⟨rfl, s3⟩; obtain ⟨⟨t, i, m, q1, q2, q3⟩, f1, f2, f3⟩ := HC.out _ s3.out))
            go_ret2
            exact ⟨rfl, HW.out _ s3.out⟩

set_option maxRecDepth 1000000 in
set_option maxHeartbeats 4000000 in
theorem free_any (h : LX B w0 w b x R) (id : Int) : Calls Try.prog 14 #[ptr b, .int .i64 id] w fun e w' => e = .returned (.int .i64 (fe x id : Nat)) ∧ Hid (LX B w0 w' b (fx x id) R) := by
  have k16 := slot_any h id
  cases hS : slo x id with
  | none =>
    have e1 : fe x id = 6 := by unfold fe; rw [hS]; rfl
    have e2 : fx x id = x := by unfold fx; rw [hS]; rfl
    rw [e1, e2]
    simp only [hS, Option.getD_none, Option.isSome_none] at k16
    clear e1 e2 h hS
    go_enter Try.func14, Try.ntmps14
    go_wp2_with (go_at_call 16; refine k16.mono ?_; rintro e w1 ⟨rfl, s⟩)
    go_ret
    exact ⟨rfl, s⟩
  | some k =>
    have e1 : fe x id = 0 := by unfold fe; rw [hS]; rfl
    have e2 : fx x id = ⟨x.bu, x.n, setP x.P k no⟩ := by unfold fx; rw [hS]; rfl
    have hi := h.inv.free_ id
    have hk : k < 16 := by have := h.inv.slo_lt hS; have := h.inv.n16; omega
    have hk2 : (k : Int) < 16 := by omega
    rw [e2] at hi
    rw [e1, e2]
    simp only [hS, Option.getD_some, Option.isSome_some] at k16
    have HW : Hid (∀ W, LX B w0 W b x R → LX B w0 (((W.setCell ⟨b, 2 + k * 3, none⟩ (.bool false)).setCell ⟨b, 2 + k * 3 + 1, none⟩ (.int .i64 0)).setCell ⟨b, 2 + k * 3 + 2, none⟩ (.int .i64 0)) b ⟨x.bu, x.n, setP x.P k no⟩ R) := fun W h => h.turn3 k no hk hi
    have HC : Hid (∀ W, LX B w0 W b x R → (∃ t i m, W.cell? ⟨b, 2 + k * 3, none⟩ = some (.bool t) ∧ W.cell? ⟨b, 2 + k * 3 + 1, none⟩ = some (.int .i64 i) ∧ W.cell? ⟨b, 2 + k * 3 + 2, none⟩ = some (.int .i64 m)) ∧ W.frozen? ⟨b, 2 + k * 3, none⟩ = false ∧ W.frozen? ⟨b, 2 + k * 3 + 1, none⟩ = false ∧ W.frozen? ⟨b, 2 + k * 3 + 2, none⟩ = false) := fun W h => ⟨⟨_, _, _, h.cp hk⟩, h.fr _, h.fr _, h.fr _⟩
    generalize (⟨x.bu, x.n, setP x.P k no⟩ : Lg) = X at *
    clear e1 e2 h hS hi
    go_enter Try.func14, Try.ntmps14
    go_wp2_with (go_at_call 16; refine k16.mono ?_; rintro e w1 ⟨rfl, s⟩; obtain ⟨⟨t, i, m, q1, q2, q3⟩, f1, f2, f3⟩ := HC.out _ s.out)
    go_ret
    exact ⟨rfl, HW.out _ s.out⟩
end
end Go.Proofs.Ytkcbigmccplpiaa
