/- What is asked of a ledger: Used, Slots, Slot, lowest. -/
import Derived.Test.YtkcbigmccplpiaaMem
import Derived.Deep.RegionHeld3
import Derived.BigQuiet
namespace Go.Proofs.Ytkcbigmccplpiaa
open Go.RowKit
open M
set_option linter.unusedVariables false
set_option linter.unusedSimpArgs false

section
variable {B : Nat} {w0 w : World} {b : Nat} {x : Lg} {R : List (Nat × Obj)}
set_option maxRecDepth 1000000 in
set_option maxHeartbeats 2000000 in
theorem used_any (h : LX B w0 w b x R) : Calls Try.prog 18 #[ptr b] w fun e w' => e = .returned (.int .i64 (us x.P 16)) ∧ Hid (LX B w0 w' b x R) := by
  have kl := h.load
  obtain ⟨A, hA⟩ : ∃ A, (pc x.P 16).toArray = A := ⟨_, rfl⟩
  have HK : Hid (∀ k, k < 16 → ∃ (t : Bool) (i m : Int), us x.P (k + 1) = us x.P k + m ∧ (0 ≤ us x.P k ∧ 0 ≤ m ∧ us x.P k + m ≤ 9223372036854775807) ∧ ∀ W, (Instr.index 49 (.agg A) (.int .i64 k)).run Try.prog W = .ok (.agg #[.bool t, .int .i64 i, .int .i64 m]) W) := fun k hk => by
    have h1 := h.inv.usP (k := k) (by omega)
    have h2 := h.inv.usP (k := k + 1) (by omega)
    have h3 := h.inv.bM
    refine ⟨(x.P k).t, (x.P k).i, (x.P k).m, rfl, ⟨h1.1, h.inv.m0 k, ?_⟩, fun W => ?_⟩
    · have : us x.P (k + 1) = us x.P k + (x.P k).m := rfl
      omega
    · rw [← hA]; exact idx_pc x.P k hk W
  have H0 : us x.P 0 = 0 := rfl
  have H := hide_it h
  rw [hA] at kl
  have KL := hide_it kl
  clear h hA kl
  generalize us x.P = U at *
  go_enter Try.func18, Try.ntmps18
  go_wp2_with (refine wpList_load49 rfl (.tmp 8) rfl rfl KL.out ?_)
  go_loopw [10, 3] (fun kv uv W => ∃ (k : Nat), k ≤ 16 ∧ kv = .int .i64 k ∧ uv = .int .i64 (U k) ∧ Hid (Below w.heap.size w W)) (fun kv _ _ => 16 - (intOf kv).toNat)
  case atStart => exact ⟨0, by omega, rfl, by rw [H0], Below.refl _ _⟩
  case round =>
    obtain ⟨k, hk, rfl, rfl, hb⟩ := hrel
    by_cases hlt : k < 16
    · obtain ⟨t, i, m, e, ⟨hm0, hm1, hm2⟩, ki⟩ := HK.out k hlt
      obtain ⟨u, hu⟩ : ∃ u, U k = u := ⟨_, rfl⟩
      rw [hu] at e hm0 hm2 ⊢
      have HE := hide_it e
      clear e hu
      have hs := hb.out.size
      go_wp2
      go_roundw
      case rel => exact ⟨k + 1, by omega, by go_num, by rw [HE.out], hb.out.alloc hs _⟩
      case measure => simp [intOf]; omega
    · have : k = 16 := by omega
      subst this
      go_wp2
      go_ret
      exact ⟨rfl, H.out.below hb.out⟩

set_option maxRecDepth 1000000 in
set_option maxHeartbeats 2000000 in
theorem slots_any (h : LX B w0 w b x R) : Calls Try.prog 21 #[ptr b] w fun e w' => e = .returned (.int .i64 (free x)) ∧ Hid (LX B w0 w' b x R) := by
  have kl := h.load
  have q1 := h.c1
  obtain ⟨A, hA⟩ : ∃ A, (pc x.P 16).toArray = A := ⟨_, rfl⟩
  have HK : Hid (∀ k, k < 16 → ∃ (t : Bool) (i m : Int), tk x.P (k + 1) = tk x.P k + (if t then 1 else 0) ∧ tk x.P k ≤ 16 ∧ ∀ W, (Instr.index 49 (.agg A) (.int .i64 k)).run Try.prog W = .ok (.agg #[.bool t, .int .i64 i, .int .i64 m]) W) := fun k hk => by
    refine ⟨(x.P k).t, (x.P k).i, (x.P k).m, rfl, by have := tk_le x.P k; omega, fun W => ?_⟩
    rw [← hA]; exact idx_pc x.P k hk W
  have H0 : tk x.P 0 = 0 := rfl
  have hn := h.inv.n16
  have H := hide_it h
  rw [hA] at kl
  have KL := hide_it kl
  have HF : Hid (free x = (x.n : Int) - tk x.P 16) := rfl
  clear h hA kl
  generalize tk x.P = U at *
  generalize free x = F at *
  go_enter Try.func21, Try.ntmps21
  go_wp2_with (refine wpList_load49 rfl (.tmp 12) rfl rfl KL.out ?_)
  go_loopw [14, 3] (fun kv uv W => ∃ (k : Nat) (u : Int), k ≤ 16 ∧ kv = .int .i64 k ∧ uv = .int .i64 u ∧ u = (x.n : Int) - U k ∧ Hid (Below w.heap.size w W)) (fun kv _ _ => 16 - (intOf kv).toNat)
  case atStart => exact ⟨0, _, by omega, rfl, rfl, by rw [H0]; simp, Below.refl _ _⟩
  case round =>
    obtain ⟨k, u, hk, rfl, rfl, hu, hb⟩ := hrel
    by_cases hlt : k < 16
    · obtain ⟨t, i, m, e, hm, ki⟩ := HK.out k hlt
      have hs := hb.out.size
      have hu1 : -100 ≤ u ∧ u ≤ 100 := by omega
      have HE := hide_it e
      have HU := hide_it hu
      clear e hu hm
      cases t with
      | true =>
        go_wp2
        go_roundw
        case rel => exact ⟨k + 1, u - 1, by omega, by go_num, by go_num, by have := HE.out; have := HU.out; simp at *; omega, hb.out.alloc hs _⟩
        case measure => simp [intOf]; omega
      | false =>
        go_wp2
        go_roundw
        case rel => exact ⟨k + 1, u, by omega, by go_num, by go_num, by have := HE.out; have := HU.out; simp at *; omega, hb.out.alloc hs _⟩
        case measure => simp [intOf]; omega
    · have : k = 16 := by omega
      subst this
      have e : u = F := by rw [hu, HF.out]
      subst e
      go_wp2
      go_ret
      exact ⟨rfl, H.out.below hb.out⟩

set_option maxRecDepth 1000000 in
set_option maxHeartbeats 2000000 in
theorem slot_any (h : LX B w0 w b x R) (id : Int) : Calls Try.prog 16 #[ptr b, .int .i64 id] w fun e w' => e = .returned (.tuple #[.int .i64 ((slo x id).getD 0 : Nat), .bool (slo x id).isSome]) ∧ Hid (LX B w0 w' b x R) := by
  have kl := h.load
  obtain ⟨A, hA⟩ : ∃ A, (pc x.P 16).toArray = A := ⟨_, rfl⟩
  obtain ⟨q, hq⟩ : ∃ q, hasI x id = q := ⟨_, rfl⟩
  obtain ⟨o, ho⟩ : ∃ o, slo x id = o := ⟨_, rfl⟩
  have HK : Hid (∀ k, k < 16 → ∃ (t : Bool) (i m : Int), q k = (t && (i == id)) ∧ ∀ W, (Instr.index 49 (.agg A) (.int .i64 k)).run Try.prog W = .ok (.agg #[.bool t, .int .i64 i, .int .i64 m]) W) := fun k hk => by
    refine ⟨(x.P k).t, (x.P k).i, (x.P k).m, by rw [← hq]; rfl, fun W => ?_⟩
    rw [← hA]; exact idx_pc x.P k hk W
  have H1 : Hid (∀ k, k < 16 → q k = true → (∀ j, j < k → q j = false) → o = some k) := fun k a1 a2 a3 => by
    rw [← ho]; unfold slo; rw [hq]; exact low1_some.2 ⟨a1, a2, a3⟩
  have H2 : Hid ((∀ j, j < 16 → q j = false) → o = none) := fun a1 => by
    rw [← ho]; unfold slo; rw [hq]; exact low1_none.2 a1
  have H := hide_it h
  rw [hA] at kl
  rw [ho]
  have KL := hide_it kl
  clear h hA kl hq ho
  go_enter Try.func16, Try.ntmps16
  go_wp2_with (refine wpList_load49 rfl (.tmp 10) rfl rfl KL.out ?_)
  go_loopw [12] (fun kv W => ∃ (k : Nat), k ≤ 16 ∧ kv = .int .i64 k ∧ Hid (∀ j, j < k → q j = false) ∧ Hid (Below w.heap.size w W)) (fun kv _ => 16 - (intOf kv).toNat)
  case atStart => exact ⟨0, by omega, rfl, fun j hj => by omega, Below.refl _ _⟩
  case round =>
    obtain ⟨k, hk, rfl, HR, hb⟩ := hrel
    by_cases hlt : k < 16
    · obtain ⟨t, i, m, e, ki⟩ := HK.out k hlt
      have hs := hb.out.size
      have HE := hide_it e
      clear e
      cases t with
      | true =>
        by_cases hi : i = id
        · have d : (i == id) = true := by simp [hi]
          go_wp2
          go_ret2
          rw [H1.out k hlt (by rw [HE.out, d]; rfl) HR.out]
          exact ⟨rfl, H.out.below (hb.out.alloc hs _)⟩
        · have d : (i == id) = false := by simp [hi]
          go_wp2
          go_roundw
          case rel =>
            refine ⟨k + 1, by omega, by go_num, fun j hj => ?_, hb.out.alloc hs _⟩
            by_cases e : j = k
            · subst e; rw [HE.out, d]; rfl
            · exact HR.out j (by omega)
          case measure => simp [intOf]; omega
      | false =>
        go_wp2
        go_roundw
        case rel =>
          refine ⟨k + 1, by omega, by go_num, fun j hj => ?_, hb.out.alloc hs _⟩
          by_cases e : j = k
          · subst e; rw [HE.out]; rfl
          · exact HR.out j (by omega)
        case measure => simp [intOf]; omega
    · have : k = 16 := by omega
      subst this
      go_wp2
      go_ret2
      rw [H2.out HR.out]
      exact ⟨rfl, H.out.below hb.out⟩

set_option maxRecDepth 1000000 in
set_option maxHeartbeats 2000000 in
theorem lowest_any (h : LX B w0 w b x R) : Calls Try.prog 25 #[ptr b] w fun e w' => e = .returned (.tuple #[.int .i64 ((low x).getD 0 : Nat), .bool (low x).isSome]) ∧ w' = w := by
  have q1 := h.c1
  have hn := h.inv.n16
  obtain ⟨n, hnn⟩ : ∃ n, x.n = n := ⟨_, rfl⟩
  obtain ⟨o, ho⟩ : ∃ o, low x = o := ⟨_, rfl⟩
  have HK : Hid (∀ k, k < n → ∃ (t : Bool), w.cell? ⟨b, 2 + k * 3, none⟩ = some (.bool t) ∧ (x.P k).t = t) := fun k hk => ⟨_, (h.cp (k := k) (by omega)).1, rfl⟩
  have H1 : Hid (∀ k, k < n → (x.P k).t = false → (∀ j, j < k → (x.P j).t = true) → o = some k) := fun k a1 a2 a3 => by
    rw [← ho]; unfold low; exact low1_some.2 ⟨by omega, by simp [a2], fun j hj => by simp [a3 j hj]⟩
  have H2 : Hid ((∀ j, j < n → (x.P j).t = true) → o = none) := fun a1 => by
    rw [← ho]; unfold low; exact low1_none.2 (fun j hj => by simp [a1 j (by omega)])
  rw [ho]
  rw [hnn] at q1 hn
  clear h ho hnn
  go_enter Try.func25, Try.ntmps25
  go_wp2
  go_loop [9] (fun kv => ∃ (k : Nat), k ≤ n ∧ kv = .int .i64 k ∧ Hid (∀ j, j < k → (x.P j).t = true)) (fun kv => n - (intOf kv).toNat)
  case atStart => exact ⟨0, by omega, rfl, fun j hj => by omega⟩
  case round =>
    obtain ⟨k, hk, rfl, HR⟩ := hrel
    by_cases hlt : k < n
    · obtain ⟨t, c, e⟩ := HK.out k hlt
      have HE := hide_it e
      clear e
      cases t with
      | false =>
        go_wp2
        go_ret2
        rw [H1.out k hlt HE.out HR.out]
        exact ⟨rfl, rfl⟩
      | true =>
        go_wp2
        go_round
        case rel =>
          refine ⟨k + 1, by omega, by go_num, fun j hj => ?_⟩
          by_cases e : j = k
          · subst e; exact HE.out
          · exact HR.out j (by omega)
        case measure => simp [intOf]; omega
    · have : k = n := by omega
      subst this
      go_wp2
      go_ret2
      rw [H2.out HR.out]
      exact ⟨rfl, rfl⟩
end
end Go.Proofs.Ytkcbigmccplpiaa
