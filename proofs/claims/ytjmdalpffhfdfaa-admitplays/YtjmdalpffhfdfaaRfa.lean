/- The document's own Admit in memory, and what is asked of it. -/
import Derived.Test.YtjmdalpffhfdfaaObj
import Derived.Deep.RegionHeld3
import Derived.Deep.CutRange
import Derived.Deep.CutBlock
import Derived.BigQuiet
namespace Go.Proofs.Ytjmdalpffhfdfaa
open Go.RowKit
open M
set_option linter.unusedVariables false
set_option linter.unusedSimpArgs false

/-- The document's Admit at block rb; its row is v. -/
structure RM (B : Nat) (w : World) (rb : Nat) (ac qu : Int) (v : Value) (L : List Int) : Prop where
  blk : w.heap[rb]? = some (.cells #[.int .i64 ac, .int .i64 qu, v] 29)
  row : w.ownsRow B 3 1 v L.length (ints L)
  ne : v.ownBlock ≠ some rb

section
variable {B : Nat} {w w' W : World} {rb : Nat} {ac qu : Int} {v v' : Value} {L L' : List Int}
theorem RM.c0 (h : RM B w rb ac qu v L) : w.cell? ⟨rb, 0, none⟩ = some (.int .i64 ac) := by rw [cell_of_row w rb 0 _ _ _ h.blk]; rfl
theorem RM.c1 (h : RM B w rb ac qu v L) : w.cell? ⟨rb, 1, none⟩ = some (.int .i64 qu) := by rw [cell_of_row w rb 1 _ _ _ h.blk]; rfl
theorem RM.c2 (h : RM B w rb ac qu v L) : w.cell? ⟨rb, 2, none⟩ = some v := by rw [cell_of_row w rb 2 _ _ _ h.blk]; rfl
theorem RM.fr (h : RM B w rb ac qu v L) (i : Nat) : w.frozen? ⟨rb, i, none⟩ = false := by simp [World.frozen?, h.blk]
theorem RM.below (h : RM B w rb ac qu v L) (hb : Below w.heap.size w w') : RM B w' rb ac qu v L :=
  ⟨by rw [hb.block rb (block_lt h.blk)]; exact h.blk, owns_below h.row hb, h.ne⟩
theorem RM.form (h : RM B w rb ac qu v L) : ∃ ao c, v = .slice ao L.length c ∧ Rd w ao L c := by
  have h1 := h.row
  obtain ⟨ao, cap, rfl⟩ := own_slice h1
  exact ⟨ao, cap, rfl, own_rd h1⟩
theorem RM.put (h : RM B w rb ac qu v L) (hb : Below w.heap.size w W) (ho : W.ownsRow w.heap.size 3 1 v' L'.length (ints L')) (hB : B ≤ w.heap.size) :
    RM B (W.setCell ⟨rb, 2, none⟩ v') rb ac qu v' L' ∧ Turn (fun k => k = rb) w (W.setCell ⟨rb, 2, none⟩ v') ∧ ∀ k, v'.ownBlock = some k → w.heap.size ≤ k := by
  have hl := block_lt h.blk
  have bt : W.heap[rb]? = some (.cells #[.int .i64 ac, .int .i64 qu, v] 29) := by rw [hb.block rb hl]; exact h.blk
  have hn : ∀ k, v'.ownBlock = some k → w.heap.size ≤ k := fun k hk => (ho.lt k hk).1
  have vt : v'.ownBlock ≠ some rb := fun e => by have := hn _ e; omega
  refine ⟨⟨by rw [heap_setCell_at (o := 2) bt]; rfl, owns_keep (owns_base ho (fun k hk => Nat.le_trans hB (hn k hk))) (fun k hk => Below.heap_setCell _ _ _ _ (fun e => vt (by rw [hk, e]))), vt⟩, (Turn.of_below (F := fun k => k = rb) hb).setCell (p := ⟨rb, 2, none⟩) (.inl rfl) _, hn⟩
end

set_option maxRecDepth 1000000 in
set_option maxHeartbeats 2000000 in
theorem rfind_any {B : Nat} {w : World} {rb : Nat} {ac qu : Int} {v : Value} {L : List Int} (h : RM B w rb ac qu v L) (hl : L.length ≤ 1000000) (y : Int) :
    Calls Try.prog 23 #[ptr rb, .int .i64 y] w fun e w' => e = .returned (.int .i64 (ix L y)) ∧ w' = w := by
  have q2 := h.c2
  obtain ⟨ao, cap, rfl, hr⟩ := h.form
  have HG : Hid (∀ i, i < L.length → ∃ b o x, ao = some ⟨b, o, none⟩ ∧ L[i]? = some x ∧ w.cell? ⟨b, o + i, none⟩ = some (.int .i64 x)) := fun i hi => hr.get hi
  have HF : Hid (∀ k : Nat, L[k]? = some y → (∀ j, j < k → L[j]? ≠ some y) → ix L y = k) := fun k => ix_first
  have HN : Hid ((∀ j, j < L.length → L[j]? ≠ some y) → ix L y = -1) := ix_none
  clear h hr
  generalize ix L y = z at *
  generalize L.length = n at *
  go_enter Try.func23, Try.ntmps23
  go_wp2
  go_loop [5] (fun i => ∃ k : Nat, k ≤ n ∧ i = .int .i64 k ∧ Hid (∀ i, i < k → L[i]? ≠ some y)) (fun i => n - (intOf i).toNat)
  case atStart => exact ⟨0, Nat.zero_le _, rfl, fun i hi => by omega⟩
  case round =>
    obtain ⟨k, hk, rfl, HR⟩ := hrel
    by_cases hlt : k < n
    · obtain ⟨b, o, x, rfl, e1, hcx⟩ := HG.out k hlt
      by_cases hz : x = y
      · subst hz
        have HZ := hide_it (HF.out k e1 HR.out)
        clear e1 HR HF HN HG
        go_wp2
        go_ret
        exact ⟨ret_int HZ.out.symm, rfl⟩
      · have HZ : Hid (∀ i, i < k + 1 → L[i]? ≠ some y) := fun i hi => by
          by_cases e : i = k
          · subst e; rw [e1]; intro q; cases q; exact hz rfl
          · exact HR.out i (by omega)
        have hz' : (x == y) = false := by simp; omega
        clear hz HR e1
        go_wp2
        go_round
        case rel => exact ⟨k + 1, by omega, by go_num, HZ⟩
        case measure => simp [intOf]; omega
    · have HZ := hide_it (HN.out (fun j hj => HR.out j (by omega)))
      clear HG HF HN HR
      go_wp2
      go_ret
      exact ⟨ret_int HZ.out.symm, rfl⟩

set_option maxRecDepth 1000000 in
set_option maxHeartbeats 2000000 in
theorem rsplit_any {B : Nat} {w : World} {rb : Nat} {ac qu : Int} {v : Value} {L : List Int} (h : RM B w rb ac qu v L) (hl : L.length ≤ 1000000) (N : Nat) (hN : (N : Int) = min (L.length : Int) (max ac 1)) :
    Calls Try.prog 20 #[ptr rb] w fun e w' => e = .returned (.int .i64 N) ∧ Hid (Below w.heap.size w w') := by
  have q0 := h.c0
  have q2 := h.c2
  obtain ⟨a0, ha0⟩ : ∃ q, max ac 1 = q := ⟨_, rfl⟩
  have m2 : ∀ ts u W, (Builtin.max_ ts u #[.int .i64 ac, .int .i64 1]).run Try.prog W = .ok (.int .i64 a0) W := fun ts u W => by rw [← ha0]; exact max_num _ _ ts u W
  have m3 : ∀ ts u W, (Builtin.min_ ts u #[.int .i64 L.length, .int .i64 a0]).run Try.prog W = .ok (.int .i64 N) W := fun ts u W => by rw [hN, ha0]; exact min_num _ _ ts u W
  obtain ⟨ao, cap, rfl, hr⟩ := h.form
  have hc1 := hr.1
  have hc2 : cap ≤ 9223372036854775807 := by have := hr.2.1; unfold maxLen at this; omega
  have HB : Hid (∀ j, Below w.heap.size w (w.drewN j)) := fun j => Below.drewN (Below.refl _ _) j
  have HD : Hid (Below w.heap.size w w.drew) := (Below.refl _ _).drew
  clear h hr hN ha0
  generalize L.length = m at *
  go_enter Try.func20, Try.ntmps20
  go_upto_region 1 with fail
  go_region
  all_goals
    go_wp2
    go_ret
    first | exact ⟨rfl, HB.out _⟩ | exact ⟨rfl, HD.out⟩

set_option maxRecDepth 1000000 in
set_option maxHeartbeats 2000000 in
theorem rstate_no {B : Nat} {w : World} {rb : Nat} {ac qu : Int} {v : Value} {L : List Int} (h : RM B w rb ac qu v L) (hl : L.length ≤ 1000000) {y : Int} (hy : ¬ y ∈ L) :
    Calls Try.prog 19 #[ptr rb, .int .i64 y] w fun e w' => e = .returned (.tuple #[.int .i64 0, .bool false]) ∧ Hid (Below w.heap.size w w') := by
  have k := rfind_any h hl y
  rw [ix_not hy] at k
  have HB : Hid (Below w.heap.size w w) := Below.refl _ _
  clear h hy
  go_enter Try.func19, Try.ntmps19
  go_wp2_with (go_at_call 23; refine k.mono ?_; rintro e w' ⟨rfl, rfl⟩)
  go_ret2
  exact ⟨rfl, HB⟩
set_option maxRecDepth 1000000 in
set_option maxHeartbeats 2000000 in
theorem rstate_yes {B : Nat} {w : World} {rb : Nat} {ac qu : Int} {v : Value} {L : List Int} (h : RM B w rb ac qu v L) (hl : L.length ≤ 1000000) {y : Int} {k N : Nat} (hk : ix L y = k) (hN : (N : Int) = min (L.length : Int) (max ac 1)) {s : Int} (hs : s = if k < N then 1 else 0) :
    Calls Try.prog 19 #[ptr rb, .int .i64 y] w fun e w' => e = .returned (.tuple #[.int .i64 s, .bool true]) ∧ Hid (Below w.heap.size w w') := by
  have k1 := rfind_any h hl y
  rw [hk] at k1
  have k2 := rsplit_any h hl N hN
  have z : ((k : Int) < 0) = False := by simp
  clear h hk hN
  by_cases hlt : k < N
  · rw [if_pos hlt] at hs
    subst hs
    have d1 : decide ((N : Int) ≤ (k : Int)) = false := decide_eq_false (by omega)
    have d2 : decide (N ≤ k) = false := decide_eq_false (by omega)
    go_enter Try.func19, Try.ntmps19
    go_wp2_with (first | (go_at_call 23; refine k1.mono ?_; rintro e w' ⟨rfl, e9⟩; have e8 := e9.symm; clear e9; subst e8) | (go_at_call 20; refine k2.mono ?_; rintro e w2 ⟨rfl, s2⟩))
    go_ret2
    exact ⟨rfl, s2⟩
  · rw [if_neg hlt] at hs
    subst hs
    have d1 : decide ((N : Int) ≤ (k : Int)) = true := decide_eq_true (by omega)
    have d2 : decide (N ≤ k) = true := decide_eq_true (by omega)
    go_enter Try.func19, Try.ntmps19
    go_wp2_with (first | (go_at_call 23; refine k1.mono ?_; rintro e w' ⟨rfl, e9⟩; have e8 := e9.symm; clear e9; subst e8) | (go_at_call 20; refine k2.mono ?_; rintro e w2 ⟨rfl, s2⟩))
    go_ret2
    exact ⟨rfl, s2⟩
end Go.Proofs.Ytjmdalpffhfdfaa
