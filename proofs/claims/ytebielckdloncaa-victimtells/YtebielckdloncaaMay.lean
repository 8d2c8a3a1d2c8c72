/- Who may be stopped; memories; room. -/
import Derived.Test.YtebielckdloncaaCmp
import Derived.Deep.CutRange
namespace Go.Proofs.Ytebielckdloncaa
open Go.RowKit
open M
set_option linter.unusedVariables false
set_option linter.unusedSimpArgs false

set_option maxHeartbeats 1000000 in
theorem bounded_any (m : Int) (w : World) : Calls Try.prog 13 #[.int .i64 m] w fun e w' => e = .returned (.int .i64 (bnd m)) ∧ w' = w := by
  have h1 : ∀ (ts : Array TypeId) (t : TypeId) (W : World), (Builtin.max_ ts t #[.int .i64 m, .int .i64 0]).run Try.prog W = .ok (.int .i64 (max m 0)) W := fun ts t W => by
    by_cases h : m < 0
    · simp [Builtin.max_, Builtin.max2, show max m 0 = 0 by omega, h]
    · simp [Builtin.max_, Builtin.max2, show max m 0 = m by omega, h]
  have h2 : ∀ (ts : Array TypeId) (t : TypeId) (W : World), (Builtin.min_ ts t #[.int .i64 (max m 0), .int .i64 1048576]).run Try.prog W = .ok (.int .i64 (bnd m)) W := fun ts t W => by
    unfold bnd
    by_cases h : max m 0 < 1048576
    · simp [Builtin.min_, Builtin.min2, h]; omega
    · simp [Builtin.min_, Builtin.min2, h]; omega
  generalize bnd m = B at *
  generalize max m 0 = A at *
  go_enter Try.func13, Try.ntmps13
  go_wp2
  go_ret
  exact ⟨rfl, rfl⟩

/-- A room at block rb. -/
def RoomAt (w : World) (rb : Nat) (need free : Int) (slot : Bool) : Prop := w.heap[rb]? = some (.cells #[.int .i64 need, .int .i64 free, .bool slot] 40)
section
variable {w : World} {rb : Nat} {need free : Int} {slot : Bool}
theorem RoomAt.c0 (h : RoomAt w rb need free slot) : w.cell? ⟨rb, 0, none⟩ = some (.int .i64 need) := by rw [cell_of_row w rb 0 _ _ _ h]; rfl
theorem RoomAt.c1 (h : RoomAt w rb need free slot) : w.cell? ⟨rb, 1, none⟩ = some (.int .i64 free) := by rw [cell_of_row w rb 1 _ _ _ h]; rfl
theorem RoomAt.c2 (h : RoomAt w rb need free slot) : w.cell? ⟨rb, 2, none⟩ = some (.bool slot) := by rw [cell_of_row w rb 2 _ _ _ h]; rfl
theorem RoomAt.fr (h : RoomAt w rb need free slot) (i : Nat) : w.frozen? ⟨rb, i, none⟩ = false := by simp [World.frozen?, show w.heap[rb]? = _ from h]
end

set_option maxRecDepth 1000000 in
set_option maxHeartbeats 1000000 in
theorem enough_any (rb : Nat) (need free : Int) (slot : Bool) (w : World) (h : RoomAt w rb need free slot) : Calls Try.prog 14 #[ptr rb] w fun e w' => e = .returned (.bool (slot && decide (need ≤ free))) ∧ Below w.heap.size w w' := by
  have c0 := h.c0
  have c1 := h.c1
  have c2 := h.c2
  have mx := mixedT
  cases slot
  · go_enter Try.func14, Try.ntmps14
    go_wp2_with fail
    go_big_region_o
    go_wp2
    go_ret
    exact ⟨rfl, Below.drewN (Below.refl _ _) 1⟩
  · by_cases hq : need ≤ free
    · have hd : decide (need ≤ free) = true := decide_eq_true hq
      go_enter Try.func14, Try.ntmps14
      go_wp2_with fail
      go_big_region_o
      go_wp2
      go_ret
      exact ⟨ret_bool (by simp [hd]), Below.drewN (Below.refl _ _) 1⟩
    · have hd : decide (need ≤ free) = false := decide_eq_false hq
      go_enter Try.func14, Try.ntmps14
      go_wp2_with fail
      go_big_region_o
      go_wp2
      go_ret
      exact ⟨ret_bool (by simp [hd]), Below.drewN (Below.refl _ _) 1⟩

def rV (r : R) : Value := .agg #[.int .i64 r.t, .int .i64 r.p, .int .i64 r.m, .int .i64 r.q, .int .i64 r.s]
set_option maxRecDepth 1000000 in
set_option maxHeartbeats 2000000 in
theorem give_any (rb : Nat) (need free : Int) (slot : Bool) (r : R) (w : World) (h : RoomAt w rb need free slot) (hf0 : 0 ≤ free) (hf1 : free ≤ 1000000000000000) :
    Calls Try.prog 16 #[ptr rb, rV r] w fun e w' => e = .returned (.tuple #[]) ∧ RoomAt w' rb need (free + bnd r.m) true ∧ Turn (fun k => k = rb) w w' := by
  obtain ⟨t, p, m, q, s⟩ := r
  have hb := bnd_lo m
  have hb2 := bnd_hi m
  have hl := block_lt (show w.heap[rb]? = _ from h)
  have hB : Below w.heap.size w (w.alloc (.cells #[.int .i64 t, .int .i64 p, .int .i64 m, .int .i64 q, .int .i64 s] 27)) := (Below.refl _ _).alloc (Nat.le_refl _) _
  have HR : Hid (RoomAt (w.alloc (.cells #[.int .i64 t, .int .i64 p, .int .i64 m, .int .i64 q, .int .i64 s] 27)) rb need free slot) := (hB.block rb hl).trans h
  have ht : Turn (fun k => k = rb) w (w.alloc (.cells #[.int .i64 t, .int .i64 p, .int .i64 m, .int .i64 q, .int .i64 s] 27)) := Turn.of_below hB
  have HQ : ∀ cb, cb = w.heap.size → (w.alloc (.cells #[.int .i64 t, .int .i64 p, .int .i64 m, .int .i64 q, .int .i64 s] 27)).cell? ⟨cb, 2, none⟩ = some (.int .i64 m) ∧ cb ≠ rb := by
    rintro _ rfl; exact ⟨by simp, by omega⟩
  have HQ' : Hid _ := HQ _ rfl
  have HT : Hid _ := ht
  have k := fun W => bounded_any m W
  have mx := mixedT
  unfold rV
  simp only []
  generalize bnd m = B at *
  clear HQ hB ht h hl
  go_enter Try.func16, Try.ntmps16
  go_wp2_with fail
  generalize hcb : w.heap.size = cb at *
  generalize hw1 : w.alloc (.cells #[.int .i64 t, .int .i64 p, .int .i64 m, .int .i64 q, .int .i64 s] 27) = w1 at *
  obtain ⟨q2, hne⟩ := HQ'.out
  have q1 := HR.out.c1
  have f1 := HR.out.fr 1
  clear HQ' hw1 hcb
  have hw : IntKind.i64.wrap (free + B) = free + B := by rw [IntKind.wrap_i64]; omega
  have q2' : ∀ v, (w1.setCell ⟨rb, 1, none⟩ v).drew.cell? ⟨rb, 2, none⟩ = some (.bool slot) := fun v => (World.cell?_setCell_other _ _ _ _ (by intro e'; simp only [Addr.mk.injEq] at e'; omega)).trans HR.out.c2
  have f2' : ∀ v, (w1.setCell ⟨rb, 1, none⟩ v).drew.frozen? ⟨rb, 2, none⟩ = false := fun v => (World.frozen?_setCell _ _ _ _).trans (HR.out.fr 2)
  first | (go_region_with (go_at_call 13; refine (k _).mono ?_; rintro e w' ⟨rfl, rfl⟩)) | fail
  all_goals
    go_wp2
    go_end0
    have h1 : (w1.setCell ⟨rb, 1, none⟩ (.int .i64 (free + B))).heap[rb]? = some (.cells #[.int .i64 need, .int .i64 (free + B), .bool slot] 40) := heap_setCell_at (o := 1) HR.out _
    have h2 := heap_setCell_at (w := (w1.setCell ⟨rb, 1, none⟩ (.int .i64 (free + B))).drew) (o := 2) h1 (.bool true)
    exact ⟨rfl, h2, ((HT.out.setCell (p := ⟨rb, 1, none⟩) (.inl rfl) _).drew).setCell (p := ⟨rb, 2, none⟩) (.inl rfl) _⟩

/-- A claim in memory, as a value. -/
abbrev clV (la : Option Addr) (n cap : Nat) (pr mo : Int) : Value := .agg #[.slice la n cap, .int .i64 pr, .int .i64 mo]
set_option maxRecDepth 1000000 in
set_option maxHeartbeats 2000000 in
theorem may_any (l : List R) (la : Option Addr) (n cap i : Nat) (pr mo : Int) (w : World) (hl : l.length = n) (hR : RunsIn w la l) (hi : i < n) (hn : n ≤ 1000000) :
    Calls Try.prog 19 #[.agg #[.slice la n cap, .int .i64 pr, .int .i64 mo], .int .i64 i] w fun e w' => e = .returned (.bool (mayB pr mo (at' l i))) ∧ Below w.heap.size w w' := by
  have hli : i < l.length := by omega
  obtain ⟨b, o, rfl, hb, a0, a1, a2, a3, a4⟩ := hR i hli
  rw [at_get hli]
  generalize l[i] = x at *
  obtain ⟨xt, xp, xm, xq, xs⟩ := x
  simp only [] at *
  clear hR hl hli
  have hne : ¬ b = w.heap.size := by omega
  have hB : Below w.heap.size w (w.alloc (.cells #[.slice (some ⟨b, o, none⟩) n cap, .int .i64 pr, .int .i64 mo] 42)) := (Below.refl _ _).alloc (Nat.le_refl _) _
  have b0 := (hB.cell (p := ⟨b, _, none⟩) hb).trans a0
  have b1 := (hB.cell (p := ⟨b, _, none⟩) hb).trans a1
  have b2 := (hB.cell (p := ⟨b, _, none⟩) hb).trans a2
  have b3 := (hB.cell (p := ⟨b, _, none⟩) hb).trans a3
  have b4 := (hB.cell (p := ⟨b, _, none⟩) hb).trans a4
  clear a0 a1 a2 a3 a4 hB
  unfold mayB
  simp only []
  by_cases h1 : xp < pr
  · have d1 : decide (xp < pr) = true := decide_eq_true h1
    go_enter Try.func19, Try.ntmps19
    go_wp2
    go_ret
    exact ⟨ret_bool (by simp [d1]), ((Below.refl _ _).alloc (Nat.le_refl _) _).alloc (by simp) _⟩
  · have d1 : decide (xp < pr) = false := decide_eq_false h1
    go_enter Try.func19, Try.ntmps19
    go_wp2
    go_ret
    exact ⟨ret_bool (by simp [d1]), ((Below.refl _ _).alloc (Nat.le_refl _) _).alloc (by simp) _⟩
end Go.Proofs.Ytebielckdloncaa
