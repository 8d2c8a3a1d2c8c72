/- A life in memory, and blocks beside it; slices.Contains; what is asked of a life. -/
import Derived.Test.YtjdgndbdoceifaaProg
import Derived.Test.YtjdgndbdoceifaaMat
import Derived.WalkKit
import Derived.WalkSpells
import Derived.WalkLawsBesides
import Derived.Below
import Derived.OwnWalk
namespace Go.Proofs.Ytjdgndbdoceifaa
open Go.RowKit
open M
set_option linter.unusedVariables false
set_option linter.unusedSimpArgs false

theorem ret_bool {a b : Bool} (h : a = b) : Ending.returned (.bool a) = .returned (.bool b) := by rw [h]
theorem ret_int {k : IntKind} {a b : Int} (h : a = b) : Ending.returned (.int k a) = .returned (.int k b) := by rw [h]
theorem hide_it {p : Prop} (h : p) : Hid p := h
theorem block_lt {w : World} {b : Nat} {o : Obj} (h : w.heap[b]? = some o) : b < w.heap.size := by
  rcases Nat.lt_or_ge b w.heap.size with h' | h'
  · exact h'
  · simp [Array.getElem?_eq_none h'] at h
theorem heap_setCell_at {w : World} {g o : Nat} {cur : Array Value} {t : TypeId} {fr : Nat × Nat} (h : w.heap[g]? = some (.cells cur t fr)) (u : Value) : (w.setCell ⟨g, o, none⟩ u).heap[g]? = some (.cells (cur.setIfInBounds o u) t fr) := by
  simp [World.setCell, Array.getElem?_modify, h]
theorem below_of_eq {w w' : World} (h : w' = w) : Below w.heap.size w w' := by subst h; exact Below.refl _ _
abbrev ptr (g : Nat) : Value := .pointer (some ⟨g, 0, none⟩)

/-- The block of a life. -/
abbrev blk (T P : Int) (x : Lf) : Obj := .cells #[.int .i64 x.s, .int .i64 x.e, .int .i64 x.m, .int .i64 x.p, .int .i64 T, .int .i64 P] 43
/-- A life, and blocks beside it, all among what is new from B on. -/
structure LX (B : Nat) (w0 w : World) (b : Nat) (T P : Int) (x : Lf) (R : List (Nat × Obj)) : Prop where
  bel : Below B w0 w
  le : B ≤ b
  lo : B ≤ w0.heap.size
  blk : w.heap[b]? = some (blk T P x)
  inv : Inv T P x
  row : ∀ p ∈ R, w.heap[p.1]? = some p.2 ∧ B ≤ p.1 ∧ p.1 ≠ b

section
variable {B : Nat} {w0 w w' : World} {b : Nat} {T P : Int} {x : Lf} {R : List (Nat × Obj)}
theorem LX.size (h : LX B w0 w b T P x R) : B ≤ w.heap.size := Nat.le_trans h.lo h.bel.size
theorem LX.below (h : LX B w0 w b T P x R) (hb : Below w.heap.size w w') : LX B w0 w' b T P x R :=
  ⟨h.bel.trans (hb.mono h.size), h.le, h.lo, by rw [hb.block b (block_lt h.blk)]; exact h.blk, h.inv, fun p hp => ⟨by rw [hb.block p.1 (block_lt (h.row p hp).1)]; exact (h.row p hp).1, (h.row p hp).2⟩⟩
theorem LX.drop (h : LX B w0 w b T P x R) {R' : List (Nat × Obj)} (hr : ∀ p ∈ R', p ∈ R) : LX B w0 w b T P x R' := ⟨h.bel, h.le, h.lo, h.blk, h.inv, fun p hp => h.row p (hr p hp)⟩
theorem LX.alloc (h : LX B w0 w b T P x R) (o : Obj) : LX B w0 (w.alloc o) b T P x ((w.heap.size, o) :: R) := by
  have h1 := h.below (w' := w.alloc o) ((Below.refl _ _).alloc (Nat.le_refl _) _)
  refine ⟨h1.bel, h.le, h.lo, h1.blk, h.inv, fun p hp => ?_⟩
  rcases List.mem_cons.1 hp with q | q
  · subst q
    exact ⟨heap_alloc_new _ _, h.size, fun e => by have := block_lt h.blk; simp at e; omega⟩
  · exact h1.row p q
theorem LX.set (h : LX B w0 w b T P x R) {r : Nat} {cur : Array Value} {t : TypeId} (hr : (r, Obj.cells cur t) ∈ R) (i : Nat) (u : Value) : LX B w0 (w.setCell ⟨r, i, none⟩ u) b T P x (R.map fun p => if p.1 = r then (r, .cells (cur.setIfInBounds i u) t) else p) := by
  obtain ⟨q1, q2, q3⟩ := h.row _ hr
  refine ⟨h.bel.setCell q2 u, h.le, h.lo, by rw [Below.heap_setCell _ _ _ _ (fun e => q3 e.symm)]; exact h.blk, h.inv, fun p hp => ?_⟩
  obtain ⟨p', hp', rfl⟩ := List.mem_map.1 hp
  by_cases e : p'.1 = r
  · rw [if_pos e]
    exact ⟨heap_setCell_at q1 u, q2, q3⟩
  · rw [if_neg e]
    obtain ⟨z1, z2, z3⟩ := h.row p' hp'
    exact ⟨by rw [Below.heap_setCell _ _ _ _ e]; exact z1, z2, z3⟩
theorem LX.cells (h : LX B w0 w b T P x R) : w.cell? ⟨b, 0, none⟩ = some (.int .i64 x.s) ∧ w.cell? ⟨b, 1, none⟩ = some (.int .i64 x.e) ∧ w.cell? ⟨b, 2, none⟩ = some (.int .i64 x.m) ∧ w.cell? ⟨b, 3, none⟩ = some (.int .i64 x.p) ∧ w.cell? ⟨b, 4, none⟩ = some (.int .i64 T) ∧ w.cell? ⟨b, 5, none⟩ = some (.int .i64 P) :=
  ⟨by rw [cell_of_row w b 0 _ _ _ h.blk]; rfl, by rw [cell_of_row w b 1 _ _ _ h.blk]; rfl, by rw [cell_of_row w b 2 _ _ _ h.blk]; rfl, by rw [cell_of_row w b 3 _ _ _ h.blk]; rfl, by rw [cell_of_row w b 4 _ _ _ h.blk]; rfl, by rw [cell_of_row w b 5 _ _ _ h.blk]; rfl⟩
theorem LX.free (h : LX B w0 w b T P x R) (i : Nat) : w.frozen? ⟨b, i, none⟩ = false := by
  have := h.blk
  simp [World.frozen?, this]
/-- The life alone has turned. -/
theorem LX.turn (h : LX B w0 w b T P x R) (i : Nat) (u : Value) {y : Lf} (hy : Inv T P y) (e : (#[Value.int .i64 x.s, .int .i64 x.e, .int .i64 x.m, .int .i64 x.p, .int .i64 T, .int .i64 P] : Array Value).setIfInBounds i u = #[.int .i64 y.s, .int .i64 y.e, .int .i64 y.m, .int .i64 y.p, .int .i64 T, .int .i64 P]) : LX B w0 (w.setCell ⟨b, i, none⟩ u) b T P y R := by
  refine ⟨h.bel.setCell h.le u, h.le, h.lo, ?_, hy, fun p hp => ?_⟩
  · rw [heap_setCell_at h.blk u, e]
  · obtain ⟨z1, z2, z3⟩ := h.row p hp
    exact ⟨by rw [Below.heap_setCell _ _ _ _ z3]; exact z1, z2, z3⟩
end

set_option maxRecDepth 1000000 in
set_option maxHeartbeats 2000000 in
/-- slices.Index: none below 0, else at it. -/
theorem index_any (r n : Nat) (f : Nat → Int) (y : Int) (w : World) (hn : n ≤ 64) (hx : ∀ i, i < n → w.cell? ⟨r, i, none⟩ = some (.int .i64 (f i))) :
    Calls Try.prog 36 #[.slice (some ⟨r, 0, none⟩) n n, .int .i64 y] w fun e w' => (∃ z : Int, e = .returned (.int .i64 z) ∧ Hid ((z = -1 ∧ ∀ i, i < n → f i ≠ y) ∨ ∃ k : Nat, z = k ∧ k < n ∧ f k = y)) ∧ w' = w := by
  go_enter Try.func36, Try.ntmps36
  go_wp2
  go_loop [8] (fun i => ∃ k : Nat, k ≤ n ∧ i = .int .i64 k ∧ Hid (∀ i, i < k → f i ≠ y)) (fun i => n - (intOf i).toNat)
  case atStart => exact ⟨0, Nat.zero_le _, rfl, fun i hi => by omega⟩
  case round =>
    obtain ⟨k, hk, rfl, HR⟩ := hrel
    by_cases hlt : k < n
    · have hcx := hx k hlt
      clear hx
      by_cases hz : f k = y
      · have HZ : Hid (((k : Int) = -1 ∧ ∀ i, i < n → f i ≠ y) ∨ ∃ k' : Nat, (k : Int) = k' ∧ k' < n ∧ f k' = y) := .inr ⟨k, rfl, hlt, hz⟩
        rw [hz] at hcx
        clear hz HR
        go_wp2
        go_ret
        exact ⟨⟨_, rfl, HZ⟩, rfl⟩
      · have HZ : Hid (∀ i, i < k + 1 → f i ≠ y) := fun i hi => by
          by_cases e : i = k
          · subst e; exact hz
          · exact HR.out i (by omega)
        have hz' : (y == f k) = false := by simp; omega
        generalize f k = u at *
        clear hz HR
        go_wp2
        go_round
        case rel => exact ⟨k + 1, by omega, by go_num, HZ⟩
        case measure => simp [intOf]; omega
    · clear hx
      go_wp2
      go_ret
      exact ⟨⟨_, rfl, .inl ⟨rfl, fun i hi => HR.out i (by omega)⟩⟩, rfl⟩

set_option maxRecDepth 1000000 in
set_option maxHeartbeats 2000000 in
theorem contains_any (r n : Nat) (f : Nat → Int) (y : Int) (w : World) (hn : n ≤ 64) (hx : ∀ i, i < n → w.cell? ⟨r, i, none⟩ = some (.int .i64 (f i))) (c : Bool) (hc : c = true ↔ ∃ i, i < n ∧ f i = y) :
    Calls Try.prog 35 #[.slice (some ⟨r, 0, none⟩) n n, .int .i64 y] w fun e w' => e = .returned (.bool c) ∧ w' = w := by
  have k : Calls Try.prog 36 #[.slice (some ⟨r, 0, none⟩) n n, .int .i64 y] w fun e w' => (∃ z : Int, e = .returned (.int .i64 z) ∧ decide (0 ≤ z) = c) ∧ w' = w := (index_any r n f y w hn hx).mono (by
    rintro e w' ⟨⟨z, rfl, h⟩, rfl⟩
    refine ⟨⟨z, rfl, ?_⟩, rfl⟩
    rcases h.out with ⟨rfl, g⟩ | ⟨k, rfl, h1, h2⟩
    · cases c with
      | false => rfl
      | true => obtain ⟨i, h1, h2⟩ := hc.1 rfl; exact absurd h2 (g i h1)
    · rw [hc.2 ⟨k, h1, h2⟩]; simp)
  clear hx hc
  go_enter Try.func35, Try.ntmps35
  go_wp2_with (go_at_call 36; refine k.mono ?_; rintro e w' ⟨⟨z, rfl, hz⟩, rfl⟩)
  go_ret
  exact ⟨rfl, rfl⟩

section
variable {B : Nat} {w0 w : World} {b : Nat} {T P : Int} {x : Lf} {R : List (Nat × Obj)}
set_option maxRecDepth 1000000 in
set_option maxHeartbeats 2000000 in
theorem is_any (h : LX B w0 w b T P x R) (r n : Nat) (f : Nat → Int) (hn : n ≤ 64) (hx : ∀ i, i < n → w.cell? ⟨r, i, none⟩ = some (.int .i64 (f i))) (c : Bool) (hc : c = true ↔ ∃ i, i < n ∧ f i = x.s) :
    Calls Try.prog 32 #[ptr b, .slice (some ⟨r, 0, none⟩) n n] w fun e w' => e = .returned (.bool c) ∧ w' = w := by
  have k := contains_any r n f x.s w hn hx c hc
  have c0 := h.cells.1
  clear hx hc h
  go_enter Try.func32, Try.ntmps32
  go_wp2_with (go_at_call 35; refine k.mono ?_; rintro e w' ⟨rfl, rfl⟩)
  go_ret
  exact ⟨rfl, rfl⟩
set_option maxRecDepth 1000000 in
set_option maxHeartbeats 2000000 in
theorem become_any (h : LX B w0 w b T P x R) (r n : Nat) (f : Nat → Int) (y : Nat) (hn : n ≤ 64) (hx : ∀ i, i < n → w.cell? ⟨r, i, none⟩ = some (.int .i64 (f i))) (c : Bool) (hc : c = true ↔ ∃ i, i < n ∧ f i = x.s) :
    Calls Try.prog 33 #[ptr b, .int .i64 y, .slice (some ⟨r, 0, none⟩) n n] w fun e w' => e = .returned (.int .i64 (if c then 0 else 8)) ∧ w' = (if c then w.setCell ⟨b, 0, none⟩ (.int .i64 y) else w) := by
  have k := is_any h r n f hn hx c hc
  have c0 := h.cells.1
  have f0 := h.free 0
  clear hx hc h
  cases c with
  | true =>
    go_enter Try.func33, Try.ntmps33
    go_wp2_with (go_at_call 32; refine k.mono ?_; rintro e w' ⟨rfl, rfl⟩)
    go_ret
    exact ⟨rfl, rfl⟩
  | false =>
    go_enter Try.func33, Try.ntmps33
    go_wp2_with (go_at_call 32; refine k.mono ?_; rintro e w' ⟨rfl, rfl⟩)
    go_ret
    exact ⟨rfl, rfl⟩
set_option maxRecDepth 1000000 in
set_option maxHeartbeats 2000000 in
theorem counted_any (w : World) (b j v er : Nat) (hv : v ≤ 1000000) (hc : w.cell? ⟨b, j, none⟩ = some (.int .i64 v)) (hf : w.frozen? ⟨b, j, none⟩ = false) :
    Calls Try.prog 34 #[ptr b, .pointer (some ⟨b, j, none⟩), .int .i64 er] w fun e w' => e = .returned (.int .i64 er) ∧ w' = (if er = 0 then w.setCell ⟨b, j, none⟩ (.int .i64 (v + 1 : Nat)) else w) := by
  by_cases h0 : er = 0
  · subst h0
    go_enter Try.func34, Try.ntmps34
    go_wp2
    go_ret
    exact ⟨rfl, rfl⟩
  · have h1 : ((er : Int) == 0) = false := by simp; omega
    have h2 : (er == 0) = false := by simp; omega
    go_enter Try.func34, Try.ntmps34
    go_wp2
    go_ret
    exact ⟨rfl, rfl⟩
end
end Go.Proofs.Ytjdgndbdoceifaa
