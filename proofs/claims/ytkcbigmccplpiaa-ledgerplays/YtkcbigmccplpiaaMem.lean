/- A ledger in memory, and blocks beside it; the places by value. -/
import Derived.Test.YtkcbigmccplpiaaProg
import Derived.Test.YtkcbigmccplpiaaMat
import Derived.WalkKit
import Derived.WalkSpells
import Derived.WalkLawsBesides
import Derived.Below
import Derived.OwnWalk
import Derived.Deep.MidRow
namespace Go.Proofs.Ytkcbigmccplpiaa
open Go.RowKit
open M
set_option linter.unusedVariables false
set_option linter.unusedSimpArgs false

theorem ret_bool {a b : Bool} (h : a = b) : Ending.returned (.bool a) = .returned (.bool b) := by rw [h]
theorem ret_int {k : IntKind} {a b : Int} (h : a = b) : Ending.returned (.int k a) = .returned (.int k b) := by rw [h]
theorem hide_it {p : Prop} (h : p) : Hid p := h
theorem block_lt {w : World} {b : Nat} {o : Obj} (h : w.heap[b]? = some o) : b < w.heap.size := by
  rcases Nat.lt_or_ge b w.heap.size with h' | h'
  · exact h'
  · simp [Array.getElem?_eq_none h'] at h
theorem heap_setCell_at {w : World} {g o : Nat} {cur : Array Value} {t : TypeId} {fr : Nat × Nat} (h : w.heap[g]? = some (.cells cur t fr)) (u : Value) : (w.setCell ⟨g, o, none⟩ u).heap[g]? = some (.cells (cur.setIfInBounds o u) t fr) := by
  simp [World.setCell, Array.getElem?_modify, h]
theorem below_of_eq {w w' : World} (h : w' = w) : Below w.heap.size w w' := by subst h; exact Below.refl _ _
abbrev ptr (g : Nat) : Value := .pointer (some ⟨g, 0, none⟩)

/-- The cells of the places below k. -/
def pc (P : Nat → Pl) : Nat → List Value
  | 0 => []
  | k + 1 => pc P k ++ [.bool (P k).t, .int .i64 (P k).i, .int .i64 (P k).m]
theorem pc_len (P : Nat → Pl) (n : Nat) : (pc P n).length = n * 3 := by
  induction n with
  | zero => rfl
  | succ n ih => simp [pc, ih]; omega
theorem pc_at (P : Nat → Pl) (n k : Nat) (h : k < n) : (pc P n)[k * 3]? = some (.bool (P k).t) ∧ (pc P n)[k * 3 + 1]? = some (.int .i64 (P k).i) ∧ (pc P n)[k * 3 + 2]? = some (.int .i64 (P k).m) := by
  induction n with
  | zero => omega
  | succ n ih =>
    have hl := pc_len P n
    by_cases e : k = n
    · subst e
      refine ⟨?_, ?_, ?_⟩ <;> simp only [pc] <;> rw [List.getElem?_append_right (by omega)]
      · rw [show k * 3 - (pc P k).length = 0 by omega]; rfl
      · rw [show k * 3 + 1 - (pc P k).length = 1 by omega]; rfl
      · rw [show k * 3 + 2 - (pc P k).length = 2 by omega]; rfl
    · obtain ⟨a, b, c⟩ := ih (by omega)
      refine ⟨?_, ?_, ?_⟩ <;> simp only [pc] <;> rw [List.getElem?_append_left (by omega)] <;> assumption
theorem pc_set (P : Nat → Pl) (k : Nat) (p : Pl) (n : Nat) (h : k < n) : (((pc P n).set (k * 3) (.bool p.t)).set (k * 3 + 1) (.int .i64 p.i)).set (k * 3 + 2) (.int .i64 p.m) = pc (setP P k p) n := by
  have out : ∀ n, n ≤ k → pc (setP P k p) n = pc P n := by
    intro n
    induction n with
    | zero => intro _; rfl
    | succ n ih => intro h; simp only [pc]; rw [ih (by omega), setP_other _ _ (by omega)]
  induction n with
  | zero => omega
  | succ n ih =>
    have hl := pc_len P n
    by_cases e : k = n
    · subst e
      simp only [pc]
      rw [out k (Nat.le_refl _), setP_same]
      rw [List.set_append, if_neg (by omega), show k * 3 - (pc P k).length = 0 by omega, List.set_append, if_neg (by omega), show k * 3 + 1 - (pc P k).length = 1 by omega, List.set_append, if_neg (by omega), show k * 3 + 2 - (pc P k).length = 2 by omega]
      rfl
    · simp only [pc]
      rw [List.set_append, if_pos (by omega), List.set_append, if_pos (by simp; omega), List.set_append, if_pos (by simp; omega), ih (by omega), setP_other _ _ (by omega)]
def lc (x : Lg) : List Value := .int .i64 x.bu :: .int .i64 x.n :: pc x.P 16
theorem lc_len (x : Lg) : (lc x).length = 50 := by simp [lc, pc_len]
theorem lc_at (x : Lg) (k : Nat) (h : k < 16) : (lc x)[2 + k * 3]? = some (.bool (x.P k).t) ∧ (lc x)[2 + k * 3 + 1]? = some (.int .i64 (x.P k).i) ∧ (lc x)[2 + k * 3 + 2]? = some (.int .i64 (x.P k).m) := by
  obtain ⟨a, b, c⟩ := pc_at x.P 16 k h
  refine ⟨?_, ?_, ?_⟩
  · rw [show 2 + k * 3 = k * 3 + 1 + 1 by omega]; simpa [lc] using a
  · rw [show 2 + k * 3 + 1 = k * 3 + 1 + 1 + 1 by omega]; simpa [lc] using b
  · rw [show 2 + k * 3 + 2 = k * 3 + 2 + 1 + 1 by omega]; simpa [lc] using c
theorem lc_set (x : Lg) (k : Nat) (p : Pl) (h : k < 16) : ((((lc x).toArray.setIfInBounds (2 + k * 3) (.bool p.t)).setIfInBounds (2 + k * 3 + 1) (.int .i64 p.i)).setIfInBounds (2 + k * 3 + 2) (.int .i64 p.m)) = (lc ⟨x.bu, x.n, setP x.P k p⟩).toArray := by
  simp only [List.setIfInBounds_toArray]
  congr 1
  rw [show 2 + k * 3 + 2 = k * 3 + 2 + 1 + 1 by omega, show 2 + k * 3 + 1 = k * 3 + 1 + 1 + 1 by omega, show 2 + k * 3 = k * 3 + 1 + 1 by omega]
  simp only [lc, List.set_cons_succ]
  rw [pc_set _ _ _ _ h]

/-- The places by value, and one of them. -/
theorem idx_pc (P : Nat → Pl) : ∀ (k : Nat), k < 16 → ∀ w : World, (Instr.index 49 (.agg (pc P 16).toArray) (.int .i64 k)).run Try.prog w = .ok (.agg #[.bool (P k).t, .int .i64 (P k).i, .int .i64 (P k).m]) w
  | 0, _, _ => by kernel_rfl
  | 1, _, _ => by kernel_rfl
  | 2, _, _ => by kernel_rfl
  | 3, _, _ => by kernel_rfl
  | 4, _, _ => by kernel_rfl
  | 5, _, _ => by kernel_rfl
  | 6, _, _ => by kernel_rfl
  | 7, _, _ => by kernel_rfl
  | 8, _, _ => by kernel_rfl
  | 9, _, _ => by kernel_rfl
  | 10, _, _ => by kernel_rfl
  | 11, _, _ => by kernel_rfl
  | 12, _, _ => by kernel_rfl
  | 13, _, _ => by kernel_rfl
  | 14, _, _ => by kernel_rfl
  | 15, _, _ => by kernel_rfl
  | k + 16, h, _ => by omega

/-- The block of a ledger. -/
abbrev blk (x : Lg) : Obj := .cells (lc x).toArray 51
/-- A ledger, and blocks beside it, all among what is new from B on. -/
structure LX (B : Nat) (w0 w : World) (b : Nat) (x : Lg) (R : List (Nat × Obj)) : Prop where
  bel : Below B w0 w
  le : B ≤ b
  lo : B ≤ w0.heap.size
  blk : w.heap[b]? = some (blk x)
  inv : Inv x
  row : ∀ p ∈ R, w.heap[p.1]? = some p.2 ∧ B ≤ p.1 ∧ p.1 ≠ b

section
variable {B : Nat} {w0 w w' : World} {b : Nat} {x : Lg} {R : List (Nat × Obj)}
theorem LX.size (h : LX B w0 w b x R) : B ≤ w.heap.size := Nat.le_trans h.lo h.bel.size
theorem LX.below (h : LX B w0 w b x R) (hb : Below w.heap.size w w') : LX B w0 w' b x R :=
  ⟨h.bel.trans (hb.mono h.size), h.le, h.lo, by rw [hb.block b (block_lt h.blk)]; exact h.blk, h.inv, fun p hp => ⟨by rw [hb.block p.1 (block_lt (h.row p hp).1)]; exact (h.row p hp).1, (h.row p hp).2⟩⟩
theorem LX.drop (h : LX B w0 w b x R) {R' : List (Nat × Obj)} (hr : ∀ p ∈ R', p ∈ R) : LX B w0 w b x R' := ⟨h.bel, h.le, h.lo, h.blk, h.inv, fun p hp => h.row p (hr p hp)⟩
theorem LX.alloc (h : LX B w0 w b x R) (o : Obj) : LX B w0 (w.alloc o) b x ((w.heap.size, o) :: R) := by
  have h1 := h.below (w' := w.alloc o) ((Below.refl _ _).alloc (Nat.le_refl _) _)
  refine ⟨h1.bel, h.le, h.lo, h1.blk, h.inv, fun p hp => ?_⟩
  rcases List.mem_cons.1 hp with q | q
  · subst q
    exact ⟨heap_alloc_new _ _, h.size, fun e => by have := block_lt h.blk; simp at e; omega⟩
  · exact h1.row p q
theorem LX.set (h : LX B w0 w b x R) {r : Nat} {cur : Array Value} {t : TypeId} (hr : (r, Obj.cells cur t) ∈ R) (i : Nat) (u : Value) : LX B w0 (w.setCell ⟨r, i, none⟩ u) b x (R.map fun p => if p.1 = r then (r, .cells (cur.setIfInBounds i u) t) else p) := by
  obtain ⟨q1, q2, q3⟩ := h.row _ hr
  refine ⟨h.bel.setCell q2 u, h.le, h.lo, by rw [Below.heap_setCell _ _ _ _ (fun e => q3 e.symm)]; exact h.blk, h.inv, fun p hp => ?_⟩
  obtain ⟨p', hp', rfl⟩ := List.mem_map.1 hp
  by_cases e : p'.1 = r
  · rw [if_pos e]
    exact ⟨heap_setCell_at q1 u, q2, q3⟩
  · rw [if_neg e]
    obtain ⟨z1, z2, z3⟩ := h.row p' hp'
    exact ⟨by rw [Below.heap_setCell _ _ _ _ e]; exact z1, z2, z3⟩
theorem LX.c0 (h : LX B w0 w b x R) : w.cell? ⟨b, 0, none⟩ = some (.int .i64 x.bu) := by rw [cell_of_row w b 0 _ _ _ h.blk]; rfl
theorem LX.c1 (h : LX B w0 w b x R) : w.cell? ⟨b, 1, none⟩ = some (.int .i64 x.n) := by rw [cell_of_row w b 1 _ _ _ h.blk]; rfl
theorem LX.cp (h : LX B w0 w b x R) {k : Nat} (hk : k < 16) : w.cell? ⟨b, 2 + k * 3, none⟩ = some (.bool (x.P k).t) ∧ w.cell? ⟨b, 2 + k * 3 + 1, none⟩ = some (.int .i64 (x.P k).i) ∧ w.cell? ⟨b, 2 + k * 3 + 2, none⟩ = some (.int .i64 (x.P k).m) := by
  obtain ⟨p, q, r⟩ := lc_at x k hk
  exact ⟨by rw [cell_of_row w b _ _ _ _ h.blk, List.getElem?_toArray]; exact p, by rw [cell_of_row w b _ _ _ _ h.blk, List.getElem?_toArray]; exact q, by rw [cell_of_row w b _ _ _ _ h.blk, List.getElem?_toArray]; exact r⟩
theorem LX.fr (h : LX B w0 w b x R) (i : Nat) : w.frozen? ⟨b, i, none⟩ = false := by
  have := h.blk
  simp [World.frozen?, this]
/-- The places, loaded all at once. -/
theorem LX.load (h : LX B w0 w b x R) : (Instr.loadAt 49 (.pointer (some ⟨b, 2, none⟩))).run Try.prog w = .ok (.agg (pc x.P 16).toArray) w := by
  refine run_loadAt_mid w b 2 49 (pc x.P 16) _ (fun j v hv => ?_) Try.underlying49 rfl (by rw [pc_len]; kernel_rfl)
  rw [cell_of_row w b _ _ _ _ h.blk, List.getElem?_toArray]
  rw [show 2 + j = j + 1 + 1 by omega]
  simpa [lc] using hv
/-- One place alone has turned. -/
theorem LX.turn3 (h : LX B w0 w b x R) (k : Nat) (p : Pl) (hk : k < 16) (hy : Inv ⟨x.bu, x.n, setP x.P k p⟩) : LX B w0 (((w.setCell ⟨b, 2 + k * 3, none⟩ (.bool p.t)).setCell ⟨b, 2 + k * 3 + 1, none⟩ (.int .i64 p.i)).setCell ⟨b, 2 + k * 3 + 2, none⟩ (.int .i64 p.m)) b ⟨x.bu, x.n, setP x.P k p⟩ R := by
  refine ⟨((h.bel.setCell h.le _).setCell h.le _).setCell h.le _, h.le, h.lo, ?_, hy, fun q hq => ?_⟩
  · rw [heap_setCell_at (heap_setCell_at (heap_setCell_at h.blk _) _) _, lc_set _ _ _ hk]
  · obtain ⟨z1, z2, z3⟩ := h.row q hq
    exact ⟨by rw [Below.heap_setCell _ _ _ _ z3, Below.heap_setCell _ _ _ _ z3, Below.heap_setCell _ _ _ _ z3]; exact z1, z2, z3⟩
end
/-- The places loaded all at once, as a walk meets it. -/
theorem wpList_load49 {ops : Array Oper} {rest : List Oper} {op : Oper} {a : Act} {w : World} {Q : Exit → Act → World → Prop} (hgd : op.guard = none) (x : Operand) (ho : op.op = .load 49 x) {b : Nat} (hx : a.eval x = .pointer (some ⟨b, 2, none⟩)) {A : Array Value}
    (kl : (Instr.loadAt 49 (.pointer (some ⟨b, 2, none⟩))).run Try.prog w = .ok (.agg A) w) (h : wpList Try.prog ops Q rest (a.put op.dst (.agg A)) w) : wpList Try.prog ops Q (op :: rest) a w :=
  wpList_plain hgd fun K hK => by
    unfold Oper.wp execOp
    simp only [ho, hx, Sem.run_bind, Sem.run_pure, kl, Result.andThen_ok]
    exact hK _ _ h
end Go.Proofs.Ytkcbigmccplpiaa
