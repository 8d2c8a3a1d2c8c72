/- GraphReaches: what it holds; where there is no such task. -/
import Derived.Test.YtcbgjdlkihepcaaDoorApR
import Derived.Test.YtcbgjdlkihepcaaDoorBot
namespace Go.Proofs.YtcbgjdlkihepcaaDoor
open Go.RowKit
open M
set_option linter.unusedVariables false
set_option linter.unusedSimpArgs false

def seenRow (p : Nat → Bool) : Array Value := ((List.range 64).map fun i => Value.bool (p i)).toArray
theorem seenRow_at (p : Nat → Bool) (i : Nat) (h : i < 64) : (seenRow p)[i]? = some (.bool (p i)) := by simp [seenRow, h]
theorem seenRow_set (p : Nat → Bool) (j : Nat) (hj : j < 64) : (seenRow p).setIfInBounds j (.bool true) = seenRow (fun i => p i || decide (i = j)) := by
  obtain ⟨q, hq⟩ : ∃ q : Nat → Bool, (fun i => p i || decide (i = j)) = q := ⟨_, rfl⟩
  rw [hq]
  apply Array.ext
  · simp [seenRow]
  · intro i h1 h2
    have hi : i < 64 := by simpa [seenRow] using h2
    have e2 : (seenRow q)[i] = .bool (q i) := by
      have := seenRow_at q i hi
      rw [Array.getElem?_eq_getElem h2] at this
      exact Option.some.inj this
    refine Eq.trans ?_ e2.symm
    rw [Array.getElem_setIfInBounds (by simpa using h1), ← hq]
    by_cases he : j = i
    · subst he; simp
    · have e3 := seenRow_at p i hi
      rw [Array.getElem?_eq_getElem (by simpa using h1)] at e3
      have e4 : ¬ i = j := fun e => he e.symm
      simp only [he, if_false, e4, decide_false, Bool.or_false]
      exact Option.some.inj e3
theorem seenRow_new : seenRow (fun _ => false) = Array.replicate 64 (.bool false) := by
  simp [seenRow]
  rfl

/-- A graph, and an array of which tasks were seen. -/
structure RB (T : TypeId) (B S : Nat) (w0 W : World) (g eb n : Nat) (v : Value) (es : List E) (sb : Nat) (p : Nat → Bool) : Prop where
  q1 : Q1 B S w0 W g eb n v es
  sle : S ≤ sb
  blk : W.heap[sb]? = some (.cells (seenRow p) T)
section
variable {T : TypeId} {B S : Nat} {w0 W w' : World} {g eb n : Nat} {v : Value} {es : List E} {sb : Nat} {p : Nat → Bool}
theorem RB.step (h : RB T B S w0 W g eb n v es sb p) (hb : Below W.heap.size W w') : RB T B S w0 w' g eb n v es sb p := by
  have hq : QR B S w0 w' g eb n v es [] := QR.step (l := []) ⟨h.q1, fun t ht => by simp at ht⟩ hb
  exact ⟨hq.1, h.sle, by rw [hb.block sb (block_lt h.blk)]; exact h.blk⟩
theorem RB.cell (h : RB T B S w0 W g eb n v es sb p) (i : Nat) (hi : i < 64) : W.cell? ⟨sb, i, none⟩ = some (.bool (p i)) := by
  rw [cell_of_row W sb i _ _ _ h.blk]; exact seenRow_at p i hi
theorem RB.fro (h : RB T B S w0 W g eb n v es sb p) (i : Nat) : W.frozen? ⟨sb, i, none⟩ = false := by simp [World.frozen?, h.blk]
theorem RB.set (h : RB T B S w0 W g eb n v es sb p) (j : Nat) (hj : j < 64) : RB T B S w0 (W.setCell ⟨sb, j, none⟩ (.bool true)) g eb n v es sb (fun i => p i || decide (i = j)) := by
  have hq := h.q1
  have hbs := hq.bs
  have hle := hq.le
  have hs := h.sle
  refine ⟨⟨hq.bel.setCell (by show B ≤ sb; omega) _, hq.gm.keep (fun k hk => Below.heap_setCell _ _ _ _ (by have := (hq.gB k hk).2; show k ≠ sb; omega)), hq.gB, ?_, hq.pos, hbs, by simpa [World.setCell] using hle⟩, hs, ?_⟩
  · intro k hk
    have hp := hq.pos
    rw [World.cell?_of_block (w := W) (Below.heap_setCell _ _ _ _ (by show 0 ≠ sb; omega))]
    exact hq.tab k hk
  · rw [heap_setCell_at h.blk, seenRow_set p j hj]
theorem RB.out (h : RB T B S w0 W g eb n v es sb p) (hle : es.length ≤ 1000000) (a : Int) (L : List Nat) (q : Nat) (hL : outs es a = L) (hq : L.length = q) :
    Calls Tryd.prog 20 #[ptr g, .int .i64 a] W fun e w' => ∃ ao cap, e = .returned (.slice ao q cap) ∧ Hid (RB T B S w0 w' g eb n v es sb p ∧ IC w' ao L) := by
  refine (out_any h.q1.gm a hle).mono ?_
  rintro e w' ⟨u, rfl, ho, hb⟩
  rw [hL] at ho
  obtain ⟨ao, cap, he, hc⟩ := own_iat ho
  subst hq
  exact ⟨ao, cap, by rw [he], h.step hb, hc⟩
theorem RB.ins (h : RB T B S w0 W g eb n v es sb p) (hle : es.length ≤ 1000000) (a : Int) (L : List Nat) (q : Nat) (hL : ins es a = L) (hq : L.length = q) :
    Calls Tryd.prog 22 #[ptr g, .int .i64 a] W fun e w' => ∃ ao cap, e = .returned (.slice ao q cap) ∧ Hid (RB T B S w0 w' g eb n v es sb p ∧ IC w' ao L) := by
  refine (in_any h.q1.gm a hle).mono ?_
  rintro e w' ⟨u, rfl, ho, hb⟩
  rw [hL] at ho
  obtain ⟨ao, cap, he, hc⟩ := own_iat ho
  subst hq
  exact ⟨ao, cap, by rw [he], h.step hb, hc⟩
theorem RB.reach (h : RB T B S w0 W g eb n v es sb p) (a : Int) (L : List Nat) (q : Nat) (hL : reachL n es a = L) (hq : L.length = q) :
    Calls Tryd.prog 24 #[ptr g, .int .i64 a] W fun e w' => ∃ ao cap, e = .returned (.slice ao q cap) ∧ Hid (RB T B S w0 w' g eb n v es sb p ∧ OwnI w' (sb + 1) (.slice ao q cap) L) := by
  have hlt := block_lt h.blk
  refine (reach_any h.q1.gm h.q1.tab (Nat.lt_of_lt_of_le h.q1.pos (Nat.le_trans h.q1.bs h.q1.le)) a).mono ?_
  rintro e w' ⟨u, rfl, ho, hb⟩
  rw [hL] at ho
  obtain ⟨ao, cap, he, hc⟩ := own_iat ho
  subst hq he
  exact ⟨ao, cap, rfl, h.step hb, owns_base ho (fun k hk => by have := (ho.lt k hk).1; omega)⟩
theorem RB.reaches (h : RB T B S w0 W g eb n v es sb p) (a b : Int) (R : Bool) (hR : reachB n es a b = R) :
    Calls Tryd.prog 26 #[ptr g, .int .i64 a, .int .i64 b] W fun e w' => e = .returned (.bool R) ∧ Hid (RB T B S w0 w' g eb n v es sb p) := by
  refine (reaches_any h.q1.gm h.q1.tab (Nat.lt_of_lt_of_le h.q1.pos (Nat.le_trans h.q1.bs h.q1.le)) a b).mono ?_
  rintro e w' ⟨rfl, hb⟩
  exact ⟨by rw [hR], h.step hb⟩
theorem RB.num (h : RB T B S w0 W g eb n v es sb p) : Calls Tryd.prog 16 #[ptr g] W fun e w' => e = .returned (.int .i64 n) ∧ w' = W := n_any g eb n W h.q1.gm.hn h.q1.gm.c1
end

/-- The row that Reach tells. -/
theorem reach_row {n : Nat} {es : List E} {A : Nat} (hA : A < n) (hn : n ≤ 64) (hg : ∀ e ∈ es, e.1 < n ∧ e.2 < n) :
    (∀ x, x ∈ rise (rset es A) ↔ Rch es A x) ∧ (∀ x, Rch es A x → x < n) ∧ (rise (rset es A)).Pairwise (· < ·) ∧ (rise (rset es A)).length ≤ 64 := by
  have hlt : ∀ x, Rch es A x → x < n := fun x hx => hx.closed (fun x => x < n) hA (fun x y _ he => (hg _ he).2)
  refine ⟨fun x => ?_, hlt, rise_sorted _, rise_len _⟩
  rw [rise_mem _ _ (rset_lt _ _)]
  by_cases hx : x < 64
  · rw [rset_bit _ _ _ hx, rB_iff]
  · constructor
    · intro h; exact absurd (bit_lt (rset_lt _ _) h) hx
    · intro h; have := hlt x h; omega

theorem mem_take_succ (R : List Nat) (k : Nat) (h : k < R.length) (i : Nat) : decide (i ∈ R.take (k + 1)) = (decide (i ∈ R.take k) || decide (i = R[k])) := by
  rw [List.take_succ_eq_append_getElem h]
  by_cases e : i = R[k]
  · simp only [List.mem_append, List.mem_singleton, e, or_true, decide_true, Bool.or_true]
  · simp only [List.mem_append, List.mem_singleton, e, or_false, decide_false, Bool.or_false]

/-- From whom one came, so far. -/
def fromB (p : Nat → Bool) (a x : Nat) (l : List Nat) : Bool := decide (x = a) || l.any (fun y => p y && decide (y ≠ x))
theorem fromB_take (p : Nat → Bool) (a x : Nat) (l : List Nat) (j : Nat) (h : j < l.length) : fromB p a x (l.take (j + 1)) = (fromB p a x (l.take j) || (p l[j] && decide (l[j] ≠ x))) := by
  unfold fromB
  rw [List.take_succ_eq_append_getElem h, List.any_append]
  simp [Bool.or_assoc]
theorem fromB_ok {es : List E} {p : Nat → Bool} {A x : Nat} (hp : ∀ y, p y = true ↔ Rch es A y) (h : p x = true) : fromB p A x (ins es x) = true := by
  unfold fromB
  rcases ((hp x).1 h).last with rfl | ⟨c, hc, hr, he⟩
  · simp
  · rw [Bool.or_eq_true, List.any_eq_true]
    right
    exact ⟨c, (ins_mem es c x).2 he, by simp [hc, (hp c).2 hr]⟩

set_option maxRecDepth 1000000 in
set_option maxHeartbeats 4000000 in
theorem reaches_off (n a : Int) (ls : List (Int × Int)) (la : Option Addr) (lc : Nat) (w : World) (hT : Tab w) (h0 : 0 < w.heap.size) (hl : LIn w la ls) (hm : ls.length ≤ maxLen) (hoff : offB (sz n) a = true) :
    Calls Tryd.prog 4 #[.int .i64 n, .slice la ls.length lc, .int .i64 a] w fun e w' => e = .returned (.bool true) ∧ Below w.heap.size w w' := by
  have kS := shown_b hT h0 (Below.refl _ w)
  have kM := fun w1 (hb : Below w.heap.size w w1) => made_sc hT h0 hb n ls la lc hl hm ls.length (sz n) _ rfl rfl rfl
  generalize foldE (sz n) (ls.take 200) [] = es at *
  generalize sz n = N at *
  generalize ls.length = m at *
  have kR : ∀ W g eb, Sc w.heap.size w W g eb N es → Calls Tryd.prog 24 #[ptr g, .int .i64 a] W fun e w' => ∃ ao cap, e = .returned (.slice ao 0 cap) ∧ Hid (Sc w.heap.size w w' g eb N es) := fun W g eb h => by
    refine (h.reach a [] (by unfold reachL; rw [if_pos hoff])).mono ?_
    rintro e w' ⟨u, rfl, ho⟩
    obtain ⟨ao, cap, he, hc⟩ := own_iat ho.out.2
    exact ⟨ao, cap, by rw [he]; rfl, ho.out.1⟩
  have kn : ∀ W g eb, Sc w.heap.size w W g eb N es → Calls Tryd.prog 16 #[ptr g] W fun e w' => e = .returned (.int .i64 N) ∧ w' = W := fun W g eb h => h.num
  have ho : a < 0 ∨ (N : Int) ≤ a := by simpa [offB] using hoff
  clear hl hT hm hoff
  by_cases ha : a < 0
  · clear ho
    go_enter Tryd.func4, Tryd.ntmps4
    go_wp2_with (first | (go_at_call 10; refine kS.mono ?_; rintro e w1 ⟨rfl, hb1⟩) | (go_at_call 28; refine (kM _ hb1.out).mono ?_; rintro e w2 ⟨g, eb, rfl, s⟩) | (go_at_call 24; refine (kR _ _ _ s.out).mono ?_; rintro e w3 ⟨ao, cap, rfl, s⟩))
    go_ret
    exact ⟨rfl, s.out.bel⟩
  · have ha2 : decide (a < 0) = false := by simpa using ha
    have ha3 : (N : Int) ≤ a := by omega
    clear ho
    go_enter Tryd.func4, Tryd.ntmps4
    go_wp2_with (first | (go_at_call 10; refine kS.mono ?_; rintro e w1 ⟨rfl, hb1⟩) | (go_at_call 28; refine (kM _ hb1.out).mono ?_; rintro e w2 ⟨g, eb, rfl, s⟩) | (go_at_call 16; refine (kn _ _ _ s.out).mono ?_; rintro e w4 ⟨rfl, rfl⟩) | (go_at_call 24; refine (kR _ _ _ s.out).mono ?_; rintro e w3 ⟨ao, cap, rfl, s⟩))
    go_ret
    exact ⟨rfl, s.out.bel⟩
end Go.Proofs.YtcbgjdlkihepcaaDoor
