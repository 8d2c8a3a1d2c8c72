/- Several heaps, and rows of one's own beside them. -/
import Derived.Test.YtpcjaleogeoabaaOne
namespace Go.Proofs.Ytpcjaleogeoabaa
open Go.RowKit
open M
set_option linter.unusedVariables false
set_option linter.unusedSimpArgs false

abbrev Hp := Nat × Nat × (Nat → Option Int)
/-- Heaps (their blocks, of how many ids, what they have) and blocks beside them, all among what is new from B on, apart from each other. -/
structure MF (F : Nat → Nat → Prop) (B : Nat) (w0 w : World) (hs : List Hp) (R : List (Nat × Obj)) : Prop where
  bel : Below B w0 w
  le : B ≤ w0.heap.size
  ho : ∀ i h, hs[i]? = some h → HO w (F i) h.1 h.2.1 h.2.2
  bnd : ∀ i k, F i k → B ≤ k ∧ k < w.heap.size
  dis : ∀ i j k, i ≠ j → F i k → ¬ F j k
  row : ∀ p ∈ R, w.heap[p.1]? = some p.2 ∧ B ≤ p.1 ∧ ∀ i, ¬ F i p.1
def MX (B : Nat) (w0 w : World) (hs : List Hp) (R : List (Nat × Obj)) : Prop := ∃ F, MF F B w0 w hs R

section
variable {B : Nat} {w0 w w' : World} {hs : List Hp} {R : List (Nat × Obj)}
theorem MX.bel (h : MX B w0 w hs R) : Below B w0 w := by obtain ⟨F, h⟩ := h; exact h.bel
theorem MX.size (h : MX B w0 w hs R) : B ≤ w.heap.size := by obtain ⟨F, h⟩ := h; exact Nat.le_trans h.le h.bel.size
theorem MX.row (h : MX B w0 w hs R) {r : Nat} {o : Obj} (hr : (r, o) ∈ R) : w.heap[r]? = some o := by obtain ⟨F, h⟩ := h; exact (h.row _ hr).1
theorem MX.below (h : MX B w0 w hs R) (hb : Below w.heap.size w w') : MX B w0 w' hs R := by
  obtain ⟨F, h⟩ := h
  have hs1 := hb.size
  exact ⟨F, h.bel.trans (hb.mono (Nat.le_trans h.le h.bel.size)), h.le, fun i x hx => (h.ho i x hx).below hb, fun i k hk => ⟨(h.bnd i k hk).1, Nat.lt_of_lt_of_le (h.bnd i k hk).2 hs1⟩, h.dis, fun p hp => ⟨by rw [hb.block p.1 (block_lt (h.row p hp).1)]; exact (h.row p hp).1, (h.row p hp).2⟩⟩
theorem MX.drop (h : MX B w0 w hs R) {R' : List (Nat × Obj)} (hr : ∀ p ∈ R', p ∈ R) : MX B w0 w hs R' := by
  obtain ⟨F, h⟩ := h
  exact ⟨F, h.bel, h.le, h.ho, h.bnd, h.dis, fun p hp => h.row p (hr p hp)⟩
theorem mx_start (hb : Below B w0 w) (hle : B ≤ w0.heap.size) : MX B w0 w [] [] := ⟨fun _ _ => False, hb, hle, fun i h hx => by simp at hx, fun _ _ q => q.elim, fun _ _ _ _ q => q.elim, fun p hp => by simp at hp⟩
theorem MX.alloc (h : MX B w0 w hs R) (o : Obj) : MX B w0 (w.alloc o) hs ((w.heap.size, o) :: R) := by
  have hz := h.size
  obtain ⟨F, h1⟩ := h.below (w' := w.alloc o) ((Below.refl _ _).alloc (Nat.le_refl _) _)
  obtain ⟨G, h0⟩ := h
  refine ⟨G, h1.bel, h0.le, fun i x hx => (h0.ho i x hx).below ((Below.refl _ _).alloc (Nat.le_refl _) _), fun i k hk => ⟨(h0.bnd i k hk).1, by have := (h0.bnd i k hk).2; simp; omega⟩, h0.dis, fun p hp => ?_⟩
  rcases List.mem_cons.1 hp with q | q
  · subst q
    exact ⟨heap_alloc_new _ _, hz, fun i hf => by have := (h0.bnd i _ hf).2; simp at this⟩
  · obtain ⟨q1, q2, q3⟩ := h0.row p q
    exact ⟨by rw [Below.heap_alloc _ _ _ (block_lt q1)]; exact q1, q2, q3⟩
/-- A call that turns the i-th heap alone. -/
theorem MX.next {F : Nat → Nat → Prop} (h : MF F B w0 w hs R) {i : Nat} {g n : Nat} {S S' : Nat → Option Int} (hi : hs[i]? = some (g, n, S)) (h1 : HO w' (Grow (F i) w w') g n S') (t : Turn (F i) w w') : MX B w0 w' (hs.set i (g, n, S')) R := by
  have hlt : i < hs.length := by
    rcases Nat.lt_or_ge i hs.length with q | q
    · exact q
    · rw [List.getElem?_eq_none q] at hi; cases hi
  have hz := Nat.le_trans h.le h.bel.size
  refine ⟨fun j => if j = i then Grow (F i) w w' else F j, h.bel.trans (t.below hz (fun k hk => (h.bnd i k hk).1)), h.le, fun j x hx => ?_, fun j k hk => ?_, fun j l k hne hj hl => ?_, fun p hp => ?_⟩
  · by_cases e : j = i
    · subst e
      rw [List.getElem?_set_self hlt] at hx
      cases hx
      simp only [if_true]
      exact h1
    · rw [List.getElem?_set_ne (fun q => e q.symm)] at hx
      simp only [e, if_false]
      exact (h.ho j x hx).turn t (fun k hk => h.dis j i k e hk)
  · have hs1 := t.size
    by_cases e : j = i
    · subst e
      simp only [if_true] at hk
      rcases hk with q | q
      · have := h.bnd j k q; omega
      · omega
    · simp only [e, if_false] at hk
      have := h.bnd j k hk; omega
  · by_cases e : j = i
    · subst e
      have e2 : ¬ l = j := fun q => hne q.symm
      simp only [if_true] at hj
      simp only [e2, if_false] at hl
      have := h.bnd l k hl
      rcases hj with q | q
      · exact h.dis j l k hne q hl
      · omega
    · simp only [e, if_false] at hj
      by_cases e2 : l = i
      · subst e2
        simp only [if_true] at hl
        have := h.bnd j k hj
        rcases hl with q | q
        · exact h.dis j l k hne hj q
        · omega
      · simp only [e2, if_false] at hl
        exact h.dis j l k hne hj hl
  · obtain ⟨q1, q2, q3⟩ := h.row p hp
    refine ⟨by rw [t.block p.1 (block_lt q1) (q3 i)]; exact q1, q2, fun j hf => ?_⟩
    by_cases e : j = i
    · subst e
      simp only [if_true] at hf
      rcases hf with q | q
      · exact q3 j q
      · have := block_lt q1; omega
    · simp only [e, if_false] at hf
      exact q3 j hf
theorem MX.op (h : MX B w0 w hs R) {i : Nat} {g n : Nat} {S S' : Nat → Option Int} (hi : hs[i]? = some (g, n, S)) {fn : Nat} {args : Array Value} {E : Ending}
    (k : ∀ F, HO w F g n S → Calls Try.prog fn args w fun e w' => e = E ∧ HO w' (Grow F w w') g n S' ∧ Turn F w w') : Calls Try.prog fn args w fun e w' => e = E ∧ Hid (MX B w0 w' (hs.set i (g, n, S')) R) := by
  obtain ⟨F, h⟩ := h
  refine (k (F i) (h.ho i _ hi)).mono ?_
  rintro e w' ⟨rfl, h1, h2⟩
  exact ⟨rfl, MX.next h hi h1 h2⟩
theorem MX.ask (h : MX B w0 w hs R) {i : Nat} {g n : Nat} {S : Nat → Option Int} (hi : hs[i]? = some (g, n, S)) {fn : Nat} {args : Array Value} {E : Ending}
    (k : ∀ F, HO w F g n S → Calls Try.prog fn args w fun e w' => e = E ∧ Below w.heap.size w w') : Calls Try.prog fn args w fun e w' => e = E ∧ Hid (MX B w0 w' hs R) := by
  have h' := h
  obtain ⟨F, h⟩ := h
  refine (k (F i) (h.ho i _ hi)).mono ?_
  rintro e w' ⟨rfl, h1⟩
  exact ⟨rfl, h'.below h1⟩
theorem below_of_eq {w w' : World} (h : w' = w) : Below w.heap.size w w' := by subst h; exact Below.refl _ _
theorem MX.push (h : MX B w0 w hs R) (i : Nat) {g n : Nat} {S : Nat → Option Int} (hi : hs[i]? = some (g, n, S)) (id key : Int) : Calls Try.prog 13 #[ptr g, .int .i64 id, .int .i64 key] w fun e w' => e = .returned (.int .i64 (pushE n S id)) ∧ Hid (MX B w0 w' (hs.set i (g, n, pushS n S id key)) R) := h.op hi (fun F q => push_any q id key)
theorem MX.lower (h : MX B w0 w hs R) (i : Nat) {g n : Nat} {S : Nat → Option Int} (hi : hs[i]? = some (g, n, S)) (id key : Int) : Calls Try.prog 15 #[ptr g, .int .i64 id, .int .i64 key] w fun e w' => e = .returned (.int .i64 (lowE n S id key)) ∧ Hid (MX B w0 w' (hs.set i (g, n, lowS n S id key)) R) := h.op hi (fun F q => lower_any q id key)
theorem MX.remove (h : MX B w0 w hs R) (i : Nat) {g n : Nat} {S : Nat → Option Int} (hi : hs[i]? = some (g, n, S)) (id : Int) : Calls Try.prog 17 #[ptr g, .int .i64 id] w fun e w' => e = .returned (.tuple #[.int .i64 (keyV n S id), .int .i64 (remE n S id)]) ∧ Hid (MX B w0 w' (hs.set i (g, n, remS n S id)) R) := h.op hi (fun F q => remove_any q id)
theorem MX.pop (h : MX B w0 w hs R) (i : Nat) {g n : Nat} {S : Nat → Option Int} (hi : hs[i]? = some (g, n, S)) {x : Nat} {y : Int} (hf : Fst n S x y) : Calls Try.prog 19 #[ptr g] w fun e w' => e = .returned (.tuple #[.int .i64 x, .int .i64 y, .bool true]) ∧ Hid (MX B w0 w' (hs.set i (g, n, upS S x none)) R) := h.op hi (fun F q => pop_some q hf)
theorem MX.pop0 (h : MX B w0 w hs R) (i : Nat) {g n : Nat} {S : Nat → Option Int} (hi : hs[i]? = some (g, n, S)) (hf : Emp n S) : Calls Try.prog 19 #[ptr g] w fun e w' => e = .returned (.tuple #[.int .i64 0, .int .i64 0, .bool false]) ∧ Hid (MX B w0 w' hs R) := h.ask hi (fun F q => (pop_none q hf).mono (fun e w' z => ⟨z.1, below_of_eq z.2⟩))
theorem MX.first (h : MX B w0 w hs R) (i : Nat) {g n : Nat} {S : Nat → Option Int} (hi : hs[i]? = some (g, n, S)) {x : Nat} {y : Int} (hf : Fst n S x y) : Calls Try.prog 21 #[ptr g] w fun e w' => e = .returned (.tuple #[.int .i64 x, .int .i64 y, .bool true]) ∧ Hid (MX B w0 w' hs R) := h.ask hi (fun F q => first_some q hf)
theorem MX.first0 (h : MX B w0 w hs R) (i : Nat) {g n : Nat} {S : Nat → Option Int} (hi : hs[i]? = some (g, n, S)) (hf : Emp n S) : Calls Try.prog 21 #[ptr g] w fun e w' => e = .returned (.tuple #[.int .i64 0, .int .i64 0, .bool false]) ∧ Hid (MX B w0 w' hs R) := h.ask hi (fun F q => (first_none q hf).mono (fun e w' z => ⟨z.1, below_of_eq z.2⟩))
theorem MX.len (h : MX B w0 w hs R) (i : Nat) {g n : Nat} {S : Nat → Option Int} (hi : hs[i]? = some (g, n, S)) : Calls Try.prog 26 #[ptr g] w fun e w' => e = .returned (.int .i64 (M.cnt (fun x => (S x).isSome) n : Nat)) ∧ w' = w := by obtain ⟨F, h⟩ := h; exact len_any (h.ho i _ hi)
theorem MX.has (h : MX B w0 w hs R) (i : Nat) {g n : Nat} {S : Nat → Option Int} (hi : hs[i]? = some (g, n, S)) (id : Int) : Calls Try.prog 25 #[ptr g, .int .i64 id] w fun e w' => e = .returned (.bool (hasB n S id)) ∧ w' = w := by obtain ⟨F, h⟩ := h; exact has_any (h.ho i _ hi) id
theorem MX.key (h : MX B w0 w hs R) (i : Nat) {g n : Nat} {S : Nat → Option Int} (hi : hs[i]? = some (g, n, S)) (id : Int) : Calls Try.prog 23 #[ptr g, .int .i64 id] w fun e w' => e = .returned (.tuple #[.int .i64 (keyV n S id), .bool (hasB n S id)]) ∧ w' = w := by obtain ⟨F, h⟩ := h; exact key_any (h.ho i _ hi) id
theorem MX.cases (h : MX B w0 w hs R) (i : Nat) {g n : Nat} {S : Nat → Option Int} (hi : hs[i]? = some (g, n, S)) : Emp n S ∨ ∃ x y, Fst n S x y := by obtain ⟨F, h⟩ := h; exact (h.ho i _ hi).cases
theorem MX.hn (h : MX B w0 w hs R) (i : Nat) {g n : Nat} {S : Nat → Option Int} (hi : hs[i]? = some (g, n, S)) : n ≤ 65536 := by obtain ⟨F, h⟩ := h; exact (h.ho i _ hi).hn
theorem MX.congr (h : MX B w0 w hs R) (i : Nat) {g n : Nat} {S S' : Nat → Option Int} (hi : hs[i]? = some (g, n, S)) (hS : ∀ x, x < n → S' x = S x) : MX B w0 w (hs.set i (g, n, S')) R := by
  obtain ⟨F, h⟩ := h
  refine ⟨F, h.bel, h.le, fun j x hx => ?_, h.bnd, h.dis, h.row⟩
  have hlt : i < hs.length := by
    rcases Nat.lt_or_ge i hs.length with q | q
    · exact q
    · rw [List.getElem?_eq_none q] at hi; cases hi
  by_cases e : j = i
  · subst e
    rw [List.getElem?_set_self hlt] at hx
    cases hx
    exact (h.ho j _ hi).congr hS
  · rw [List.getElem?_set_ne (fun q => e q.symm)] at hx
    exact h.ho j x hx
theorem MX.new (h : MX B w0 w hs R) (n : Int) : Calls Try.prog 12 #[.int .i64 n] w fun e w' => ∃ g, e = .returned (ptr g) ∧ Hid (MX B w0 w' (hs ++ [(g, hsz n, fun _ => none)]) R) := by
  refine (new_any n w).mono ?_
  rintro e w' ⟨g, rfl, h1, h2⟩
  refine ⟨g, rfl, ?_⟩
  have hz := h.size
  obtain ⟨F, h⟩ := h
  have hs1 := h2.size
  refine ⟨fun j k => (j = hs.length ∧ Span w w' k) ∨ (j ≠ hs.length ∧ F j k), h.bel.trans (h2.mono hz), h.le, fun j x hx => ?_, fun j k hk => ?_, fun j l k hne hj hl => ?_, fun p hp => ?_⟩
  · by_cases e : j = hs.length
    · subst e
      rw [List.getElem?_append_right (Nat.le_refl _)] at hx
      simp at hx
      subst hx
      exact h1.mono (fun k _ hk => .inl ⟨rfl, hk⟩)
    · have hl : j < hs.length := by
        rcases Nat.lt_or_ge j hs.length with q | q
        · exact q
        · rw [List.getElem?_eq_none (by simp; omega)] at hx; cases hx
      rw [List.getElem?_append_left hl] at hx
      exact ((h.ho j x hx).below h2).mono (fun k _ hk => .inr ⟨e, hk⟩)
  · rcases hk with ⟨_, q⟩ | ⟨_, q⟩
    · have := q.1; have := q.2; omega
    · have := h.bnd j k q; omega
  · rcases hj with ⟨e1, q1⟩ | ⟨e1, q1⟩
    · rcases hl with ⟨e2, q2⟩ | ⟨e2, q2⟩
      · omega
      · have := h.bnd l k q2; have := q1.1; omega
    · rcases hl with ⟨e2, q2⟩ | ⟨e2, q2⟩
      · have := h.bnd j k q1; have := q2.1; omega
      · exact h.dis j l k hne q1 q2
  · obtain ⟨q1, q2, q3⟩ := h.row p hp
    have hl := block_lt q1
    refine ⟨by rw [h2.block p.1 hl]; exact q1, q2, fun j hf => ?_⟩
    rcases hf with ⟨_, q⟩ | ⟨_, q⟩
    · have := q.1; omega
    · exact q3 j q
/-- A store into a block beside the heaps. -/
theorem MX.set (h : MX B w0 w hs R) {r : Nat} {cur : Array Value} {t : TypeId} (hr : (r, Obj.cells cur t) ∈ R) (i : Nat) (u : Value) : MX B w0 (w.setCell ⟨r, i, none⟩ u) hs (R.map fun p => if p.1 = r then (r, .cells (cur.setIfInBounds i u) t) else p) := by
  obtain ⟨F, h⟩ := h
  obtain ⟨q1, q2, q3⟩ := h.row _ hr
  have ht : Turn (fun k => k = r) w (w.setCell ⟨r, i, none⟩ u) := (Turn.refl (fun k => k = r) w).setCell (p := ⟨r, i, none⟩) (.inl rfl) u
  have hz : (w.setCell ⟨r, i, none⟩ u).heap.size = w.heap.size := by simp [World.setCell]
  refine ⟨F, h.bel.trans (ht.below (Nat.le_trans h.le h.bel.size) (fun k hk => by rw [hk]; exact q2)), h.le, fun j x hx => (h.ho j x hx).turn ht (fun k hk e => by rw [e] at hk; exact q3 j hk), fun j k hk => by rw [hz]; exact h.bnd j k hk, h.dis, fun p hp => ?_⟩
  obtain ⟨p', hp', rfl⟩ := List.mem_map.1 hp
  by_cases e : p'.1 = r
  · rw [if_pos e]
    exact ⟨heap_setCell_at q1 u, q2, q3⟩
  · rw [if_neg e]
    obtain ⟨z1, z2, z3⟩ := h.row p' hp'
    exact ⟨by rw [Below.heap_setCell _ _ _ _ e]; exact z1, z2, z3⟩
end
end Go.Proofs.Ytpcjaleogeoabaa
