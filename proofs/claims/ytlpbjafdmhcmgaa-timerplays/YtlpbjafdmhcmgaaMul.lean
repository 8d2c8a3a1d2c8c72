/- Several timers, and rows of one's own beside them. -/
import Derived.Test.YtlpbjafdmhcmgaaDuA
namespace Go.Proofs.Ytlpbjafdmhcmgaa
open Go.RowKit
open M
set_option linter.unusedVariables false
set_option linter.unusedSimpArgs false

/-- A timer: its block, its heap's block, of how many ids, what it has. -/
abbrev Hp := Nat × Nat × Nat × (Nat → Option Int)
/-- Timers and blocks beside them, all among what is new from B on, apart from each other. -/
structure MF (F : Nat → Nat → Prop) (B : Nat) (w0 w : World) (hs : List Hp) (R : List (Nat × Obj)) : Prop where
  bel : Below B w0 w
  le : B ≤ w0.heap.size
  ho : ∀ i h, hs[i]? = some h → TO w (F i) h.1 h.2.1 h.2.2.1 h.2.2.2
  bnd : ∀ i k, F i k → B ≤ k ∧ k < w.heap.size
  dis : ∀ i j k, i ≠ j → F i k → ¬ F j k
  row : ∀ p ∈ R, w.heap[p.1]? = some p.2 ∧ B ≤ p.1 ∧ ∀ i, ¬ F i p.1
def MX (B : Nat) (w0 w : World) (hs : List Hp) (R : List (Nat × Obj)) : Prop := ∃ F, MF F B w0 w hs R

section
variable {B : Nat} {w0 w w' : World} {hs : List Hp} {R : List (Nat × Obj)}
theorem MX.bel (h : MX B w0 w hs R) : Below B w0 w := by obtain ⟨F, h⟩ := h; exact h.bel
theorem MX.size (h : MX B w0 w hs R) : B ≤ w.heap.size := by obtain ⟨F, h⟩ := h; exact Nat.le_trans h.le h.bel.size
theorem MX.row (h : MX B w0 w hs R) {r : Nat} {o : Obj} (hr : (r, o) ∈ R) : w.heap[r]? = some o := by obtain ⟨F, h⟩ := h; exact (h.row _ hr).1
theorem MX.below (h : MX B w0 w hs R) (hb : Below w.heap.size w w') : MX B w0 w' hs R := by
  obtain ⟨F, h⟩ := h
  have hs1 := hb.size
  exact ⟨F, h.bel.trans (hb.mono (Nat.le_trans h.le h.bel.size)), h.le, fun i x hx => (h.ho i x hx).below hb, fun i k hk => ⟨(h.bnd i k hk).1, Nat.lt_of_lt_of_le (h.bnd i k hk).2 hs1⟩, h.dis, fun p hp => ⟨by rw [hb.block p.1 (block_lt (h.row p hp).1)]; exact (h.row p hp).1, (h.row p hp).2⟩⟩
theorem MX.drop (h : MX B w0 w hs R) {R' : List (Nat × Obj)} (hr : ∀ p ∈ R', p ∈ R) : MX B w0 w hs R' := by
  obtain ⟨F, h⟩ := h
  exact ⟨F, h.bel, h.le, h.ho, h.bnd, h.dis, fun p hp => h.row p (hr p hp)⟩
theorem mx_start (hb : Below B w0 w) (hle : B ≤ w0.heap.size) : MX B w0 w [] [] := ⟨fun _ _ => False, hb, hle, fun i h hx => by simp at hx, fun _ _ q => q.elim, fun _ _ _ _ q => q.elim, fun p hp => by simp at hp⟩
theorem MX.alloc (h : MX B w0 w hs R) (o : Obj) : MX B w0 (w.alloc o) hs ((w.heap.size, o) :: R) := by
  have hz := h.size
  obtain ⟨F, h1⟩ := h.below (w' := w.alloc o) ((Below.refl _ _).alloc (Nat.le_refl _) _)
  obtain ⟨G, h0⟩ := h
  refine ⟨G, h1.bel, h0.le, fun i x hx => (h0.ho i x hx).below ((Below.refl _ _).alloc (Nat.le_refl _) _), fun i k hk => ⟨(h0.bnd i k hk).1, by have := (h0.bnd i k hk).2; simp; omega⟩, h0.dis, fun p hp => ?_⟩
  rcases List.mem_cons.1 hp with q | q
  · subst q
    exact ⟨heap_alloc_new _ _, hz, fun i hf => by have := (h0.bnd i _ hf).2; simp at this⟩
  · obtain ⟨q1, q2, q3⟩ := h0.row p q
    exact ⟨by rw [Below.heap_alloc _ _ _ (block_lt q1)]; exact q1, q2, q3⟩
/-- A call that turns the i-th timer alone, and hands back new blocks beside. -/
theorem MX.next {F : Nat → Nat → Prop} (h : MF F B w0 w hs R) {i : Nat} {t g n : Nat} {S S' : Nat → Option Int} (hi : hs[i]? = some (t, g, n, S)) {G : Nat → Prop} (hG : ∀ k, G k → k < w'.heap.size ∧ Grow (F i) w w' k) (h1 : TO w' G t g n S') (u : Turn (F i) w w') (R' : List (Nat × Obj)) (hR : ∀ p ∈ R', w'.heap[p.1]? = some p.2 ∧ w.heap.size ≤ p.1 ∧ ¬ G p.1) : MX B w0 w' (hs.set i (t, g, n, S')) (R' ++ R) := by
  have hlt : i < hs.length := by
    rcases Nat.lt_or_ge i hs.length with q | q
    · exact q
    · rw [List.getElem?_eq_none q] at hi; cases hi
  have hz := Nat.le_trans h.le h.bel.size
  have hs1 := u.size
  refine ⟨fun j => if j = i then G else F j, h.bel.trans (u.below hz (fun k hk => (h.bnd i k hk).1)), h.le, fun j x hx => ?_, fun j k hk => ?_, fun j l k hne hj hl => ?_, fun p hp => ?_⟩
  · by_cases e : j = i
    · subst e
      rw [List.getElem?_set_self hlt] at hx
      cases hx
      simp only [if_true]
      exact h1
    · rw [List.getElem?_set_ne (fun q => e q.symm)] at hx
      simp only [e, if_false]
      exact (h.ho j x hx).turn u (fun k hk => h.dis j i k e hk)
  · by_cases e : j = i
    · subst e
      simp only [if_true] at hk
      obtain ⟨z, hk⟩ := hG k hk
      rcases hk with q | q
      · have := h.bnd j k q; omega
      · omega
    · simp only [e, if_false] at hk
      have := h.bnd j k hk; omega
  · by_cases e : j = i
    · subst e
      have e2 : ¬ l = j := fun q => hne q.symm
      simp only [if_true] at hj
      simp only [e2, if_false] at hl
      have := h.bnd l k hl
      rcases (hG k hj).2 with q | q
      · exact h.dis j l k hne q hl
      · omega
    · simp only [e, if_false] at hj
      by_cases e2 : l = i
      · subst e2
        simp only [if_true] at hl
        have := h.bnd j k hj
        rcases (hG k hl).2 with q | q
        · exact h.dis j l k hne hj q
        · omega
      · simp only [e2, if_false] at hl
        exact h.dis j l k hne hj hl
  · rcases List.mem_append.1 hp with hp | hp
    · obtain ⟨q1, q2, q3⟩ := hR p hp
      refine ⟨q1, by omega, fun j hf => ?_⟩
      by_cases e : j = i
      · subst e
        simp only [if_true] at hf
        exact q3 hf
      · simp only [e, if_false] at hf
        have := h.bnd j _ hf; omega
    · obtain ⟨q1, q2, q3⟩ := h.row p hp
      refine ⟨by rw [u.block p.1 (block_lt q1) (q3 i)]; exact q1, q2, fun j hf => ?_⟩
      by_cases e : j = i
      · subst e
        simp only [if_true] at hf
        rcases (hG _ hf).2 with q | q
        · exact q3 j q
        · have := block_lt q1; omega
      · simp only [e, if_false] at hf
        exact q3 j hf
theorem MX.op (h : MX B w0 w hs R) {i : Nat} {t g n : Nat} {S S' : Nat → Option Int} (hi : hs[i]? = some (t, g, n, S)) {fn : Nat} {args : Array Value} {E : Ending}
    (k : ∀ F, TO w F t g n S → Calls Try.prog fn args w fun e w' => e = E ∧ TO w' (Grow F w w') t g n S' ∧ Turn F w w') : Calls Try.prog fn args w fun e w' => e = E ∧ Hid (MX B w0 w' (hs.set i (t, g, n, S')) R) := by
  obtain ⟨F, h⟩ := h
  refine (k (F i) (h.ho i _ hi)).mono ?_
  rintro e w' ⟨rfl, h1, h2⟩
  have hs2 := h2.size
  exact ⟨rfl, MX.next h hi (G := fun k => Grow (F i) w w' k ∧ k < w'.heap.size) (fun k hk => ⟨hk.2, hk.1⟩) (h1.mono (fun k hk q => ⟨q, hk⟩)) h2 [] (fun p hp => by simp at hp)⟩
theorem MX.ask (h : MX B w0 w hs R) {i : Nat} {t g n : Nat} {S : Nat → Option Int} (hi : hs[i]? = some (t, g, n, S)) {fn : Nat} {args : Array Value} {E : Ending}
    (k : ∀ F, TO w F t g n S → Calls Try.prog fn args w fun e w' => e = E ∧ Below w.heap.size w w') : Calls Try.prog fn args w fun e w' => e = E ∧ Hid (MX B w0 w' hs R) := by
  have h' := h
  obtain ⟨F, h⟩ := h
  refine (k (F i) (h.ho i _ hi)).mono ?_
  rintro e w' ⟨rfl, h1⟩
  exact ⟨rfl, h'.below h1⟩
theorem MX.set_ (h : MX B w0 w hs R) (i : Nat) {t g n : Nat} {S : Nat → Option Int} (hi : hs[i]? = some (t, g, n, S)) (id y : Int) : Calls Try.prog 12 #[ptr t, .int .i64 id, .int .i64 y] w fun e w' => e = .returned (.int .i64 (setE n id)) ∧ Hid (MX B w0 w' (hs.set i (t, g, n, setS n S id y)) R) := h.op hi (fun F q => set_any q id y)
theorem MX.stop (h : MX B w0 w hs R) (i : Nat) {t g n : Nat} {S : Nat → Option Int} (hi : hs[i]? = some (t, g, n, S)) (id : Int) : Calls Try.prog 14 #[ptr t, .int .i64 id] w fun e w' => e = .returned (.bool (hasB n S id)) ∧ Hid (MX B w0 w' (hs.set i (t, g, n, remS n S id)) R) := h.op hi (fun F q => stop_any q id)
theorem MX.next1 (h : MX B w0 w hs R) (i : Nat) {t g n : Nat} {S : Nat → Option Int} (hi : hs[i]? = some (t, g, n, S)) {x : Nat} {y : Int} (hf : Fst n S x y) : Calls Try.prog 19 #[ptr t] w fun e w' => e = .returned (.tuple #[.int .i64 y, .bool true]) ∧ Hid (MX B w0 w' hs R) := h.ask hi (fun F q => next_some q hf)
theorem MX.next0 (h : MX B w0 w hs R) (i : Nat) {t g n : Nat} {S : Nat → Option Int} (hi : hs[i]? = some (t, g, n, S)) (hf : Emp n S) : Calls Try.prog 19 #[ptr t] w fun e w' => e = .returned (.tuple #[.int .i64 0, .bool false]) ∧ Hid (MX B w0 w' hs R) := h.ask hi (fun F q => (next_none q hf).mono (fun e w' z => ⟨z.1, below_of_eq z.2⟩))
theorem MX.at_ (h : MX B w0 w hs R) (i : Nat) {t g n : Nat} {S : Nat → Option Int} (hi : hs[i]? = some (t, g, n, S)) (id : Int) : Calls Try.prog 20 #[ptr t, .int .i64 id] w fun e w' => e = .returned (.tuple #[.int .i64 (keyV n S id), .bool (hasB n S id)]) ∧ w' = w := by obtain ⟨F, h⟩ := h; exact at_any (h.ho i _ hi) id
theorem MX.len (h : MX B w0 w hs R) (i : Nat) {t g n : Nat} {S : Nat → Option Int} (hi : hs[i]? = some (t, g, n, S)) : Calls Try.prog 22 #[ptr g] w fun e w' => e = .returned (.int .i64 (cntS n S : Nat)) ∧ w' = w := by obtain ⟨F, h⟩ := h; exact len_any (h.ho i _ hi).ho
theorem MX.c0 (h : MX B w0 w hs R) (i : Nat) {t g n : Nat} {S : Nat → Option Int} (hi : hs[i]? = some (t, g, n, S)) : w.cell? ⟨t, 0, none⟩ = some (ptr g) := by obtain ⟨F, h⟩ := h; exact (h.ho i _ hi).c0
theorem MX.cases (h : MX B w0 w hs R) (i : Nat) {t g n : Nat} {S : Nat → Option Int} (hi : hs[i]? = some (t, g, n, S)) : Emp n S ∨ ∃ x y, Fst n S x y := by obtain ⟨F, h⟩ := h; exact (h.ho i _ hi).cases
theorem MX.hn (h : MX B w0 w hs R) (i : Nat) {t g n : Nat} {S : Nat → Option Int} (hi : hs[i]? = some (t, g, n, S)) : n ≤ 65536 := by obtain ⟨F, h⟩ := h; exact (h.ho i _ hi).hn
theorem MX.congr (h : MX B w0 w hs R) (i : Nat) {t g n : Nat} {S S' : Nat → Option Int} (hi : hs[i]? = some (t, g, n, S)) (hS : ∀ x, x < n → S' x = S x) : MX B w0 w (hs.set i (t, g, n, S')) R := by
  obtain ⟨F, h⟩ := h
  refine ⟨F, h.bel, h.le, fun j x hx => ?_, h.bnd, h.dis, h.row⟩
  have hlt : i < hs.length := by
    rcases Nat.lt_or_ge i hs.length with q | q
    · exact q
    · rw [List.getElem?_eq_none q] at hi; cases hi
  by_cases e : j = i
  · subst e
    rw [List.getElem?_set_self hlt] at hx
    cases hx
    exact (h.ho j _ hi).congr hS
  · rw [List.getElem?_set_ne (fun q => e q.symm)] at hx
    exact h.ho j x hx
theorem MX.new (h : MX B w0 w hs R) (n : Int) : Calls Try.prog 11 #[.int .i64 n] w fun e w' => ∃ t g, e = .returned (ptr t) ∧ Hid (MX B w0 w' (hs ++ [(t, g, hsz n, fun _ => none)]) R) := by
  refine (tnew_any n w).mono ?_
  rintro e w' ⟨t, g, rfl, h1, h2⟩
  refine ⟨t, g, rfl, ?_⟩
  have hz := h.size
  obtain ⟨F, h⟩ := h
  have hs1 := h2.size
  refine ⟨fun j k => (j = hs.length ∧ Span w w' k) ∨ (j ≠ hs.length ∧ F j k), h.bel.trans (h2.mono hz), h.le, fun j x hx => ?_, fun j k hk => ?_, fun j l k hne hj hl => ?_, fun p hp => ?_⟩
  · by_cases e : j = hs.length
    · subst e
      rw [List.getElem?_append_right (Nat.le_refl _)] at hx
      simp at hx
      subst hx
      exact h1.mono (fun k _ hk => .inl ⟨rfl, hk⟩)
    · have hl : j < hs.length := by
        rcases Nat.lt_or_ge j hs.length with q | q
        · exact q
        · rw [List.getElem?_eq_none (by simp; omega)] at hx; cases hx
      rw [List.getElem?_append_left hl] at hx
      exact ((h.ho j x hx).below h2).mono (fun k _ hk => .inr ⟨e, hk⟩)
  · rcases hk with ⟨_, q⟩ | ⟨_, q⟩
    · have := q.1; have := q.2; omega
    · have := h.bnd j k q; omega
  · rcases hj with ⟨e1, q1⟩ | ⟨e1, q1⟩
    · rcases hl with ⟨e2, q2⟩ | ⟨e2, q2⟩
      · omega
      · have := h.bnd l k q2; have := q1.1; omega
    · rcases hl with ⟨e2, q2⟩ | ⟨e2, q2⟩
      · have := h.bnd j k q1; have := q2.1; omega
      · exact h.dis j l k hne q1 q2
  · obtain ⟨q1, q2, q3⟩ := h.row p hp
    have hl := block_lt q1
    refine ⟨by rw [h2.block p.1 hl]; exact q1, q2, fun j hf => ?_⟩
    rcases hf with ⟨_, q⟩ | ⟨_, q⟩
    · have := q.1; omega
    · exact q3 j q
/-- A store into a block beside the timers. -/
theorem MX.set (h : MX B w0 w hs R) {r : Nat} {cur : Array Value} {t : TypeId} (hr : (r, Obj.cells cur t) ∈ R) (i : Nat) (u : Value) : MX B w0 (w.setCell ⟨r, i, none⟩ u) hs (R.map fun p => if p.1 = r then (r, .cells (cur.setIfInBounds i u) t) else p) := by
  obtain ⟨F, h⟩ := h
  obtain ⟨q1, q2, q3⟩ := h.row _ hr
  have ht : Turn (fun k => k = r) w (w.setCell ⟨r, i, none⟩ u) := (Turn.refl (fun k => k = r) w).setCell (p := ⟨r, i, none⟩) (.inl rfl) u
  have hz : (w.setCell ⟨r, i, none⟩ u).heap.size = w.heap.size := by simp [World.setCell]
  refine ⟨F, h.bel.trans (ht.below (Nat.le_trans h.le h.bel.size) (fun k hk => by rw [hk]; exact q2)), h.le, fun j x hx => (h.ho j x hx).turn ht (fun k hk e => by rw [e] at hk; exact q3 j hk), fun j k hk => by rw [hz]; exact h.bnd j k hk, h.dis, fun p hp => ?_⟩
  obtain ⟨p', hp', rfl⟩ := List.mem_map.1 hp
  by_cases e : p'.1 = r
  · rw [if_pos e]
    exact ⟨heap_setCell_at q1 u, q2, q3⟩
  · rw [if_neg e]
    obtain ⟨z1, z2, z3⟩ := h.row p' hp'
    exact ⟨by rw [Below.heap_setCell _ _ _ _ e]; exact z1, z2, z3⟩

/-- A row of ids that was handed back: nil, or a block of its own. -/
def RowAt (a : Option Addr) (L : List Nat) (cap : Nat) (R' : List (Nat × Obj)) : Prop := (L = [] ∧ a = none ∧ cap = 0 ∧ R' = []) ∨ ∃ b cur, a = some ⟨b, 0, none⟩ ∧ R' = [(b, .cells cur 3)] ∧ L.length ≤ cap ∧ cap ≤ maxLen ∧ L.length ≤ cur.size ∧ ∀ i (h : i < L.length), cur[i]? = some (.int .i64 (L[i] : Nat))
theorem row_at {a : Option Addr} {L : List Nat} {cap : Nat} {R' : List (Nat × Obj)} (h : RowAt a L cap R') (hx : ∀ p ∈ R', w.heap[p.1]? = some p.2) {i : Nat} (hi : i < L.length) : ∃ b, a = some ⟨b, 0, none⟩ ∧ w.cell? ⟨b, i, none⟩ = some (.int .i64 (L[i] : Nat)) ∧ w.frozen? ⟨b, i, none⟩ = false ∧ b < w.heap.size := by
  rcases h with ⟨rfl, _⟩ | ⟨b, cur, rfl, rfl, _, _, hz, hc⟩
  · simp at hi
  · have hr := hx _ (List.mem_singleton.2 rfl)
    exact ⟨b, rfl, by rw [cell_of_row w b i _ _ _ hr]; exact hc i hi, by simp [World.frozen?, hr], block_lt hr⟩
theorem RowAt.caps {a : Option Addr} {L : List Nat} {cap : Nat} {R' : List (Nat × Obj)} (h : RowAt a L cap R') : L.length ≤ cap ∧ cap ≤ maxLen := by
  rcases h with ⟨rfl, _, rfl, _⟩ | ⟨b, cur, rfl, rfl, h1, h2, _⟩
  · exact ⟨Nat.le_refl _, Nat.zero_le _⟩
  · exact ⟨h1, h2⟩
theorem MX.due (h : MX B w0 w hs R) (i : Nat) {t g n : Nat} {S : Nat → Option Int} (hi : hs[i]? = some (t, g, n, S)) (now : Int) : Calls Try.prog 16 #[ptr t, .int .i64 now] w fun e w' => ∃ a L cap R', e = .returned (.slice a L.length cap) ∧ Due n S now L ∧ RowAt a L cap R' ∧ Hid (MX B w0 w' (hs.set i (t, g, n, dueS S now)) (R' ++ R)) := by
  obtain ⟨F, h⟩ := h
  refine (due_any (h.ho i _ hi) now).mono ?_
  rintro e w' ⟨v, L, rfl, hd, G, h1, h2, h3, h4, h5⟩
  rcases h4.2 with ⟨rfl, hz⟩ | ⟨b, cap, cur, rfl, hb, hg, hnc, hcm, hcs, htake⟩
  · have hL : L = [] := List.eq_nil_of_length_eq_zero hz
    subst hL
    exact ⟨none, [], 0, [], rfl, hd, .inl ⟨rfl, rfl, rfl, rfl⟩, MX.next h hi h2 h1 h3 [] (fun p hp => by simp at hp)⟩
  · refine ⟨some ⟨b, 0, none⟩, L, cap, [(b, .cells cur 3)], rfl, hd, .inr ⟨b, cur, rfl, rfl, hnc, hcm, by omega, fun j hj => ?_⟩, MX.next h hi h2 h1 h3 _ (fun p hp => by rw [List.mem_singleton.1 hp]; exact ⟨hg, hb, h5 b rfl⟩)⟩
    rw [← Array.getElem?_toList, ← rowL_at L hj, ← htake, List.getElem?_take_of_lt (by omega)]
end
end Go.Proofs.Ytlpbjafdmhcmgaa
