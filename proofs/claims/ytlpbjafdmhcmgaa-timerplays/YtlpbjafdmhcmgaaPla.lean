/- A timer and the document's own, side by side. -/
import Derived.Test.YtlpbjafdmhcmgaaRfE
import Derived.Test.YtlpbjafdmhcmgaaRfD
namespace Go.Proofs.Ytlpbjafdmhcmgaa
open Go.RowKit
open M
set_option linter.unusedVariables false
set_option linter.unusedSimpArgs false

/-- What stays of the rest while only one side has gone on. -/
structure PH (F : Nat → Nat → Prop) (B : Nat) (w W : World) (t g N : Nat) (S : Nat → Option Int) (rb : Nat) (n : Int) (v : Value) (L : List It) (R : List (Nat × Obj)) : Prop where
  mf : MF F B w W [(t, g, N, S)] R
  rm : RM W rb n v L
  rd : ∀ k, RFoot rb v k → B ≤ k ∧ ¬ F 0 k
  rr : ∀ p ∈ R, ¬ RFoot rb v p.1
def PQ (B : Nat) (w W : World) (t g N : Nat) (S : Nat → Option Int) (rb : Nat) (n : Int) (L : List It) (R : List (Nat × Obj)) : Prop := ∃ F v, PH F B w W t g N S rb n v L R
section
variable {B : Nat} {w W W' : World} {t g N : Nat} {S S' : Nat → Option Int} {rb : Nat} {n : Int} {L L' : List It} {R : List (Nat × Obj)}
theorem PQ.mx (h : PQ B w W t g N S rb n L R) : MX B w W [(t, g, N, S)] R := by obtain ⟨F, v, h⟩ := h; exact ⟨F, h.mf⟩
theorem PQ.below (h : PQ B w W t g N S rb n L R) (hb : Below W.heap.size W W') : PQ B w W' t g N S rb n L R := by
  obtain ⟨F, v, h⟩ := h
  have hs1 := hb.size
  have m := h.mf
  exact ⟨F, v, ⟨m.bel.trans (hb.mono (Nat.le_trans m.le m.bel.size)), m.le, fun i x hx => (m.ho i x hx).below hb, fun i k hk => ⟨(m.bnd i k hk).1, Nat.lt_of_lt_of_le (m.bnd i k hk).2 hs1⟩, m.dis, fun p hp => ⟨by rw [hb.block p.1 (block_lt (m.row p hp).1)]; exact (m.row p hp).1, (m.row p hp).2⟩⟩, h.rm.below hb, h.rd, h.rr⟩
theorem PQ.alloc (h : PQ B w W t g N S rb n L R) (o : Obj) : PQ B w (W.alloc o) t g N S rb n L ((W.heap.size, o) :: R) := by
  obtain ⟨F, v, h⟩ := h
  have m := h.mf
  have hz := Nat.le_trans m.le m.bel.size
  have hb : Below W.heap.size W (W.alloc o) := (Below.refl _ _).alloc (Nat.le_refl _) _
  refine ⟨F, v, ⟨m.bel.trans (hb.mono hz), m.le, fun i x hx => (m.ho i x hx).below hb, fun i k hk => ⟨(m.bnd i k hk).1, by have := (m.bnd i k hk).2; simp; omega⟩, m.dis, fun p hp => ?_⟩, h.rm.below hb, h.rd, fun p hp => ?_⟩
  · rcases List.mem_cons.1 hp with q | q
    · subst q; exact ⟨heap_alloc_new _ _, hz, fun i hf => by have := (m.bnd i _ hf).2; simp at this⟩
    · obtain ⟨q1, q2, q3⟩ := m.row p q
      exact ⟨by rw [Below.heap_alloc _ _ _ (block_lt q1)]; exact q1, q2, q3⟩
  · rcases List.mem_cons.1 hp with q | q
    · subst q; intro hf; have := h.rm.lt _ hf; simp at this
    · exact h.rr p q
theorem PQ.drop (h : PQ B w W t g N S rb n L R) {R' : List (Nat × Obj)} (hr : ∀ p ∈ R', p ∈ R) : PQ B w W t g N S rb n L R' := by
  obtain ⟨F, v, h⟩ := h
  exact ⟨F, v, ⟨h.mf.bel, h.mf.le, h.mf.ho, h.mf.bnd, h.mf.dis, fun p hp => h.mf.row p (hr p hp)⟩, h.rm, h.rd, fun p hp => h.rr p (hr p hp)⟩
theorem PQ.op (h : PQ B w W t g N S rb n L R) {fn : Nat} {args : Array Value} {E : Ending}
    (k : ∀ F, TO W F t g N S → Calls Try.prog fn args W fun e w' => e = E ∧ TO w' (Grow F W w') t g N S' ∧ Turn F W w') : Calls Try.prog fn args W fun e w' => e = E ∧ Hid (PQ B w w' t g N S' rb n L R) := by
  obtain ⟨F, v, h⟩ := h
  refine (k (F 0) (h.mf.ho 0 _ rfl)).mono ?_
  rintro e w' ⟨rfl, h1, h2⟩
  refine ⟨rfl, ?_⟩
  have m := h.mf
  have hs1 := h2.size
  have hz := Nat.le_trans m.le m.bel.size
  refine ⟨fun j k => j = 0 ∧ Grow (F 0) W w' k, v, ⟨m.bel.trans (h2.below hz (fun k hk => (m.bnd 0 k hk).1)), m.le, fun i x hx => ?_, fun i k hk => ?_, fun i j k hne h3 h4 => by omega, fun p hp => ?_⟩, h.rm.turn h2 (fun k hk => (h.rd k hk).2), fun k hk => ⟨(h.rd k hk).1, fun q => ?_⟩, h.rr⟩
  · cases i with
    | zero => simp at hx; subst hx; exact h1.mono (fun k _ hk => ⟨rfl, hk⟩)
    | succ i => simp at hx
  · obtain ⟨_, q⟩ := hk
    rcases q with q | q
    · have := m.bnd 0 k q; omega
    · omega
  · obtain ⟨q1, q2, q3⟩ := m.row p hp
    refine ⟨by rw [h2.block p.1 (block_lt q1) (q3 0)]; exact q1, q2, fun i q => ?_⟩
    obtain ⟨_, q⟩ := q
    rcases q with q | q
    · exact q3 0 q
    · have := block_lt q1; omega
  · obtain ⟨_, q⟩ := q
    rcases q with q | q
    · exact (h.rd k hk).2 q
    · have := h.rm.lt k hk; omega
theorem PQ.ref (h : PQ B w W t g N S rb n L R) {fn : Nat} {args : Array Value} {Z : Ending → World → Prop}
    (k : ∀ v, RM W rb n v L → Calls Try.prog fn args W fun e w' => Z e w' ∧ ∃ v', RM w' rb n v' L' ∧ Turn (RFoot rb v) W w' ∧ ∀ k, RFoot rb v' k → RFoot rb v k ∨ k = rb ∨ W.heap.size ≤ k) : Calls Try.prog fn args W fun e w' => Z e w' ∧ Hid (PQ B w w' t g N S rb n L' R) := by
  obtain ⟨F, v, h⟩ := h
  refine (k v h.rm).mono ?_
  rintro e w' ⟨hZ, v', h1, h2, h3⟩
  refine ⟨hZ, ?_⟩
  have m := h.mf
  have hs1 := h2.size
  have hz := Nat.le_trans m.le m.bel.size
  refine ⟨fun j k => j = 0 ∧ F 0 k, v', ⟨m.bel.trans (h2.below hz (fun k hk => (h.rd k hk).1)), m.le, fun i x hx => ?_, fun i k hk => ?_, fun i j k hne h3 h4 => by omega, fun p hp => ?_⟩, h1, fun k hk => ?_, fun p hp q => ?_⟩
  · cases i with
    | zero => simp at hx; subst hx; exact ((m.ho 0 _ rfl).turn h2 (fun k hk q => (h.rd k q).2 hk)).mono (fun k _ hk => ⟨rfl, hk⟩)
    | succ i => simp at hx
  · have := m.bnd 0 k hk.2; omega
  · obtain ⟨q1, q2, q3⟩ := m.row p hp
    exact ⟨by rw [h2.block p.1 (block_lt q1) (h.rr p hp)]; exact q1, q2, fun i q => q3 0 q.2⟩
  · rcases h3 k hk with q | q | q
    · exact ⟨(h.rd k q).1, fun z => (h.rd k q).2 z.2⟩
    · exact ⟨(h.rd k (.inl q)).1, fun z => (h.rd k (.inl q)).2 z.2⟩
    · exact ⟨by omega, fun z => by have := m.bnd 0 k z.2; omega⟩
  · rcases h3 p.1 q with z | z | z
    · exact h.rr p hp z
    · exact h.rr p hp (.inl z)
    · have := block_lt (m.row p hp).1; omega
theorem PQ.due (h : PQ B w W t g N S rb n L R) (now : Int) : Calls Try.prog 16 #[ptr t, .int .i64 now] W fun e w' => ∃ a M c R', e = .returned (.slice a M.length c) ∧ Due N S now M ∧ RowAt a M c R' ∧ Hid (PQ B w w' t g N (dueS S now) rb n L (R' ++ R)) := by
  obtain ⟨F, v, h⟩ := h
  refine (due_any (h.mf.ho 0 _ rfl) now).mono ?_
  rintro e w' ⟨u, M, rfl, hd, G, g1, g2, g3, g4, g5⟩
  have m := h.mf
  have hs1 := g3.size
  have hz := Nat.le_trans m.le m.bel.size
  have all : ∀ R' : List (Nat × Obj), (∀ p ∈ R', w'.heap[p.1]? = some p.2 ∧ W.heap.size ≤ p.1 ∧ ¬ G p.1) → PQ B w w' t g N (dueS S now) rb n L (R' ++ R) := by
    intro R' hR
    refine ⟨fun j k => j = 0 ∧ G k, v, ⟨m.bel.trans (g3.below hz (fun k hk => (m.bnd 0 k hk).1)), m.le, fun i x hx => ?_, fun i k hk => ?_, fun i j k hne h3 h4 => by omega, fun p hp => ?_⟩, h.rm.turn g3 (fun k hk => (h.rd k hk).2), fun k hk => ⟨(h.rd k hk).1, fun q => ?_⟩, fun p hp q => ?_⟩
    · cases i with
      | zero => simp at hx; subst hx; exact g1.mono (fun k _ hk => ⟨rfl, hk⟩)
      | succ i => simp at hx
    · obtain ⟨z, q⟩ := g2 k hk.2
      rcases q with q | q
      · have := m.bnd 0 k q; omega
      · omega
    · rcases List.mem_append.1 hp with hp | hp
      · obtain ⟨q1, q2, q3⟩ := hR p hp
        exact ⟨q1, by omega, fun i q => q3 q.2⟩
      · obtain ⟨q1, q2, q3⟩ := m.row p hp
        refine ⟨by rw [g3.block p.1 (block_lt q1) (q3 0)]; exact q1, q2, fun i q => ?_⟩
        rcases (g2 _ q.2).2 with z | z
        · exact q3 0 z
        · have := block_lt q1; omega
    · rcases (g2 k q.2).2 with z | z
      · exact (h.rd k hk).2 z
      · have := h.rm.lt k hk; omega
    · rcases List.mem_append.1 hp with hp | hp
      · have := h.rm.lt _ q; have := (hR p hp).2.1; omega
      · exact h.rr p hp q
  rcases g4.2 with ⟨rfl, hz2⟩ | ⟨b, c, cur, rfl, hb, hg, hnc, hcm, hcs, htake⟩
  · have hL : M = [] := List.eq_nil_of_length_eq_zero hz2
    subst hL
    exact ⟨none, [], 0, [], rfl, hd, .inl ⟨rfl, rfl, rfl, rfl⟩, all [] (fun p hp => by simp at hp)⟩
  · refine ⟨some ⟨b, 0, none⟩, M, c, [(b, .cells cur 3)], rfl, hd, .inr ⟨b, cur, rfl, rfl, hnc, hcm, by omega, fun j hj => ?_⟩, all _ (fun p hp => by rw [List.mem_singleton.1 hp]; exact ⟨hg, hb, g5 b rfl⟩)⟩
    rw [← Array.getElem?_toList, ← rowL_at M hj, ← htake, List.getElem?_take_of_lt (by omega)]
theorem PQ.set (h : PQ B w W t g N S rb n L R) {r : Nat} {cur : Array Value} {ty : TypeId} (hr : (r, Obj.cells cur ty) ∈ R) (i : Nat) (u : Value) : PQ B w (W.setCell ⟨r, i, none⟩ u) t g N S rb n L (R.map fun p => if p.1 = r then (r, .cells (cur.setIfInBounds i u) ty) else p) := by
  obtain ⟨F, v, h⟩ := h
  have m := h.mf
  obtain ⟨q1, q2, q3⟩ := m.row _ hr
  have ht : Turn (fun k => k = r) W (W.setCell ⟨r, i, none⟩ u) := (Turn.refl (fun k => k = r) W).setCell (p := ⟨r, i, none⟩) (.inl rfl) u
  have hz : (W.setCell ⟨r, i, none⟩ u).heap.size = W.heap.size := by simp [World.setCell]
  refine ⟨F, v, ⟨m.bel.trans (ht.below (Nat.le_trans m.le m.bel.size) (fun k hk => by rw [hk]; exact q2)), m.le, fun j x hx => (m.ho j x hx).turn ht (fun k hk e => by rw [e] at hk; exact q3 j hk), fun j k hk => by rw [hz]; exact m.bnd j k hk, m.dis, fun p hp => ?_⟩, h.rm.turn ht (fun k hk e => by rw [e] at hk; exact h.rr _ hr hk), h.rd, fun p hp => ?_⟩
  · obtain ⟨p', hp', rfl⟩ := List.mem_map.1 hp
    by_cases e : p'.1 = r
    · rw [if_pos e]
      exact ⟨heap_setCell_at q1 u, q2, q3⟩
    · rw [if_neg e]
      obtain ⟨z1, z2, z3⟩ := m.row p' hp'
      exact ⟨by rw [Below.heap_setCell _ _ _ _ e]; exact z1, z2, z3⟩
  · obtain ⟨p', hp', rfl⟩ := List.mem_map.1 hp
    by_cases e : p'.1 = r
    · rw [if_pos e]; exact h.rr (r, Obj.cells cur ty) hr
    · rw [if_neg e]; exact h.rr p' hp'
theorem PQ.same {Z : Ending → World → Prop} (h : PQ B w W t g N S rb n L R) {fn : Nat} {args : Array Value}
    (k : ∀ v, RM W rb n v L → Calls Try.prog fn args W fun e w' => Z e w' ∧ Below W.heap.size W w') : Calls Try.prog fn args W fun e w' => Z e w' ∧ Hid (PQ B w w' t g N S rb n L R) := by
  have h' := h
  obtain ⟨F, v, h⟩ := h
  refine (k v h.rm).mono ?_
  rintro e w' ⟨hZ, hb⟩
  exact ⟨hZ, h'.below hb⟩
/-- The row a of m numbers beside both: whatever it holds. -/
def PY (B : Nat) (w W : World) (t g N : Nat) (S : Nat → Option Int) (rb : Nat) (n : Int) (L : List It) (a : Option Addr) (m : Nat) (R : List (Nat × Obj)) : Prop := Oth R ∧ ((m = 0 ∧ PQ B w W t g N S rb n L R) ∨ ∃ b cur, a = some ⟨b, 0, none⟩ ∧ m ≤ cur.size ∧ PQ B w W t g N S rb n L ((b, .cells cur 3) :: R))
theorem PY.pq {a : Option Addr} {m : Nat} (h : PY B w W t g N S rb n L a m R) : PQ B w W t g N S rb n L R := by
  rcases h.2 with ⟨_, h⟩ | ⟨b, cur, _, _, h⟩
  · exact h
  · exact h.drop (fun p hp => List.mem_cons_of_mem _ hp)
theorem py_of {a : Option Addr} {M : List Nat} {cap : Nat} {R' : List (Nat × Obj)} (ho : Oth R) (hr : RowAt a M cap R') (h : PQ B w W t g N S rb n L (R' ++ R)) : PY B w W t g N S rb n L a M.length R := by
  refine ⟨ho, ?_⟩
  rcases hr with ⟨rfl, _, _, rfl⟩ | ⟨b, cur, rfl, rfl, _, _, hz, _⟩
  · exact .inl ⟨rfl, h⟩
  · exact .inr ⟨b, cur, rfl, hz, h⟩
theorem PY.below {a : Option Addr} {m : Nat} (h : PY B w W t g N S rb n L a m R) (hb : Below W.heap.size W W') : PY B w W' t g N S rb n L a m R := by
  refine ⟨h.1, ?_⟩
  rcases h.2 with ⟨h1, h2⟩ | ⟨b, cur, h1, h2, h3⟩
  · exact .inl ⟨h1, h2.below hb⟩
  · exact .inr ⟨b, cur, h1, h2, h3.below hb⟩
theorem PY.put {a : Option Addr} {m : Nat} (h : PY B w W t g N S rb n L a m R) {i : Nat} (hi : i < m) : ∃ b v, a = some ⟨b, 0, none⟩ ∧ W.cell? ⟨b, i, none⟩ = some v ∧ W.frozen? ⟨b, i, none⟩ = false ∧ ∀ u, PY B w (W.setCell ⟨b, i, none⟩ u) t g N S rb n L a m R := by
  rcases h.2 with ⟨rfl, _⟩ | ⟨b, cur, rfl, hz, hm⟩
  · omega
  · have hr := hm.mx.row (List.mem_cons_self ..)
    refine ⟨b, cur[i], rfl, by rw [cell_of_row W b i _ _ _ hr]; exact Array.getElem?_eq_getElem (by omega), by simp [World.frozen?, hr], fun u => ⟨h.1, .inr ⟨b, cur.setIfInBounds i u, rfl, by simpa using hz, ?_⟩⟩⟩
    have := hm.set (List.mem_cons_self ..) i u
    simp only [List.map_cons, if_true] at this
    have e : (R.map fun p => if p.1 = b then (b, Obj.cells (cur.setIfInBounds i u) 3) else p) = R := by
      conv => rhs; rw [← List.map_id R]
      refine List.map_congr_left (fun q hq => ?_)
      have hne : ¬ q.1 = b := fun e => by
        have h1 := hm.mx.row (r := q.1) (o := q.2) (List.mem_cons_of_mem _ hq)
        obtain ⟨c, t, h2, h3⟩ := h.1 q hq
        rw [e, hr, h2] at h1
        cases h1
        exact h3 rfl
      rw [if_neg hne]
      rfl
    rw [e] at this
    exact this
/-- A call of the document's own, beside a row that was told. -/
theorem PY.ref {a : Option Addr} {M : List Nat} {L' : List It} (h : PY B w W t g N S rb n L a M.length R) (hrd : Rd W a (M.map fun (x : Nat) => (x : Int))) {fn : Nat} {args : Array Value} {Z : Ending → World → Prop}
    (k : ∀ v, RM W rb n v L → Calls Try.prog fn args W fun e w' => Z e w' ∧ ∃ v', RM w' rb n v' L' ∧ Turn (RFoot rb v) W w' ∧ ∀ k, RFoot rb v' k → RFoot rb v k ∨ k = rb ∨ W.heap.size ≤ k) : Calls Try.prog fn args W fun e w' => Z e w' ∧ Hid (PY B w w' t g N S rb n L' a M.length R ∧ Rd w' a (M.map fun (x : Nat) => (x : Int))) := by
  rcases h.2 with ⟨h1, h2⟩ | ⟨b, cur, h1, h2, h3⟩
  · refine (h2.ref k).mono ?_
    rintro e w' ⟨hZ, hp⟩
    have hM : M = [] := List.eq_nil_of_length_eq_zero h1
    exact ⟨hZ, ⟨h.1, .inl ⟨h1, hp.out⟩⟩, by subst hM; exact fun i hi => by simp at hi⟩
  · refine (h3.ref k).mono ?_
    rintro e w' ⟨hZ, hp⟩
    refine ⟨hZ, ⟨h.1, .inr ⟨b, cur, h1, h2, hp.out⟩⟩, fun i hi => ?_⟩
    obtain ⟨b', e1, e2, e3⟩ := hrd i hi
    rw [h1] at e1
    cases e1
    have r1 := h3.mx.row (List.mem_cons_self ..)
    have r2 := hp.out.mx.row (List.mem_cons_self ..)
    refine ⟨b, h1, block_lt r2, ?_⟩
    rw [cell_of_row W b i _ _ _ r1] at e3
    rw [cell_of_row w' b i _ _ _ r2]
    exact e3
end
end Go.Proofs.Ytlpbjafdmhcmgaa
