/- An Admit and the document's own side by side. -/
import Derived.Test.YtjmdalpffhfdfaaMul
import Derived.Test.YtjmdalpffhfdfaaRfc
namespace Go.Proofs.Ytjmdalpffhfdfaa
open Go.RowKit
open M
set_option linter.unusedVariables false
set_option linter.unusedSimpArgs false

/-- Both, and blocks beside them. -/
def PX (B : Nat) (w0 w : World) (t : Nat) (x : Ad) (rb : Nat) (ac qu : Int) (L : List Int) (R : List (Nat × Obj)) : Prop :=
  ∃ v V, MX B w0 w [(t, x)] (V ++ R) ∧ RM B w rb ac qu v L ∧ (∃ o, (rb, o) ∈ V) ∧ (∀ k, v.ownBlock = some k → ∃ o, (k, o) ∈ V) ∧ ∀ p ∈ R, p.1 ≠ rb ∧ v.ownBlock ≠ some p.1
section
variable {B : Nat} {w0 w w' : World} {t : Nat} {x X : Ad} {rb : Nat} {ac qu : Int} {L L' : List Int} {R R' : List (Nat × Obj)}
theorem PX.bel (h : PX B w0 w t x rb ac qu L R) : Below B w0 w := by obtain ⟨v, V, h, _⟩ := h; exact h.bel
theorem PX.inv (h : PX B w0 w t x rb ac qu L R) : Inv x := by obtain ⟨v, V, h, _⟩ := h; exact h.inv 0 rfl
theorem PX.row (h : PX B w0 w t x rb ac qu L R) {r : Nat} {o : Obj} (hr : (r, o) ∈ R) : w.heap[r]? = some o := by obtain ⟨v, V, h, _⟩ := h; exact h.row (List.mem_append_right _ hr)
theorem PX.below (h : PX B w0 w t x rb ac qu L R) (hb : Below w.heap.size w w') : PX B w0 w' t x rb ac qu L R := by
  obtain ⟨v, V, h1, h2, h3⟩ := h
  exact ⟨v, V, h1.below hb, h2.below hb, h3⟩
theorem PX.drop (h : PX B w0 w t x rb ac qu L R) (hr : ∀ p ∈ R', p ∈ R) : PX B w0 w t x rb ac qu L R' := by
  obtain ⟨v, V, h1, h2, h3, h4, h5⟩ := h
  exact ⟨v, V, h1.drop (fun p hp => by
    rcases List.mem_append.1 hp with q | q
    · exact List.mem_append_left _ q
    · exact List.mem_append_right _ (hr p q)), h2, h3, h4, fun p hp => h5 p (hr p hp)⟩
theorem PX.fresh (h : PX B w0 w t x rb ac qu L R) (hb : Below w.heap.size w w') (R' : List (Nat × Obj)) (hR : ∀ p ∈ R', w'.heap[p.1]? = some p.2 ∧ w.heap.size ≤ p.1) : PX B w0 w' t x rb ac qu L (R' ++ R) := by
  obtain ⟨v, V, h1, h2, h3, h4, h5⟩ := h
  refine ⟨v, V, (h1.fresh hb R' hR).drop (fun p hp => ?_), h2.below hb, h3, h4, fun p hp => ?_⟩
  · simp only [List.mem_append] at hp ⊢
    rcases hp with q | q | q
    · exact .inr (.inl q)
    · exact .inl q
    · exact .inr (.inr q)
  · rcases List.mem_append.1 hp with q | q
    · have hs := (hR p q).2
      refine ⟨fun e => ?_, fun e => ?_⟩
      · have := block_lt h2.blk; omega
      · have := (h2.row.lt _ e).2; omega
    · exact h5 p q
theorem PX.alloc (h : PX B w0 w t x rb ac qu L R) (o : Obj) : PX B w0 (w.alloc o) t x rb ac qu L ((w.heap.size, o) :: R) :=
  h.fresh ((Below.refl _ _).alloc (Nat.le_refl _) _) [(w.heap.size, o)] (fun p hp => by rw [List.mem_singleton.1 hp]; exact ⟨heap_alloc_new _ _, Nat.le_refl _⟩)
theorem PX.own (h : PX B w0 w t x rb ac qu L R) {p : Ending → Prop} {F : Nat} {args : Array Value} (k : ∀ R', MX B w0 w [(t, x)] R' → Calls Try.prog F args w fun e w' => p e ∧ Hid (MX B w0 w' [(t, X)] R')) : Calls Try.prog F args w fun e w' => p e ∧ Hid (PX B w0 w' t X rb ac qu L R) := by
  obtain ⟨v, V, h1, h2, ⟨o, h3⟩, h4, h5⟩ := h
  refine (k _ h1).mono ?_
  rintro e w' ⟨hp, s⟩
  refine ⟨hp, v, V, s.out, ⟨?_, owns_keep h2.row (fun j hj => ?_), h2.ne⟩, ⟨o, h3⟩, h4, h5⟩
  · rw [s.out.row (List.mem_append_left _ h3), ← h1.row (List.mem_append_left _ h3)]; exact h2.blk
  · obtain ⟨o', ho⟩ := h4 j hj
    rw [s.out.row (List.mem_append_left _ ho), h1.row (List.mem_append_left _ ho)]
theorem PX.ref (h : PX B w0 w t x rb ac qu L R) {p : Ending → Prop} {F : Nat} {args : Array Value} (k : ∀ v, RM B w rb ac qu v L → B ≤ w.heap.size → Calls Try.prog F args w fun e w' => p e ∧ Hid (∃ v', RM B w' rb ac qu v' L' ∧ Turn (fun k => k = rb) w w' ∧ ∀ k, v'.ownBlock = some k → w.heap.size ≤ k)) : Calls Try.prog F args w fun e w' => p e ∧ Hid (PX B w0 w' t x rb ac qu L' R) := by
  obtain ⟨v, V, h1, h2, ⟨o, h3⟩, h4, h5⟩ := h
  refine (k v h2 h1.size).mono ?_
  rintro e w' ⟨hp, s⟩
  obtain ⟨v', g1, g2, g3⟩ := s.out
  refine ⟨hp, ?_⟩
  have ht : Turn (fun k => ∃ o, (k, o) ∈ V ++ R) w w' := g2.mono (fun k _ e => by subst e; exact ⟨o, List.mem_append_left _ h3⟩)
  have hR : ∀ p ∈ R, w'.heap[p.1]? = some p.2 ∧ ((∃ o, (p.1, o) ∈ V ++ R) ∨ w.heap.size ≤ p.1) := fun p hp => by
    have hr := h1.row (r := p.1) (o := p.2) (List.mem_append_right _ hp)
    exact ⟨by rw [g2.block p.1 (block_lt hr) (h5 p hp).1]; exact hr, .inl ⟨p.2, List.mem_append_right _ hp⟩⟩
  have hne : ∀ p ∈ R, p.1 ≠ rb ∧ v'.ownBlock ≠ some p.1 := fun p hp => ⟨(h5 p hp).1, fun e => by
    have hr := h1.row (r := p.1) (o := p.2) (List.mem_append_right _ hp)
    have := g3 _ e
    have := block_lt hr
    omega⟩
  rcases g1.row.2 with ⟨e1, q⟩ | ⟨g, c, cur, e1, _, hg, _⟩
  · refine ⟨v', [(rb, .cells #[.int .i64 ac, .int .i64 qu, v'] 29)], h1.turnR ht (fun p hp => ?_), g1, ⟨_, List.mem_singleton.2 rfl⟩, fun k hk => by rw [e1] at hk; simp [Value.ownBlock] at hk, hne⟩
    rcases List.mem_append.1 hp with q | q
    · rw [List.mem_singleton.1 q]; exact ⟨g1.blk, .inl ⟨o, List.mem_append_left _ h3⟩⟩
    · exact hR p q
  · refine ⟨v', [(rb, .cells #[.int .i64 ac, .int .i64 qu, v'] 29), (g, .cells cur 3)], h1.turnR ht (fun p hp => ?_), g1, ⟨_, List.mem_cons_self ..⟩, fun k hk => ?_, hne⟩
    · rcases List.mem_append.1 hp with q | q
      · rcases List.mem_cons.1 q with q | q
        · rw [q]; exact ⟨g1.blk, .inl ⟨o, List.mem_append_left _ h3⟩⟩
        · rw [List.mem_singleton.1 q]
          exact ⟨hg, .inr (g3 g (by rw [e1]; rfl))⟩
      · exact hR p q
    · rw [e1] at hk
      simp [Value.ownBlock] at hk
      subst hk
      exact ⟨_, List.mem_cons_of_mem _ (List.mem_singleton.2 rfl)⟩
theorem PX.ask (h : PX B w0 w t x rb ac qu L R) {p : Ending → Prop} {F : Nat} {args : Array Value} (k : ∀ v, RM B w rb ac qu v L → Calls Try.prog F args w fun e w' => p e ∧ w' = w) : Calls Try.prog F args w fun e w' => p e ∧ Hid (PX B w0 w' t x rb ac qu L R) := by
  have h' := h
  obtain ⟨v, V, h1, h2, h3⟩ := h
  refine (k v h2).mono ?_
  rintro e w' ⟨hp, rfl⟩
  exact ⟨hp, h'⟩
theorem PX.askb (h : PX B w0 w t x rb ac qu L R) {p : Ending → Prop} {F : Nat} {args : Array Value} (k : ∀ v, RM B w rb ac qu v L → Calls Try.prog F args w fun e w' => p e ∧ Hid (Below w.heap.size w w')) : Calls Try.prog F args w fun e w' => p e ∧ Hid (PX B w0 w' t x rb ac qu L R) := by
  have h' := h
  obtain ⟨v, V, h1, h2, h3⟩ := h
  refine (k v h2).mono ?_
  rintro e w' ⟨hp, s⟩
  exact ⟨hp, h'.below s.out⟩
theorem PX.actR (h : PX B w0 w t x rb ac qu L R) (hz : siz x ≤ 1000000) : Calls Try.prog 16 #[ptr t] w fun e w' => ∃ a c R', e = .returned (.slice a x.A.length c) ∧ RowAt a x.A c R' ∧ Hid (PX B w0 w' t x rb ac qu L (R' ++ R)) := by
  have h' := h
  obtain ⟨v, V, ⟨F, h1⟩, _⟩ := h
  refine (act_any (h1.ho 0 _ rfl) hz).mono ?_
  rintro e w' ⟨a, c, rfl, s⟩
  obtain ⟨R', g1, g2⟩ := row_of_own s.out.1
  exact ⟨a, c, R', rfl, g1, h'.fresh s.out.2 R' g2⟩
theorem PX.waiR (h : PX B w0 w t x rb ac qu L R) (hz : siz x ≤ 1000000) : Calls Try.prog 17 #[ptr t] w fun e w' => ∃ a c R', e = .returned (.slice a x.Q.length c) ∧ RowAt a x.Q c R' ∧ Hid (PX B w0 w' t x rb ac qu L (R' ++ R)) := by
  have h' := h
  obtain ⟨v, V, ⟨F, h1⟩, _⟩ := h
  refine (wai_any (h1.ho 0 _ rfl) hz).mono ?_
  rintro e w' ⟨a, c, rfl, s⟩
  obtain ⟨R', g1, g2⟩ := row_of_own s.out.1
  exact ⟨a, c, R', rfl, g1, h'.fresh s.out.2 R' g2⟩
theorem px_start (h : MX B w0 w [(t, x)] [(rb, .cells #[.int .i64 ac, .int .i64 qu, .slice none 0 0] 29)]) : PX B w0 w t x rb ac qu [] [] :=
  ⟨.slice none 0 0, [(rb, .cells #[.int .i64 ac, .int .i64 qu, .slice none 0 0] 29)], h.drop (fun p hp => by simpa using hp), ⟨h.row (List.mem_singleton.2 rfl), World.ownsRow_nil _ _ _ _, by simp [Value.ownBlock]⟩, ⟨_, List.mem_singleton.2 rfl⟩, fun k hk => by simp [Value.ownBlock] at hk, fun p hp => by simp at hp⟩
/-- A store into a block beside them. -/
theorem PX.set (h : PX B w0 w t x rb ac qu L R) {r : Nat} {cur : Array Value} {ty : TypeId} (hr : (r, Obj.cells cur ty) ∈ R) (i : Nat) (u : Value) : PX B w0 (w.setCell ⟨r, i, none⟩ u) t x rb ac qu L (R.map fun p => if p.1 = r then (r, .cells (cur.setIfInBounds i u) ty) else p) := by
  obtain ⟨v, V, h1, h2, ⟨o, h3⟩, h4, h5⟩ := h
  have hrow := h1.row (List.mem_append_right V hr)
  have n1 := (h5 _ hr).1
  have n2 := (h5 _ hr).2
  simp only at n1 n2
  have ht : Turn (fun k => ∃ o, (k, o) ∈ R) w (w.setCell ⟨r, i, none⟩ u) := (Turn.refl (fun k => ∃ o, (k, o) ∈ R) w).setCell (p := ⟨r, i, none⟩) (.inl ⟨_, hr⟩) u
  have ht2 : Turn (fun k => ∃ o, (k, o) ∈ V ++ R) w (w.setCell ⟨r, i, none⟩ u) := ht.mono (fun k _ ⟨o, e⟩ => ⟨o, List.mem_append_right _ e⟩)
  have hmap : ∀ p ∈ (R.map fun p => if p.1 = r then (r, Obj.cells (cur.setIfInBounds i u) ty) else p), (w.setCell ⟨r, i, none⟩ u).heap[p.1]? = some p.2 ∧ ∃ q ∈ R, q.1 = p.1 := fun p hp => by
    obtain ⟨q, hq, rfl⟩ := List.mem_map.1 hp
    by_cases e : q.1 = r
    · rw [if_pos e]; exact ⟨heap_setCell_at (o := i) hrow u, q, hq, e⟩
    · rw [if_neg e]
      exact ⟨by rw [Below.heap_setCell _ _ _ _ e]; exact h1.row (List.mem_append_right _ hq), q, hq, rfl⟩
  by_cases hv : ∃ o, (r, o) ∈ V
  · -- V holds no block of R: what it holds beside rb and the row may be dropped
    have hV : ∀ k, k = rb ∨ v.ownBlock = some k → ∃ o, (k, o) ∈ V.filter (fun p => decide (p.1 ≠ r)) := fun k hk => by
      rcases hk with rfl | hk
      · exact ⟨o, List.mem_filter.2 ⟨h3, by simpa using fun e => n1 e.symm⟩⟩
      · obtain ⟨o', ho⟩ := h4 k hk
        exact ⟨o', List.mem_filter.2 ⟨ho, by simpa using fun e => n2 (by rw [hk, e])⟩⟩
    refine ⟨v, V.filter (fun p => decide (p.1 ≠ r)), h1.turnR ht2 (fun p hp => ?_), ⟨?_, owns_keep h2.row (fun j hj => Below.heap_setCell _ _ _ _ (fun e => n2 (by rw [hj, e]))), h2.ne⟩, hV rb (.inl rfl), fun k hk => hV k (.inr hk), fun p hp => ?_⟩
    · rcases List.mem_append.1 hp with q | q
      · obtain ⟨q1, q2⟩ := List.mem_filter.1 q
        have q3 : p.1 ≠ r := by simpa using q2
        exact ⟨by rw [Below.heap_setCell _ _ _ _ q3]; exact h1.row (List.mem_append_left _ q1), .inl ⟨p.2, List.mem_append_left _ q1⟩⟩
      · obtain ⟨q1, z, hz, q2⟩ := hmap p q
        exact ⟨q1, .inl ⟨z.2, List.mem_append_right _ (by rw [← q2]; exact hz)⟩⟩
    · rw [Below.heap_setCell _ _ _ _ (fun e => n1 e.symm)]; exact h2.blk
    · obtain ⟨_, z, hz, q2⟩ := hmap p hp
      rw [← q2]; exact h5 z hz
  · refine ⟨v, V, h1.turnR ht2 (fun p hp => ?_), ⟨?_, owns_keep h2.row (fun j hj => Below.heap_setCell _ _ _ _ (fun e => n2 (by rw [hj, e]))), h2.ne⟩, ⟨o, h3⟩, h4, fun p hp => ?_⟩
    · rcases List.mem_append.1 hp with q | q
      · have q3 : p.1 ≠ r := fun e => hv ⟨p.2, by rw [← e]; exact q⟩
        exact ⟨by rw [Below.heap_setCell _ _ _ _ q3]; exact h1.row (List.mem_append_left _ q), .inl ⟨p.2, List.mem_append_left _ q⟩⟩
      · obtain ⟨q1, z, hz, q2⟩ := hmap p q
        exact ⟨q1, .inl ⟨z.2, List.mem_append_right _ (by rw [← q2]; exact hz)⟩⟩
    · rw [Below.heap_setCell _ _ _ _ (fun e => n1 e.symm)]; exact h2.blk
    · obtain ⟨_, z, hz, q2⟩ := hmap p hp
      rw [← q2]; exact h5 z hz

/-- Where the split is. -/
theorem inv_split (hi : Inv x) (ha : max ac 1 = x.a) : (x.A.length : Int) = min ((x.A ++ x.Q).length : Int) (max ac 1) := by
  rw [ha, List.length_append]
  by_cases e : x.Q = []
  · have := hi.la; rw [e]; simp; omega
  · have := hi.full e; omega
theorem ix_split (hi : Inv x) {id : Int} {k : Nat} (hk : (x.A ++ x.Q)[k]? = some id) : id ∈ x.A ↔ k < x.A.length := by
  constructor
  · intro h
    rcases Nat.lt_or_ge k x.A.length with q | q
    · exact q
    · rw [List.getElem?_append_right q] at hk
      exact absurd (List.mem_of_getElem? hk) (hi.dis h)
  · intro h
    rw [List.getElem?_append_left h] at hk
    exact List.mem_of_getElem? hk
theorem ref_state {W : World} (h : PX B w0 W t X rb ac qu (x.A ++ x.Q) R) (hi : Inv x) (hz : siz x ≤ 1000000) (ha : max ac 1 = x.a) (id : Int) : Calls Try.prog 19 #[ptr rb, .int .i64 id] W fun e w' => e = .returned (.tuple #[.int .i64 (sI x id), .bool (sB x id)]) ∧ Hid (PX B w0 w' t X rb ac qu (x.A ++ x.Q) R) := by
  have hl : (x.A ++ x.Q).length ≤ 1000000 := by rw [List.length_append]; exact hz
  by_cases hm : id ∈ x.A ++ x.Q
  · obtain ⟨k, e1, e2, _, e4⟩ := ix_mem hm
    have hs : sB x id = true := decide_eq_true (List.mem_append.1 hm)
    rw [hs]
    refine h.askb (p := fun e => e = .returned (.tuple #[.int .i64 (sI x id), .bool true])) (fun v hr => rstate_yes hr hl e1 (inv_split hi ha) ?_)
    unfold sI
    by_cases q : id ∈ x.A
    · rw [if_pos q, if_pos ((ix_split hi e4).1 q)]
    · rw [if_neg q, if_neg (fun e => q ((ix_split hi e4).2 e))]
  · have hn : ¬ (id ∈ x.A ∨ id ∈ x.Q) := fun e => hm (List.mem_append.2 e)
    have hs : sB x id = false := decide_eq_false hn
    have hs2 : sI x id = 0 := if_neg (fun e => hn (.inl e))
    rw [hs, hs2]
    exact h.askb (p := fun e => e = .returned (.tuple #[.int .i64 0, .bool false])) (fun v hr => rstate_no hr hl hm)
theorem ref_split {W : World} (h : PX B w0 W t X rb ac qu (x.A ++ x.Q) R) (hi : Inv x) (hz : siz x ≤ 1000000) (ha : max ac 1 = x.a) : Calls Try.prog 20 #[ptr rb] W fun e w' => e = .returned (.int .i64 x.A.length) ∧ Hid (PX B w0 w' t X rb ac qu (x.A ++ x.Q) R) :=
  h.askb (p := fun e => e = .returned (.int .i64 x.A.length)) (fun v hr => rsplit_any hr (by rw [List.length_append]; exact hz) _ (inv_split hi ha))
theorem ref_add {W : World} (h : PX B w0 W t X rb ac qu (x.A ++ x.Q) R) (hi : Inv x) (hz : siz x < 1000000) (ha : max ac 1 = x.a) (hq : max qu 0 = x.q) (id : Int) : Calls Try.prog 13 #[ptr rb, .int .i64 id] W fun e w' => e = .returned (.tuple #[.int .i64 (ts x id), .int .i64 (te x id)]) ∧ Hid (PX B w0 w' t X rb ac qu ((tx x id).A ++ (tx x id).Q) R) := by
  have hl : (x.A ++ x.Q).length < 1000000 := by rw [List.length_append]; exact hz
  rw [all_tx hi id]
  have hla := hi.la
  have hlq := hi.lq
  have haM := hi.aM
  unfold ts te
  by_cases h1 : id ∈ x.A ∨ id ∈ x.Q
  · simp only [if_pos h1]
    rw [if_neg (by omega)]
    exact h.ask (p := fun e => e = .returned (.tuple #[.int .i64 0, .int .i64 8])) (fun v hr => radd_had hr (by omega) (List.mem_append.2 h1))
  · have hm : ¬ id ∈ x.A ++ x.Q := fun e => h1 (List.mem_append.1 e)
    simp only [if_neg h1]
    by_cases h2 : (x.A.length : Int) < x.a
    · simp only [if_pos h2]
      rw [if_pos trivial]
      have hQ := hi.qempty h2
      have hL : ((x.A ++ x.Q).length : Int) < x.a := by rw [hQ, List.append_nil]; exact h2
      exact h.ref (p := fun e => e = .returned (.tuple #[.int .i64 1, .int .i64 0])) (fun v hr hB => radd_yes hr hB hl hm ha haM hq (.inl hL) (by rw [if_pos hL]))
    · have hL : ¬ ((x.A ++ x.Q).length : Int) < x.a := by rw [List.length_append]; omega
      simp only [if_neg h2]
      by_cases h3 : (x.Q.length : Int) < x.q
      · simp only [if_pos h3]
        rw [if_pos trivial]
        exact h.ref (p := fun e => e = .returned (.tuple #[.int .i64 0, .int .i64 0])) (fun v hr hB => radd_yes hr hB hl hm ha haM hq (.inr ⟨hL, by rw [List.length_append]; omega⟩) (by rw [if_neg hL]))
      · simp only [if_neg h3]
        rw [if_neg (by omega)]
        exact h.askb (p := fun e => e = .returned (.tuple #[.int .i64 0, .int .i64 4])) (fun v hr => radd_full hr (by omega) hm ha hq (by omega) (by rw [List.length_append]; omega))
theorem ref_end {W : World} (h : PX B w0 W t X rb ac qu (x.A ++ x.Q) R) (hi : Inv x) (hz : siz x ≤ 1000000) (ha : max ac 1 = x.a) (id : Int) : Calls Try.prog 15 #[ptr rb, .int .i64 id] W fun e w' => e = .returned (.tuple #[.int .i64 (es x id), .int .i64 (ee x id)]) ∧ Hid (PX B w0 w' t X rb ac qu ((ex x id).A ++ (ex x id).Q) R) := by
  have hl : (x.A ++ x.Q).length ≤ 1000000 := by rw [List.length_append]; exact hz
  rw [all_ex hi id]
  have hla := hi.la
  by_cases h1 : id ∈ x.A ∨ id ∈ x.Q
  · have hm := List.mem_append.2 h1
    obtain ⟨k, e1, e2, _, e4⟩ := ix_mem hm
    have hee : ee x id = 0 := if_pos h1
    rw [hee]
    have hlen : (x.A ++ x.Q).length = x.A.length + x.Q.length := List.length_append
    have h0 : 0 < (x.A ++ x.Q).length := List.length_pos_of_mem hm
    refine h.ref (p := fun e => e = .returned (.tuple #[.int .i64 (es x id), .int .i64 0])) (fun v hr hB => rend_yes hr hB hl hm e1 (inv_split hi ha) (N2 := (min (((x.A ++ x.Q).length : Int) - 1) (max ac 1)).toNat) (by have := hi.a1; omega) ?_)
    by_cases hq : id ∈ x.Q
    · left
      refine ⟨?_, by unfold es; rw [if_pos hq]⟩
      rcases Nat.lt_or_ge k x.A.length with q | q
      · exact absurd hq (hi.dis ((ix_split hi e4).2 q))
      · exact q
    · have hA : id ∈ x.A := h1.resolve_right hq
      have hkA := (ix_split hi e4).1 hA
      right
      cases hx : x.Q with
      | nil =>
        left
        rw [hx] at hlen
        simp only [List.length_nil] at hlen
        refine ⟨hkA, ?_, by unfold es; rw [if_neg hq, if_pos hA, hx]; rfl⟩
        rw [List.append_nil]
        rw [ha]
        omega
      | cons n r =>
        right
        have hf := hi.full (by rw [hx]; simp)
        rw [hx] at hlen
        simp only [List.length_cons] at hlen
        rw [hx] at h0
        refine ⟨hkA, ?_, ?_⟩
        · rw [ha, List.length_append, List.length_cons]; omega
        · have hle := List.length_erase_of_mem hA
          rw [List.erase_append_left _ hA, List.getElem?_append_right (by omega), hle, Nat.sub_self]
          unfold es
          rw [if_neg hq, if_pos hA, hx]
          rfl
  · have hm : ¬ id ∈ x.A ++ x.Q := fun e => h1 (List.mem_append.1 e)
    have hee : ee x id = 6 := if_neg h1
    have hes : es x id = 0 := by unfold es; rw [if_neg (fun e => h1 (.inr e)), if_neg (fun e => h1 (.inl e))]
    rw [hee, hes, List.erase_of_not_mem hm]
    exact h.ask (p := fun e => e = .returned (.tuple #[.int .i64 0, .int .i64 6])) (fun v hr => rend_no hr hl hm)

/-- Rows that may be written over. -/
def Wr (a : Option Addr) (m : Nat) (R : List (Nat × Obj)) : Prop := m = 0 ∨ ∃ b cur, a = some ⟨b, 0, none⟩ ∧ m ≤ cur.size ∧ (b, Obj.cells cur 3) ∈ R
theorem RowAt.wr {a : Option Addr} {K : List Int} {c : Nat} {R1 : List (Nat × Obj)} (h : RowAt a K c R1) (hr : ∀ p ∈ R1, p ∈ R) : Wr a K.length R := by
  rcases h with ⟨rfl, _⟩ | ⟨b, cur, rfl, rfl, _, _, hz, _⟩
  · exact .inl rfl
  · exact .inr ⟨b, cur, rfl, hz, hr _ (List.mem_singleton.2 rfl)⟩
def WX (B : Nat) (w0 w : World) (t : Nat) (x : Ad) (rb : Nat) (ac qu : Int) (L : List Int) (a1 : Option Addr) (m1 : Nat) (a2 : Option Addr) (m2 : Nat) : Prop := ∃ R, PX B w0 w t x rb ac qu L R ∧ Wr a1 m1 R ∧ Wr a2 m2 R
theorem Wr.map {a : Option Addr} {m r : Nat} {cur : Array Value} (h : Wr a m R) (hr : (r, Obj.cells cur 3) ∈ R) (hn : ∀ p ∈ R, p.1 = r → p.2 = Obj.cells cur 3) (i : Nat) (u : Value) : Wr a m (R.map fun p => if p.1 = r then (r, .cells (cur.setIfInBounds i u) 3) else p) := by
  rcases h with h | ⟨b, cur', h1, h2, h3⟩
  · exact .inl h
  · by_cases e : b = r
    · subst e
      have := hn _ h3 rfl
      cases this
      exact .inr ⟨b, cur.setIfInBounds i u, h1, by simpa using h2, List.mem_map.2 ⟨(b, .cells cur 3), h3, if_pos rfl⟩⟩
    · exact .inr ⟨b, cur', h1, h2, List.mem_map.2 ⟨(b, .cells cur' 3), h3, if_neg e⟩⟩
variable {a1 a2 : Option Addr} {m1 m2 : Nat}
theorem WX.px (h : WX B w0 w t x rb ac qu L a1 m1 a2 m2) : PX B w0 w t x rb ac qu L [] := by obtain ⟨R, h, _⟩ := h; exact h.drop (fun p hp => by simp at hp)
theorem WX.swap (h : WX B w0 w t x rb ac qu L a1 m1 a2 m2) : WX B w0 w t x rb ac qu L a2 m2 a1 m1 := by obtain ⟨R, h, h1, h2⟩ := h; exact ⟨R, h, h2, h1⟩
theorem WX.cell (h : WX B w0 w t x rb ac qu L a1 m1 a2 m2) {k : Nat} (hk : k < m1) : ∃ b u, a1 = some ⟨b, 0, none⟩ ∧ w.cell? ⟨b, k, none⟩ = some u ∧ w.frozen? ⟨b, k, none⟩ = false ∧ ∀ z, WX B w0 (w.setCell ⟨b, k, none⟩ z) t x rb ac qu L a1 m1 a2 m2 := by
  obtain ⟨R, h, h1, h2⟩ := h
  have h1' := h1
  rcases h1 with h1 | ⟨b, cur, e, hm, hb⟩
  · omega
  · have hr := h.row hb
    refine ⟨b, _, e, by rw [cell_of_row w b k _ _ _ hr]; exact Array.getElem?_eq_getElem (by omega), by simp [World.frozen?, hr], fun z => ?_⟩
    have hn : ∀ p ∈ R, p.1 = b → p.2 = Obj.cells cur 3 := fun p hp q => by
      have := h.row (r := p.1) (o := p.2) hp
      rw [q, hr] at this
      exact (Option.some.inj this).symm
    exact ⟨_, h.set hb k z, h1'.map hb hn k z, h2.map hb hn k z⟩
end
end Go.Proofs.Ytjmdalpffhfdfaa
