/- Several Admits, and blocks of one's own beside them. -/
import Derived.Test.YtjmdalpffhfdfaaObj
namespace Go.Proofs.Ytjmdalpffhfdfaa
open Go.RowKit
open M
set_option linter.unusedVariables false
set_option linter.unusedSimpArgs false

/-- An Admit: its block, what it has. -/
abbrev Hp := Nat × Ad
/-- Admits and blocks beside them, all among what is new from B on, apart from each other. -/
structure MF (F : Nat → Nat → Prop) (B : Nat) (w0 w : World) (hs : List Hp) (R : List (Nat × Obj)) : Prop where
  bel : Below B w0 w
  le : B ≤ w0.heap.size
  ho : ∀ (i : Nat) h, hs[i]? = some h → MO w (F i) h.1 h.2
  inv : ∀ (i : Nat) h, hs[i]? = some h → Inv h.2
  bnd : ∀ i k, F i k → B ≤ k ∧ k < w.heap.size
  dis : ∀ i j k, i ≠ j → F i k → ¬ F j k
  row : ∀ p ∈ R, w.heap[p.1]? = some p.2 ∧ B ≤ p.1 ∧ ∀ i, ¬ F i p.1
def MX (B : Nat) (w0 w : World) (hs : List Hp) (R : List (Nat × Obj)) : Prop := ∃ F, MF F B w0 w hs R

section
variable {B : Nat} {w0 w w' : World} {hs : List Hp} {R : List (Nat × Obj)}
theorem MX.bel (h : MX B w0 w hs R) : Below B w0 w := by obtain ⟨F, h⟩ := h; exact h.bel
theorem MX.size (h : MX B w0 w hs R) : B ≤ w.heap.size := by obtain ⟨F, h⟩ := h; exact Nat.le_trans h.le h.bel.size
theorem MX.inv (h : MX B w0 w hs R) (i : Nat) {t : Nat} {x : Ad} (hi : hs[i]? = some (t, x)) : Inv x := by obtain ⟨F, h⟩ := h; exact h.inv i _ hi
theorem MX.row (h : MX B w0 w hs R) {r : Nat} {o : Obj} (hr : (r, o) ∈ R) : w.heap[r]? = some o := by obtain ⟨F, h⟩ := h; exact (h.row _ hr).1
theorem MX.rowB (h : MX B w0 w hs R) {r : Nat} {o : Obj} (hr : (r, o) ∈ R) : B ≤ r := by obtain ⟨F, h⟩ := h; exact (h.row _ hr).2.1
theorem MX.below (h : MX B w0 w hs R) (hb : Below w.heap.size w w') : MX B w0 w' hs R := by
  obtain ⟨F, h⟩ := h
  have hs1 := hb.size
  exact ⟨F, h.bel.trans (hb.mono (Nat.le_trans h.le h.bel.size)), h.le, fun i x hx => (h.ho i x hx).below hb, h.inv, fun i k hk => ⟨(h.bnd i k hk).1, Nat.lt_of_lt_of_le (h.bnd i k hk).2 hs1⟩, h.dis, fun p hp => ⟨by rw [hb.block p.1 (block_lt (h.row p hp).1)]; exact (h.row p hp).1, (h.row p hp).2⟩⟩
theorem MX.drop (h : MX B w0 w hs R) {R' : List (Nat × Obj)} (hr : ∀ p ∈ R', p ∈ R) : MX B w0 w hs R' := by
  obtain ⟨F, h⟩ := h
  exact ⟨F, h.bel, h.le, h.ho, h.inv, h.bnd, h.dis, fun p hp => h.row p (hr p hp)⟩
theorem mx_start (hb : Below B w0 w) (hle : B ≤ w0.heap.size) : MX B w0 w [] [] := ⟨fun _ _ => False, hb, hle, fun i h hx => by simp at hx, fun i h hx => by simp at hx, fun _ _ q => q.elim, fun _ _ _ _ q => q.elim, fun p hp => by simp at hp⟩
/-- What is new behind a call that made new memory alone. -/
theorem MX.fresh (h : MX B w0 w hs R) (hb : Below w.heap.size w w') (R' : List (Nat × Obj)) (hR : ∀ p ∈ R', w'.heap[p.1]? = some p.2 ∧ w.heap.size ≤ p.1) : MX B w0 w' hs (R' ++ R) := by
  have hz := h.size
  obtain ⟨F, h0⟩ := h
  have hs1 := hb.size
  refine ⟨F, h0.bel.trans (hb.mono hz), h0.le, fun i x hx => (h0.ho i x hx).below hb, h0.inv, fun i k hk => ⟨(h0.bnd i k hk).1, Nat.lt_of_lt_of_le (h0.bnd i k hk).2 hs1⟩, h0.dis, fun p hp => ?_⟩
  rcases List.mem_append.1 hp with hp | hp
  · obtain ⟨a1, a2⟩ := hR p hp
    exact ⟨a1, by omega, fun i hf => by have := (h0.bnd i _ hf).2; omega⟩
  · exact ⟨by rw [hb.block p.1 (block_lt (h0.row p hp).1)]; exact (h0.row p hp).1, (h0.row p hp).2⟩
theorem MX.alloc (h : MX B w0 w hs R) (o : Obj) : MX B w0 (w.alloc o) hs ((w.heap.size, o) :: R) :=
  h.fresh ((Below.refl _ _).alloc (Nat.le_refl _) _) [(w.heap.size, o)] (fun p hp => by rw [List.mem_singleton.1 hp]; exact ⟨heap_alloc_new _ _, Nat.le_refl _⟩)
/-- What turned lies beside the Admits, or is new. -/
theorem MX.turnR (h : MX B w0 w hs R) (ht : Turn (fun k => ∃ o, (k, o) ∈ R) w w') {R2 : List (Nat × Obj)} (hR : ∀ p ∈ R2, w'.heap[p.1]? = some p.2 ∧ ((∃ o, (p.1, o) ∈ R) ∨ w.heap.size ≤ p.1)) : MX B w0 w' hs R2 := by
  have hz := h.size
  obtain ⟨F, h⟩ := h
  have hs1 := ht.size
  refine ⟨F, h.bel.trans (ht.below hz (fun k ⟨o, hk⟩ => (h.row _ hk).2.1)), h.le, fun i x hx => (h.ho i x hx).turn ht (fun k hk ⟨o, e⟩ => (h.row _ e).2.2 i hk), h.inv, fun i k hk => ⟨(h.bnd i k hk).1, Nat.lt_of_lt_of_le (h.bnd i k hk).2 hs1⟩, h.dis, fun p hp => ?_⟩
  obtain ⟨a1, a2⟩ := hR p hp
  rcases a2 with ⟨o, a2⟩ | a2
  · exact ⟨a1, (h.row _ a2).2⟩
  · exact ⟨a1, by omega, fun i hf => by have := (h.bnd i _ hf).2; omega⟩
/-- A call that turns the i-th alone. -/
theorem MF.next {F : Nat → Nat → Prop} (h : MF F B w0 w hs R) {i t : Nat} {x y : Ad} (hi : hs[i]? = some (t, x)) (h1 : St (F i) w w' t y) (hy : Inv y) : MX B w0 w' (hs.set i (t, y)) R := by
  have hlt : i < hs.length := by
    rcases Nat.lt_or_ge i hs.length with q | q
    · exact q
    · rw [List.getElem?_eq_none q] at hi; cases hi
  have hz := Nat.le_trans h.le h.bel.size
  have u := h1.tu
  have hs1 := u.size
  have hG : ∀ k, Grow (F i) w w' k → k < w'.heap.size := fun k hk => by
    rcases hk with q | q
    · have := h.bnd i k q; omega
    · exact q.2
  refine ⟨fun j => if j = i then Grow (F i) w w' else F j, h.bel.trans (u.below hz (fun k hk => (h.bnd i k hk).1)), h.le, fun j x hx => ?_, fun j x hx => ?_, fun j k hk => ?_, fun j l k hne hj hl => ?_, fun p hp => ?_⟩
  · by_cases e : j = i
    · subst e
      rw [List.getElem?_set_self hlt] at hx
      cases hx
      simp only [if_true]
      exact h1.to
    · rw [List.getElem?_set_ne (fun q => e q.symm)] at hx
      simp only [e, if_false]
      exact (h.ho j x hx).turn u (fun k hk => h.dis j i k e hk)
  · by_cases e : j = i
    · subst e
      rw [List.getElem?_set_self hlt] at hx
      cases hx
      exact hy
    · rw [List.getElem?_set_ne (fun q => e q.symm)] at hx
      exact h.inv j x hx
  · by_cases e : j = i
    · subst e
      simp only [if_true] at hk
      have z := hG k hk
      rcases hk with q | q
      · have := h.bnd j k q; omega
      · omega
    · simp only [e, if_false] at hk
      have := h.bnd j k hk; omega
  · by_cases e : j = i
    · subst e
      have e2 : ¬ l = j := fun q => hne q.symm
      simp only [if_true] at hj
      simp only [e2, if_false] at hl
      have := h.bnd l k hl
      rcases hj with q | q
      · exact h.dis j l k hne q hl
      · omega
    · simp only [e, if_false] at hj
      by_cases e2 : l = i
      · subst e2
        simp only [if_true] at hl
        have := h.bnd j k hj
        rcases hl with q | q
        · exact h.dis j l k hne hj q
        · omega
      · simp only [e2, if_false] at hl
        exact h.dis j l k hne hj hl
  · obtain ⟨q1, q2, q3⟩ := h.row p hp
    refine ⟨by rw [u.block p.1 (block_lt q1) (q3 i)]; exact q1, q2, fun j hf => ?_⟩
    by_cases e : j = i
    · subst e
      simp only [if_true] at hf
      rcases hf with q | q
      · exact q3 j q
      · have := block_lt q1; omega
    · simp only [e, if_false] at hf
      exact q3 j hf
theorem MX.add (h : MX B w0 w hs R) (i : Nat) {t : Nat} {x : Ad} (hi : hs[i]? = some (t, x)) (hz : siz x < 1000000) (id : Int) : Calls Try.prog 12 #[ptr t, .int .i64 id] w fun e w' => e = .returned (.tuple #[.int .i64 (ts x id), .int .i64 (te x id)]) ∧ Hid (MX B w0 w' (hs.set i (t, tx x id)) R) := by
  obtain ⟨F, h⟩ := h
  refine (add_any (h.ho i _ hi) hz id).mono ?_
  rintro e w' ⟨rfl, s⟩
  exact ⟨rfl, h.next hi s.out (inv_tx (h.inv i _ hi) id)⟩
theorem MX.end_ (h : MX B w0 w hs R) (i : Nat) {t : Nat} {x : Ad} (hi : hs[i]? = some (t, x)) (hz : siz x ≤ 1000000) (id : Int) : Calls Try.prog 14 #[ptr t, .int .i64 id] w fun e w' => e = .returned (.tuple #[.int .i64 (es x id), .int .i64 (ee x id)]) ∧ Hid (MX B w0 w' (hs.set i (t, ex x id)) R) := by
  obtain ⟨F, h⟩ := h
  refine (end_any (h.ho i _ hi) (h.inv i _ hi) hz id).mono ?_
  rintro e w' ⟨rfl, s⟩
  exact ⟨rfl, h.next hi s.out (inv_ex (h.inv i _ hi) id)⟩
theorem MX.sta (h : MX B w0 w hs R) (i : Nat) {t : Nat} {x : Ad} (hi : hs[i]? = some (t, x)) (hz : siz x ≤ 1000000) (id : Int) : Calls Try.prog 18 #[ptr t, .int .i64 id] w fun e w' => e = .returned (.tuple #[.int .i64 (sI x id), .bool (sB x id)]) ∧ Hid (MX B w0 w' hs R) := by
  have h' := h
  obtain ⟨F, h⟩ := h
  refine (state_any (h.ho i _ hi) hz id).mono ?_
  rintro e w' ⟨rfl, rfl⟩
  exact ⟨rfl, h'⟩

/-- A row that was handed back: nil, or a block of its own. -/
def RowAt (a : Option Addr) (L : List Int) (cap : Nat) (R' : List (Nat × Obj)) : Prop := (L = [] ∧ a = none ∧ cap = 0 ∧ R' = []) ∨ ∃ b cur, a = some ⟨b, 0, none⟩ ∧ R' = [(b, .cells cur 3)] ∧ L.length ≤ cap ∧ cap ≤ maxLen ∧ L.length ≤ cur.size ∧ ∀ i (h : i < L.length), cur[i]? = some (.int .i64 L[i])
theorem RowAt.rd {a : Option Addr} {L : List Int} {cap : Nat} {R' : List (Nat × Obj)} (h : RowAt a L cap R') (hx : ∀ p ∈ R', w.heap[p.1]? = some p.2) : Rd w a L cap := by
  rcases h with ⟨rfl, rfl, rfl, _⟩ | ⟨b, cur, rfl, rfl, h1, h2, hz, hc⟩
  · exact ⟨Nat.le_refl _, Nat.zero_le _, .inl ⟨rfl, rfl, rfl⟩⟩
  · have hr := hx _ (List.mem_singleton.2 rfl)
    exact ⟨h1, h2, .inr ⟨b, 0, rfl, block_lt hr, fun i hi => by rw [Nat.zero_add, cell_of_row w b i _ _ _ hr]; exact hc i hi⟩⟩
theorem row_of_own {base : Nat} {a : Option Addr} {L : List Int} {cap : Nat} (h : w.ownsRow base 3 1 (.slice a L.length cap) L.length (ints L)) : ∃ R', RowAt a L cap R' ∧ ∀ p ∈ R', w.heap[p.1]? = some p.2 ∧ base ≤ p.1 := by
  rcases h.2 with ⟨e, q⟩ | ⟨g, c, cur, e, hb, hg, h1, h2, h3, h4⟩
  · obtain ⟨rfl, _, rfl⟩ : a = none ∧ L.length = 0 ∧ cap = 0 := by simpa using e
    exact ⟨[], .inl ⟨List.eq_nil_of_length_eq_zero q, rfl, rfl, rfl⟩, fun p hp => by simp at hp⟩
  · cases e
    refine ⟨[(g, .cells cur 3)], .inr ⟨g, cur, rfl, rfl, h1, h2, by omega, fun i hi => ?_⟩, fun p hp => by rw [List.mem_singleton.1 hp]; exact ⟨hg, hb⟩⟩
    rw [← Array.getElem?_toList, ← ints_at L hi, ← h4, List.getElem?_take_of_lt (by omega)]
theorem MX.actR (h : MX B w0 w hs R) (i : Nat) {t : Nat} {x : Ad} (hi : hs[i]? = some (t, x)) (hz : siz x ≤ 1000000) : Calls Try.prog 16 #[ptr t] w fun e w' => ∃ a c R', e = .returned (.slice a x.A.length c) ∧ RowAt a x.A c R' ∧ Hid (MX B w0 w' hs (R' ++ R)) := by
  have h' := h
  obtain ⟨F, h⟩ := h
  refine (act_any (h.ho i _ hi) hz).mono ?_
  rintro e w' ⟨a, c, rfl, s⟩
  obtain ⟨R', h1, h2⟩ := row_of_own s.out.1
  exact ⟨a, c, R', rfl, h1, h'.fresh s.out.2 R' h2⟩
theorem MX.waiR (h : MX B w0 w hs R) (i : Nat) {t : Nat} {x : Ad} (hi : hs[i]? = some (t, x)) (hz : siz x ≤ 1000000) : Calls Try.prog 17 #[ptr t] w fun e w' => ∃ a c R', e = .returned (.slice a x.Q.length c) ∧ RowAt a x.Q c R' ∧ Hid (MX B w0 w' hs (R' ++ R)) := by
  have h' := h
  obtain ⟨F, h⟩ := h
  refine (wai_any (h.ho i _ hi) hz).mono ?_
  rintro e w' ⟨a, c, rfl, s⟩
  obtain ⟨R', h1, h2⟩ := row_of_own s.out.1
  exact ⟨a, c, R', rfl, h1, h'.fresh s.out.2 R' h2⟩
theorem MX.act (h : MX B w0 w hs R) (i : Nat) {t : Nat} {x : Ad} (hi : hs[i]? = some (t, x)) (hz : siz x ≤ 1000000) : Calls Try.prog 16 #[ptr t] w fun e w' => ∃ a c, e = .returned (.slice a x.A.length c) ∧ Hid (MX B w0 w' hs R ∧ Rd w' a x.A c ∧ Below w.heap.size w w') := by
  have h' := h
  obtain ⟨F, h⟩ := h
  refine (act_any (h.ho i _ hi) hz).mono ?_
  rintro e w' ⟨a, c, rfl, s⟩
  exact ⟨a, c, rfl, h'.below s.out.2, own_rd s.out.1, s.out.2⟩
theorem MX.wai (h : MX B w0 w hs R) (i : Nat) {t : Nat} {x : Ad} (hi : hs[i]? = some (t, x)) (hz : siz x ≤ 1000000) : Calls Try.prog 17 #[ptr t] w fun e w' => ∃ a c, e = .returned (.slice a x.Q.length c) ∧ Hid (MX B w0 w' hs R ∧ Rd w' a x.Q c ∧ Below w.heap.size w w') := by
  have h' := h
  obtain ⟨F, h⟩ := h
  refine (wai_any (h.ho i _ hi) hz).mono ?_
  rintro e w' ⟨a, c, rfl, s⟩
  exact ⟨a, c, rfl, h'.below s.out.2, own_rd s.out.1, s.out.2⟩
theorem MX.new (h : MX B w0 w hs R) (a q : Int) (ha : a ≤ 9223372036854775807) (hq : q ≤ 9223372036854775807) : Calls Try.prog 11 #[.int .i64 a, .int .i64 q] w fun e w' => ∃ t, e = .returned (ptr t) ∧ Hid (MX B w0 w' (hs ++ [(t, mk0 a q)]) R) := by
  refine (new_any w a q).mono ?_
  rintro e w' ⟨t, rfl, s⟩
  obtain ⟨h1, h2, h3⟩ := s.out
  refine ⟨t, rfl, ?_⟩
  have hz := h.size
  obtain ⟨F, h⟩ := h
  have hs1 := h2.size
  obtain ⟨va, vq, g1, g2⟩ := h1
  have ht := block_lt g1.blk
  have h1 : MO w' (fun k => k = t) t (mk0 a q) := ⟨va, vq, g1, g2⟩
  refine ⟨fun j k => (j = hs.length ∧ k = t) ∨ (j ≠ hs.length ∧ F j k), h.bel.trans (h2.mono hz), h.le, fun j x hx => ?_, fun j x hx => ?_, fun j k hk => ?_, fun j l k hne hj hl => ?_, fun p hp => ?_⟩
  · by_cases e : j = hs.length
    · subst e
      rw [List.getElem?_append_right (Nat.le_refl _)] at hx
      simp at hx
      subst hx
      exact h1.mono (fun k _ hk => .inl ⟨rfl, hk⟩)
    · have hl : j < hs.length := by
        rcases Nat.lt_or_ge j hs.length with q | q
        · exact q
        · rw [List.getElem?_eq_none (by simp; omega)] at hx; cases hx
      rw [List.getElem?_append_left hl] at hx
      exact ((h.ho j x hx).below h2).mono (fun k _ hk => .inr ⟨e, hk⟩)
  · by_cases e : j = hs.length
    · subst e
      rw [List.getElem?_append_right (Nat.le_refl _)] at hx
      simp at hx
      subst hx
      exact inv_mk0 ha hq
    · have hl : j < hs.length := by
        rcases Nat.lt_or_ge j hs.length with q | q
        · exact q
        · rw [List.getElem?_eq_none (by simp; omega)] at hx; cases hx
      rw [List.getElem?_append_left hl] at hx
      exact h.inv j x hx
  · rcases hk with ⟨_, q⟩ | ⟨_, q⟩
    · subst q; omega
    · have := h.bnd j k q; omega
  · rcases hj with ⟨e1, q1⟩ | ⟨e1, q1⟩
    · rcases hl with ⟨e2, q2⟩ | ⟨e2, q2⟩
      · omega
      · have := h.bnd l k q2; omega
    · rcases hl with ⟨e2, q2⟩ | ⟨e2, q2⟩
      · have := h.bnd j k q1; omega
      · exact h.dis j l k hne q1 q2
  · obtain ⟨q1, q2, q3⟩ := h.row p hp
    have hl := block_lt q1
    refine ⟨by rw [h2.block p.1 hl]; exact q1, q2, fun j hf => ?_⟩
    rcases hf with ⟨_, q⟩ | ⟨_, q⟩
    · omega
    · exact q3 j q
end
end Go.Proofs.Ytjmdalpffhfdfaa
