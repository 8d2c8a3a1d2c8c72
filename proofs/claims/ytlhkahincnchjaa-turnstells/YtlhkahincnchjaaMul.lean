/- Several turns, rows of one's own, and blocks beside them. -/
import Derived.Test.YtlhkahincnchjaaTak
namespace Go.Proofs.Ytlhkahincnchjaa
open Go.RowKit
open M
set_option linter.unusedVariables false
set_option linter.unusedSimpArgs false

/-- What lies in blocks of its own, and stands as long as they do. -/
structure Ob where
  p : World → (Nat → Prop) → Prop
  turn : ∀ {w w' : World} {F G : Nat → Prop}, p w F → Turn G w w' → (∀ k, F k → ¬ G k) → p w' F
  mono : ∀ {w : World} {F G : Nat → Prop}, p w F → (∀ k, k < w.heap.size → F k → G k) → p w G
/-- Turns: the program's own. -/
def obA (t : Nat) (x : Tn) : Ob := ⟨fun w F => MO 64 62 w F t x, fun h u hd => h.turn u hd, fun h hg => h.mono hg⟩
/-- Turns: the document's. -/
def obB (t : Nat) (x : Tn) : Ob := ⟨fun w F => MO 50 48 w F t x, fun h u hd => h.turn u hd, fun h hg => h.mono hg⟩
/-- The cells of wants. -/
def wcs (L : List Wn) : List Value := L.flatMap fun p => [.int .i64 p.1, .int .i64 p.2]
theorem wcs_len (L : List Wn) : (wcs L).length = L.length * 2 := by
  induction L with
  | nil => rfl
  | cons p L ih =>
    have e : wcs (p :: L) = [.int .i64 p.1, .int .i64 p.2] ++ wcs L := by simp [wcs]
    rw [e, List.length_append, ih]; simp; omega
theorem wcs_app (L K : List Wn) : wcs (L ++ K) = wcs L ++ wcs K := by simp [wcs]
theorem wcs_at : ∀ (L : List Wn) (j : Nat) (hj : j < L.length), (wcs L)[j * 2]? = some (.int .i64 L[j].1) ∧ (wcs L)[j * 2 + 1]? = some (.int .i64 L[j].2)
  | [], j, hj => by simp at hj
  | p :: L, 0, _ => by
    have e : wcs (p :: L) = [.int .i64 p.1, .int .i64 p.2] ++ wcs L := by simp [wcs]
    rw [e]; exact ⟨rfl, rfl⟩
  | p :: L, j + 1, hj => by
    have e : wcs (p :: L) = [.int .i64 p.1, .int .i64 p.2] ++ wcs L := by simp [wcs]
    obtain ⟨q0, q1⟩ := wcs_at L j (by simpa using hj)
    rw [e]
    refine ⟨?_, ?_⟩
    · rw [List.getElem?_append_right (by simp; omega)]; simpa [show (j + 1) * 2 - 2 = j * 2 by omega] using q0
    · rw [List.getElem?_append_right (by simp; omega)]; simpa [show (j + 1) * 2 + 1 - 2 = j * 2 + 1 by omega] using q1
/-- Wants in a row of one's own. -/
def obW (e : TypeId) (v : Value) (L : List Wn) : Ob := ⟨fun w F => w.ownsRow 0 e 2 v L.length (wcs L) ∧ ∀ k, v.ownBlock = some k → F k,
  fun h u hd => ⟨owns_keep h.1 (fun k hk => u.block k (h.1.lt k hk).2 (hd k (h.2 k hk))), h.2⟩, fun h hg => ⟨h.1, fun k hk => hg k (h.1.lt k hk).2 (h.2 k hk)⟩⟩
theorem ws_own {w : World} {base : Nat} {e : TypeId} {v : Value} {L : List Wn} (h : w.ownsRow base e 2 v L.length (wcs L)) : ∃ ao cap, v = .slice ao L.length cap ∧ L.length ≤ cap ∧ cap ≤ maxLen ∧ Ws w ao L := by
  rcases h.2 with ⟨rfl, q⟩ | ⟨g, cc, cur, rfl, hb, hg, h1, h2, h3, h4⟩
  · exact ⟨none, 0, by rw [q], by omega, Nat.zero_le _, fun i hi => by omega⟩
  · refine ⟨_, cc, rfl, h1, h2, fun i hi => ?_⟩
    obtain ⟨q0, q1⟩ := wcs_at L i hi
    have hc : ∀ k u, (wcs L)[k]? = some u → w.cell? ⟨g, k, none⟩ = some u := fun k u hu => by
      have hk : k < L.length * 2 := by
        rcases Nat.lt_or_ge k (L.length * 2) with q | q
        · exact q
        · rw [List.getElem?_eq_none (by rw [wcs_len]; exact q)] at hu; cases hu
      rw [cell_of_row w g k _ _ _ hg, ← Array.getElem?_toList, ← hu, ← h4, List.getElem?_take_of_lt hk]
    exact ⟨g, 0, rfl, block_lt hg, by rw [Nat.zero_add]; exact hc _ _ q0, by rw [Nat.zero_add]; exact hc _ _ q1⟩

/-- Things and blocks beside them, all among what is new from B on, apart from each other. -/
structure MF (F : Nat → Nat → Prop) (B : Nat) (w0 w : World) (os : List Ob) (R : List (Nat × Obj)) : Prop where
  bel : Below B w0 w
  le : B ≤ w0.heap.size
  ho : ∀ (i : Nat) o, os[i]? = some o → o.p w (F i)
  bnd : ∀ i k, F i k → B ≤ k ∧ k < w.heap.size
  dis : ∀ i j k, i ≠ j → F i k → ¬ F j k
  row : ∀ p ∈ R, w.heap[p.1]? = some p.2 ∧ B ≤ p.1 ∧ ∀ i, ¬ F i p.1
def MX (B : Nat) (w0 w : World) (os : List Ob) (R : List (Nat × Obj)) : Prop := ∃ F, MF F B w0 w os R

section
variable {B : Nat} {w0 w w' : World} {os : List Ob} {R : List (Nat × Obj)}
theorem MX.bel (h : MX B w0 w os R) : Below B w0 w := by obtain ⟨F, h⟩ := h; exact h.bel
theorem MX.size (h : MX B w0 w os R) : B ≤ w.heap.size := by obtain ⟨F, h⟩ := h; exact Nat.le_trans h.le h.bel.size
theorem MX.row (h : MX B w0 w os R) {r : Nat} {o : Obj} (hr : (r, o) ∈ R) : w.heap[r]? = some o := by obtain ⟨F, h⟩ := h; exact (h.row _ hr).1
theorem MX.rowB (h : MX B w0 w os R) {r : Nat} {o : Obj} (hr : (r, o) ∈ R) : B ≤ r := by obtain ⟨F, h⟩ := h; exact (h.row _ hr).2.1
theorem MF.thing {F : Nat → Nat → Prop} (h : MF F B w0 w os R) (hb : Below w.heap.size w w') {i : Nat} {o : Ob} (hi : os[i]? = some o) : o.p w' (F i) :=
  o.turn (h.ho i o hi) (Turn.of_below (F := fun _ => False) hb) (fun _ _ q => q)
theorem MX.below (h : MX B w0 w os R) (hb : Below w.heap.size w w') : MX B w0 w' os R := by
  obtain ⟨F, h⟩ := h
  have hs1 := hb.size
  exact ⟨F, h.bel.trans (hb.mono (Nat.le_trans h.le h.bel.size)), h.le, fun i x hx => h.thing hb hx, fun i k hk => ⟨(h.bnd i k hk).1, Nat.lt_of_lt_of_le (h.bnd i k hk).2 hs1⟩, h.dis, fun p hp => ⟨by rw [hb.block p.1 (block_lt (h.row p hp).1)]; exact (h.row p hp).1, (h.row p hp).2⟩⟩
theorem MX.drop (h : MX B w0 w os R) {R' : List (Nat × Obj)} (hr : ∀ p ∈ R', p ∈ R) : MX B w0 w os R' := by
  obtain ⟨F, h⟩ := h
  exact ⟨F, h.bel, h.le, h.ho, h.bnd, h.dis, fun p hp => h.row p (hr p hp)⟩
/-- The last thing is forgotten. -/
theorem MX.forget {o : Ob} (h : MX B w0 w (os ++ [o]) R) : MX B w0 w os R := by
  obtain ⟨F, h⟩ := h
  refine ⟨F, h.bel, h.le, fun i x hx => h.ho i x ?_, h.bnd, h.dis, h.row⟩
  have hl : i < os.length := by
    rcases Nat.lt_or_ge i os.length with q | q
    · exact q
    · rw [List.getElem?_eq_none q] at hx; cases hx
  rw [List.getElem?_append_left hl]; exact hx
theorem mx_start (hb : Below B w0 w) (hle : B ≤ w0.heap.size) : MX B w0 w [] [] := ⟨fun _ _ => False, hb, hle, fun i h hx => by simp at hx, fun _ _ q => q.elim, fun _ _ _ _ q => q.elim, fun p hp => by simp at hp⟩
theorem MX.fresh (h : MX B w0 w os R) (hb : Below w.heap.size w w') (R' : List (Nat × Obj)) (hR : ∀ p ∈ R', w'.heap[p.1]? = some p.2 ∧ w.heap.size ≤ p.1) : MX B w0 w' os (R' ++ R) := by
  have hz := h.size
  obtain ⟨F, h0⟩ := h
  have hs1 := hb.size
  refine ⟨F, h0.bel.trans (hb.mono hz), h0.le, fun i x hx => h0.thing hb hx, fun i k hk => ⟨(h0.bnd i k hk).1, Nat.lt_of_lt_of_le (h0.bnd i k hk).2 hs1⟩, h0.dis, fun p hp => ?_⟩
  rcases List.mem_append.1 hp with hp | hp
  · obtain ⟨a1, a2⟩ := hR p hp
    exact ⟨a1, by omega, fun i hf => by have := (h0.bnd i _ hf).2; omega⟩
  · exact ⟨by rw [hb.block p.1 (block_lt (h0.row p hp).1)]; exact (h0.row p hp).1, (h0.row p hp).2⟩
theorem MX.alloc (h : MX B w0 w os R) (o : Obj) : MX B w0 (w.alloc o) os ((w.heap.size, o) :: R) :=
  h.fresh ((Below.refl _ _).alloc (Nat.le_refl _) _) [(w.heap.size, o)] (fun p hp => by rw [List.mem_singleton.1 hp]; exact ⟨heap_alloc_new _ _, Nat.le_refl _⟩)
/-- What turned lies beside the things, or is new. -/
theorem MX.turnR (h : MX B w0 w os R) (ht : Turn (fun k => ∃ o, (k, o) ∈ R) w w') {R2 : List (Nat × Obj)} (hR : ∀ p ∈ R2, w'.heap[p.1]? = some p.2 ∧ ((∃ o, (p.1, o) ∈ R) ∨ w.heap.size ≤ p.1)) : MX B w0 w' os R2 := by
  have hz := h.size
  obtain ⟨F, h⟩ := h
  have hs1 := ht.size
  refine ⟨F, h.bel.trans (ht.below hz (fun k ⟨o, hk⟩ => (h.row _ hk).2.1)), h.le, fun i x hx => x.turn (h.ho i x hx) ht (fun k hk ⟨o, e⟩ => (h.row _ e).2.2 i hk), fun i k hk => ⟨(h.bnd i k hk).1, Nat.lt_of_lt_of_le (h.bnd i k hk).2 hs1⟩, h.dis, fun p hp => ?_⟩
  obtain ⟨a1, a2⟩ := hR p hp
  rcases a2 with ⟨o, a2⟩ | a2
  · exact ⟨a1, (h.row _ a2).2⟩
  · exact ⟨a1, by omega, fun i hf => by have := (h.bnd i _ hf).2; omega⟩
/-- A call that turns the i-th alone. -/
theorem MF.next {F : Nat → Nat → Prop} (h : MF F B w0 w os R) {i : Nat} {o o' : Ob} (hi : os[i]? = some o) (h1 : o'.p w' (Grow (F i) w w')) (u : Turn (F i) w w') : MX B w0 w' (os.set i o') R := by
  have hlt : i < os.length := by
    rcases Nat.lt_or_ge i os.length with q | q
    · exact q
    · rw [List.getElem?_eq_none q] at hi; cases hi
  have hz := Nat.le_trans h.le h.bel.size
  have hs1 := u.size
  have hG : ∀ k, Grow (F i) w w' k → k < w'.heap.size := fun k hk => by
    rcases hk with q | q
    · have := h.bnd i k q; omega
    · exact q.2
  refine ⟨fun j => if j = i then Grow (F i) w w' else F j, h.bel.trans (u.below hz (fun k hk => (h.bnd i k hk).1)), h.le, fun j x hx => ?_, fun j k hk => ?_, fun j l k hne hj hl => ?_, fun p hp => ?_⟩
  · by_cases e : j = i
    · subst e
      rw [List.getElem?_set_self hlt] at hx
      cases hx
      simp only [if_true]
      exact h1
    · rw [List.getElem?_set_ne (fun q => e q.symm)] at hx
      simp only [e, if_false]
      exact x.turn (h.ho j x hx) u (fun k hk => h.dis j i k e hk)
  · by_cases e : j = i
    · subst e
      simp only [if_true] at hk
      have z := hG k hk
      rcases hk with q | q
      · have := h.bnd j k q; omega
      · omega
    · simp only [e, if_false] at hk
      have := h.bnd j k hk; omega
  · by_cases e : j = i
    · subst e
      have e2 : ¬ l = j := fun q => hne q.symm
      simp only [if_true] at hj
      simp only [e2, if_false] at hl
      have := h.bnd l k hl
      rcases hj with q | q
      · exact h.dis j l k hne q hl
      · omega
    · simp only [e, if_false] at hj
      by_cases e2 : l = i
      · subst e2
        simp only [if_true] at hl
        have := h.bnd j k hj
        rcases hl with q | q
        · exact h.dis j l k hne hj q
        · omega
      · simp only [e2, if_false] at hl
        exact h.dis j l k hne hj hl
  · obtain ⟨q1, q2, q3⟩ := h.row p hp
    refine ⟨by rw [u.block p.1 (block_lt q1) (q3 i)]; exact q1, q2, fun j hf => ?_⟩
    by_cases e : j = i
    · subst e
      simp only [if_true] at hf
      rcases hf with q | q
      · exact q3 j q
      · have := block_lt q1; omega
    · simp only [e, if_false] at hf
      exact q3 j hf
/-- A thing that a call made out of new memory alone. -/
theorem MX.add (h : MX B w0 w os R) (hb : Below w.heap.size w w') {G : Nat → Prop} {o : Ob} (ho : o.p w' G) (hG : ∀ k, G k → w.heap.size ≤ k ∧ k < w'.heap.size) : MX B w0 w' (os ++ [o]) R := by
  have hz := h.size
  obtain ⟨F, h⟩ := h
  have hs1 := hb.size
  refine ⟨fun j k => (j = os.length ∧ G k) ∨ (j ≠ os.length ∧ F j k), h.bel.trans (hb.mono hz), h.le, fun j x hx => ?_, fun j k hk => ?_, fun j l k hne hj hl => ?_, fun p hp => ?_⟩
  · by_cases e : j = os.length
    · subst e
      rw [List.getElem?_append_right (Nat.le_refl _)] at hx
      simp at hx
      subst hx
      exact o.mono ho (fun k _ hk => .inl ⟨rfl, hk⟩)
    · have hl : j < os.length := by
        rcases Nat.lt_or_ge j os.length with q | q
        · exact q
        · rw [List.getElem?_eq_none (by simp; omega)] at hx; cases hx
      rw [List.getElem?_append_left hl] at hx
      exact x.mono (h.thing hb hx) (fun k _ hk => .inr ⟨e, hk⟩)
  · rcases hk with ⟨_, q⟩ | ⟨_, q⟩
    · have := hG k q; omega
    · have := h.bnd j k q; omega
  · rcases hj with ⟨e1, q1⟩ | ⟨e1, q1⟩
    · rcases hl with ⟨e2, q2⟩ | ⟨e2, q2⟩
      · omega
      · have := h.bnd l k q2; have := hG k q1; omega
    · rcases hl with ⟨e2, q2⟩ | ⟨e2, q2⟩
      · have := h.bnd j k q1; have := hG k q2; omega
      · exact h.dis j l k hne q1 q2
  · obtain ⟨q1, q2, q3⟩ := h.row p hp
    have hl := block_lt q1
    refine ⟨by rw [hb.block p.1 hl]; exact q1, q2, fun j hf => ?_⟩
    rcases hf with ⟨_, q⟩ | ⟨_, q⟩
    · have := hG _ q; omega
    · exact q3 j q

/-- Turns that can be taken on: what always holds of them. -/
structure Gd (M : Int) (N : Nat) (x : Tn) : Prop where
  iv : Inv M x
  len : x.n ≤ N
  ids : ∀ j, j < x.n → i64B (x.I j)

theorem MX.new (h : MX B w0 w os R) (q : Int) : Calls Try.prog 11 #[.int .i64 q] w fun e w' => ∃ t, e = .returned (ptr t) ∧ Hid (MX B w0 w' (os ++ [obA t (mk0 q)]) R) := by
  refine (new_any w q).mono ?_
  rintro e w' ⟨t, rfl, s⟩
  obtain ⟨h1, h2, h3⟩ := s.out
  exact ⟨t, rfl, h.add (o := obA t (mk0 q)) h2 h1 (fun k hk => by subst hk; exact ⟨h3, h1.lt⟩)⟩
theorem MX.rnew (h : MX B w0 w os R) (q : Int) : Calls Try.prog 12 #[.int .i64 q] w fun e w' => ∃ t, e = .returned (ptr t) ∧ Hid (MX B w0 w' (os ++ [obB t (mk0 q)]) R) := by
  refine (rnew_any w q).mono ?_
  rintro e w' ⟨t, rfl, s⟩
  obtain ⟨h1, h2, h3⟩ := s.out
  exact ⟨t, rfl, h.add (o := obB t (mk0 q)) h2 h1 (fun k hk => by subst hk; exact ⟨h3, h1.lt⟩)⟩
theorem MX.join (h : MX B w0 w os R) (i : Nat) {t : Nat} {x : Tn} (hi : os[i]? = some (obA t x)) (hn : x.n < 1000000) (id wt : Int) : Calls Try.prog 13 #[ptr t, .int .i64 id, .int .i64 wt] w fun e w' => e = .returned (.int .i64 (joinE x id wt)) ∧ Hid (MX B w0 w' (os.set i (obA t (joinX x id wt))) R) := by
  obtain ⟨F, h⟩ := h
  refine (join_any (h.ho i _ hi) hn id wt).mono ?_
  rintro e w' ⟨rfl, s⟩
  exact ⟨rfl, h.next (o' := obA t (joinX x id wt)) hi s.out.to s.out.tu⟩
theorem MX.leave (h : MX B w0 w os R) (i : Nat) {t : Nat} {x : Tn} (hi : os[i]? = some (obA t x)) (hn : x.n ≤ 1000000) (hk : 0 < x.n → x.k < x.n) (id : Int) : Calls Try.prog 15 #[ptr t, .int .i64 id] w fun e w' => e = .returned (.int .i64 (leaveE x id)) ∧ Hid (MX B w0 w' (os.set i (obA t (leaveX x id))) R) := by
  obtain ⟨F, h⟩ := h
  refine (leave_any (h.ho i _ hi) hn hk id).mono ?_
  rintro e w' ⟨rfl, s⟩
  exact ⟨rfl, h.next (o' := obA t (leaveX x id)) hi s.out.to s.out.tu⟩
theorem MX.take (h : MX B w0 w os R) (i : Nat) {t : Nat} {x : Tn} (hi : os[i]? = some (obA t x)) {M : Int} {N : Nat} (hM : M ≤ 1048576) (hg : Gd M N x) (hN : N ≤ 1000000) {la : Option Addr} {l : List Wn} {lc : Nat} (hl : Ws w la l) (hm2 : l.length ≤ 1000000) (hlb : ∀ p ∈ l, i64B p.1) :
    Calls Try.prog 18 #[ptr t, .slice la l.length lc] w fun e w' => ∃ y id ok, e = .returned (.tuple #[.int .i64 id, .bool ok]) ∧ Hid (TakeP l x y id ok ∧ MX B w0 w' (os.set i (obA t y)) R) := by
  obtain ⟨F, h⟩ := h
  have iv : Inv 1048576 x := ⟨hg.iv.q1, hg.iv.q2, hg.iv.w, hg.iv.c0, fun j hj hne => by have := hg.iv.cM j hj hne; omega, fun hk => by have := hg.iv.ck hk; omega, hg.iv.kn, hg.iv.k0⟩
  refine (take_any (h.ho i _ hi) iv (by have := hg.len; omega) hg.ids hl rfl hm2 hlb).mono ?_
  rintro e w' ⟨y, id, ok, rfl, s⟩
  exact ⟨y, id, ok, rfl, s.out.1, h.next (o' := obA t y) hi s.out.2.to s.out.2.tu⟩
theorem MX.credit (h : MX B w0 w os R) (i : Nat) {t : Nat} {x : Tn} (hi : os[i]? = some (obA t x)) (hn : x.n ≤ 1000000) (id : Int) : Calls Try.prog 20 #[ptr t, .int .i64 id] w fun e w' => e = .returned (.tuple #[.int .i64 (crI x id), .bool (crB x id)]) ∧ Hid (MX B w0 w' os R) := by
  have h' := h
  obtain ⟨F, h⟩ := h
  refine (credit_any (h.ho i _ hi) hn id).mono ?_
  rintro e w' ⟨rfl, s⟩
  exact ⟨rfl, h'.below s.out⟩
theorem MX.turn (h : MX B w0 w os R) (i : Nat) {t : Nat} {x : Tn} (hi : os[i]? = some (obA t x)) (hn : x.n ≤ 1000000) (hk : 0 < x.n → x.k < x.n) : Calls Try.prog 22 #[ptr t] w fun e w' => e = .returned (.tuple #[.int .i64 (tuI x), .bool (tuB x)]) ∧ Hid (MX B w0 w' os R) := by
  have h' := h
  obtain ⟨F, h⟩ := h
  refine (turn_any (h.ho i _ hi) hn hk).mono ?_
  rintro e w' ⟨rfl, s⟩
  exact ⟨rfl, h'.below s.out⟩
theorem MX.len (h : MX B w0 w os R) (i : Nat) {t : Nat} {x : Tn} (hi : os[i]? = some (obA t x)) : Calls Try.prog 23 #[ptr t] w fun e w' => e = .returned (.int .i64 x.n) ∧ Hid (MX B w0 w' os R) := by
  have h' := h
  obtain ⟨F, h⟩ := h
  refine (len_any (h.ho i _ hi)).mono ?_
  rintro e w' ⟨rfl, rfl⟩
  exact ⟨rfl, h'⟩
/-- What a row of wants of one's own says. -/
theorem MX.wants (h : MX B w0 w os R) (i : Nat) {e : TypeId} {v : Value} {L : List Wn} (hi : os[i]? = some (obW e v L)) : ∃ ao cap, v = .slice ao L.length cap ∧ L.length ≤ cap ∧ cap ≤ maxLen ∧ Ws w ao L := by
  obtain ⟨F, h⟩ := h
  exact ws_own (h.ho i _ hi).1
end

theorem info37 : (Try.prog.info? 37).map (fun i => (i.zero, i.size, i.bytes)) = some (some (.agg #[.int .i64 0, .int .i64 0]), 2, 16) := by kernel_rfl
theorem info38 : (Try.prog.info? 38).map (fun i => (i.zero, i.size, i.bytes)) = some (some (.agg #[.int .i64 0, .int .i64 0]), 2, 16) := by kernel_rfl
theorem wcs_one (L : List Wn) : ∀ u ∈ wcs L, u.oneCell' = true := by
  intro u hu
  obtain ⟨p, _, h⟩ := List.mem_flatMap.1 hu
  simp at h
  rcases h with h | h <;> subst h <;> rfl
/-- An append of one want to a row of one's own. -/
theorem wpList_wadd {B : Nat} {w0 w : World} {os : List Ob} {R : List (Nat × Obj)} {ops : Array Oper} {rest : List Oper} {o : Oper} {a : Act} {Q : Exit → Act → World → Prop} (sl el : TypeId) (hul : Try.prog.underlying sl = some (.slice el)) (hinfo : (Try.prog.info? el).map (fun i => (i.zero, i.size, i.bytes)) = some (some (.agg #[.int .i64 0, .int .i64 0]), 2, 16)) (hgd : o.guard = none) (s x : Operand)
    (ho : o.op = .call { callee := .builtin .append, args := #[s, x], argTypes := #[sl, sl] }) (h : MX B w0 w os R) (i : Nat) {v : Value} {L : List Wn} (hi : os[i]? = some (obW el v L)) {m : Nat} (hm : L.length = m) (hl : m < 1000000) (c1 c2 : Int)
    (hs1 : a.eval s = v) (hx : a.eval x = .slice (some ⟨w.heap.size, 0, none⟩) 1 1)
    (k : ∀ ao' cap' w', Hid (MX B w0 w' (os.set i (obW el (.slice ao' (m + 1) cap') (L ++ [(c1, c2)]))) R) → wpList Try.prog ops Q rest (a.put o.dst (.slice ao' (m + 1) cap')) w') : wpList Try.prog ops Q (o :: rest) a (w.alloc (.cells #[.int .i64 c1, .int .i64 c2] el)) := by
  obtain ⟨i0, hi0, hz0, hz1, hz2⟩ := info_parts hinfo
  obtain ⟨F, h⟩ := h
  have hb : Below w.heap.size w (w.alloc (.cells #[.int .i64 c1, .int .i64 c2] el)) := (Below.refl _ _).alloc (Nat.le_refl _) _
  have hp := h.ho i _ hi
  have hown : (w.alloc (.cells #[.int .i64 c1, .int .i64 c2] el)).ownsRow 0 el 2 v L.length (wcs L) := owns_below hp.1 hb
  have hnew := heap_alloc_new w (.cells #[.int .i64 c1, .int .i64 c2] el)
  refine wpList_append_tell _ hgd s x sl ho 0 el i0 _ 2 16 hul hi0 hz0 hz1 hz2 rfl (by decide) _ L.length (wcs L) hs1 hown ⟨w.heap.size, 0, none⟩ 1 1 (wcs [(c1, c2)]) hx rfl (fun j u hj => ?_) (wcs_one _) (by unfold maxLen; omega) (by omega) (Nat.zero_le _) ?_
  · rw [Addr.add_lit, Nat.zero_add, cell_of_row _ w.heap.size j _ _ _ hnew]
    match j, hj with
    | 0, hj => exact hj
    | 1, hj => exact hj
    | j + 2, hj => simp [wcs] at hj
  · intro v' w' h1 h2 h3
    rw [← wcs_app, show L.length + 1 = (L ++ [(c1, c2)]).length by simp] at h1
    obtain ⟨ao', cap', rfl⟩ := own_slice h1
    have e : (L ++ [(c1, c2)]).length = m + 1 := by rw [List.length_append, hm]; rfl
    have ht : Turn (F i) w w' := (Turn.of_below hb).trans (by
      refine ⟨h2.os, h2.tape, h2.output, h2.size, fun k hk hf => h2.block k hk (fun q => ?_)⟩
      exact hf (hp.2 k q.symm))
    rw [e] at h1 h3 ⊢
    refine k ao' cap' w' ?_
    rw [← e]
    rw [← e] at h1 h3
    refine h.next (o' := obW el (.slice ao' (L ++ [(c1, c2)]).length cap') (L ++ [(c1, c2)])) hi ⟨h1, fun k hk => ?_⟩ ht
    rcases h3 with q | ⟨j, q, hj⟩
    · exact .inl (hp.2 k (by rw [← q]; exact hk))
    · rw [q] at hk
      cases hk
      exact .inr ⟨by have := hb.size; omega, (h1.lt _ q).2⟩
end Go.Proofs.Ytlhkahincnchjaa
