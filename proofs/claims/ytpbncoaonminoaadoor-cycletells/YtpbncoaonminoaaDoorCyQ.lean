/- Paths and the tasks that were met, in memory. -/
import Derived.Test.YtpbncoaonminoaaDoorCyG
import Derived.Test.YtpbncoaonminoaaDoorCyB
namespace Go.Proofs.YtpbncoaonminoaaDoor
open Go.RowKit
open M
set_option linter.unusedVariables false
set_option linter.unusedSimpArgs false

theorem info33 : (Tryd.prog.info? 33).map (fun i => (i.zero, i.size, i.bytes)) = some (some (.slice none 0 0), 1, 24) := by kernel_rfl
def vRow (f : Nat → Value) (n : Nat) : Array Value := ((List.range n).map f).toArray
theorem vRow_at (f : Nat → Value) (n i : Nat) (h : i < n) : (vRow f n)[i]? = some (f i) := by simp [vRow, h]
theorem vRow_size (f : Nat → Value) (n : Nat) : (vRow f n).size = n := by simp [vRow]
theorem vRow_set (f : Nat → Value) (n j : Nat) (x : Value) : (vRow f n).setIfInBounds j x = vRow (fun i => if i = j then x else f i) n := by
  apply Array.ext_getElem?
  intro i
  rw [Array.getElem?_setIfInBounds]
  by_cases hi : i < n
  · rw [vRow_at _ n i hi, vRow_at _ n i hi]
    by_cases hij : j = i
    · subst hij
      simp [vRow_size, hi]
    · have : ¬ i = j := fun e => hij e.symm
      simp [hij, this]
  · have h1 : (vRow f n)[i]? = none := Array.getElem?_eq_none (by rw [vRow_size]; omega)
    have h2 : (vRow (fun i => if i = j then x else f i) n)[i]? = none := Array.getElem?_eq_none (by rw [vRow_size]; omega)
    rw [h2]
    by_cases hij : j = i
    · subst hij
      simp [vRow_size, hi]
    · simp [hij, h1]
theorem vRow_new (n : Nat) : madeCells #[.slice none 0 0] n = vRow (fun _ => .slice none 0 0) n := by
  rw [← Array.toList_inj, toList_madeCells_one]
  rw [vRow, List.toList_toArray]
  show List.replicate n (Value.slice none 0 0) = (List.range n).map fun _ => Value.slice none 0 0
  rw [List.map_const', List.length_range]

/-- A row, from a place of its block on. -/
structure Win (W : World) (mb off cap : Nat) (met : List Nat) : Prop where
  ex : ∃ cur, W.heap[mb]? = some (.cells cur 3) ∧ off + cap ≤ cur.size ∧ ∀ i (h : i < met.length), cur[off + i]? = some (.int .i64 (met[i] : Nat))
  le : met.length ≤ cap
  cm : cap ≤ maxLen
section
variable {W W' : World} {mb off cap : Nat} {met : List Nat}
theorem Win.lt (h : Win W mb off cap met) : mb < W.heap.size := by
  obtain ⟨cur, h1, _⟩ := h.ex
  exact block_lt h1
theorem Win.keep (h : Win W mb off cap met) (hk : W'.heap[mb]? = W.heap[mb]?) : Win W' mb off cap met := by
  obtain ⟨cur, h1, h2⟩ := h.ex
  exact ⟨⟨cur, by rw [hk]; exact h1, h2⟩, h.le, h.cm⟩
theorem Win.cell (h : Win W mb off cap met) (i : Nat) (hi : i < met.length) : W.cell? ⟨mb, off + i, none⟩ = some (.int .i64 (met[i] : Nat)) := by
  obtain ⟨cur, h1, _, h3⟩ := h.ex
  rw [cell_of_row W mb (off + i) _ _ _ h1]
  exact h3 i hi
theorem Win.fro (h : Win W mb off cap met) (i : Nat) : W.frozen? ⟨mb, i, none⟩ = false := by
  obtain ⟨cur, h1, _⟩ := h.ex
  simp [World.frozen?, h1]
theorem Win.some (h : Win W mb off cap met) (i : Nat) (hi : i < cap) : (W.cell? ⟨mb, off + i, none⟩).isSome = true := by
  obtain ⟨cur, h1, h2, _⟩ := h.ex
  rw [cell_of_row W mb (off + i) _ _ _ h1]
  rw [Array.getElem?_eq_getElem (by omega)]
  rfl
theorem Win.tail {m : Nat} {q : List Nat} (h : Win W mb off cap (m :: q)) : Win W mb (off + 1) (cap - 1) q := by
  obtain ⟨cur, h1, h2, h3⟩ := h.ex
  have h4 := h.le
  have h5 := h.cm
  simp at h4
  refine ⟨⟨cur, h1, by omega, fun i hi => ?_⟩, by omega, by omega⟩
  have := h3 (i + 1) (by simp; omega)
  rw [show off + 1 + i = off + (i + 1) by omega]
  simpa using this
theorem Win.tail1 {m : Nat} {q : List Nat} (h : Win W mb off 1 (m :: q)) : Win W mb off 0 q ∧ q = [] := by
  obtain ⟨cur, h1, h2, h3⟩ := h.ex
  have h4 := h.le
  simp at h4
  subst h4
  exact ⟨⟨⟨cur, h1, by omega, fun i hi => by simp at hi⟩, by simp, by simp⟩, rfl⟩
theorem Win.of_own {base g n : Nat} {xs : List Nat} (h : OwnI W base (.slice (.some ⟨g, 0, none⟩) n cap) xs) : Win W g 0 cap xs := by
  rcases h.2 with ⟨h1, _⟩ | ⟨g', cap', cur, he, _, hg, hc, hm, hs, ht⟩
  · cases h1
  · injection he with e1 e2 e3
    injection e1 with e1
    injection e1 with e1
    subst e1 e3
    refine ⟨⟨cur, hg, by omega, fun i hi => ?_⟩, hc, hm⟩
    have := h.cells (g := g) rfl i (.int .i64 (xs[i] : Nat)) (by simp [hi])
    rw [Addr.add_lit, cell_of_row W g (0 + i) _ _ _ hg] at this
    exact this
theorem Win.set (h : Win W mb off cap met) (hr : met.length < cap) (x : Nat) : Win (W.setCell ⟨mb, off + met.length, none⟩ (.int .i64 x)) mb off cap (met ++ [x]) := by
  obtain ⟨cur, h1, h2, h3⟩ := h.ex
  refine ⟨⟨_, heap_setCell_at h1 _, by simpa using h2, fun i hi => ?_⟩, by simp; omega, h.cm⟩
  rw [Array.getElem?_setIfInBounds]
  by_cases e : i = met.length
  · subst e
    rw [if_pos rfl, if_pos (by omega)]
    simp
  · rw [if_neg (by omega)]
    have hi2 : i < met.length := by simp at hi; omega
    rw [List.getElem_append_left hi2]
    exact h3 i hi2
end

/-- Paths, those who were met, and rows beside them. -/
structure PQ (w W : World) (pb n : Nat) (pv : Nat → Value) (P : PM) (mb off cap : Nat) (met : List Nat) (X : List (Value × List Nat)) : Prop where
  bel : Below w.heap.size w W
  ge : w.heap.size ≤ pb
  row : W.heap[pb]? = some (.cells (vRow pv n) 33)
  own : ∀ i, i < n → OwnI W (pb + 1) (pv i) (P i)
  nil : ∀ i, i < n → P i = [] → pv i = .slice none 0 0
  win : Win W mb off cap met
  mge : pb < mb
  dis : ∀ i, i < n → (pv i).ownBlock ≠ some mb
  ext : ∀ p ∈ X, OwnI W (pb + 1) p.1 p.2 ∧ p.1.ownBlock ≠ some mb
def updV (pv : Nat → Value) (i : Nat) (u : Value) : Nat → Value := fun j => if j = i then u else pv j
section
variable {w W W' : World} {pb n : Nat} {pv : Nat → Value} {P : PM} {mb off cap : Nat} {met : List Nat} {X : List (Value × List Nat)}
theorem PQ.lt (h : PQ w W pb n pv P mb off cap met X) : pb < W.heap.size := block_lt h.row
theorem PQ.below (h : PQ w W pb n pv P mb off cap met X) (hb : Below W.heap.size W W') : PQ w W' pb n pv P mb off cap met X :=
  ⟨h.bel.trans (hb.mono h.bel.size), h.ge, by rw [hb.block pb h.lt]; exact h.row, fun i hi => owns_below (h.own i hi) hb, h.nil, h.win.keep (hb.block mb h.win.lt), h.mge, h.dis, fun p hp => ⟨owns_below (h.ext p hp).1 hb, (h.ext p hp).2⟩⟩
theorem PQ.fewer (h : PQ w W pb n pv P mb off cap met X) {Y : List (Value × List Nat)} (hY : ∀ p ∈ Y, p ∈ X) : PQ w W pb n pv P mb off cap met Y :=
  ⟨h.bel, h.ge, h.row, h.own, h.nil, h.win, h.mge, h.dis, fun p hp => h.ext p (hY p hp)⟩
theorem PQ.cons (h : PQ w W pb n pv P mb off cap met X) {u : Value} {L : List Nat} {W0 : World} (hu : OwnI W W0.heap.size u L) (hm : mb < W0.heap.size) (hp : pb < W0.heap.size) : PQ w W pb n pv P mb off cap met ((u, L) :: X) :=
  ⟨h.bel, h.ge, h.row, h.own, h.nil, h.win, h.mge, h.dis, fun p hp' => by
    rcases List.mem_cons.1 hp' with rfl | hp'
    · exact ⟨owns_base hu (fun k hk => by have := (hu.lt k hk).1; omega), fun e => by have := (hu.lt mb e).1; omega⟩
    · exact h.ext p hp'⟩
theorem PQ.cell (h : PQ w W pb n pv P mb off cap met X) (i : Nat) (hi : i < n) : W.cell? ⟨pb, i, none⟩ = some (pv i) := by rw [cell_of_row W pb i _ _ _ h.row]; exact vRow_at pv n i hi
theorem PQ.fro (h : PQ w W pb n pv P mb off cap met X) (i : Nat) : W.frozen? ⟨pb, i, none⟩ = false := by simp [World.frozen?, h.row]
theorem PQ.full (h : PQ w W pb n pv P mb off cap met X) (i : Nat) (hi : i < n) (hne : P i ≠ []) : ∃ r c, pv i = .slice (some ⟨r, 0, none⟩) (P i).length c ∧ ∀ j (hj : j < (P i).length), W.cell? ⟨r, j, none⟩ = some (.int .i64 ((P i)[j] : Nat)) := by
  have ho := h.own i hi
  obtain ⟨ao, c, he, hc⟩ := own_iat ho
  have hl : 0 < (P i).length := List.length_pos_iff.2 hne
  obtain ⟨r, rfl, _⟩ := hc 0 hl
  refine ⟨r, c, he, fun j hj => ?_⟩
  obtain ⟨r', e, _, q⟩ := hc j hj
  injection e with e
  injection e with e
  subst e
  exact q
/-- A new path. -/
theorem PQ.put (h : PQ w W pb n pv P mb off cap met X) (hb : Below W.heap.size W W') {u : Value} {l : List Nat} (hu : OwnI W' W.heap.size u l) (hl : l ≠ []) (x : Nat) : PQ w (W'.setCell ⟨pb, x, none⟩ u) pb n (updV pv x u) (updP P x l) mb off cap met X := by
  have hq := h.below hb
  have hlt := h.lt
  have hml := h.win.lt
  have keep : ∀ {b : Nat} {v : Value} {L : List Nat}, OwnI W' (pb + 1) v L → OwnI (W'.setCell ⟨pb, x, none⟩ u) (pb + 1) v L := fun ho => owns_keep ho (fun k hk => Below.heap_setCell _ _ _ _ (fun e => by have := (ho.lt k hk).1; simp at e; omega))
  refine ⟨hq.bel.setCell (p := ⟨pb, x, none⟩) h.ge _, h.ge, ?_, fun i hi => ?_, fun i hi => ?_, ?_, h.mge, fun i hi => ?_, fun p hp => ⟨keep (b := 0) (hq.ext p hp).1, (h.ext p hp).2⟩⟩
  · rw [heap_setCell_at (o := x) hq.row, vRow_set]
    rfl
  · unfold updV updP
    by_cases e : i = x
    · rw [if_pos e, if_pos e]
      exact keep (b := 0) (owns_base hu (fun k hk => by have := (hu.lt k hk).1; omega))
    · rw [if_neg e, if_neg e]
      exact keep (b := 0) (hq.own i hi)
  · unfold updV updP
    by_cases e : i = x
    · rw [if_pos e, if_pos e]; exact fun q => absurd q hl
    · rw [if_neg e, if_neg e]; exact h.nil i hi
  · exact hq.win.keep (Below.heap_setCell _ _ _ _ (fun e => by have := h.mge; simp at e; omega))
  · unfold updV
    by_cases e : i = x
    · rw [if_pos e]; exact fun q => by have := (hu.lt mb q).1; omega
    · rw [if_neg e]; exact h.dis i hi
/-- One more was met: there is room. -/
theorem PQ.room (h : PQ w W pb n pv P mb off cap met X) (o : Obj) (x : Nat) (hr : met.length < cap) : PQ w ((W.alloc o).setCells mb (off + met.length * 1) [.int .i64 x]) pb n pv P mb off cap (met ++ [x]) X := by
  have hq := h.below ((Below.refl W.heap.size W).alloc (Nat.le_refl _) o)
  rw [Nat.mul_one]
  show PQ w ((W.alloc o).setCell ⟨mb, off + met.length, none⟩ (.int .i64 x)) pb n pv P mb off cap (met ++ [x]) X
  have hm := h.mge
  have keep : ∀ {v : Value} {L : List Nat}, OwnI (W.alloc o) (pb + 1) v L → v.ownBlock ≠ some mb → OwnI ((W.alloc o).setCell ⟨mb, off + met.length, none⟩ (.int .i64 x)) (pb + 1) v L := fun ho hne => owns_keep ho (fun k hk => Below.heap_setCell _ _ _ _ (fun e => hne (by rw [hk]; simp at e; rw [e])))
  refine ⟨hq.bel.setCell (p := ⟨mb, _, none⟩) (by show w.heap.size ≤ mb; have := h.ge; omega) _, h.ge, ?_, fun i hi => keep (hq.own i hi) (h.dis i hi), h.nil, hq.win.set hr x, h.mge, h.dis, fun p hp => ⟨keep (hq.ext p hp).1 (h.ext p hp).2, (h.ext p hp).2⟩⟩
  rw [Below.heap_setCell _ _ _ _ (fun e => by simp at e; omega)]
  exact hq.row
/-- One more was met: in a new row. -/
theorem PQ.grow (h : PQ w W pb n pv P mb off cap met X) (o : Obj) (x : Nat) {v' : Value} (hown : W'.ownsRow (W.alloc o).heap.size 3 1 v' (met.length + 1) (met.map (fun x => Value.int .i64 (x : Nat)) ++ [.int .i64 x])) (hg : (W.alloc o).grownBy W' none) : ∃ mb' cap', v' = .slice (some ⟨mb', 0, none⟩) (met ++ [x]).length cap' ∧ PQ w W' pb n pv P mb' 0 cap' (met ++ [x]) X := by
  have hq := h.below ((Below.refl W.heap.size W).alloc (Nat.le_refl _) o)
  have hb : Below (W.alloc o).heap.size (W.alloc o) W' := (Below.refl _ _).grown hg (Nat.le_refl _) (fun k hk => by cases hk)
  have hq2 := hq.below hb
  have ho : OwnI W' (W.alloc o).heap.size v' (met ++ [x]) := own_snoc hown
  have hp := hq.lt
  obtain ⟨ao, c, rfl, hc⟩ := own_iat ho
  obtain ⟨r, rfl, _⟩ := hc 0 (by simp)
  have hge := (ho.lt r rfl).1
  refine ⟨r, c, rfl, hq2.bel, h.ge, hq2.row, hq2.own, h.nil, Win.of_own ho, by omega, fun i hi e => ?_, fun p hp' => ⟨(hq2.ext p hp').1, fun e => ?_⟩⟩
  · have := ((hq.own i hi).lt r e).2
    omega
  · have := ((hq.ext p hp').1.lt r e).2
    omega
theorem PQ.win1 (h : PQ w W pb n pv P mb off cap met X) {off' cap' : Nat} {q : List Nat} (hw : Win W mb off' cap' q) : PQ w W pb n pv P mb off' cap' q X :=
  ⟨h.bel, h.ge, h.row, h.own, h.nil, hw, h.mge, h.dis, h.ext⟩
end
end Go.Proofs.YtpbncoaonminoaaDoor
