/- A heap and the document's own, side by side. -/
import Derived.Test.YtpcjaleogeoabaaRfE
namespace Go.Proofs.Ytpcjaleogeoabaa
open Go.RowKit
open M
set_option linter.unusedVariables false
set_option linter.unusedSimpArgs false

/-- The row says what the heap has. -/
structure RS (N : Nat) (S : Nat → Option Int) (L : List It) : Prop where
  once : Once L
  of : ∀ p ∈ L, ∃ x : Nat, p.1 = x ∧ x < N ∧ S x = some p.2
  into : ∀ x y, x < N → S x = some y → ((x : Int), y) ∈ L
  cnt : L.length = M.cnt (fun x => (S x).isSome) N
section
variable {N : Nat} {S : Nat → Option Int} {L : List It}
theorem RS.noid (h : RS N S L) {id : Int} (hb : hasB N S id = false) : ∀ p ∈ L, p.1 ≠ id := by
  intro p hp e
  obtain ⟨x, h1, h2, h3⟩ := h.of p hp
  rw [e] at h1
  subst h1
  simp [hasB, isId_nat N x h2, h3] at hb
theorem RS.hasid (h : RS N S L) {id : Int} (hb : hasB N S id = true) : ∃ (x : Nat) (i : Nat) (hi : i < L.length), id = x ∧ x < N ∧ S x = some (keyV N S id) ∧ L[i] = (id, keyV N S id) := by
  obtain ⟨x, y, rfl, hx, hs, hk⟩ := hasB_true hb
  obtain ⟨i, hi, e⟩ := List.getElem_of_mem (h.into x y hx hs)
  rw [hk]
  exact ⟨x, i, hi, rfl, hx, hs, e⟩
theorem RS.push (h : RS N S L) {x : Nat} (hx : x < N) (hs : S x = none) (key : Int) : RS N (upS S x (some key)) (L ++ [((x : Int), key)]) := by
  have hn := h.noid (id := x) (by simp [hasB, hs])
  refine ⟨?_, fun p hp => ?_, fun z y hz hy => ?_, ?_⟩
  · unfold Once
    rw [List.map_append, List.nodup_append]
    refine ⟨h.once, by simp, fun a ha b hb => ?_⟩
    obtain ⟨p, hp, rfl⟩ := List.mem_map.1 ha
    simp at hb
    subst hb
    exact hn p hp
  · rcases List.mem_append.1 hp with q | q
    · obtain ⟨z, h1, h2, h3⟩ := h.of p q
      refine ⟨z, h1, h2, ?_⟩
      rw [upS_ne S _ (fun e => hn p q (by rw [h1, e]))]; exact h3
    · simp at q; subst q; exact ⟨x, rfl, hx, upS_is _ _ _⟩
  · by_cases e : z = x
    · subst e; rw [upS_is] at hy; cases hy; simp
    · rw [upS_ne S _ e] at hy; exact List.mem_append_left _ (h.into z y hz hy)
  · rw [List.length_append, h.cnt]
    exact (cnt_set hx (fun y hy hne => by rw [upS_ne S _ hne]) (by rw [hs]; rfl) (by rw [upS_is]; rfl)).symm
theorem RS.low (h : RS N S L) {x i : Nat} (hx : x < N) (hi : i < L.length) {y : Int} (e : L[i] = ((x : Int), y)) (hs : S x = some y) (key : Int) : RS N (upS S x (some key)) (L.set i ((x : Int), key)) := by
  have hm : (L.set i ((x : Int), key)).map Prod.fst = L.map Prod.fst := by
    rw [List.map_set]
    apply List.ext_getElem?
    intro j
    by_cases q : j = i
    · subst q
      rw [List.getElem?_set_self (by simpa using hi)]
      simp [hi, e]
    · rw [List.getElem?_set_ne (fun z => q z.symm)]
  refine ⟨by unfold Once; rw [hm]; exact h.once, fun p hp => ?_, fun z u hz hu => ?_, ?_⟩
  · obtain ⟨j, hj, rfl⟩ := List.getElem_of_mem hp
    rw [List.length_set] at hj
    by_cases q : j = i
    · subst q; rw [List.getElem_set_self]; exact ⟨x, rfl, hx, upS_is _ _ _⟩
    · rw [List.getElem_set_ne (fun z => q z.symm)]
      obtain ⟨z, h1, h2, h3⟩ := h.of L[j] (List.getElem_mem hj)
      refine ⟨z, h1, h2, ?_⟩
      rw [upS_ne S _ (fun e2 => q (h.once.uniq hj hi (by rw [h1, e, e2])))]; exact h3
  · by_cases q : z = x
    · subst q; rw [upS_is] at hu; cases hu
      exact List.mem_iff_getElem.2 ⟨i, by rw [List.length_set]; exact hi, by rw [List.getElem_set_self]⟩
    · rw [upS_ne S _ q] at hu
      obtain ⟨j, hj, e2⟩ := List.getElem_of_mem (h.into z u hz hu)
      have hji : j ≠ i := fun q2 => by subst q2; rw [e] at e2; simp at e2; omega
      exact List.mem_iff_getElem.2 ⟨j, by rw [List.length_set]; exact hj, by rw [List.getElem_set_ne (fun z => hji z.symm)]; exact e2⟩
  · rw [List.length_set, h.cnt]
    exact cnt_congr (fun z hz => by
      by_cases q : z = x
      · subst q; rw [upS_is, hs]; rfl
      · rw [upS_ne S _ q])
theorem RS.rem (h : RS N S L) {x i : Nat} (hx : x < N) (hi : i < L.length) {y : Int} (e : L[i] = ((x : Int), y)) (hs : S x = some y) : RS N (upS S x none) (L.eraseIdx i) := by
  refine ⟨?_, fun p hp => ?_, fun z u hz hu => ?_, ?_⟩
  · unfold Once
    exact List.Nodup.sublist ((List.eraseIdx_sublist L i).map Prod.fst) h.once
  · rw [List.mem_eraseIdx_iff_getElem] at hp
    obtain ⟨j, hj, hne, rfl⟩ := hp
    obtain ⟨z, h1, h2, h3⟩ := h.of L[j] (List.getElem_mem hj)
    refine ⟨z, h1, h2, ?_⟩
    rw [upS_ne S _ (fun e2 => hne (h.once.uniq hj hi (by rw [h1, e, e2])))]; exact h3
  · by_cases q : z = x
    · subst q; rw [upS_is] at hu; cases hu
    · rw [upS_ne S _ q] at hu
      obtain ⟨j, hj, e2⟩ := List.getElem_of_mem (h.into z u hz hu)
      rw [List.mem_eraseIdx_iff_getElem]
      exact ⟨j, hj, fun q2 => by subst q2; rw [e] at e2; simp at e2; omega, e2⟩
  · have := cnt_set (p := fun y => (upS S x none y).isSome) (q := fun y => (S y).isSome) hx (fun y hy hne => by rw [upS_ne S _ hne]) (by rw [upS_is]; rfl) (by rw [hs]; rfl)
    rw [List.length_eraseIdx_of_lt hi]
    have := h.cnt
    omega
theorem RS.fst (h : RS N S L) {x : Nat} {y : Int} (hf : Fst N S x y) : Bst L ((x : Int), y) ∧ ∃ (i : Nat) (hi : i < L.length), L[i] = ((x : Int), y) := by
  have hm := h.into x y hf.lt hf.is
  refine ⟨⟨hm, fun p hp => ?_⟩, List.getElem_of_mem hm⟩
  obtain ⟨z, h1, h2, h3⟩ := h.of p hp
  have := hf.le z p.2 h2 h3
  simp only
  omega
theorem RS.emp (h : RS N S L) (he : Emp N S) : L = [] := by
  cases L with
  | nil => rfl
  | cons p r =>
    obtain ⟨x, _, hx, hs⟩ := h.of p (by simp)
    rw [he x hx] at hs
    cases hs
theorem RS.start (N : Nat) : RS N (fun _ => Option.none) [] := ⟨List.nodup_nil, fun p hp => by simp at hp, (fun x y _ h => by simp at h), (cnt_zero.2 (fun _ _ => rfl)).symm⟩
theorem RS.len (h : RS N S L) : L.length ≤ N := by rw [h.cnt]; exact cnt_le _ _
end

/-- Both in memory. -/
structure PF (F : Nat → Nat → Prop) (B : Nat) (w W : World) (g N : Nat) (S : Nat → Option Int) (rb : Nat) (n : Int) (v : Value) (L : List It) (R : List (Nat × Obj)) : Prop where
  mf : MF F B w W [(g, N, S)] R
  rm : RM W rb n v L
  rd : ∀ k, RFoot rb v k → B ≤ k ∧ ¬ F 0 k
  rr : ∀ p ∈ R, ¬ RFoot rb v p.1
  rs : RS N S L
  hN : N = hsz n
def PL (B : Nat) (w W : World) (g N : Nat) (S : Nat → Option Int) (rb : Nat) (n : Int) (L : List It) (R : List (Nat × Obj)) : Prop := ∃ F v, PF F B w W g N S rb n v L R
/-- What stays of the rest while only one side has gone on. -/
structure PH (F : Nat → Nat → Prop) (B : Nat) (w W : World) (g N : Nat) (S : Nat → Option Int) (rb : Nat) (n : Int) (v : Value) (L : List It) (R : List (Nat × Obj)) : Prop where
  mf : MF F B w W [(g, N, S)] R
  rm : RM W rb n v L
  rd : ∀ k, RFoot rb v k → B ≤ k ∧ ¬ F 0 k
  rr : ∀ p ∈ R, ¬ RFoot rb v p.1
def PQ (B : Nat) (w W : World) (g N : Nat) (S : Nat → Option Int) (rb : Nat) (n : Int) (L : List It) (R : List (Nat × Obj)) : Prop := ∃ F v, PH F B w W g N S rb n v L R
section
variable {B : Nat} {w W W' : World} {g N : Nat} {S S' : Nat → Option Int} {rb : Nat} {n : Int} {L L' : List It} {R : List (Nat × Obj)}
theorem PQ.mx (h : PQ B w W g N S rb n L R) : MX B w W [(g, N, S)] R := by obtain ⟨F, v, h⟩ := h; exact ⟨F, h.mf⟩
theorem PQ.below (h : PQ B w W g N S rb n L R) (hb : Below W.heap.size W W') : PQ B w W' g N S rb n L R := by
  obtain ⟨F, v, h⟩ := h
  have hs1 := hb.size
  have m := h.mf
  exact ⟨F, v, ⟨m.bel.trans (hb.mono (Nat.le_trans m.le m.bel.size)), m.le, fun i x hx => (m.ho i x hx).below hb, fun i k hk => ⟨(m.bnd i k hk).1, Nat.lt_of_lt_of_le (m.bnd i k hk).2 hs1⟩, m.dis, fun p hp => ⟨by rw [hb.block p.1 (block_lt (m.row p hp).1)]; exact (m.row p hp).1, (m.row p hp).2⟩⟩, h.rm.below hb, h.rd, h.rr⟩
theorem PQ.alloc (h : PQ B w W g N S rb n L R) (o : Obj) : PQ B w (W.alloc o) g N S rb n L ((W.heap.size, o) :: R) := by
  obtain ⟨F, v, h⟩ := h
  have m := h.mf
  have hz := Nat.le_trans m.le m.bel.size
  have hb : Below W.heap.size W (W.alloc o) := (Below.refl _ _).alloc (Nat.le_refl _) _
  refine ⟨F, v, ⟨m.bel.trans (hb.mono hz), m.le, fun i x hx => (m.ho i x hx).below hb, fun i k hk => ⟨(m.bnd i k hk).1, by have := (m.bnd i k hk).2; simp; omega⟩, m.dis, fun p hp => ?_⟩, h.rm.below hb, h.rd, fun p hp => ?_⟩
  · rcases List.mem_cons.1 hp with q | q
    · subst q; exact ⟨heap_alloc_new _ _, hz, fun i hf => by have := (m.bnd i _ hf).2; simp at this⟩
    · obtain ⟨q1, q2, q3⟩ := m.row p q
      exact ⟨by rw [Below.heap_alloc _ _ _ (block_lt q1)]; exact q1, q2, q3⟩
  · rcases List.mem_cons.1 hp with q | q
    · subst q; intro hf; have := h.rm.lt _ hf; simp at this
    · exact h.rr p q
theorem PQ.drop (h : PQ B w W g N S rb n L R) {R' : List (Nat × Obj)} (hr : ∀ p ∈ R', p ∈ R) : PQ B w W g N S rb n L R' := by
  obtain ⟨F, v, h⟩ := h
  exact ⟨F, v, ⟨h.mf.bel, h.mf.le, h.mf.ho, h.mf.bnd, h.mf.dis, fun p hp => h.mf.row p (hr p hp)⟩, h.rm, h.rd, fun p hp => h.rr p (hr p hp)⟩
theorem PQ.op (h : PQ B w W g N S rb n L R) {fn : Nat} {args : Array Value} {E : Ending}
    (k : ∀ F, HO W F g N S → Calls Try.prog fn args W fun e w' => e = E ∧ HO w' (Grow F W w') g N S' ∧ Turn F W w') : Calls Try.prog fn args W fun e w' => e = E ∧ Hid (PQ B w w' g N S' rb n L R) := by
  obtain ⟨F, v, h⟩ := h
  refine (k (F 0) (h.mf.ho 0 _ rfl)).mono ?_
  rintro e w' ⟨rfl, h1, h2⟩
  refine ⟨rfl, ?_⟩
  have m := h.mf
  have hs1 := h2.size
  have hz := Nat.le_trans m.le m.bel.size
  refine ⟨fun j k => j = 0 ∧ Grow (F 0) W w' k, v, ⟨m.bel.trans (h2.below hz (fun k hk => (m.bnd 0 k hk).1)), m.le, fun i x hx => ?_, fun i k hk => ?_, fun i j k hne h3 h4 => by omega, fun p hp => ?_⟩, h.rm.turn h2 (fun k hk => (h.rd k hk).2), fun k hk => ⟨(h.rd k hk).1, fun q => ?_⟩, h.rr⟩
  · cases i with
    | zero => simp at hx; subst hx; exact h1.mono (fun k _ hk => ⟨rfl, hk⟩)
    | succ i => simp at hx
  · obtain ⟨_, q⟩ := hk
    rcases q with q | q
    · have := m.bnd 0 k q; omega
    · omega
  · obtain ⟨q1, q2, q3⟩ := m.row p hp
    refine ⟨by rw [h2.block p.1 (block_lt q1) (q3 0)]; exact q1, q2, fun i q => ?_⟩
    obtain ⟨_, q⟩ := q
    rcases q with q | q
    · exact q3 0 q
    · have := block_lt q1; omega
  · obtain ⟨_, q⟩ := q
    rcases q with q | q
    · exact (h.rd k hk).2 q
    · have := h.rm.lt k hk; omega
theorem PQ.ref (h : PQ B w W g N S rb n L R) {fn : Nat} {args : Array Value} {E : Ending}
    (k : ∀ v, RM W rb n v L → Calls Try.prog fn args W fun e w' => e = E ∧ ∃ v', RM w' rb n v' L' ∧ Turn (RFoot rb v) W w' ∧ ∀ k, RFoot rb v' k → RFoot rb v k ∨ k = rb ∨ W.heap.size ≤ k) : Calls Try.prog fn args W fun e w' => e = E ∧ Hid (PQ B w w' g N S rb n L' R) := by
  obtain ⟨F, v, h⟩ := h
  refine (k v h.rm).mono ?_
  rintro e w' ⟨rfl, v', h1, h2, h3⟩
  refine ⟨rfl, ?_⟩
  have m := h.mf
  have hs1 := h2.size
  have hz := Nat.le_trans m.le m.bel.size
  refine ⟨fun j k => j = 0 ∧ F 0 k, v', ⟨m.bel.trans (h2.below hz (fun k hk => (h.rd k hk).1)), m.le, fun i x hx => ?_, fun i k hk => ?_, fun i j k hne h3 h4 => by omega, fun p hp => ?_⟩, h1, fun k hk => ?_, fun p hp q => ?_⟩
  · cases i with
    | zero => simp at hx; subst hx; exact ((m.ho 0 _ rfl).turn h2 (fun k hk q => (h.rd k q).2 hk)).mono (fun k _ hk => ⟨rfl, hk⟩)
    | succ i => simp at hx
  · have := m.bnd 0 k hk.2; omega
  · obtain ⟨q1, q2, q3⟩ := m.row p hp
    exact ⟨by rw [h2.block p.1 (block_lt q1) (h.rr p hp)]; exact q1, q2, fun i q => q3 0 q.2⟩
  · rcases h3 k hk with q | q | q
    · exact ⟨(h.rd k q).1, fun z => (h.rd k q).2 z.2⟩
    · exact ⟨(h.rd k (.inl q)).1, fun z => (h.rd k (.inl q)).2 z.2⟩
    · exact ⟨by omega, fun z => by have := m.bnd 0 k z.2; omega⟩
  · rcases h3 p.1 q with z | z | z
    · exact h.rr p hp z
    · exact h.rr p hp (.inl z)
    · have := block_lt (m.row p hp).1; omega
end
end Go.Proofs.Ytpcjaleogeoabaa
