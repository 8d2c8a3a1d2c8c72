/- Who is stopped for another one, as mathematics. -/
import Derived.Test.YtebielckdloncaaProg
namespace Go.Proofs.Ytebielckdloncaa
namespace M

/-- One that runs: its task, its priority, its memory, how often it was stopped, since when. -/
structure R where
  t : Int
  p : Int
  m : Int
  q : Int
  s : Int
instance : Inhabited R := ⟨⟨0, 0, 0, 0, 0⟩⟩

/-- The run at a place. -/
def at' (l : List R) (i : Nat) : R := l.getD i ⟨0, 0, 0, 0, 0⟩
theorem at_get {l : List R} {i : Nat} (h : i < l.length) : at' l i = l[i] := by simp [at', h]

/-- A memory within its bounds. -/
def bnd (n : Int) : Int := min (max n 0) 1048576
theorem bnd_lo (n : Int) : 0 ≤ bnd n := by unfold bnd; omega
theorem bnd_hi (n : Int) : bnd n ≤ 1048576 := by unfold bnd; omega

/-- Who may be stopped. -/
def mayB (prio most : Int) (r : R) : Bool := decide (r.p < prio) && decide (r.q < most)
theorem mayB_iff {prio most : Int} {r : R} : mayB prio most r = true ↔ r.p < prio ∧ r.q < most := by simp [mayB]

/-- Who is stopped ahead of whom, whatever their places. -/
def rlt (a b : R) : Prop := a.p < b.p ∨ (a.p = b.p ∧ (b.s < a.s ∨ (a.s = b.s ∧ b.t < a.t)))
instance (a b : R) : Decidable (rlt a b) := by unfold rlt; infer_instance
theorem rlt_irrefl (a : R) : ¬ rlt a a := by unfold rlt; omega
theorem rlt_trans {a b c : R} (h : rlt a b) (k : rlt b c) : rlt a c := by unfold rlt at *; omega
theorem rlt_ntrans {a b c : R} (h : ¬ rlt a b) (k : ¬ rlt b c) : ¬ rlt a c := by unfold rlt at *; omega
theorem rlt_asymm {a b : R} (h : rlt a b) : ¬ rlt b a := by unfold rlt at *; omega
theorem rlt_same {a b : R} (h : ¬ rlt a b) (k : ¬ rlt b a) : a.p = b.p ∧ a.s = b.s ∧ a.t = b.t := by unfold rlt at *; omega

/-- Who is stopped ahead of whom: of those that are alike, as they stand. -/
def plt (l : List R) (i j : Nat) : Prop := rlt (at' l i) (at' l j) ∨ (¬ rlt (at' l j) (at' l i) ∧ i < j)
instance (l : List R) (i j : Nat) : Decidable (plt l i j) := by unfold plt; infer_instance
theorem plt_irrefl (l : List R) (i : Nat) : ¬ plt l i i := by
  unfold plt; intro h; rcases h with h | h
  · exact rlt_irrefl _ h
  · omega
theorem plt_trans {l : List R} {i j k : Nat} (h : plt l i j) (h' : plt l j k) : plt l i k := by
  unfold plt at *
  rcases h with h | ⟨h, hh⟩
  · rcases h' with h' | ⟨h', hh'⟩
    · exact .inl (rlt_trans h h')
    · exact .inl (by
        by_cases q : rlt (at' l i) (at' l k)
        · exact q
        · exact absurd h (rlt_ntrans q h'))
  · rcases h' with h' | ⟨h', hh'⟩
    · exact .inl (by
        by_cases q : rlt (at' l i) (at' l k)
        · exact q
        · exact absurd h' (rlt_ntrans h q))
    · exact .inr ⟨rlt_ntrans h' h, by omega⟩
theorem plt_asymm {l : List R} {i j : Nat} (h : plt l i j) : ¬ plt l j i := fun k => plt_irrefl l i (plt_trans h k)
theorem plt_total {l : List R} {i j : Nat} (h : i ≠ j) : plt l i j ∨ plt l j i := by
  unfold plt
  by_cases a : rlt (at' l i) (at' l j)
  · exact .inl (.inl a)
  · by_cases b : rlt (at' l j) (at' l i)
    · exact .inr (.inl b)
    · rcases Nat.lt_or_ge i j with q | q
      · exact .inl (.inr ⟨b, q⟩)
      · exact .inr (.inr ⟨a, by omega⟩)

/-- The victims, in their order, by their places. -/
structure Vic (l : List R) (prio most : Int) (S : List Nat) : Prop where
  mem : ∀ i, i ∈ S ↔ i < l.length ∧ mayB prio most (at' l i) = true
  ord : S.Pairwise (plt l)
section
variable {l : List R} {prio most : Int} {S S' : List Nat}
theorem pw_nodup {S : List Nat} (h : S.Pairwise (plt l)) : S.Nodup := h.imp (fun {a b} q e => by subst e; exact plt_irrefl _ _ q)
theorem Vic.nodup (h : Vic l prio most S) : S.Nodup := pw_nodup h.ord
theorem Vic.uniq (h : Vic l prio most S) (h' : Vic l prio most S') : S = S' :=
  List.Perm.eq_of_pairwise (fun a b _ _ q q' => absurd q' (plt_asymm q)) h.ord h'.ord
    ((List.perm_ext_iff_of_nodup h.nodup h'.nodup).2 (fun i => by rw [h.mem, h'.mem]))
end
/-- The victims. -/
def vics (l : List R) (prio most : Int) : List Nat := ((List.range l.length).filter (fun i => mayB prio most (at' l i))).mergeSort (fun i j => decide (¬ plt l j i))
theorem vics_vic (l : List R) (prio most : Int) : Vic l prio most (vics l prio most) where
  mem i := by unfold vics; simp
  ord := by
    have nd : (vics l prio most).Nodup := (List.mergeSort_perm _ _).symm.nodup (List.nodup_range.sublist List.filter_sublist)
    have pw : (vics l prio most).Pairwise (fun i j => decide (¬ plt l j i) = true) := List.pairwise_mergeSort
      (fun a b c h k => by
        simp only [decide_eq_true_eq] at *
        intro q
        by_cases e : a = b
        · subst e; exact k q
        · rcases plt_total (l := l) e with z | z
          · exact k (plt_trans q z)
          · exact h z)
      (fun a b => by
        by_cases z : plt l b a
        · simp [z, plt_asymm z]
        · simp [z]) _
    refine (List.Pairwise.and nd pw).imp (fun {a b} q => ?_)
    obtain ⟨q1, q2⟩ := q
    simp only [decide_eq_true_eq] at q2
    rcases plt_total (l := l) q1 with z | z
    · exact z
    · exact absurd z q2
theorem Vic.eq {l : List R} {prio most : Int} {S : List Nat} (h : Vic l prio most S) : S = vics l prio most := h.uniq (vics_vic l prio most)

/-- The victims as runs. -/
def vrun (l : List R) (prio most : Int) : List R := (vics l prio most).map (at' l)

/-- As few of the first ones as make room. -/
def tk (need : Int) : Int → List R → Option (List Int)
  | _, [] => none
  | free, x :: V => if need ≤ free + bnd x.m then some [x.t] else (tk need (free + bnd x.m) V).map (x.t :: ·)
/-- Choose. -/
def ans (l : List R) (prio mem free slots most : Int) : Option (List Int) :=
  if 1 ≤ slots ∧ bnd mem ≤ bnd free then some [] else tk (bnd mem) (bnd free) (vrun l prio most)
/-- Its answers. -/
def ansL (l : List R) (prio mem free slots most : Int) : List Int := (ans l prio mem free slots most).getD []
def ansB (l : List R) (prio mem free slots most : Int) : Bool := (ans l prio mem free slots most).isSome

/-- What they all give back. -/
def tot : List R → Int
  | [] => 0
  | x :: V => bnd x.m + tot V
theorem tot_nonneg : ∀ V : List R, 0 ≤ tot V
  | [] => by simp [tot]
  | x :: V => by have := tot_nonneg V; have := bnd_lo x.m; simp [tot]; omega
theorem tot_le : ∀ V : List R, tot V ≤ 1048576 * (V.length : Int)
  | [] => by simp [tot]
  | x :: V => by have := tot_le V; have := bnd_hi x.m; simp [tot]; omega
theorem tk_isSome (need : Int) : ∀ (free : Int) (V : List R), (tk need free V).isSome = decide (V ≠ [] ∧ need ≤ free + tot V)
  | free, [] => by simp [tk]
  | free, x :: V => by
    have h0 := tot_nonneg V
    by_cases h : need ≤ free + bnd x.m
    · have : need ≤ free + tot (x :: V) := by simp [tot]; omega
      simp [tk, h, this]
    · have ih := tk_isSome need (free + bnd x.m) V
      have e : free + tot (x :: V) = free + bnd x.m + tot V := by simp [tot]; omega
      rw [e]
      simp only [tk, if_neg h, Option.isSome_map, ih]
      cases V with
      | nil => simp [tot]; omega
      | cons y V => simp
theorem tk_len (need : Int) : ∀ (free : Int) (V : List R) (L : List Int), tk need free V = some L → L.length ≤ V.length
  | free, [], L, h => by simp [tk] at h
  | free, x :: V, L, h => by
    unfold tk at h
    split at h
    · simp at h; subst h; simp
    · obtain ⟨K, hK, rfl⟩ := Option.map_eq_some_iff.1 h
      have := tk_len need _ V K hK
      simp; omega
theorem vics_len (l : List R) (prio most : Int) : (vics l prio most).length ≤ l.length := by
  unfold vics; rw [List.length_mergeSort]; exact Nat.le_trans List.filter_sublist.length_le (by simp)
theorem vrun_len (l : List R) (prio most : Int) : (vrun l prio most).length ≤ l.length := by unfold vrun; rw [List.length_map]; exact vics_len _ _ _
theorem ansL_len (l : List R) (prio mem free slots most : Int) : (ansL l prio mem free slots most).length ≤ l.length := by
  unfold ansL ans
  split
  · simp
  · cases h : tk (bnd mem) (bnd free) (vrun l prio most) with
    | none => simp
    | some L => exact Nat.le_trans (tk_len _ _ _ _ h) (vrun_len _ _ _)
theorem ansB_eq (l : List R) (prio mem free slots most : Int) : ansB l prio mem free slots most = decide ((1 ≤ slots ∧ bnd mem ≤ bnd free) ∨ (vrun l prio most ≠ [] ∧ bnd mem ≤ bnd free + tot (vrun l prio most))) := by
  unfold ansB ans
  by_cases h : 1 ≤ slots ∧ bnd mem ≤ bnd free
  · rw [if_pos h]; simp [h]
  · rw [if_neg h, tk_isSome]; simp [h]

/-- More that may be stopped give no less. -/
theorem tot_perm {V V' : List R} (h : V.Perm V') : tot V = tot V' := by
  induction h with
  | nil => rfl
  | cons x _ ih => simp [tot, ih]
  | swap x y l => simp [tot]; omega
  | trans _ _ i j => omega
theorem tot_sub {f : Nat → R} : ∀ {S S' : List Nat}, S.Nodup → (∀ i ∈ S, i ∈ S') → tot (S.map f) ≤ tot (S'.map f)
  | [], S', _, _ => by have := tot_nonneg (S'.map f); simpa [tot] using this
  | a :: S, S', nd, h => by
    have ha := h a (by simp)
    have p := (List.perm_cons_erase ha).map f
    rw [tot_perm p]
    obtain ⟨n1, n2⟩ := List.nodup_cons.1 nd
    have := tot_sub (f := f) (S := S) (S' := S'.erase a) n2 (fun i hi => by
      have e : i ≠ a := fun e => n1 (e ▸ hi)
      exact (List.mem_erase_of_ne e).2 (h i (by simp [hi])))
    simp only [List.map_cons, tot]
    omega
theorem vrun_more (l : List R) {prio most prio' most' : Int} (h1 : prio ≤ prio') (h2 : most ≤ most') : tot (vrun l prio most) ≤ tot (vrun l prio' most') ∧ (vrun l prio most ≠ [] → vrun l prio' most' ≠ []) := by
  have v := vics_vic l prio most
  have v' := vics_vic l prio' most'
  have sub : ∀ i ∈ vics l prio most, i ∈ vics l prio' most' := fun i hi => by
    obtain ⟨a, b⟩ := (v.mem i).1 hi
    rw [mayB_iff] at b
    exact (v'.mem i).2 ⟨a, mayB_iff.2 ⟨by omega, by omega⟩⟩
  refine ⟨tot_sub v.nodup sub, fun hn => ?_⟩
  unfold vrun at *
  intro e
  rw [List.map_eq_nil_iff] at e
  rw [e] at sub
  apply hn
  rw [List.map_eq_nil_iff]
  exact List.eq_nil_iff_forall_not_mem.2 (fun i hi => by simpa using sub i hi)
theorem ansB_more (l : List R) {prio mem free slots most prio' mem' free' most' : Int} (h1 : prio ≤ prio') (h2 : mem' ≤ mem) (h3 : free ≤ free') (h4 : most ≤ most') (h : ansB l prio mem free slots most = true) : ansB l prio' mem' free' slots most' = true := by
  rw [ansB_eq, decide_eq_true_eq] at *
  obtain ⟨a, b⟩ := vrun_more l h1 h4
  have q1 : bnd mem' ≤ bnd mem := by unfold bnd; omega
  have q2 : bnd free ≤ bnd free' := by unfold bnd; omega
  rcases h with ⟨x, y⟩ | ⟨x, y⟩
  · exact .inl ⟨x, by omega⟩
  · exact .inr ⟨b x, by omega⟩

/-- Two that bear the same runs in their order are the same. -/
theorem run_eq {V V' : List R} (h : V.Pairwise rlt) (h' : V'.Pairwise rlt) (hm : ∀ x, x ∈ V ↔ x ∈ V') : V = V' := by
  have n1 : V.Nodup := h.imp (fun {a b} q e => by subst e; exact rlt_irrefl _ q)
  have n2 : V'.Nodup := h'.imp (fun {a b} q e => by subst e; exact rlt_irrefl _ q)
  exact List.Perm.eq_of_pairwise (fun a b _ _ q q' => absurd q' (rlt_asymm q)) h h' ((List.perm_ext_iff_of_nodup n1 n2).2 hm)
theorem vrun_pw {l : List R} {prio most : Int} (hd : ∀ i j, i < l.length → j < l.length → i ≠ j → (at' l i).t ≠ (at' l j).t) : (vrun l prio most).Pairwise rlt := by
  have v := vics_vic l prio most
  unfold vrun
  rw [List.pairwise_map]
  refine v.ord.imp_of_mem (fun {a b} ha hb q => ?_)
  have la := ((v.mem a).1 ha).1
  have lb := ((v.mem b).1 hb).1
  have ne : a ≠ b := fun e => by subst e; exact plt_irrefl _ _ q
  rcases q with q | ⟨q, _⟩
  · exact q
  · by_cases z : rlt (at' l a) (at' l b)
    · exact z
    · exact absurd (rlt_same z q).2.2 (hd a b la lb ne)
theorem vrun_mem {l : List R} {prio most : Int} (x : R) : x ∈ vrun l prio most ↔ x ∈ l ∧ mayB prio most x = true := by
  have v := vics_vic l prio most
  unfold vrun
  rw [List.mem_map]
  constructor
  · rintro ⟨i, hi, rfl⟩
    obtain ⟨a, b⟩ := (v.mem i).1 hi
    refine ⟨?_, b⟩
    rw [at_get a]; exact List.getElem_mem a
  · rintro ⟨h1, h2⟩
    obtain ⟨i, hi, rfl⟩ := List.getElem_of_mem h1
    exact ⟨i, (v.mem i).2 ⟨hi, by rw [at_get hi]; exact h2⟩, at_get hi⟩
/-- In which order they stand does not matter. -/
theorem ans_turned {l : List R} {prio mem free slots most : Int} (hd : ∀ i j, i < l.length → j < l.length → i ≠ j → (at' l i).t ≠ (at' l j).t) : ans l.reverse prio mem free slots most = ans l prio mem free slots most := by
  unfold ans
  have e : vrun l.reverse prio most = vrun l prio most := by
    refine run_eq (vrun_pw (fun i j hi hj ne => ?_)) (vrun_pw hd) (fun x => by simp [vrun_mem])
    simp only [List.length_reverse] at hi hj
    rw [at_get (by simpa using hi), at_get (by simpa using hj), List.getElem_reverse, List.getElem_reverse, ← at_get (l := l) (by omega), ← at_get (l := l) (by omega)]
    exact hd _ _ (by omega) (by omega) (by omega)
  rw [e]

/-- Who may not be stopped does not matter. -/
theorem drop_one {a b : List R} {x : R} {prio most : Int} (hx : mayB prio most x = false) : vrun (a ++ x :: b) prio most = vrun (a ++ b) prio most := by
  have v := vics_vic (a ++ b) prio most
  let f : Nat → Nat := fun i => if i < a.length then i else i + 1
  have fa : ∀ i, at' (a ++ x :: b) (f i) = at' (a ++ b) i := fun i => by
    simp only [f]
    unfold at'
    rw [List.getD_eq_getElem?_getD, List.getD_eq_getElem?_getD]
    by_cases h : i < a.length
    · rw [if_pos h, List.getElem?_append_left h, List.getElem?_append_left h]
    · rw [if_neg h, List.getElem?_append_right (by omega), List.getElem?_append_right (by omega), show i + 1 - a.length = (i - a.length) + 1 by omega, List.getElem?_cons_succ]
  have w : Vic (a ++ x :: b) prio most ((vics (a ++ b) prio most).map f) := by
    refine ⟨fun j => ?_, ?_⟩
    · rw [List.mem_map]
      constructor
      · rintro ⟨i, hi, rfl⟩
        obtain ⟨p, q⟩ := (v.mem i).1 hi
        refine ⟨?_, by rw [fa]; exact q⟩
        simp only [f, List.length_append, List.length_cons] at *
        split <;> omega
      · rintro ⟨p, q⟩
        have key : ∀ i, f i = j → i < (a ++ b).length → ∃ k, k ∈ vics (a ++ b) prio most ∧ f k = j := fun i e h => ⟨i, (v.mem i).2 ⟨h, by rw [← fa, e]; exact q⟩, e⟩
        simp only [List.length_append, List.length_cons] at p
        rcases Nat.lt_trichotomy j a.length with z | z | z
        · exact key j (by simp [f, z]) (by simp; omega)
        · subst z
          have : at' (a ++ x :: b) a.length = x := by simp [at']
          rw [this, hx] at q; cases q
        · exact key (j - 1) (by simp only [f]; rw [if_neg (by omega)]; omega) (by simp; omega)
    · rw [List.pairwise_map]
      refine v.ord.imp (fun {i j} q => ?_)
      unfold plt at *
      rw [fa, fa]
      rcases q with q | ⟨q, z⟩
      · exact .inl q
      · exact .inr ⟨q, by simp only [f]; split <;> split <;> omega⟩
  unfold vrun
  rw [← w.eq, List.map_map]
  exact List.map_congr_left (fun i _ => fa i)
theorem vrun_filter (prio most : Int) : ∀ (b a : List R), vrun (a ++ b) prio most = vrun (a ++ b.filter (mayB prio most)) prio most
  | [], a => by simp
  | x :: b, a => by
    cases h : mayB prio most x with
    | false => rw [drop_one h, List.filter_cons_of_neg (by simp [h])]; exact vrun_filter prio most b a
    | true =>
      rw [List.filter_cons_of_pos h]
      have := vrun_filter prio most b (a ++ [x])
      simpa using this
theorem ans_filter {l l' : List R} {prio mem free slots most : Int} (h : l.filter (mayB prio most) = l'.filter (mayB prio most)) : ans l prio mem free slots most = ans l' prio mem free slots most := by
  unfold ans
  have a := vrun_filter prio most l []
  have b := vrun_filter prio most l' []
  simp only [List.nil_append] at a b
  rw [a, b, h]

/-- The first one. -/
theorem vics_first {l : List R} {prio most : Int} {i : Nat} (hi : i < l.length) (hm : mayB prio most (at' l i) = true) (hf : ∀ j, j < l.length → mayB prio most (at' l j) = true → j ≠ i → plt l i j) : ∃ S, vics l prio most = i :: S := by
  have v := vics_vic l prio most
  have h := (v.mem i).2 ⟨hi, hm⟩
  cases e : vics l prio most with
  | nil => rw [e] at h; simp at h
  | cons a S =>
    have o := v.ord
    rw [e] at h o
    have la := (v.mem a).1 (by rw [e]; simp)
    by_cases q : a = i
    · exact ⟨S, by rw [q]⟩
    · have h2 : i ∈ S := by simpa [Ne.symm q] using h
      exact absurd ((List.pairwise_cons.1 o).1 i h2) (plt_asymm (hf a la.1 la.2 q))
theorem vics_none {l : List R} {prio most : Int} (h : ∀ j, j < l.length → mayB prio most (at' l j) = false) : vics l prio most = [] :=
  List.eq_nil_iff_forall_not_mem.2 (fun i hi => by
    obtain ⟨a, b⟩ := ((vics_vic l prio most).mem i).1 hi
    rw [h i a] at b; cases b)

end M
end Go.Proofs.Ytebielckdloncaa
