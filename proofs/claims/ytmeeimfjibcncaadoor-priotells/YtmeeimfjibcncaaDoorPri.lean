/- Priorities as mathematics. -/
import Derived.Test.YtmeeimfjibcncaaDoorMad
namespace Go.Proofs.YtmeeimfjibcncaaDoor
open Go.RowKit
open M
set_option linter.unusedVariables false
set_option linter.unusedSimpArgs false

/-- A request: root, weight, priority. -/
abbrev Rq := Int × Int × Int
def upB (b : Bool) (p : Int) (x : Int) : Int := if b = true then max p x else p
/-- The priority of task t. -/
def prioOf (n : Nat) (es : List E) (Q : List Rq) (t : Nat) : Int := Q.foldl (fun p q => upB (reachB n es q.1 (t : Int)) p q.2.2) (-1)
theorem prioOf_take (n : Nat) (es : List E) (Q : List Rq) (t k : Nat) (h : k < Q.length) : prioOf n es (Q.take (k + 1)) t = upB (reachB n es Q[k].1 (t : Int)) (prioOf n es (Q.take k) t) Q[k].2.2 := by
  unfold prioOf
  rw [List.take_succ_eq_append_getElem h, List.foldl_append]
  rfl
theorem prioOf_snoc (n : Nat) (es : List E) (Q : List Rq) (q : Rq) (t : Nat) : prioOf n es (Q ++ [q]) t = upB (reachB n es q.1 (t : Int)) (prioOf n es Q t) q.2.2 := by
  unfold prioOf
  rw [List.foldl_append]
  rfl
theorem prioOf_nil (n : Nat) (es : List E) (t : Nat) : prioOf n es [] t = -1 := rfl
theorem upB_le (b : Bool) (p x : Int) : p ≤ upB b p x := by unfold upB; split <;> omega
theorem upB_mono {b c : Bool} {p q : Int} (h : b = true → c = true) (hp : p ≤ q) (x : Int) : upB b p x ≤ upB c q x := by
  unfold upB
  cases b with
  | false => cases c <;> simp <;> omega
  | true => rw [h rfl]; simp; omega

/-- One that came in, or was reckoned: within the words. -/
def QB (Q : List Rq) : Prop := ∀ q ∈ Q, -9223372036854775808 ≤ q.2.2 ∧ q.2.2 ≤ 9223372036854775807
theorem prioOf_lo (n : Nat) (es : List E) (t : Nat) (Q : List Rq) : -1 ≤ prioOf n es Q t := by
  unfold prioOf
  have : ∀ (L : List Rq) (p : Int), -1 ≤ p → -1 ≤ L.foldl (fun p q => upB (reachB n es q.1 (t : Int)) p q.2.2) p := by
    intro L
    induction L with
    | nil => intro p h; exact h
    | cons q r ih => intro p h; exact ih _ (Int.le_trans h (upB_le _ _ _))
  exact this Q (-1) (Int.le_refl _)

/-- The row of Reach, up to its k'th, has raised these. -/
def raiseL (P : Nat → Int) (L : List Nat) (x : Int) : Nat → Int := fun t => upB (decide (t ∈ L)) (P t) x
theorem raiseL_nil (P : Nat → Int) (x : Int) : raiseL P [] x = P := by funext t; simp [raiseL, upB]
theorem raiseL_step (P : Nat → Int) (L : List Nat) (x : Int) (k : Nat) (h : k < L.length) :
    raiseL P (L.take (k + 1)) x = fun t => if t = L[k] then max (raiseL P (L.take k) x t) x else raiseL P (L.take k) x t := by
  funext t
  unfold raiseL upB
  rw [List.take_succ_eq_append_getElem h]
  by_cases e : t = L[k]
  · rw [if_pos e]
    have : t ∈ L.take k ++ [L[k]] := List.mem_append.2 (.inr (by rw [e]; exact List.mem_singleton.2 rfl))
    rw [if_pos (decide_eq_true this)]
    split <;> omega
  · rw [if_neg e]
    have : t ∈ L.take k ++ [L[k]] ↔ t ∈ L.take k := by rw [List.mem_append, List.mem_singleton]; exact ⟨fun h => h.resolve_right e, .inl⟩
    simp only [decide_eq_true_eq, this]

theorem mem_reachL {n : Nat} {es : List E} (hn : n ≤ 64) (hg : ∀ e ∈ es, e.1 < n ∧ e.2 < n) (a : Int) (t : Nat) : t ∈ reachL n es a ↔ reachB n es a (t : Int) = true := by
  unfold reachL reachB
  cases ho : offB n a with
  | true => simp [ho]
  | false =>
    simp only [Bool.false_eq_true, if_false]
    rw [rise_mem _ _ (rset_lt _ _)]
    have ha : 0 ≤ a ∧ a < n := by simp [offB] at ho; omega
    constructor
    · intro h
      have h64 := bit_lt (rset_lt _ _) h
      rw [rset_bit _ _ _ h64] at h
      have hr := (rB_iff _ _ _).1 h
      have ht : t < n := by
        rcases hr.last with e | ⟨c, _, _, he⟩
        · omega
        · exact (hg _ he).2
      have : offB n (t : Int) = false := by simp [offB]; omega
      simp [ho, this, h]
    · intro h
      have h' := Bool.and_eq_true_iff.1 h
      have : offB n (t : Int) = false := by
        cases q : offB n (t : Int) with
        | false => rfl
        | true => simp [ho, q] at h
      have ht : t < n := by simp [offB] at this; omega
      rw [rset_bit _ _ _ (by omega)]
      simpa using h'.2
theorem reachL_lt {n : Nat} {es : List E} (hn : n ≤ 64) (hg : ∀ e ∈ es, e.1 < n ∧ e.2 < n) (a : Int) : ∀ t ∈ reachL n es a, t < n := by
  intro t ht
  have := (mem_reachL hn hg a t).1 ht
  unfold reachB at this
  cases q : offB n (t : Int) with
  | true => simp [q] at this
  | false => simp [offB] at q; omega
theorem reachL_len (n : Nat) (es : List E) (a : Int) : (reachL n es a).length ≤ 64 := by
  unfold reachL
  split
  · simp
  · exact rise_len _
theorem reachL_sorted (n : Nat) (es : List E) (a : Int) : (reachL n es a).Pairwise (· < ·) := by
  unfold reachL
  split
  · exact List.Pairwise.nil
  · exact rise_sorted _
/-- One request more. -/
theorem raise_all {n : Nat} {es : List E} (hn : n ≤ 64) (hg : ∀ e ∈ es, e.1 < n ∧ e.2 < n) (Q : List Rq) (k : Nat) (h : k < Q.length) :
    raiseL (prioOf n es (Q.take k)) (reachL n es Q[k].1) Q[k].2.2 = prioOf n es (Q.take (k + 1)) := by
  funext t
  rw [prioOf_take n es Q t k h]
  unfold raiseL
  congr 1
  rw [Bool.eq_iff_iff, decide_eq_true_eq]
  exact mem_reachL hn hg _ t

/-- The priorities as a row. -/
def ofL (n : Nat) (es : List E) (Q : List Rq) : List Int := (List.range n).map (prioOf n es Q)

/-- The places of the requests that wait for a task, among the first k. -/
def reachedL (n : Nat) (es : List E) (Q : List Rq) (t : Int) (k : Nat) : List Nat := (List.range k).filter fun i => match Q[i]? with | some q => reachB n es q.1 t | none => false
theorem reachedL_step (n : Nat) (es : List E) (Q : List Rq) (t : Int) (k : Nat) (h : k < Q.length) : reachedL n es Q t (k + 1) = reachedL n es Q t k ++ (if reachB n es Q[k].1 t = true then [k] else []) := by
  unfold reachedL
  rw [List.range_succ, List.filter_append]
  congr 1
  rw [List.filter_cons, List.filter_nil, List.getElem?_eq_getElem h]
theorem reachedL_zero (n : Nat) (es : List E) (Q : List Rq) (t : Int) : reachedL n es Q t 0 = [] := rfl
theorem reachedL_len (n : Nat) (es : List E) (Q : List Rq) (t : Int) (k : Nat) : (reachedL n es Q t k).length ≤ k := by
  unfold reachedL
  refine Nat.le_trans (List.length_filter_le _ _) (by simp)
theorem reachedL_mem (n : Nat) (es : List E) (Q : List Rq) (t : Int) {i : Nat} (h : i ∈ reachedL n es Q t Q.length) : ∃ hi : i < Q.length, reachB n es Q[i].1 t = true := by
  unfold reachedL at h
  rw [List.mem_filter, List.mem_range] at h
  refine ⟨h.1, ?_⟩
  have := h.2
  rw [List.getElem?_eq_getElem h.1] at this
  exact this
theorem reachedL_in (n : Nat) (es : List E) (Q : List Rq) (t : Int) {i : Nat} (hi : i < Q.length) (h : reachB n es Q[i].1 t = true) : i ∈ reachedL n es Q t Q.length := by
  unfold reachedL
  rw [List.mem_filter, List.mem_range]
  refine ⟨hi, ?_⟩
  rw [List.getElem?_eq_getElem hi]
  exact h
theorem reachedL_off {n : Nat} {es : List E} {Q : List Rq} {t : Int} (h : offB n t = true) (k : Nat) : reachedL n es Q t k = [] := by
  unfold reachedL
  rw [List.filter_eq_nil_iff]
  intro i hi
  cases Q[i]? with
  | none => simp
  | some q => simp [reachB, h]

/-- The greatest of those at these places: the document's own way. -/
def pickL (Q : List Rq) (L : List Nat) (p : Int) : Int := L.foldl (fun p i => match Q[i]? with | some q => max p q.2.2 | none => p) p
theorem pickL_take (Q : List Rq) (L : List Nat) (p : Int) (k : Nat) (h : k < L.length) (hq : L[k] < Q.length) : pickL Q (L.take (k + 1)) p = max (pickL Q (L.take k) p) Q[L[k]].2.2 := by
  unfold pickL
  rw [List.take_succ_eq_append_getElem h, List.foldl_append]
  show (match Q[L[k]]? with | some q => max _ q.2.2 | none => _) = _
  rw [List.getElem?_eq_getElem hq]
theorem pick_reached (n : Nat) (es : List E) (Q : List Rq) (t : Nat) : ∀ k, k ≤ Q.length → pickL Q (reachedL n es Q (t : Int) k) (-1) = prioOf n es (Q.take k) t
  | 0, _ => by simp [reachedL_zero, pickL, prioOf_nil]
  | k + 1, h => by
    have hk : k < Q.length := h
    rw [reachedL_step n es Q t k hk, prioOf_take n es Q t k hk, ← pick_reached n es Q t k (by omega)]
    unfold pickL
    rw [List.foldl_append]
    cases reachB n es Q[k].1 (t : Int) with
    | false => simp [upB]
    | true =>
      simp only [if_true, List.foldl_cons, List.foldl_nil, upB]
      rw [List.getElem?_eq_getElem hk]

theorem off_two' (n : Nat) (a b : Int) : (!([a, b].any (offB n))) = (!(offB n a) && !(offB n b)) := by simp
theorem reachB_iff' (n : Nat) (es : List E) (a b : Int) : reachB n es a b = true ↔ offB n a = false ∧ offB n b = false ∧ Rch es a.toNat b.toNat := by
  unfold reachB
  rw [off_two', Bool.and_eq_true_iff, Bool.and_eq_true_iff, rB_iff]
  simp [and_assoc]
theorem reachB_self {n : Nat} {es : List E} {a : Int} (h : offB n a = false) : reachB n es a a = true := (reachB_iff' n es a a).2 ⟨h, h, Rch.refl _ _⟩
theorem reachB_edge {n : Nat} {es : List E} (hg : ∀ e ∈ es, e.1 < n ∧ e.2 < n) {x : Int} {a b : Nat} (he : (a, b) ∈ es) (h : reachB n es x (a : Int) = true) : reachB n es x (b : Int) = true := by
  obtain ⟨h1, h2, h3⟩ := (reachB_iff' n es x a).1 h
  have hb := (hg _ he).2
  refine (reachB_iff' n es x b).2 ⟨h1, ?_, by simpa using (Rch.tail (b := a) (by simpa using h3) he)⟩
  simp [offB]; exact hb
/-- Along an edge no priority falls. -/
theorem prio_edge {n : Nat} {es : List E} (hg : ∀ e ∈ es, e.1 < n ∧ e.2 < n) {a b : Nat} (he : (a, b) ∈ es) (Q : List Rq) : prioOf n es Q a ≤ prioOf n es Q b := by
  unfold prioOf
  have : ∀ (L : List Rq) (p q : Int), p ≤ q → L.foldl (fun p r => upB (reachB n es r.1 (a : Int)) p r.2.2) p ≤ L.foldl (fun p r => upB (reachB n es r.1 (b : Int)) p r.2.2) q := by
    intro L
    induction L with
    | nil => intro p q h; exact h
    | cons r l ih => intro p q h; exact ih _ _ (upB_mono (reachB_edge hg he) h _)
  exact this Q _ _ (Int.le_refl _)
/-- Whoever reaches the task has no higher one. -/
theorem prio_ge {n : Nat} {es : List E} {Q : List Rq} {t i : Nat} (hi : i < Q.length) (h : reachB n es Q[i].1 (t : Int) = true) : Q[i].2.2 ≤ prioOf n es Q t := by
  have h1 : ∀ k, i < k → k ≤ Q.length → Q[i].2.2 ≤ prioOf n es (Q.take k) t := by
    intro k
    induction k with
    | zero => intro h; omega
    | succ k ih =>
      intro h1 h2
      rw [prioOf_take n es Q t k (by omega)]
      by_cases e : i = k
      · subst e
        rw [h]
        unfold upB
        simp
        omega
      · exact Int.le_trans (ih (by omega) (by omega)) (upB_le _ _ _)
  have := h1 Q.length hi (Nat.le_refl _)
  rwa [List.take_length] at this
/-- It is nobody's, or that of one that reaches the task. -/
theorem prio_found (n : Nat) (es : List E) (t : Nat) (Q : List Rq) : prioOf n es Q t = -1 ∨ ∃ i, ∃ h : i < Q.length, reachB n es Q[i].1 (t : Int) = true ∧ Q[i].2.2 = prioOf n es Q t := by
  have h1 : ∀ k, k ≤ Q.length → prioOf n es (Q.take k) t = -1 ∨ ∃ i, ∃ h : i < Q.length, reachB n es Q[i].1 (t : Int) = true ∧ Q[i].2.2 = prioOf n es (Q.take k) t := by
    intro k
    induction k with
    | zero => intro _; left; simp [prioOf_nil]
    | succ k ih =>
      intro h
      rw [prioOf_take n es Q t k (by omega)]
      unfold upB
      split
      · rename_i hr
        by_cases hm : prioOf n es (Q.take k) t ≤ Q[k].2.2
        · right
          exact ⟨k, by omega, hr, by omega⟩
        · have e : max (prioOf n es (Q.take k) t) Q[k].2.2 = prioOf n es (Q.take k) t := by omega
          rw [e]
          exact ih (by omega)
      · exact ih (by omega)
  have := h1 Q.length (Nat.le_refl _)
  rwa [List.take_length] at this

theorem mem_addE {n : Nat} {es : List E} {A B : Nat} (hA : A < n) (hB : B < n) (e : E) : e ∈ addE n es (A : Int) (B : Int) ↔ e ∈ es ∨ e = (A, B) := by
  unfold addE
  have : [(A : Int), (B : Int)].any (offB n) = false := by simp [offB]; omega
  rw [this]
  simp only [Bool.not_false, if_true, Int.toNat_natCast]
  by_cases h : (A, B) ∈ es
  · rw [if_pos h]
    constructor
    · exact .inl
    · rintro (q | rfl)
      · exact q
      · exact h
  · rw [if_neg h]
    simp
theorem rch_addE {es fs : List E} {A B : Nat} (hf : ∀ e, e ∈ fs ↔ e ∈ es ∨ e = (A, B)) {x y : Nat} (h : Rch fs x y) : Rch es x y ∨ (Rch es x A ∧ Rch es B y) := by
  refine h.closed (fun u => Rch es x u ∨ (Rch es x A ∧ Rch es B u)) (.inl (Rch.refl _ _)) ?_
  intro u v hu he
  rcases (hf _).1 he with q | q
  · rcases hu with hu | ⟨h1, h2⟩
    · exact .inl (hu.tail q)
    · exact .inr ⟨h1, h2.tail q⟩
  · have e1 : u = A := congrArg Prod.fst q
    have e2 : v = B := congrArg Prod.snd q
    subst e1 e2
    rcases hu with hu | ⟨h1, h2⟩
    · exact .inr ⟨hu, Rch.refl _ _⟩
    · exact .inr ⟨h1, Rch.refl _ _⟩
theorem reachB_add {n : Nat} {es : List E} {A B : Nat} (hA : A < n) (hB : B < n) (x : Int) (t : Nat) :
    reachB n (addE n es (A : Int) (B : Int)) x (t : Int) = (reachB n es x (t : Int) || (reachB n es x (A : Int) && reachB n es (B : Int) (t : Int))) := by
  have oA : offB n (A : Int) = false := by simp [offB]; omega
  have oB : offB n (B : Int) = false := by simp [offB]; omega
  rw [Bool.eq_iff_iff, Bool.or_eq_true_iff, Bool.and_eq_true_iff, reachB_iff', reachB_iff', reachB_iff', reachB_iff']
  simp only [Int.toNat_natCast]
  constructor
  · rintro ⟨h1, h2, h3⟩
    rcases rch_addE (mem_addE hA hB) h3 with q | ⟨q1, q2⟩
    · exact .inl ⟨h1, h2, q⟩
    · exact .inr ⟨⟨h1, oA, q1⟩, oB, h2, q2⟩
  · rintro (⟨h1, h2, h3⟩ | ⟨⟨h1, _, h3⟩, _, h5, h6⟩)
    · exact ⟨h1, h2, h3.mono (fun e he => (mem_addE hA hB e).2 (.inl he))⟩
    · refine ⟨h1, h5, ((h3.mono (fun e he => (mem_addE hA hB e).2 (.inl he))).tail ((mem_addE hA hB _).2 (.inr rfl))).trans (h6.mono (fun e he => (mem_addE hA hB e).2 (.inl he)))⟩
/-- One edge more: whoever is behind it has then what its beginning has, if that is more. -/
theorem prio_add {n : Nat} {es : List E} {A B : Nat} (hA : A < n) (hB : B < n) (t : Nat) (Q : List Rq) :
    prioOf n (addE n es (A : Int) (B : Int)) Q t = upB (reachB n es (B : Int) (t : Int)) (prioOf n es Q t) (prioOf n es Q A) := by
  have h1 : ∀ k, k ≤ Q.length → prioOf n (addE n es (A : Int) (B : Int)) (Q.take k) t = upB (reachB n es (B : Int) (t : Int)) (prioOf n es (Q.take k) t) (prioOf n es (Q.take k) A) := by
    intro k
    induction k with
    | zero => intro _; simp [prioOf_nil, upB]
    | succ k ih =>
      intro h
      rw [prioOf_take n _ Q t k (by omega), prioOf_take n es Q t k (by omega), prioOf_take n es Q A k (by omega), ih (by omega), reachB_add hA hB]
      generalize prioOf n es (Q.take k) t = p
      generalize prioOf n es (Q.take k) A = q
      unfold upB
      cases reachB n es (B : Int) (t : Int) <;> cases reachB n es Q[k].1 (t : Int) <;> cases reachB n es Q[k].1 (A : Int) <;> simp <;> omega
  have := h1 Q.length (Nat.le_refl _)
  rwa [List.take_length] at this
theorem addE_off {n : Nat} {es : List E} {a b : Int} (h : offB n a = true ∨ offB n b = true) : addE n es a b = es := by
  unfold addE
  have : [a, b].any (offB n) = true := by rcases h with h | h <;> simp [h]
  rw [this]
  rfl

/-- The tasks that an edge would raise. -/
def raisedL (n : Nat) (es : List E) (Q : List Rq) (a b : Int) : List Nat := if offB n a = true ∨ offB n b = true then [] else (reachL n es b).filter fun t => decide (prioOf n es Q t < prioOf n es Q a.toNat)
theorem raised_mem {n : Nat} {es : List E} (hn : n ≤ 64) (hg : ∀ e ∈ es, e.1 < n ∧ e.2 < n) (Q : List Rq) (a b : Int) (t : Nat) :
    t ∈ raisedL n es Q a b ↔ t < n ∧ prioOf n es Q t < prioOf n (addE n es a b) Q t := by
  unfold raisedL
  by_cases ho : offB n a = true ∨ offB n b = true
  · rw [if_pos ho, addE_off ho]
    simp
  · rw [if_neg ho]
    have hr : 0 ≤ a ∧ a < n ∧ 0 ≤ b ∧ b < n := by simp [offB] at ho; omega
    obtain ⟨A, rfl⟩ : ∃ x : Nat, a = x := ⟨a.toNat, by omega⟩
    obtain ⟨B, rfl⟩ : ∃ y : Nat, b = y := ⟨b.toNat, by omega⟩
    rw [List.mem_filter, mem_reachL hn hg, prio_add (by omega) (by omega)]
    simp only [Int.toNat_natCast, decide_eq_true_eq]
    constructor
    · rintro ⟨q1, q2⟩
      refine ⟨reachL_lt hn hg (B : Int) t ((mem_reachL hn hg _ _).2 q1), ?_⟩
      rw [q1]
      unfold upB
      simp
      omega
    · rintro ⟨q0, q1⟩
      unfold upB at q1
      cases q : reachB n es (B : Int) (t : Int) with
      | false => rw [q] at q1; simp at q1
      | true =>
        rw [q] at q1
        simp at q1
        exact ⟨rfl, by omega⟩
theorem raised_sorted (n : Nat) (es : List E) (Q : List Rq) (a b : Int) : (raisedL n es Q a b).Pairwise (· < ·) := by
  unfold raisedL
  split
  · exact List.Pairwise.nil
  · exact (reachL_sorted n es b).filter _
theorem raised_len (n : Nat) (es : List E) (Q : List Rq) (a b : Int) : (raisedL n es Q a b).length ≤ 64 := by
  unfold raisedL
  split
  · simp
  · exact Nat.le_trans (List.length_filter_le _ _) (reachL_len n es b)
theorem prio_add_le {n : Nat} {es : List E} (Q : List Rq) (a b : Int) (t : Nat) : prioOf n es Q t ≤ prioOf n (addE n es a b) Q t := by
  by_cases ho : offB n a = true ∨ offB n b = true
  · rw [addE_off ho]; exact Int.le_refl _
  · have hr : 0 ≤ a ∧ a < n ∧ 0 ≤ b ∧ b < n := by simp [offB] at ho; omega
    obtain ⟨A, rfl⟩ : ∃ x : Nat, a = x := ⟨a.toNat, by omega⟩
    obtain ⟨B, rfl⟩ : ∃ y : Nat, b = y := ⟨b.toNat, by omega⟩
    rw [prio_add (by omega) (by omega)]
    exact upB_le _ _ _
/-- The same ones, as the document tells them. -/
def diffL (P R : Nat → Int) (k : Nat) : List Nat := (List.range k).filter fun t => decide (P t ≠ R t)
theorem diffL_step (P R : Nat → Int) (k : Nat) : diffL P R (k + 1) = diffL P R k ++ (if P k = R k then [] else [k]) := by
  unfold diffL
  rw [List.range_succ, List.filter_append]
  congr 1
  rw [List.filter_cons, List.filter_nil]
  by_cases h : P k = R k <;> simp [h]
theorem sorted_ext {l m : List Nat} (hl : l.Pairwise (· < ·)) (hm : m.Pairwise (· < ·)) (h : ∀ t, t ∈ l ↔ t ∈ m) : l = m := by
  have nl : l.Nodup := hl.imp (fun h => Nat.ne_of_lt h)
  have nm : m.Nodup := hm.imp (fun h => Nat.ne_of_lt h)
  have hp : l.Perm m := (List.perm_ext_iff_of_nodup nl nm).2 h
  refine hp.eq_of_pairwise (le := fun a b => a < b) ?_ hl hm
  intro a b _ _ h1 h2
  omega
theorem raised_diff {n : Nat} {es : List E} (hn : n ≤ 64) (hg : ∀ e ∈ es, e.1 < n ∧ e.2 < n) (Q : List Rq) (a b : Int) : raisedL n es Q a b = diffL (prioOf n es Q) (prioOf n (addE n es a b) Q) n := by
  refine sorted_ext (raised_sorted _ _ _ _ _) (List.pairwise_lt_range.filter _) fun t => ?_
  rw [raised_mem hn hg]
  unfold diffL
  rw [List.mem_filter, List.mem_range, decide_eq_true_eq]
  have := prio_add_le (n := n) (es := es) Q a b t
  omega
end Go.Proofs.YtmeeimfjibcncaaDoor
