/- The order of tasks, and who is on a circle: mathematics. -/
import Derived.Test.YtpbncoaonminoaaDoorRfM
namespace Go.Proofs.YtpbncoaonminoaaDoor.M
set_option linter.unusedVariables false
set_option linter.unusedSimpArgs false

theorem mem_outs {es : List E} {a b : Nat} : b ∈ outs es (a : Int) ↔ (a, b) ∈ es := by
  unfold outs
  rw [List.mem_map]
  constructor
  · rintro ⟨⟨x, y⟩, h, rfl⟩
    rw [List.mem_filter] at h
    have : x = a := by have := of_decide_eq_true h.2; simp at this; omega
    subst this
    exact h.1
  · intro h
    exact ⟨(a, b), List.mem_filter.2 ⟨h, by simp⟩, rfl⟩
theorem mem_ins {es : List E} {a b : Nat} : a ∈ ins es (b : Int) ↔ (a, b) ∈ es := by
  unfold ins
  rw [List.mem_map]
  constructor
  · rintro ⟨⟨x, y⟩, h, rfl⟩
    rw [List.mem_filter] at h
    have : y = b := by have := of_decide_eq_true h.2; simp at this; omega
    subst this
    exact h.1
  · intro h
    exact ⟨(a, b), List.mem_filter.2 ⟨h, by simp⟩, rfl⟩

def onB (es : List E) (t : Nat) : Bool := (outs es (t : Int)).any (fun x => rB es x t)
/-- Who is on a circle. -/
def onL (es : List E) (n : Nat) : List Nat := (List.range' 0 n).filter (onB es)
theorem onB_iff {es : List E} {t : Nat} : onB es t = true ↔ ∃ x, (t, x) ∈ es ∧ Rch es x t := by
  unfold onB
  rw [List.any_eq_true]
  constructor
  · rintro ⟨x, h1, h2⟩
    exact ⟨x, mem_outs.1 h1, (rB_iff _ _ _).1 h2⟩
  · rintro ⟨x, h1, h2⟩
    exact ⟨x, mem_outs.2 h1, (rB_iff _ _ _).2 h2⟩
theorem onL_mem {es : List E} {n t : Nat} : t ∈ onL es n ↔ t < n ∧ onB es t = true := by
  unfold onL
  rw [List.mem_filter, List.mem_range'_1]
  exact ⟨fun h => ⟨by omega, h.2⟩, fun h => ⟨by omega, h.2⟩⟩
theorem onL_len (es : List E) (n : Nat) : (onL es n).length ≤ n := by
  unfold onL
  refine Nat.le_trans (List.length_filter_le _ _) (by simp)
theorem onL_take (es : List E) (k : Nat) : onL es (k + 1) = if onB es k = true then onL es k ++ [k] else onL es k := by
  unfold onL
  rw [show List.range' 0 (k + 1) = List.range' 0 k ++ [k] by rw [List.range'_concat]; simp, List.filter_append]
  by_cases h : onB es k = true
  · simp [h]
  · simp [h]

/-- How many edges of a task are to tasks that do not stand yet; -1: it stands. -/
def opF (es : List E) (S : List Nat) (t : Nat) : Int := if t ∈ S then -1 else (((outs es (t : Int)).countP (fun x => !decide (x ∈ S)) : Nat) : Int)
def nextP (es : List E) (S : List Nat) (t : Nat) : Bool := !decide (t ∈ S) && (outs es (t : Int)).all (fun x => decide (x ∈ S))
theorem nextP_iff {es : List E} {S : List Nat} {t : Nat} : nextP es S t = true ↔ t ∉ S ∧ ∀ x, (t, x) ∈ es → x ∈ S := by
  unfold nextP
  rw [Bool.and_eq_true, List.all_eq_true]
  constructor
  · rintro ⟨h1, h2⟩
    exact ⟨by simpa using h1, fun x hx => of_decide_eq_true (h2 x (mem_outs.2 hx))⟩
  · rintro ⟨h1, h2⟩
    exact ⟨by simpa using h1, fun x hx => decide_eq_true (h2 x (mem_outs.1 hx))⟩
theorem opF_zero (es : List E) (S : List Nat) (t : Nat) : opF es S t = 0 ↔ nextP es S t = true := by
  rw [nextP_iff]
  unfold opF
  by_cases h : t ∈ S
  · rw [if_pos h]
    constructor
    · intro e; omega
    · intro e; exact absurd h e.1
  · rw [if_neg h]
    constructor
    · intro e
      have e2 : (outs es (t : Int)).countP (fun x => !decide (x ∈ S)) = 0 := by omega
      rw [List.countP_eq_zero] at e2
      exact ⟨h, fun x hx => by simpa using e2 x (mem_outs.2 hx)⟩
    · rintro ⟨_, e⟩
      have e2 : (outs es (t : Int)).countP (fun x => !decide (x ∈ S)) = 0 := by
        rw [List.countP_eq_zero]
        intro x hx
        simpa using e x (mem_outs.1 hx)
      omega
theorem opF_nil (es : List E) (t : Nat) : opF es [] t = (((outs es (t : Int)).length : Nat) : Int) := by
  unfold opF
  simp
theorem opF_bound (es : List E) (S : List Nat) (t : Nat) : -1 ≤ opF es S t ∧ opF es S t ≤ es.length := by
  unfold opF
  split
  · omega
  · have h1 := List.countP_le_length (p := fun x => !decide (x ∈ S)) (l := outs es (t : Int))
    have h2 : (outs es (t : Int)).length ≤ es.length := by unfold outs; simp; exact List.length_filter_le _ _
    omega
theorem ins_count (es : List E) (t k : Nat) : (ins es (k : Int)).count t = es.count (t, k) := by
  induction es with
  | nil => rfl
  | cons e r ih =>
    obtain ⟨x, y⟩ := e
    unfold ins at *
    rw [List.filter_cons]
    by_cases hy : y = k
    · subst hy
      simp only [decide_true, if_true, List.map_cons]
      rw [List.count_cons, List.count_cons, ih]
      by_cases hx : x = t
      · subst hx; simp
      · have : ((x, y) == (t, y)) = false := by simp [hx]
        simp [hx, this]
    · have h1 : decide (((x, y).2 : Int) = (k : Int)) = false := by simp; omega
      rw [h1]
      rw [List.count_cons]
      have : ((x, y) == (t, k)) = false := by simp [hy]
      simp [this]
      exact ih
theorem outs_countP (es : List E) (S : List Nat) (t k : Nat) (hk : k ∉ S) : (outs es (t : Int)).countP (fun x => !decide (x ∈ S)) = (outs es (t : Int)).countP (fun x => !decide (x ∈ S ++ [k])) + es.count (t, k) := by
  induction es with
  | nil => rfl
  | cons e r ih =>
    obtain ⟨x, y⟩ := e
    unfold outs at *
    rw [List.filter_cons, List.count_cons]
    by_cases hx : x = t
    · subst hx
      simp only [decide_true, if_true, List.map_cons]
      rw [List.countP_cons, List.countP_cons, ih]
      by_cases hy : y = k
      · subst hy
        simp [hk]
        omega
      · have : ((x, y) == (x, k)) = false := by simp [hy]
        rw [this]
        simp [hy]
        split <;> omega
    · have h1 : decide (((x, y).1 : Int) = (t : Int)) = false := by simp; omega
      rw [h1]
      have : ((x, y) == (t, k)) = false := by simp [hx]
      simp only [this, Bool.false_eq_true, if_false, Nat.add_zero]
      exact ih
/-- What stands stands behind all that it has an edge to. -/
def Topo (es : List E) (S : List Nat) : Prop := ∀ pre t post, S = pre ++ t :: post → ∀ x, (t, x) ∈ es → x ∈ pre
theorem Topo.cl {es : List E} {S : List Nat} (h : Topo es S) {t : Nat} (ht : t ∈ S) {x : Nat} (hx : (t, x) ∈ es) : x ∈ S := by
  obtain ⟨pre, post, rfl⟩ := List.append_of_mem ht
  exact List.mem_append_left _ (h pre t post rfl x hx)
theorem Topo.nil (es : List E) : Topo es [] := by
  intro pre t post h
  simp at h
theorem Topo.snoc {es : List E} {S : List Nat} {k : Nat} (h : Topo es S) (hk : nextP es S k = true) : Topo es (S ++ [k]) := by
  intro pre t post he x hx
  rcases List.eq_nil_or_concat post with rfl | ⟨post', z, rfl⟩
  · have e := List.append_inj' he rfl
    obtain ⟨e1, e2⟩ := e
    have : k = t := by simpa using e2
    subst this e1
    exact (nextP_iff.1 hk).2 x hx
  · have he' : S ++ [k] = (pre ++ t :: post') ++ [z] := by rw [he]; simp
    have e := List.append_inj' he' rfl
    exact h pre t post' e.1 x hx
theorem opF_step {es : List E} {S : List Nat} {k : Nat} (h : Topo es S) (hk : nextP es S k = true) (t : Nat) :
    (if t = k then -1 else opF es S t) - (((ins es (k : Int)).count t : Nat) : Int) = opF es (S ++ [k]) t := by
  obtain ⟨hk1, hk2⟩ := nextP_iff.1 hk
  rw [ins_count]
  by_cases htk : t = k
  · subst htk
    have : es.count (t, t) = 0 := List.count_eq_zero.2 (fun hm => hk1 (hk2 t hm))
    rw [if_pos rfl, this]
    unfold opF
    simp
  · rw [if_neg htk]
    by_cases hS : t ∈ S
    · have : es.count (t, k) = 0 := List.count_eq_zero.2 (fun hm => hk1 (h.cl hS hm))
      rw [this]
      unfold opF
      simp [hS]
    · have h1 := outs_countP es S t k hk1
      unfold opF
      rw [if_neg hS, if_neg (by simp [hS, htk])]
      omega

def nextO (es : List E) (n : Nat) (S : List Nat) : Option Nat := (List.range n).find? (nextP es S)
def ordL (es : List E) (n : Nat) : Nat → List Nat → List Nat
  | 0, S => S
  | f + 1, S => match nextO es n S with
    | none => S
    | some t => ordL es n f (S ++ [t])
def ordS (es : List E) (n : Nat) : List Nat := ordL es n n []
theorem find_range (p : Nat → Bool) (n k : Nat) (h1 : k < n) (h2 : p k = true) (h3 : ∀ i, i < k → p i = false) : (List.range n).find? p = some k := by
  rw [List.find?_range_eq_some]
  exact ⟨h2, by simpa using h1, fun j hj => by simp [h3 j hj]⟩
theorem find_range_none (p : Nat → Bool) (n : Nat) (h : ∀ i, i < n → p i = false) : (List.range n).find? p = none := by
  rw [List.find?_eq_none]
  intro x hx
  rw [h x (by simpa using hx)]
  simp
/-- The loop of Order. -/
structure OI (es : List E) (n : Nat) (S : List Nat) : Prop where
  lt : ∀ t ∈ S, t < n
  nd : S.Nodup
  topo : Topo es S
  go : ordL es n (n - S.length) S = ordS es n
theorem nodup_len {n : Nat} {S : List Nat} (hlt : ∀ t ∈ S, t < n) (hnd : S.Nodup) : S.length ≤ n := by
  induction n generalizing S with
  | zero =>
    cases S with
    | nil => simp
    | cons x r => have := hlt x (by simp); omega
  | succ n ih =>
    have h := ih (S := S.erase n) (fun t ht => by
      have := (hnd.mem_erase_iff).1 ht
      have := hlt t this.2
      omega) (hnd.erase n)
    rw [List.length_erase] at h
    split at h <;> omega
theorem OI.len {es : List E} {n : Nat} {S : List Nat} (h : OI es n S) : S.length ≤ n := nodup_len h.lt h.nd
theorem OI.start (es : List E) (n : Nat) : OI es n [] := ⟨by simp, by simp, Topo.nil es, rfl⟩
theorem OI.snoc {es : List E} {n : Nat} {S : List Nat} (h : OI es n S) {k : Nat} (hk : k < n) (h2 : nextP es S k = true) (h3 : ∀ i, i < k → nextP es S i = false) : OI es n (S ++ [k]) := by
  have hn1 := (nextP_iff.1 h2).1
  have hlt : ∀ t ∈ S ++ [k], t < n := fun t ht => by
    rcases List.mem_append.1 ht with q | q
    · exact h.lt t q
    · simp at q; omega
  have hnd : (S ++ [k]).Nodup := by
    rw [List.nodup_append]
    refine ⟨h.nd, by simp, fun x hx y hy e => ?_⟩
    simp at hy
    subst hy e
    exact hn1 hx
  refine ⟨hlt, hnd, h.topo.snoc h2, ?_⟩
  have hl := nodup_len hlt hnd
  rw [← h.go]
  simp at hl ⊢
  obtain ⟨f, hf⟩ : ∃ f, n - S.length = f + 1 := ⟨n - S.length - 1, by omega⟩
  rw [hf]
  show _ = (match nextO es n S with | none => S | some t => ordL es n f (S ++ [t]))
  rw [show nextO es n S = some k from find_range _ n k hk h2 h3]
  show _ = ordL es n f (S ++ [k])
  congr 1
  omega
theorem OI.fin {es : List E} {n : Nat} {S : List Nat} (h : OI es n S) (h3 : ∀ i, i < n → nextP es S i = false) : S = ordS es n := by
  rw [← h.go]
  cases n - S.length with
  | zero => rfl
  | succ f =>
    show S = (match nextO es n S with | none => S | some t => ordL es n f (S ++ [t]))
    rw [show nextO es n S = none from find_range_none _ n h3]
end Go.Proofs.YtpbncoaonminoaaDoor.M
