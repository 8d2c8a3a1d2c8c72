/- Graphs as plain mathematics: edges, sets of bits, whom a task reaches. -/
import Derived.Lib.TrailingZeros
namespace Go.Proofs.YtipkgoghodkbfaaDoor.M
set_option linter.unusedVariables false
set_option linter.unusedSimpArgs false

abbrev E := Nat × Nat
def outs (es : List E) (a : Int) : List Nat := (es.filter (fun e => decide ((e.1 : Int) = a))).map (·.2)
def ins (es : List E) (b : Int) : List Nat := (es.filter (fun e => decide ((e.2 : Int) = b))).map (·.1)

/-- The set of those whom a has an edge to. -/
def mask : List E → Nat → Nat
  | [], _ => 0
  | (x, y) :: r, a => if x = a then 2 ^ y ||| mask r a else mask r a

theorem mask_bit (es : List E) (a b : Nat) : (mask es a).testBit b = decide ((a, b) ∈ es) := by
  induction es with
  | nil => simp [mask]
  | cons e r ih =>
    obtain ⟨x, y⟩ := e
    unfold mask
    by_cases h : x = a
    · subst h
      rw [if_pos rfl, Nat.testBit_or, Nat.testBit_two_pow, ih]
      by_cases hb : b = y
      · subst hb; simp
      · have : ¬ y = b := fun h => hb h.symm
        simp [hb, this]
    · rw [if_neg h, ih]
      have : ¬ a = x := fun e => h e.symm
      simp [this]

theorem mask_snoc (es : List E) (x y a : Nat) : mask (es ++ [(x, y)]) a = if x = a then mask es a ||| 2 ^ y else mask es a := by
  apply Nat.eq_of_testBit_eq
  intro b
  rw [mask_bit]
  by_cases h : x = a
  · subst h
    rw [if_pos rfl, Nat.testBit_or, mask_bit, Nat.testBit_two_pow]
    by_cases hb : b = y
    · subst hb; simp
    · have : ¬ y = b := fun h => hb h.symm
      simp [hb, this]
  · rw [if_neg h, mask_bit]
    have : ¬ a = x := fun e => h e.symm
    simp [this]

theorem mask_lt (es : List E) (a : Nat) (h : ∀ e ∈ es, e.2 < 64) : mask es a < 18446744073709551616 := by
  induction es with
  | nil => simp [mask]
  | cons e r ih =>
    obtain ⟨x, y⟩ := e
    have hr := ih (fun e he => h e (by simp [he]))
    unfold mask
    split
    · have hy : y < 64 := h (x, y) (by simp)
      exact Nat.or_lt_two_pow (n := 64) (Nat.pow_lt_pow_right (by omega) hy) hr
    · exact hr

theorem mask_nil (a : Nat) : mask [] a = 0 := rfl

/-- Sets of bits out of tests. -/
def bitsOf (p : Nat → Bool) : Nat → Nat
  | 0 => 0
  | k + 1 => bitsOf p k ||| (if p k then 2 ^ k else 0)
theorem bitsOf_bit (p : Nat → Bool) (k b : Nat) : (bitsOf p k).testBit b = (decide (b < k) && p b) := by
  induction k with
  | zero => simp [bitsOf]
  | succ k ih =>
    unfold bitsOf
    rw [Nat.testBit_or, ih]
    by_cases hb : b = k
    · subst hb
      cases h : p b <;> simp [Nat.testBit_two_pow]
    · by_cases hp : p k = true
      · simp only [hp, if_true, Nat.testBit_two_pow]
        have h1 : ¬ k = b := fun e => hb e.symm
        by_cases hl : b < k
        · simp [hl, h1, show b < k + 1 by omega]
        · simp [hl, h1, show ¬ b < k + 1 by omega]
      · simp only [hp]
        by_cases hl : b < k
        · simp [hl, show b < k + 1 by omega]
        · simp [hl, show ¬ b < k + 1 by omega]
theorem bitsOf_lt (p : Nat → Bool) (k : Nat) : bitsOf p k < 2 ^ k := by
  induction k with
  | zero => simp [bitsOf]
  | succ k ih =>
    unfold bitsOf
    refine Nat.or_lt_two_pow (Nat.lt_trans ih (Nat.pow_lt_pow_right (by omega) (by omega))) ?_
    split
    · exact Nat.pow_lt_pow_right (by omega) (by omega)
    · exact Nat.pow_pos (by omega)

theorem bit_lt {s i : Nat} (hs : s < 18446744073709551616) (h : s.testBit i = true) : i < 64 := by
  rcases Nat.lt_or_ge i 64 with h' | h'
  · exact h'
  · have : s < 2 ^ i := Nat.lt_of_lt_of_le hs (Nat.pow_le_pow_right (n := 2) (by omega) h')
    rw [Nat.testBit_lt_two_pow this] at h
    cases h

/-- The least of a set. -/
theorem low_spec (s : Nat) (h0 : s ≠ 0) (hs : s < 18446744073709551616) : ∃ l, Lib.ctz 64 s = l ∧ l < 64 ∧ s.testBit l = true ∧ (∀ i, i < l → s.testBit i = false) ∧ (∀ i, (s &&& (s - 1)).testBit i = (s.testBit i && decide (i ≠ l))) := by
  obtain ⟨m, hm, hl⟩ := Lib.ctzFrom_spec 64 s (by omega) hs
  have hc : Lib.ctz 64 s = Lib.ctzFrom 64 s := by simp [Lib.ctz, h0]
  refine ⟨_, rfl, by rw [hc]; exact hl, ?_⟩
  rw [hc]
  generalize Lib.ctzFrom 64 s = l at *
  have hp : 0 < 2 ^ l := Nat.pow_pos (by omega)
  have e1 : s = 2 ^ l * (2 * m + 1) + 0 := by omega
  have e2 : s - 1 = 2 ^ l * (2 * m) + (2 ^ l - 1) := by rw [hm, Nat.mul_add]; omega
  have b1 : ∀ i, s.testBit i = if i < l then false else (2 * m + 1).testBit (i - l) := by
    intro i
    rw [e1, Nat.testBit_two_pow_mul_add _ hp]
    simp
  have b2 : ∀ i, (s - 1).testBit i = if i < l then true else (2 * m).testBit (i - l) := by
    intro i
    rw [e2, Nat.testBit_two_pow_mul_add _ (by omega)]
    by_cases hi : i < l
    · simp [hi, Nat.testBit_two_pow_sub_one]
    · simp [hi]
  refine ⟨?_, ?_, ?_⟩
  · rw [b1]; simp
  · intro i hi
    rw [b1, if_pos hi]
  · intro i
    rw [Nat.testBit_and, b1, b2]
    by_cases hi : i < l
    · simp [hi]
    · simp only [hi, if_false]
      by_cases he : i = l
      · subst he; simp
      · obtain ⟨j, rfl⟩ : ∃ j, i = l + (j + 1) := ⟨i - l - 1, by omega⟩
        have e3 : l + (j + 1) - l = j + 1 := by omega
        rw [e3, Nat.testBit_succ, Nat.testBit_succ, show (2 * m + 1) / 2 = m by omega, show 2 * m / 2 = m by omega]
        simp

theorem rest_lt (s : Nat) (h0 : s ≠ 0) : s &&& (s - 1) < s := by
  have := Nat.and_le_right (n := s) (m := s - 1)
  omega

/-- The tasks of a set, rising. -/
def rise (s : Nat) : List Nat := (List.range' 0 64).filter (fun i => s.testBit i)
theorem rise_zero : rise 0 = [] := by simp [rise]
theorem rise_step (s l : Nat) (hl : l < 64) (h1 : s.testBit l = true) (h2 : ∀ i, i < l → s.testBit i = false) (r : Nat) (hr : ∀ i, r.testBit i = (s.testBit i && decide (i ≠ l))) : rise s = l :: rise r := by
  unfold rise
  have hsp : List.range' 0 64 = List.range' 0 l ++ l :: List.range' (l + 1) (63 - l) := by
    have a1 : List.range' 0 64 = List.range' 0 (l + (64 - l)) := by congr 1; omega
    rw [a1, ← List.range'_append_1, Nat.zero_add]
    congr 1
    obtain ⟨d, hd⟩ : ∃ d, 64 - l = d + 1 := ⟨63 - l, by omega⟩
    rw [hd, List.range'_succ]
    congr 2
    omega
  rw [hsp, List.filter_append, List.filter_append]
  have e1 : (List.range' 0 l).filter (fun i => s.testBit i) = [] := by
    rw [List.filter_eq_nil_iff]
    intro i hi
    have := List.mem_range'_1.1 hi
    rw [h2 i (by omega)]
    simp
  have e2 : (List.range' 0 l).filter (fun i => r.testBit i) = [] := by
    rw [List.filter_eq_nil_iff]
    intro i hi
    have := List.mem_range'_1.1 hi
    rw [hr, h2 i (by omega)]
    simp
  have e3 : (List.range' (l + 1) (63 - l)).filter (fun i => r.testBit i) = (List.range' (l + 1) (63 - l)).filter (fun i => s.testBit i) := by
    apply List.filter_congr
    intro i hi
    have := List.mem_range'_1.1 hi
    rw [hr]
    have : i ≠ l := by omega
    simp [this]
  rw [e1, e2, List.filter_cons, List.filter_cons, if_pos h1, if_neg (by rw [hr]; simp), e3]
  rfl
theorem rise_mem (s i : Nat) (hs : s < 18446744073709551616) : i ∈ rise s ↔ s.testBit i = true := by
  unfold rise
  rw [List.mem_filter, List.mem_range'_1]
  exact ⟨fun h => h.2, fun h => ⟨⟨by omega, by have := bit_lt hs h; omega⟩, h⟩⟩
theorem rise_len (s : Nat) : (rise s).length ≤ 64 := by
  unfold rise
  refine Nat.le_trans (List.length_filter_le _ _) (by simp)
theorem rise_sorted (s : Nat) : (rise s).Pairwise (· < ·) := by
  unfold rise
  exact (List.pairwise_lt_range' (s := 0) (n := 64)).filter _

/-- So many edges lead from a to b. -/
def hops (es : List E) : Nat → Nat → Nat → Prop
  | 0, a, b => a = b
  | k + 1, a, b => ∃ c, hops es k a c ∧ (c, b) ∈ es
def Rch (es : List E) (a b : Nat) : Prop := ∃ k, hops es k a b
theorem Rch.refl (es : List E) (a : Nat) : Rch es a a := ⟨0, rfl⟩
theorem Rch.tail {es : List E} {a b c : Nat} (h : Rch es a b) (he : (b, c) ∈ es) : Rch es a c := by
  obtain ⟨k, hk⟩ := h
  exact ⟨k + 1, b, hk, he⟩
theorem Rch.closed {es : List E} {a : Nat} (S : Nat → Prop) (h0 : S a) (hS : ∀ x y, S x → (x, y) ∈ es → S y) {b : Nat} (h : Rch es a b) : S b := by
  obtain ⟨k, hk⟩ := h
  induction k generalizing b with
  | zero => have : a = b := hk; subst this; exact h0
  | succ k ih =>
    obtain ⟨c, hc, he⟩ := hk
    exact hS c b (ih hc) he
theorem Rch.trans {es : List E} {a b c : Nat} (h : Rch es a b) (h' : Rch es b c) : Rch es a c :=
  h'.closed (fun x => Rch es a x) h (fun x y hx he => hx.tail he)
theorem Rch.mono {es fs : List E} (hs : ∀ e ∈ es, e ∈ fs) {a b : Nat} (h : Rch es a b) : Rch fs a b :=
  h.closed (fun x => Rch fs a x) (Rch.refl _ _) (fun x y hx he => hx.tail (hs _ he))
theorem Rch.last {es : List E} {a b : Nat} (h : Rch es a b) : b = a ∨ ∃ c, c ≠ b ∧ Rch es a c ∧ (c, b) ∈ es := by
  obtain ⟨k, hk⟩ := h
  induction k generalizing b with
  | zero => exact .inl (show a = b from hk).symm
  | succ k ih =>
    obtain ⟨c, hc, he⟩ := hk
    by_cases hcb : c = b
    · subst hcb; exact ih hc
    · exact .inr ⟨c, hcb, ⟨k, hc⟩, he⟩

def markB (p : Nat → Bool) (j : Nat) : Nat → Bool := fun i => p i || decide (i = j)
def onE (p : Nat → Bool) (e : E) : Nat → Bool := if p e.1 = true then markB p e.2 else p
def pass (es : List E) (p : Nat → Bool) : Nat → Bool := es.foldl onE p
def rounds (es : List E) (p : Nat → Bool) : Nat → Nat → Bool
  | 0 => p
  | k + 1 => pass es (rounds es p k)
theorem pass_take (es : List E) (p : Nat → Bool) (k : Nat) (h : k < es.length) : pass (es.take (k + 1)) p = onE (pass (es.take k) p) es[k] := by
  unfold pass
  rw [List.take_succ_eq_append_getElem h, List.foldl_append]
  rfl
theorem onE_le (p : Nat → Bool) (e : E) (i : Nat) (h : p i = true) : onE p e i = true := by
  unfold onE markB
  split
  · simp [h]
  · exact h
theorem pass_le (es : List E) : ∀ (p : Nat → Bool) (i : Nat), p i = true → pass es p i = true := by
  induction es with
  | nil => intro p i h; exact h
  | cons e r ih => intro p i h; exact ih (onE p e) i (onE_le p e i h)
theorem pass_edge (es : List E) : ∀ (p : Nat → Bool) (e : E), e ∈ es → p e.1 = true → pass es p e.2 = true := by
  induction es with
  | nil => intro p e h; cases h
  | cons d r ih =>
    intro p e h hp
    rcases List.mem_cons.1 h with rfl | h
    · refine pass_le r (onE p e) e.2 ?_
      unfold onE markB
      rw [if_pos hp]
      simp
    · exact ih (onE p d) e h (onE_le p d _ hp)
theorem pass_sound {es fs : List E} (hs : ∀ e ∈ fs, e ∈ es) {a : Nat} : ∀ (p : Nat → Bool), (∀ i, p i = true → Rch es a i) → ∀ i, pass fs p i = true → Rch es a i := by
  induction fs with
  | nil => intro p h i hi; exact h i hi
  | cons d r ih =>
    intro p h i hi
    refine ih (fun e he => hs e (List.mem_cons_of_mem _ he)) (onE p d) ?_ i hi
    intro j hj
    unfold onE markB at hj
    split at hj
    · rename_i hd
      rcases Bool.or_eq_true_iff.1 hj with q | q
      · exact h j q
      · have : j = d.2 := of_decide_eq_true q
        subst this
        exact (h d.1 hd).tail (hs d (List.mem_cons_self))
    · exact h j hj
def Cl (es : List E) (p : Nat → Bool) : Prop := ∀ e ∈ es, p e.1 = true → p e.2 = true
theorem pass_closed (es : List E) : ∀ (p : Nat → Bool), Cl es p → pass es p = p := by
  induction es with
  | nil => intro p h; rfl
  | cons d r ih =>
    intro p h
    have e1 : onE p d = p := by
      unfold onE markB
      split
      · rename_i hd
        funext i
        by_cases hi : i = d.2
        · subst hi
          rw [h d (List.mem_cons_self) hd]; rfl
        · simp [hi]
      · rfl
    show pass r (onE p d) = p
    rw [e1]
    exact ih p (fun e he => h e (List.mem_cons_of_mem _ he))
theorem countP_lt {α : Type} (l : List α) (p q : α → Bool) (h : ∀ i, p i = true → q i = true) (j : α) (hj : j ∈ l) (h1 : p j = false) (h2 : q j = true) : l.countP p < l.countP q := by
  induction l with
  | nil => cases hj
  | cons x r ih =>
    have hle : r.countP p ≤ r.countP q := List.countP_mono_left (fun i _ => h i)
    rw [List.countP_cons, List.countP_cons]
    rcases List.mem_cons.1 hj with rfl | hj
    · rw [h1, h2]
      simp
      omega
    · have := ih hj
      by_cases hx : p x = true
      · rw [hx, h x hx]; omega
      · rw [if_neg hx]; omega
theorem rounds_sound {es : List E} {a : Nat} (p : Nat → Bool) (hp : ∀ i, p i = true → Rch es a i) : ∀ k i, rounds es p k i = true → Rch es a i
  | 0, i, h => hp i h
  | k + 1, i, h => pass_sound (fun _ h => h) (rounds es p k) (rounds_sound p hp k) i h
theorem rounds_le {es : List E} (p : Nat → Bool) (i : Nat) (h : p i = true) : ∀ k, rounds es p k i = true
  | 0 => h
  | k + 1 => pass_le es _ i (rounds_le p i h k)
theorem rounds_end (es : List E) (p : Nat → Bool) : ∀ k, Cl es (rounds es p k) ∨ k ≤ es.countP (fun e => rounds es p k e.2)
  | 0 => .inr (Nat.zero_le _)
  | k + 1 => by
    rcases rounds_end es p k with h | h
    · left
      show Cl es (pass es (rounds es p k))
      rw [pass_closed es _ h]
      exact h
    · by_cases hc : Cl es (rounds es p k)
      · left
        show Cl es (pass es (rounds es p k))
        rw [pass_closed es _ hc]
        exact hc
      · right
        unfold Cl at hc
        have hex : ∃ e, e ∈ es ∧ rounds es p k e.1 = true ∧ rounds es p k e.2 = false := by
          apply Classical.byContradiction
          intro hn
          apply hc
          intro e he h1
          cases h2 : rounds es p k e.2 with
          | true => rfl
          | false => exact absurd ⟨e, he, h1, h2⟩ hn
        obtain ⟨e, he, h1, h2⟩ := hex
        have := countP_lt es (fun e => rounds es p k e.2) (fun e => pass es (rounds es p k) e.2) (fun i hi => pass_le es _ i.2 hi) e he h2 (pass_edge es _ e he h1)
        show k + 1 ≤ es.countP (fun e => pass es (rounds es p k) e.2)
        omega
/-- Whether b is reached from a: as many rounds as there are edges. -/
def rB (es : List E) (a b : Nat) : Bool := rounds es (markB (fun _ => false) a) es.length b
theorem rB_iff (es : List E) (a b : Nat) : rB es a b = true ↔ Rch es a b := by
  unfold rB
  have hp : markB (fun _ => false) a a = true := by simp [markB]
  have hc : Cl es (rounds es (markB (fun _ => false) a) es.length) := by
    rcases rounds_end es (markB (fun _ => false) a) es.length with h | h
    · exact h
    · have hle := List.countP_le_length (p := fun e : E => rounds es (markB (fun _ => false) a) es.length e.2) (l := es)
      have hall := List.countP_eq_length.1 (Nat.le_antisymm hle h)
      intro e he _
      exact hall e he
  constructor
  · refine rounds_sound _ ?_ es.length b
    intro j hj
    have : j = a := by simpa [markB] using hj
    subst this
    exact Rch.refl _ _
  · intro hr
    exact hr.closed (fun x => rounds es (markB (fun _ => false) a) es.length x = true) (rounds_le _ a hp es.length) (fun x y hx he => hc (x, y) he hx)
def rset (es : List E) (a : Nat) : Nat := bitsOf (rB es a) 64
theorem rset_lt (es : List E) (a : Nat) : rset es a < 18446744073709551616 := bitsOf_lt _ 64
theorem rset_bit (es : List E) (a b : Nat) (hb : b < 64) : (rset es a).testBit b = rB es a b := by
  unfold rset
  rw [bitsOf_bit]
  simp [hb]

/-- Whom is gone on from, in the loop of reached. -/
structure RI (es : List E) (a all opn : Nat) : Prop where
  alt : all < 18446744073709551616
  sub : ∀ i, opn.testBit i = true → all.testBit i = true
  a0 : all.testBit a = true
  sound : ∀ i, all.testBit i = true → Rch es a i
  done : ∀ i, all.testBit i = true → opn.testBit i = false → ∀ j, (i, j) ∈ es → all.testBit j = true

def dn (all opn : Nat) : Nat := bitsOf (fun i => all.testBit i && !opn.testBit i) 64
theorem dn_lt (all opn : Nat) : dn all opn < 18446744073709551616 := bitsOf_lt _ 64
theorem dn_bit (all opn i : Nat) : (dn all opn).testBit i = (decide (i < 64) && (all.testBit i && !opn.testBit i)) := bitsOf_bit _ _ _

theorem RI.opn_lt {es : List E} {a all opn : Nat} (h : RI es a all opn) : opn < 18446744073709551616 := by
  refine Nat.lt_of_not_le fun hle => ?_
  obtain ⟨i, hi, hb⟩ := Nat.exists_ge_and_testBit_of_ge_two_pow (n := 64) (x := opn) hle
  have := bit_lt h.alt (h.sub i hb)
  omega

theorem RI.start (es : List E) (a : Nat) (ha : a < 64) : RI es a (2 ^ a) (2 ^ a) := by
  refine ⟨(Nat.pow_lt_pow_right (a := 2) (by omega) ha : 2 ^ a < 2 ^ 64), fun i h => h, by simp, fun i h => ?_, fun i h1 h2 => by rw [h1] at h2; cases h2⟩
  rw [Nat.testBit_two_pow] at h
  have : a = i := by simpa using h
  subst this
  exact Rch.refl _ _

/-- One round of the loop. -/
theorem RI.round {es : List E} {a all opn l met r : Nat} (h : RI es a all opn) (hes : ∀ e ∈ es, e.2 < 64) (hl : l < 64) (h1 : opn.testBit l = true) (hr : ∀ i, r.testBit i = (opn.testBit i && decide (i ≠ l)))
    (hm : ∀ i, met.testBit i = ((mask es l).testBit i && !all.testBit i)) : RI es a (all ||| met) (r ||| met) ∧ 18446744073709551616 - dn (all ||| met) (r ||| met) < 18446744073709551616 - dn all opn := by
  have hb : ∀ i, (all ||| met).testBit i = (all.testBit i || (mask es l).testBit i) := by
    intro i
    rw [Nat.testBit_or, hm]
    cases all.testBit i <;> simp
  have ho : ∀ i, (r ||| met).testBit i = ((opn.testBit i && decide (i ≠ l)) || ((mask es l).testBit i && !all.testBit i)) := by
    intro i
    rw [Nat.testBit_or, hm, hr]
  have hal := h.sub l h1
  constructor
  · refine ⟨?_, ?_, ?_, ?_, ?_⟩
    · refine Nat.lt_of_not_le fun hle => ?_
      obtain ⟨i, hi, hbi⟩ := Nat.exists_ge_and_testBit_of_ge_two_pow (n := 64) (x := all ||| met) hle
      rw [hb] at hbi
      rcases Bool.or_eq_true_iff.1 hbi with q | q
      · have := bit_lt h.alt q; omega
      · rw [mask_bit] at q
        have := hes _ (of_decide_eq_true q)
        simp at this
        omega
    · intro i hi
      rw [ho] at hi
      rw [hb]
      rcases Bool.or_eq_true_iff.1 hi with q | q
      · rw [h.sub i (Bool.and_eq_true_iff.1 q).1]; rfl
      · rw [(Bool.and_eq_true_iff.1 q).1]; simp
    · rw [hb, h.a0]; rfl
    · intro i hi
      rw [hb] at hi
      rcases Bool.or_eq_true_iff.1 hi with q | q
      · exact h.sound i q
      · rw [mask_bit] at q
        exact (h.sound l hal).tail (of_decide_eq_true q)
    · intro i hi hn j hj
      rw [hb] at hi ⊢
      rw [ho] at hn
      obtain ⟨n1, n2⟩ := Bool.or_eq_false_iff.1 hn
      by_cases hil : i = l
      · subst hil
        rw [mask_bit, decide_eq_true hj]; simp
      · have n1' : opn.testBit i = false := by simpa [hil] using n1
        have hai : all.testBit i = true := by
          rcases Bool.or_eq_true_iff.1 hi with q | q
          · exact q
          · rw [q] at n2
            simpa using n2
        rw [h.done i hai n1' j hj]; rfl
  · have e : dn (all ||| met) (r ||| met) = dn all opn ||| 2 ^ l := by
      apply Nat.eq_of_testBit_eq
      intro i
      rw [Nat.testBit_or, dn_bit, dn_bit, Nat.testBit_two_pow, hb, ho]
      by_cases hil : i = l
      · subst hil
        simp [hl, hal]
      · have : ¬ l = i := fun e => hil e.symm
        simp only [hil, this]
        cases ha : all.testBit i <;> cases hm' : (mask es l).testBit i <;> cases hop : opn.testBit i <;> simp [hil]
    have h2 : dn all opn ≤ dn all opn ||| 2 ^ l := Nat.left_le_or
    have h3 : dn all opn ≠ dn all opn ||| 2 ^ l := by
      intro he
      have : (dn all opn).testBit l = (dn all opn ||| 2 ^ l).testBit l := by rw [← he]
      rw [Nat.testBit_or, dn_bit, Nat.testBit_two_pow, h1] at this
      simp at this
    have h4 := dn_lt (all ||| met) (r ||| met)
    rw [e] at h4 ⊢
    omega

theorem RI.fin {es : List E} {a all : Nat} (h : RI es a all 0) : all = rset es a := by
  apply Nat.eq_of_testBit_eq
  intro i
  by_cases hi : i < 64
  · rw [rset_bit _ _ _ hi, Bool.eq_iff_iff, rB_iff]
    refine ⟨h.sound i, fun hr => ?_⟩
    exact hr.closed (fun x => all.testBit x = true) h.a0 (fun x y hx he => h.done x hx (by simp) y he)
  · have e1 : all.testBit i = false := by
      cases hb : all.testBit i with
      | false => rfl
      | true => exact absurd (bit_lt h.alt hb) hi
    rw [e1]
    unfold rset
    rw [bitsOf_bit]
    simp [hi]
end Go.Proofs.YtipkgoghodkbfaaDoor.M
