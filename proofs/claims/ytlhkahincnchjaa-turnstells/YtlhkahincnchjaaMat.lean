/- Turns as mathematics: members by their place, whose turn it is, and how it goes on until somebody takes. -/
namespace Go.Proofs.Ytlhkahincnchjaa.M
set_option linter.unusedVariables false
set_option linter.unusedSimpArgs false

/-- Turns: quantum, how many members, whose turn; ids, weights, credits by place. -/
structure Tn where
  q : Int
  n : Nat
  k : Nat
  I : Nat → Int
  W : Nat → Int
  C : Nat → Int

def upd (f : Nat → Int) (k : Nat) (v : Int) : Nat → Int := fun j => if j = k then v else f j
theorem upd_same (f : Nat → Int) (k : Nat) (v : Int) : upd f k v k = v := by simp [upd]
theorem upd_other (f : Nat → Int) {k j : Nat} (v : Int) (h : j ≠ k) : upd f k v j = f j := by simp [upd, h]

abbrev Wn := Int × Int
/-- What an id wants: of the first want that counts. -/
def costOf : List Wn → Int → Int
  | [], _ => 0
  | p :: l, id => if p.1 = id ∧ 1 ≤ p.2 ∧ p.2 ≤ 1048576 then p.2 else costOf l id
theorem costOf_bnd (l : List Wn) (id : Int) : 0 ≤ costOf l id ∧ costOf l id ≤ 1048576 := by
  induction l with
  | nil => simp [costOf]
  | cons p l ih =>
    unfold costOf
    split
    · omega
    · exact ih
theorem costOf_cons (p : Wn) (l : List Wn) (id : Int) : costOf (p :: l) id = if p.1 = id ∧ 1 ≤ p.2 ∧ p.2 ≤ 1048576 then p.2 else costOf l id := rfl
theorem costOf_app (l m : List Wn) (id : Int) : costOf (l ++ m) id = if costOf l id = 0 then costOf m id else costOf l id := by
  induction l with
  | nil => simp [costOf]
  | cons p l ih =>
    rw [List.cons_append, costOf_cons, costOf_cons]
    by_cases h : p.1 = id ∧ 1 ≤ p.2 ∧ p.2 ≤ 1048576
    · rw [if_pos h, if_pos h, if_neg (by omega)]
    · rw [if_neg h, if_neg h, ih]
theorem costOf_max {l : List Wn} {M : Int} (hM : 0 ≤ M) (h : ∀ p ∈ l, 1 ≤ p.2 → p.2 ≤ 1048576 → p.2 ≤ M) (id : Int) : costOf l id ≤ M := by
  induction l with
  | nil => simpa [costOf] using hM
  | cons p l ih =>
    unfold costOf
    split
    · rename_i q
      exact h p (List.mem_cons_self ..) q.2.1 q.2.2
    · exact ih (fun r hr => h r (List.mem_cons_of_mem _ hr))
def costs (l : List Wn) (x : Tn) : Nat → Int := fun j => costOf l (x.I j)

/-- One asks, does not take, and it is the next one's turn. -/
def nxt (cs : Nat → Int) (x : Tn) : Tn :=
  { x with
    k := (x.k + 1) % x.n
    C := if cs ((x.k + 1) % x.n) = 0 then (if cs x.k = 0 then upd x.C x.k 0 else x.C)
      else upd (if cs x.k = 0 then upd x.C x.k 0 else x.C) ((x.k + 1) % x.n) ((if cs x.k = 0 then upd x.C x.k 0 else x.C) ((x.k + 1) % x.n) + x.q * x.W ((x.k + 1) % x.n)) }
/-- Whose turn it is takes. -/
def Stop (cs : Nat → Int) (x : Tn) : Prop := cs x.k ≠ 0 ∧ cs x.k ≤ x.C x.k
def go (cs : Nat → Int) : Nat → Tn → Tn
  | 0, x => x
  | m + 1, x => nxt cs (go cs m x)
theorem go_add (cs : Nat → Int) (x : Tn) (a b : Nat) : go cs (a + b) x = go cs b (go cs a x) := by
  induction b with
  | zero => rfl
  | succ b ih => rw [← Nat.add_assoc]; simp only [go, ih]
/-- The turn comes from x to y, and nobody took on the way. -/
def Way (cs : Nat → Int) (x y : Tn) : Prop := ∃ m, go cs m x = y ∧ ∀ j, j < m → ¬ Stop cs (go cs j x)
theorem Way.refl (cs : Nat → Int) (x : Tn) : Way cs x x := ⟨0, rfl, fun j h => absurd h (Nat.not_lt_zero _)⟩
theorem Way.step {cs : Nat → Int} {x y : Tn} (h : Way cs x y) (hs : ¬ Stop cs y) : Way cs x (nxt cs y) := by
  obtain ⟨m, rfl, hm⟩ := h
  refine ⟨m + 1, rfl, fun j hj => ?_⟩
  by_cases e : j = m
  · subst e; exact hs
  · exact hm j (by omega)
theorem Way.trans {cs : Nat → Int} {x y z : Tn} (h : Way cs x y) (h2 : Way cs y z) : Way cs x z := by
  obtain ⟨m, rfl, hm⟩ := h
  obtain ⟨k, rfl, hk⟩ := h2
  refine ⟨m + k, go_add .., fun j hj => ?_⟩
  by_cases e : j < m
  · exact hm j e
  · obtain ⟨i, rfl⟩ : ∃ i, j = m + i := ⟨j - m, by omega⟩
    rw [go_add]
    exact hk i (by omega)
theorem Way.uniq {cs : Nat → Int} {x y z : Tn} (h : Way cs x y) (hy : Stop cs y) (h2 : Way cs x z) (hz : Stop cs z) : y = z := by
  obtain ⟨m, rfl, hm⟩ := h
  obtain ⟨k, rfl, hk⟩ := h2
  rcases Nat.lt_trichotomy m k with e | e | e
  · exact absurd hy (hk m e)
  · rw [e]
  · exact absurd hz (hm k e)
/-- What all turns on the way share. -/
structure Same (x y : Tn) : Prop where
  q : y.q = x.q
  n : y.n = x.n
  I : y.I = x.I
  W : y.W = x.W
theorem same_nxt (cs : Nat → Int) (x : Tn) : Same x (nxt cs x) := ⟨rfl, rfl, rfl, rfl⟩
theorem Same.refl (x : Tn) : Same x x := ⟨rfl, rfl, rfl, rfl⟩
theorem Same.trans {x y z : Tn} (a : Same x y) (b : Same y z) : Same x z := ⟨b.q.trans a.q, b.n.trans a.n, b.I.trans a.I, b.W.trans a.W⟩
theorem same_go (cs : Nat → Int) (x : Tn) (m : Nat) : Same x (go cs m x) := by
  induction m with
  | zero => exact Same.refl x
  | succ m ih => exact ih.trans (same_nxt _ _)
theorem Way.same {cs : Nat → Int} {x y : Tn} (h : Way cs x y) : Same x y := by
  obtain ⟨m, rfl, _⟩ := h
  exact same_go cs x m

def pay (cs : Nat → Int) (x : Tn) : Tn := { x with C := upd x.C x.k (x.C x.k - cs x.k) }
theorem same_pay (cs : Nat → Int) (x : Tn) : Same x (pay cs x) := ⟨rfl, rfl, rfl, rfl⟩
def TakeR (cs : Nat → Int) (x y : Tn) : Prop := ∃ z, Way cs x z ∧ Stop cs z ∧ y = pay cs z
theorem TakeR.uniq {cs : Nat → Int} {x y z : Tn} (h : TakeR cs x y) (h2 : TakeR cs x z) : y = z := by
  obtain ⟨a, a1, a2, rfl⟩ := h
  obtain ⟨b, b1, b2, rfl⟩ := h2
  rw [a1.uniq a2 b1 b2]
theorem TakeR.same {cs : Nat → Int} {x y : Tn} (h : TakeR cs x y) : Same x y := by
  obtain ⟨a, a1, a2, rfl⟩ := h
  exact a1.same.trans (same_pay _ _)
/-- What a Take does and answers. -/
def TakeP (l : List Wn) (x y : Tn) (id : Int) (ok : Bool) : Prop :=
  ((∀ j, j < x.n → costs l x j = 0) ∧ y = x ∧ id = 0 ∧ ok = false) ∨ ((∃ j, j < x.n ∧ costs l x j ≠ 0) ∧ TakeR (costs l x) x y ∧ id = y.I y.k ∧ ok = true)
theorem TakeP.uniq {l : List Wn} {x y z : Tn} {a b : Int} {c d : Bool} (h : TakeP l x y a c) (h2 : TakeP l x z b d) : y = z ∧ a = b ∧ c = d := by
  rcases h with ⟨h0, rfl, rfl, rfl⟩ | ⟨⟨j, hj, hc⟩, h1, rfl, rfl⟩
  · rcases h2 with ⟨g0, rfl, rfl, rfl⟩ | ⟨⟨i, hi, hd⟩, g1, rfl, rfl⟩
    · exact ⟨rfl, rfl, rfl⟩
    · exact absurd (h0 i hi) hd
  · rcases h2 with ⟨g0, rfl, rfl, rfl⟩ | ⟨⟨i, hi, hd⟩, g1, rfl, rfl⟩
    · exact absurd (g0 j hj) hc
    · have e := h1.uniq g1
      subst e
      exact ⟨rfl, rfl, rfl⟩

theorem mod_succ {k n : Nat} (h : k < n) : (k + 1) % n = if k + 1 = n then 0 else k + 1 := by
  split
  · rename_i e; rw [e, Nat.mod_self]
  · exact Nat.mod_eq_of_lt (by omega)
theorem mod_lt' {k n : Nat} (h : 0 < n) : (k + 1) % n < n := Nat.mod_lt _ h

theorem gain_bnd {q W : Int} (h1 : 1 ≤ q) (h2 : q ≤ 1048576) (h3 : 1 ≤ W) (h4 : W ≤ 100) : 1 ≤ q * W ∧ q * W ≤ 104857600 := by
  constructor
  · have := Int.mul_le_mul h1 h3 (by omega) (by omega)
    omega
  · have := Int.mul_le_mul h2 h4 (by omega) (by omega)
    omega

/-- What always holds; no credit is as much as M and a gain. -/
structure Inv (M : Int) (x : Tn) : Prop where
  q1 : 1 ≤ x.q
  q2 : x.q ≤ 1048576
  w : ∀ j, j < x.n → 1 ≤ x.W j ∧ x.W j ≤ 100
  c0 : ∀ j, j < x.n → 0 ≤ x.C j
  cM : ∀ j, j < x.n → j ≠ x.k → x.C j < M
  ck : x.k < x.n → x.C x.k < M + x.q * x.W x.k
  kn : 0 < x.n → x.k < x.n
  k0 : x.n = 0 → x.k = 0
theorem Inv.gain {M : Int} {x : Tn} (h : Inv M x) {j : Nat} (hj : j < x.n) : 1 ≤ x.q * x.W j ∧ x.q * x.W j ≤ 104857600 := gain_bnd h.q1 h.q2 (h.w j hj).1 (h.w j hj).2
theorem Inv.lt {M : Int} {x : Tn} (h : Inv M x) {j : Nat} (hj : j < x.n) : x.C j < M + x.q * x.W j := by
  by_cases e : j = x.k
  · subst e; exact h.ck hj
  · have := h.cM j hj e
    have := (h.gain hj).1
    omega
theorem inv_nxt {M : Int} {cs : Nat → Int} {x : Tn} (h : Inv M x) (hn : 0 < x.n) (hM : 1 ≤ M) (hc : ∀ j, j < x.n → cs j ≤ M) (hs : ¬ Stop cs x) : Inv M (nxt cs x) := by
  have hk := h.kn hn
  have hk2 := mod_lt' (k := x.k) hn
  -- behind the asking, before the gain
  have h1 : ∀ j, j < x.n → 0 ≤ (if cs x.k = 0 then upd x.C x.k 0 else x.C) j ∧ (if cs x.k = 0 then upd x.C x.k 0 else x.C) j < M := by
    intro j hj
    by_cases e : cs x.k = 0
    · rw [if_pos e]
      by_cases e2 : j = x.k
      · subst e2; rw [upd_same]; omega
      · rw [upd_other _ _ e2]; exact ⟨h.c0 j hj, h.cM j hj e2⟩
    · rw [if_neg e]
      by_cases e2 : j = x.k
      · subst e2
        have : ¬ cs x.k ≤ x.C x.k := fun q => hs ⟨e, q⟩
        have := hc x.k hk
        exact ⟨h.c0 _ hj, by omega⟩
      · exact ⟨h.c0 j hj, h.cM j hj e2⟩
  refine ⟨h.q1, h.q2, h.w, fun j hj => ?_, fun j hj hne => ?_, fun _ => ?_, fun _ => hk2, fun e => by have : x.n = 0 := e; omega⟩
  · show 0 ≤ (nxt cs x).C j
    have hg := h.gain hj
    have := h1 j hj
    unfold nxt
    simp only
    split
    · exact this.1
    · by_cases e2 : j = (x.k + 1) % x.n
      · subst e2; rw [upd_same]; omega
      · rw [upd_other _ _ e2]; exact this.1
  · have := h1 j hj
    have hne2 : j ≠ (x.k + 1) % x.n := hne
    show (nxt cs x).C j < M
    unfold nxt
    simp only
    split
    · exact this.2
    · rw [upd_other _ _ hne2]; exact this.2
  · have := h1 _ hk2
    have hg := h.gain hk2
    show (nxt cs x).C ((x.k + 1) % x.n) < M + x.q * x.W ((x.k + 1) % x.n)
    unfold nxt
    simp only
    split
    · omega
    · rw [upd_same]; omega
theorem inv_way {M : Int} {cs : Nat → Int} {x y : Tn} (h : Inv M x) (hn : 0 < x.n) (hM : 1 ≤ M) (hc : ∀ j, j < x.n → cs j ≤ M) (hw : Way cs x y) : Inv M y := by
  obtain ⟨m, rfl, hm⟩ := hw
  induction m with
  | zero => exact h
  | succ m ih =>
    have e := (same_go cs x m).n
    exact inv_nxt (ih (fun j hj => hm j (by omega))) (by omega) hM (by rw [e]; exact hc) (hm m (by omega))
theorem inv_pay {M : Int} {cs : Nat → Int} {x : Tn} (h : Inv M x) (h0 : ∀ j, j < x.n → 0 ≤ cs j) (hs : Stop cs x) : Inv M (pay cs x) := by
  refine ⟨h.q1, h.q2, h.w, fun j hj => ?_, fun j hj hne => ?_, fun hk => ?_, h.kn, h.k0⟩
  · show 0 ≤ upd x.C x.k (x.C x.k - cs x.k) j
    by_cases e : j = x.k
    · subst e; rw [upd_same]; have := hs.2; omega
    · rw [upd_other _ _ e]; exact h.c0 j hj
  · have e : j ≠ x.k := hne
    show upd x.C x.k (x.C x.k - cs x.k) j < M
    rw [upd_other _ _ e]; exact h.cM j hj e
  · show upd x.C x.k (x.C x.k - cs x.k) x.k < M + x.q * x.W x.k
    rw [upd_same]
    have := h.ck hk
    have := h0 x.k hk
    omega
theorem inv_take {M : Int} {cs : Nat → Int} {x y : Tn} (h : Inv M x) (hn : 0 < x.n) (hM : 1 ≤ M) (hc : ∀ j, j < x.n → 0 ≤ cs j ∧ cs j ≤ M) (ht : TakeR cs x y) : Inv M y := by
  obtain ⟨z, z1, z2, rfl⟩ := ht
  refine inv_pay (inv_way h hn hM (fun j hj => (hc j hj).2) z1) (fun j hj => ?_) z2
  rw [z1.same.n] at hj
  exact (hc j hj).1
theorem inv_takeP {M : Int} {l : List Wn} {x y : Tn} {id : Int} {ok : Bool} (h : Inv M x) (hM : 1 ≤ M) (hc : ∀ j, j < x.n → costs l x j ≤ M) (ht : TakeP l x y id ok) : Inv M y := by
  rcases ht with ⟨_, rfl, _⟩ | ⟨⟨j, hj, _⟩, h1, _⟩
  · exact h
  · exact inv_take h (by omega) hM (fun j hj => ⟨(costOf_bnd _ _).1, hc j hj⟩) h1
theorem TakeP.same {l : List Wn} {x y : Tn} {id : Int} {ok : Bool} (ht : TakeP l x y id ok) : Same x y := by
  rcases ht with ⟨_, rfl, _⟩ | ⟨_, h1, _⟩
  · exact Same.refl _
  · exact h1.same

/-- How far it still is, for one that wants. -/
def mu (p : Nat) (x : Tn) : Nat := (268435456 - x.C p).toNat * x.n + (if x.k < p then p - 1 - x.k else p + x.n - 1 - x.k)
theorem mu_nxt {M : Int} {cs : Nat → Int} {x : Tn} (h : Inv M x) (hM : M ≤ 1048576) {p : Nat} (hp : p < x.n) (hc : cs p ≠ 0) (hs : ¬ Stop cs x) : mu p (nxt cs x) < mu p x := by
  have hk := h.kn (by omega)
  have hg := h.gain hp
  have hl := h.lt hp
  have h0 := h.c0 p hp
  have e0 : (if cs x.k = 0 then upd x.C x.k 0 else x.C) p = x.C p := by
    split
    · rename_i e
      rw [upd_other _ _ (fun q => hc (by rw [q]; exact e))]
    · rfl
  have em := mod_succ hk
  unfold mu
  show (268435456 - (nxt cs x).C p).toNat * x.n + (if (x.k + 1) % x.n < p then p - 1 - (x.k + 1) % x.n else p + x.n - 1 - (x.k + 1) % x.n) < _
  by_cases hpk : (x.k + 1) % x.n = p
  · have e1 : (nxt cs x).C p = x.C p + x.q * x.W p := by
      unfold nxt
      simp only
      rw [hpk, if_neg hc, upd_same, e0]
    rw [e1, hpk, if_neg (by omega)]
    have e2 : (if x.k < p then p - 1 - x.k else p + x.n - 1 - x.k) = 0 := by
      rw [hpk] at em
      by_cases hh : x.k + 1 = x.n
      · rw [if_pos hh] at em
        split <;> omega
      · rw [if_neg hh] at em
        split <;> omega
    rw [e2]
    have e3 : (268435456 - (x.C p + x.q * x.W p)).toNat + 1 ≤ (268435456 - x.C p).toNat := by omega
    have := Nat.mul_le_mul_right x.n e3
    rw [Nat.add_mul] at this
    omega
  · have e1 : (nxt cs x).C p = x.C p := by
      unfold nxt
      simp only
      split
      · exact e0
      · rw [upd_other _ _ (fun q => hpk q.symm), e0]
    rw [e1]
    rw [em] at hpk ⊢
    have : (if (if x.k + 1 = x.n then 0 else x.k + 1) < p then p - 1 - (if x.k + 1 = x.n then 0 else x.k + 1) else p + x.n - 1 - (if x.k + 1 = x.n then 0 else x.k + 1)) < (if x.k < p then p - 1 - x.k else p + x.n - 1 - x.k) := by
      by_cases hh : x.k + 1 = x.n
      · rw [if_pos hh] at hpk ⊢
        split <;> split <;> omega
      · rw [if_neg hh] at hpk ⊢
        split <;> split <;> omega
    omega

/-- Whole rounds in which nobody takes. -/
def passed (r : Int) (cs : Nat → Int) (x : Tn) : Tn := { x with C := fun j => if j < x.n then (if cs j = 0 then 0 else x.C j + r * (x.q * x.W j)) else x.C j }
def Idle (r : Int) (cs : Nat → Int) (x : Tn) : Prop := 0 ≤ r ∧ r ≤ 1048576 ∧ ∀ j, j < x.n → cs j ≠ 0 → r * (x.q * x.W j) < max (cs j - x.C j) 1
/-- How far a place is from whose turn it is. -/
def dst (x : Tn) (j : Nat) : Nat := if x.k ≤ j then j - x.k else j + x.n - x.k
theorem dst_lt {x : Tn} (hk : x.k < x.n) {j : Nat} (hj : j < x.n) : dst x j < x.n ∧ (dst x j = 0 ↔ j = x.k) := by
  unfold dst
  by_cases h : x.k ≤ j
  · rw [if_pos h]; omega
  · rw [if_neg h]; omega
def mid (m : Nat) (cs : Nat → Int) (x : Tn) : Tn :=
  { x with
    k := if x.k + m < x.n then x.k + m else x.k + m - x.n
    C := fun j => if j < x.n then (if cs j = 0 then (if dst x j < m then 0 else x.C j)
      else (if (1 ≤ dst x j ∧ dst x j ≤ m) ∨ (j = x.k ∧ x.n ≤ m) then x.C j + x.q * x.W j else x.C j)) else x.C j }
theorem tn_ext {x y : Tn} (hs : Same x y) (hk : y.k = x.k) (hC : ∀ j, y.C j = x.C j) : y = x := by
  obtain ⟨h1, h2, h3, h4⟩ := hs
  cases x; cases y
  simp only at h1 h2 h3 h4 hk hC
  subst h1 h2 h3 h4 hk
  congr 1
  funext j
  exact hC j
theorem mid_C (m : Nat) (cs : Nat → Int) (x : Tn) (i : Nat) : (mid m cs x).C i = if i < x.n then (if cs i = 0 then (if dst x i < m then 0 else x.C i) else (if (1 ≤ dst x i ∧ dst x i ≤ m) ∨ (i = x.k ∧ x.n ≤ m) then x.C i + x.q * x.W i else x.C i)) else x.C i := rfl
theorem mid_zero (cs : Nat → Int) {x : Tn} (hk : x.k < x.n) : mid 0 cs x = x := by
  refine tn_ext ⟨rfl, rfl, rfl, rfl⟩ (if_pos hk) (fun j => ?_)
  rw [mid_C]
  by_cases hj : j < x.n
  · have h1 : ¬ dst x j < 0 := Nat.not_lt_zero _
    have h2 : ¬ ((1 ≤ dst x j ∧ dst x j ≤ 0) ∨ (j = x.k ∧ x.n ≤ 0)) := by omega
    simp only [hj, h1, h2, if_false, ite_self]
  · simp only [hj, if_false]
theorem mid_succ {cs : Nat → Int} {x : Tn} (hk : x.k < x.n) {m : Nat} (hm : m < x.n) : nxt cs (mid m cs x) = mid (m + 1) cs x := by
  have e1 : (mid m cs x).k = if x.k + m < x.n then x.k + m else x.k + m - x.n := rfl
  obtain ⟨a, ha⟩ : ∃ a, (if x.k + m < x.n then x.k + m else x.k + m - x.n) = a := ⟨_, rfl⟩
  have hal : a < x.n := by rw [← ha]; split <;> omega
  obtain ⟨b, hb⟩ : ∃ b, (if x.k + (m + 1) < x.n then x.k + (m + 1) else x.k + (m + 1) - x.n) = b := ⟨_, rfl⟩
  have hbl : b < x.n := by rw [← hb]; split <;> omega
  have hab : (a + 1) % x.n = b := by
    rw [mod_succ hal, ← ha, ← hb]
    by_cases h1 : x.k + m < x.n
    · rw [if_pos h1]
      split <;> split <;> omega
    · rw [if_neg h1]
      split <;> split <;> omega
  obtain ⟨G, hG⟩ : ∃ G, (if cs a = 0 then upd (mid m cs x).C a 0 else (mid m cs x).C) = G := ⟨_, rfl⟩
  have e2 : (nxt cs (mid m cs x)).C = if cs b = 0 then G else upd G b (G b + x.q * x.W b) := by
    unfold nxt
    simp only [e1, ha]
    rw [show (a + 1) % (mid m cs x).n = b from hab]
    simp only [hG]
    rfl
  have hGa : ∀ i, G i = if cs i = 0 ∧ i = a then 0 else (mid m cs x).C i := by
    intro i
    rw [← hG]
    by_cases ca : cs a = 0
    · rw [if_pos ca]
      by_cases ea : i = a
      · rw [ea, upd_same, if_pos ⟨ca, rfl⟩]
      · rw [upd_other _ _ ea, if_neg (fun q => ea q.2)]
    · rw [if_neg ca, if_neg (fun q => ca (by rw [← q.2]; exact q.1))]
  have hF : ∀ i, (nxt cs (mid m cs x)).C i = if cs i ≠ 0 ∧ i = b then G i + x.q * x.W i else G i := by
    intro i
    rw [e2]
    by_cases cb : cs b = 0
    · rw [if_pos cb, if_neg (fun q => q.1 (by rw [q.2]; exact cb))]
    · rw [if_neg cb]
      by_cases eb : i = b
      · rw [eb, upd_same, if_pos ⟨cb, rfl⟩]
      · rw [upd_other _ _ eb, if_neg (fun q => eb q.2)]
  refine tn_ext ⟨rfl, rfl, rfl, rfl⟩ ?_ (fun j => ?_)
  · show ((mid m cs x).k + 1) % x.n = _
    rw [e1, ha, hab]
    exact hb.symm
  · rw [hF, hGa, mid_C, mid_C]
    by_cases hj : j < x.n
    · have d0 := dst_lt hk hj
      have d2 : j = a ↔ dst x j = m := by
        unfold dst
        rw [← ha]
        by_cases h1 : x.k ≤ j
        · rw [if_pos h1]; split <;> omega
        · rw [if_neg h1]; split <;> omega
      have d3 : j = b ↔ (dst x j = m + 1 ∨ (dst x j = 0 ∧ m + 1 = x.n)) := by
        unfold dst
        rw [← hb]
        by_cases h1 : x.k ≤ j
        · rw [if_pos h1]; split <;> omega
        · rw [if_neg h1]; split <;> omega
      obtain ⟨d, hd⟩ : ∃ d, dst x j = d := ⟨_, rfl⟩
      rw [hd] at d0 d2 d3 ⊢
      by_cases hc : cs j = 0
      · simp only [hj, hc, if_true, ne_eq, not_true_eq_false, false_and, if_false, true_and]
        by_cases ea : j = a
        · rw [if_pos ea, if_pos (by omega)]
        · rw [if_neg ea]
          by_cases q : d < m
          · rw [if_pos q, if_pos (by omega)]
          · rw [if_neg q, if_neg (by omega)]
      · simp only [hj, hc, if_true, ne_eq, not_false_eq_true, false_and, if_false, true_and]
        by_cases eb : j = b
        · rw [if_pos eb]
          have := d3.1 eb
          rw [if_neg (by omega), if_pos (by omega)]
        · rw [if_neg eb]
          by_cases g : (1 ≤ d ∧ d ≤ m) ∨ (j = x.k ∧ x.n ≤ m)
          · rw [if_pos g, if_pos (by omega)]
          · rw [if_neg g, if_neg (by omega)]
    · have n1 : ¬ (cs j ≠ 0 ∧ j = b) := fun q => hj (by rw [q.2]; exact hbl)
      have n2 : ¬ (cs j = 0 ∧ j = a) := fun q => hj (by rw [q.2]; exact hal)
      rw [if_neg n1, if_neg n2, if_neg hj, if_neg hj]
theorem go_mid {cs : Nat → Int} {x : Tn} (hk : x.k < x.n) (m : Nat) (hm : m ≤ x.n) : go cs m x = mid m cs x := by
  induction m with
  | zero => exact (mid_zero cs hk).symm
  | succ m ih =>
    show nxt cs (go cs m x) = _
    rw [ih (by omega), mid_succ hk (by omega)]
theorem mid_all {cs : Nat → Int} {x : Tn} (hk : x.k < x.n) : mid x.n cs x = passed 1 cs x := by
  refine Eq.symm (tn_ext (x := mid x.n cs x) (y := passed 1 cs x) ⟨rfl, rfl, rfl, rfl⟩ ?_ (fun j => ?_))
  · show x.k = if x.k + x.n < x.n then x.k + x.n else x.k + x.n - x.n
    rw [if_neg (by omega)]; omega
  · show (if j < x.n then (if cs j = 0 then 0 else x.C j + 1 * (x.q * x.W j)) else x.C j) = if j < x.n then _ else _
    by_cases hj : j < x.n
    · rw [if_pos hj, if_pos hj]
      have hd := dst_lt hk hj
      have h0 : (1 ≤ dst x j ∧ dst x j ≤ x.n) ∨ (j = x.k ∧ x.n ≤ x.n) := by omega
      simp only [hd.1, h0, if_true, Int.one_mul]
    · rw [if_neg hj, if_neg hj]
theorem way_round {M : Int} {cs : Nat → Int} {x : Tn} (h : Inv M x) (hn : 0 < x.n) {r : Int} (hr : 1 ≤ r) (hi : Idle r cs x) : Way cs x (passed 1 cs x) := by
  have hk := h.kn hn
  refine ⟨x.n, by rw [go_mid hk _ (Nat.le_refl _), mid_all hk], fun i hil hs => ?_⟩
  rw [go_mid hk i (by omega)] at hs
  obtain ⟨hs1, hs2⟩ := hs
  obtain ⟨a, ha⟩ : ∃ a, (if x.k + i < x.n then x.k + i else x.k + i - x.n) = a := ⟨_, rfl⟩
  have ek : (mid i cs x).k = a := ha
  have hal : a < x.n := by rw [← ha]; split <;> omega
  rw [ek] at hs1 hs2
  have hg := h.gain hal
  have hid := hi.2.2 a hal hs1
  have hrg : x.q * x.W a ≤ r * (x.q * x.W a) := by
    have := Int.mul_le_mul_of_nonneg_right hr (show 0 ≤ x.q * x.W a by omega)
    omega
  have hC : (mid i cs x).C a ≤ x.C a + x.q * x.W a := by
    show (if a < x.n then _ else _) ≤ _
    rw [if_pos hal, if_neg hs1]
    split <;> omega
  omega
theorem idle_next {M : Int} {cs : Nat → Int} {x : Tn} (h : Inv M x) {r : Int} (hr : 0 ≤ r) (hi : Idle (r + 1) cs x) : Idle r cs (passed 1 cs x) := by
  refine ⟨hr, by have := hi.2.1; omega, fun j hj hc => ?_⟩
  have hj' : j < x.n := hj
  have hg := h.gain hj'
  have hid := hi.2.2 j hj' hc
  have e : (passed 1 cs x).C j = x.C j + x.q * x.W j := by
    show (if j < x.n then _ else _) = _
    rw [if_pos hj', if_neg hc, Int.one_mul]
  show r * (x.q * x.W j) < _
  rw [e]
  rw [Int.add_mul, Int.one_mul] at hid
  have := Int.mul_nonneg hr (show 0 ≤ x.q * x.W j by omega)
  omega
theorem passed_succ (r : Int) (cs : Nat → Int) (x : Tn) : passed r cs (passed 1 cs x) = passed (r + 1) cs x := by
  refine tn_ext ⟨rfl, rfl, rfl, rfl⟩ rfl (fun j => ?_)
  show (if j < x.n then (if cs j = 0 then 0 else (if j < x.n then (if cs j = 0 then 0 else x.C j + 1 * (x.q * x.W j)) else x.C j) + r * (x.q * x.W j)) else (if j < x.n then (if cs j = 0 then 0 else x.C j + 1 * (x.q * x.W j)) else x.C j)) = if j < x.n then (if cs j = 0 then 0 else x.C j + (r + 1) * (x.q * x.W j)) else x.C j
  by_cases hj : j < x.n
  · rw [if_pos hj, if_pos hj, if_pos hj]
    by_cases hc : cs j = 0
    · rw [if_pos hc, if_pos hc]
    · rw [if_neg hc, if_neg hc, if_neg hc, Int.add_mul]; omega
  · rw [if_neg hj, if_neg hj, if_neg hj]
theorem way_passed {M : Int} {cs : Nat → Int} (hM : 1 ≤ M) : ∀ (r : Nat) {x : Tn}, Inv M x → 0 < x.n → (∀ j, j < x.n → cs j ≤ M) → Idle ((r : Int) + 1) cs x → Way cs x (passed ((r : Int) + 1) cs x)
  | 0, x, h, hn, hc, hi => by
    have := way_round h hn (r := 1) (Int.le_refl _) (by simpa using hi)
    simpa using this
  | r + 1, x, h, hn, hc, hi => by
    have h1 := way_round h hn (by omega) hi
    have h2 := inv_way h hn hM hc h1
    have h3 := way_passed hM r h2 hn hc (idle_next h (by omega) (by simpa using hi))
    have e := passed_succ ((r : Int) + 1) cs x
    rw [e] at h3
    have := h1.trans h3
    simpa using this
/-- Idle rounds: as if each had been gone through. -/
theorem way_idle {M : Int} {cs : Nat → Int} {x : Tn} {r : Int} (hM : 1 ≤ M) (h : Inv M x) (hn : 0 < x.n) (hc : ∀ j, j < x.n → cs j ≤ M) (hi : Idle r cs x) : Way cs x (if r = 0 then x else passed r cs x) := by
  by_cases e : r = 0
  · rw [if_pos e]; exact Way.refl _ _
  · rw [if_neg e]
    have h0 := hi.1
    obtain ⟨m, rfl⟩ : ∃ m : Nat, r = (m : Int) + 1 := ⟨(r - 1).toNat, by omega⟩
    exact way_passed hM m h hn hc hi
end Go.Proofs.Ytlhkahincnchjaa.M
