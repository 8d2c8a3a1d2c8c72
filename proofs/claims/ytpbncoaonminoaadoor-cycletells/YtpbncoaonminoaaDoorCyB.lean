/- The path with the fewest tasks, by the earliest edges: mathematics. -/
import Derived.Test.YtpbncoaonminoaaDoorCyM
namespace Go.Proofs.YtpbncoaonminoaaDoor.M
set_option linter.unusedVariables false
set_option linter.unusedSimpArgs false

/-- Do just so many edges lead from x to t? -/
def wB (es : List E) (t : Nat) : Nat → Nat → Bool
  | 0, x => decide (x = t)
  | k + 1, x => (outs es (x : Int)).any (wB es t k)
/-- The least number of edges from x to t. -/
def Dst (es : List E) (t x d : Nat) : Prop := wB es t d x = true ∧ ∀ e, e < d → wB es t e x = false

section
variable {es : List E} {t x y d e k n : Nat}
theorem wB_succ : wB es t (k + 1) x = true ↔ ∃ y, (x, y) ∈ es ∧ wB es t k y = true := by
  show (outs es (x : Int)).any (wB es t k) = true ↔ _
  rw [List.any_eq_true]
  constructor
  · rintro ⟨y, h1, h2⟩
    exact ⟨y, mem_outs.1 h1, h2⟩
  · rintro ⟨y, h1, h2⟩
    exact ⟨y, mem_outs.2 h1, h2⟩
theorem Dst.uniq (h : Dst es t x d) (h' : Dst es t x e) : d = e := by
  rcases Nat.lt_trichotomy d e with q | q | q
  · have := h'.2 d q; rw [h.1] at this; cases this
  · exact q
  · have := h.2 e q; rw [h'.1] at this; cases this
theorem Dst.least (h : wB es t k x = true) : ∃ d, d ≤ k ∧ Dst es t x d := by
  induction k using Nat.strongRecOn with
  | _ k ih =>
    by_cases hm : ∃ m, m < k ∧ wB es t m x = true
    · obtain ⟨m, h1, h2⟩ := hm
      obtain ⟨d, h3, h4⟩ := ih m h1 h2
      exact ⟨d, by omega, h4⟩
    · refine ⟨k, Nat.le_refl _, h, fun e he => ?_⟩
      cases q : wB es t e x with
      | false => rfl
      | true => exact absurd ⟨e, he, q⟩ hm
theorem Dst.zero : Dst es t t 0 := ⟨by simp [wB], fun e h => by omega⟩
theorem Dst.zero_eq (h : Dst es t x 0) : x = t := by simpa [wB] using h.1
theorem Dst.edge (he : (x, y) ∈ es) (h : Dst es t y d) : ∃ e, e ≤ d + 1 ∧ Dst es t x e := Dst.least (wB_succ.2 ⟨y, he, h.1⟩)
theorem Dst.edge_le (he : (x, y) ∈ es) (h : Dst es t y d) (hx : Dst es t x e) : e ≤ d + 1 := by
  obtain ⟨e', h1, h2⟩ := Dst.edge he h
  rw [hx.uniq h2]; exact h1
theorem Dst.step (h : Dst es t x (d + 1)) : ∃ y, (x, y) ∈ es ∧ Dst es t y d := by
  obtain ⟨y, h1, h2⟩ := wB_succ.1 h.1
  refine ⟨y, h1, h2, fun e he => ?_⟩
  cases q : wB es t e y with
  | false => rfl
  | true =>
    have := h.2 (e + 1) (by omega)
    rw [wB_succ.2 ⟨y, h1, q⟩] at this
    cases this
theorem wB_rch : ∀ k x, wB es t k x = true → Rch es x t
  | 0, x, h => by
    have : x = t := by simpa [wB] using h
    subst this
    exact Rch.refl _ _
  | k + 1, x, h => by
    obtain ⟨y, h1, h2⟩ := wB_succ.1 h
    exact ((Rch.refl _ x).tail h1).trans (wB_rch k y h2)
theorem wB_snoc {b c : Nat} (he : (c, b) ∈ es) : ∀ k a, wB es c k a = true → wB es b (k + 1) a = true
  | 0, a, h => by
    have : a = c := by simpa [wB] using h
    subst this
    exact wB_succ.2 ⟨b, he, by simp [wB]⟩
  | k + 1, a, h => by
    obtain ⟨y, h1, h2⟩ := wB_succ.1 h
    exact wB_succ.2 ⟨y, h1, wB_snoc he k y h2⟩
theorem hops_wB : ∀ k a b, hops es k a b → wB es b k a = true
  | 0, a, b, h => by have e : a = b := h; simp [wB, e]
  | k + 1, a, b, h => by
    obtain ⟨c, h1, h2⟩ := h
    exact wB_snoc h2 k a (hops_wB k a c h1)
theorem Dst.rch (h : Dst es t x d) : Rch es x t := wB_rch d x h.1
theorem rch_dst (h : Rch es x t) : ∃ d, Dst es t x d := by
  obtain ⟨k, hk⟩ := h
  obtain ⟨d, _, hd⟩ := Dst.least (hops_wB k x t hk)
  exact ⟨d, hd⟩
theorem Dst.line (hg : ∀ e ∈ es, e.1 < n ∧ e.2 < n) : ∀ d x, x < n → Dst es t x d → ∃ l : List Nat, l.length = d + 1 ∧ l.Nodup ∧ (∀ u ∈ l, u < n) ∧ (∀ u ∈ l, ∃ e, e ≤ d ∧ Dst es t u e)
  | 0, x, hx, h => ⟨[x], rfl, by simp, by simpa using hx, fun u hu => by simp at hu; subst hu; exact ⟨0, by omega, h⟩⟩
  | d + 1, x, hx, h => by
    obtain ⟨y, h1, h2⟩ := h.step
    obtain ⟨l, l1, l2, l3, l4⟩ := Dst.line hg d y (hg _ h1).2 h2
    refine ⟨x :: l, by simp [l1], ?_, ?_, ?_⟩
    · rw [List.nodup_cons]
      refine ⟨fun hm => ?_, l2⟩
      obtain ⟨e, q1, q2⟩ := l4 x hm
      have := h.uniq q2
      omega
    · intro u hu
      rcases List.mem_cons.1 hu with rfl | hu
      · exact hx
      · exact l3 u hu
    · intro u hu
      rcases List.mem_cons.1 hu with rfl | hu
      · exact ⟨d + 1, by omega, h⟩
      · obtain ⟨e, q1, q2⟩ := l4 u hu
        exact ⟨e, by omega, q2⟩
theorem Dst.lt (hg : ∀ e ∈ es, e.1 < n ∧ e.2 < n) (hx : x < n) (h : Dst es t x d) : d < n := by
  obtain ⟨l, l1, l2, l3, _⟩ := Dst.line hg d x hx h
  have := nodup_len l3 l2
  omega
end

def dist (es : List E) (n t x : Nat) : Option Nat := (List.range n).find? (fun k => wB es t k x)
/-- The path, by the first of those that are nearer. -/
def gp (es : List E) (n t : Nat) : Nat → Nat → List Nat
  | 0, x => [x]
  | d + 1, x => match (outs es (x : Int)).find? (fun y => dist es n t y == some d) with
    | none => [x]
    | some y => x :: gp es n t d y
def pathN (es : List E) (n a t : Nat) : List Nat := match dist es n t a with
  | none => []
  | some d => gp es n t d a
section
variable {es : List E} {n t x d : Nat}
theorem dist_some (hg : ∀ e ∈ es, e.1 < n ∧ e.2 < n) (hx : x < n) : dist es n t x = some d ↔ Dst es t x d := by
  unfold dist
  rw [List.find?_range_eq_some]
  constructor
  · rintro ⟨h1, h2, h3⟩
    exact ⟨h1, fun e he => by simpa using h3 e he⟩
  · intro h
    exact ⟨h.1, by simpa using h.lt hg hx, fun j hj => by simp [h.2 j hj]⟩
theorem dist_none (hg : ∀ e ∈ es, e.1 < n ∧ e.2 < n) (hx : x < n) : dist es n t x = none ↔ ¬ Rch es x t := by
  constructor
  · intro h hr
    obtain ⟨d, hd⟩ := rch_dst hr
    rw [(dist_some hg hx).2 hd] at h
    cases h
  · intro h
    cases q : dist es n t x with
    | none => rfl
    | some d => exact absurd ((dist_some hg hx).1 q).rch h
theorem pathN_none (hg : ∀ e ∈ es, e.1 < n ∧ e.2 < n) (hx : x < n) (h : ¬ Rch es x t) : pathN es n x t = [] := by
  unfold pathN
  rw [(dist_none hg hx).2 h]
theorem pathN_some (hg : ∀ e ∈ es, e.1 < n ∧ e.2 < n) (hx : x < n) (h : Dst es t x d) : pathN es n x t = gp es n t d x := by
  unfold pathN
  rw [(dist_some hg hx).2 h]
/-- The next task of the path. -/
theorem gp_step (hg : ∀ e ∈ es, e.1 < n ∧ e.2 < n) (h : Dst es t x (d + 1)) : ∃ l1 y l2, outs es (x : Int) = l1 ++ y :: l2 ∧ (∀ z ∈ l1, ¬ Dst es t z d) ∧ Dst es t y d ∧ (x, y) ∈ es ∧ gp es n t (d + 1) x = x :: gp es n t d y := by
  obtain ⟨y0, h1, h2⟩ := h.step
  cases q : (outs es (x : Int)).find? (fun y => dist es n t y == some d) with
  | none =>
    have := List.find?_eq_none.1 q y0 (mem_outs.2 h1)
    rw [(dist_some hg (hg _ h1).2).2 h2] at this
    simp at this
  | some y =>
    obtain ⟨q1, l1, l2, q2, q3⟩ := List.find?_eq_some_iff_append.1 q
    have hym : (x, y) ∈ es := mem_outs.1 (by rw [q2]; simp)
    refine ⟨l1, y, l2, q2, fun z hz hd => ?_, (dist_some hg (hg _ hym).2).1 (by simpa using q1), hym, ?_⟩
    · have hzm : (x, z) ∈ es := mem_outs.1 (by rw [q2]; simp [hz])
      have := q3 z hz
      rw [(dist_some hg (hg _ hzm).2).2 hd] at this
      simp at this
    · show (match (outs es (x : Int)).find? (fun y => dist es n t y == some d) with | none => [x] | some y => x :: gp es n t d y) = _
      rw [q]
theorem gp_ne (d x : Nat) : gp es n t d x ≠ [] := by
  cases d with
  | zero => simp [gp]
  | succ d =>
    show (match (outs es (x : Int)).find? (fun y => dist es n t y == some d) with | none => [x] | some y => x :: gp es n t d y) ≠ []
    split <;> simp
end

abbrev PM := Nat → List Nat
def updP (P : PM) (i : Nat) (l : List Nat) : PM := fun j => if j = i then l else P j
def stepP (h : List Nat) (s : PM × List Nat) (x : Nat) : PM × List Nat := if s.1 x = [] then (updP s.1 x (h ++ [x]), s.2 ++ [x]) else s
def scanP (h : List Nat) (l : List Nat) (s : PM × List Nat) : PM × List Nat := l.foldl (stepP h) s
theorem scanP_take (h l : List Nat) (s : PM × List Nat) (k : Nat) (hk : k < l.length) : scanP h (l.take (k + 1)) s = stepP h (scanP h (l.take k) s) l[k] := by
  unfold scanP
  rw [List.take_succ_eq_append_getElem hk, List.foldl_append]
  rfl
theorem scanP_app (h l1 l2 : List Nat) (s : PM × List Nat) : scanP h (l1 ++ l2) s = scanP h l2 (scanP h l1 s) := by
  unfold scanP
  rw [List.foldl_append]
theorem stepP_old (h : List Nat) (s : PM × List Nat) (x u : Nat) (hu : s.1 u ≠ []) : (stepP h s x).1 u = s.1 u := by
  unfold stepP updP
  split
  · rename_i hx
    by_cases e : u = x
    · subst e; exact absurd hx hu
    · simp [e]
  · rfl
theorem scanP_old (h : List Nat) (l : List Nat) : ∀ (s : PM × List Nat) (u : Nat), s.1 u ≠ [] → (scanP h l s).1 u = s.1 u := by
  induction l with
  | nil => intro s u _; rfl
  | cons x r ih =>
    intro s u hu
    have h1 := stepP_old h s x u hu
    show (scanP h r (stepP h s x)).1 u = s.1 u
    rw [ih _ u (by rw [h1]; exact hu), h1]
theorem stepP_q (h : List Nat) (s : PM × List Nat) (x : Nat) : ∃ q, (stepP h s x).2 = s.2 ++ q := by
  unfold stepP
  split
  · exact ⟨[x], rfl⟩
  · exact ⟨[], by simp⟩
theorem scanP_q (h : List Nat) (l : List Nat) : ∀ (s : PM × List Nat), ∃ q, (scanP h l s).2 = s.2 ++ q := by
  induction l with
  | nil => intro s; exact ⟨[], by simp [scanP]⟩
  | cons x r ih =>
    intro s
    obtain ⟨q1, e1⟩ := stepP_q h s x
    obtain ⟨q2, e2⟩ := ih (stepP h s x)
    exact ⟨q1 ++ q2, by show (scanP h r (stepP h s x)).2 = _; rw [e2, e1, List.append_assoc]⟩
def unv (n : Nat) (P : PM) : Nat := (List.range n).countP (fun u => decide (P u = []))
theorem unv_upd {n : Nat} {P : PM} {x : Nat} {l : List Nat} (hx : x < n) (h : P x = []) (hl : l ≠ []) : unv n (updP P x l) < unv n P := by
  unfold unv
  refine countP_lt _ _ _ (fun i hi => ?_) x (List.mem_range.2 hx) ?_ ?_
  · unfold updP at hi
    by_cases e : i = x
    · subst e; simp [h]
    · simpa [e] using hi
  · simp [updP, hl]
  · simp [h]

/-- What holds as long as the path is under way: c is the task that is next, d edges ahead of its end. -/
structure St (es : List E) (n t : Nat) (path : List Nat) (P : PM) (pre : List Nat) (c d : Nat) : Prop where
  dc : Dst es t c d
  pc : ∃ q, P c = q ++ [c] ∧ q ++ gp es n t d c = path
  pre : ∀ u ∈ pre, ∀ e, Dst es t u e → d < e
  all : ∀ u, P u ≠ [] → ∀ e, Dst es t u e → d ≤ e
def Main (es : List E) (n t : Nat) (path : List Nat) (P : PM) (met : List Nat) : Prop :=
  (P t = path ∧ path ≠ []) ∨ ∃ pre c post d, met = pre ++ c :: post ∧ St es n t path P pre c d
structure BI (es : List E) (n a t : Nat) (P : PM) (met : List Nat) : Prop where
  val : ∀ u, P u ≠ [] → Rch es a u ∧ u < n
  mem : ∀ u ∈ met, P u ≠ []
  len : ∀ u, (P u).length + unv n P ≤ n
  main : Rch es a t → Main es n t (pathN es n a t) P met

section
variable {es : List E} {n a t : Nat} {path : List Nat} {P : PM}
theorem St.fin {pre : List Nat} {c : Nat} (h : St es n t path P pre c 0) : P t = path ∧ path ≠ [] := by
  have e := h.dc.zero_eq
  subst e
  obtain ⟨q, q1, q2⟩ := h.pc
  have e2 : P c = path := by rw [← q2, q1]; rfl
  exact ⟨e2, by rw [← e2, q1]; simp⟩
/-- A head whose way is longer: its edges do no harm. -/
theorem St.scan {m : Nat} (hm : ∀ e, Dst es t m e → 0 < e) (h l : List Nat) (hl : ∀ x ∈ l, (m, x) ∈ es) : ∀ (s : PM × List Nat) (pre : List Nat) (c d : Nat) (post : List Nat), m ∈ pre → s.2 = pre ++ c :: post → St es n t path s.1 pre c d → ∃ post', (scanP h l s).2 = pre ++ c :: post' ∧ St es n t path (scanP h l s).1 pre c d := by
  induction l with
  | nil => intro s pre c d post _ h2 h3; exact ⟨post, h2, h3⟩
  | cons x r ih =>
    intro s pre c d post h1 h2 h3
    have hx := hl x (by simp)
    show ∃ post', (scanP h r (stepP h s x)).2 = pre ++ c :: post' ∧ St es n t path (scanP h r (stepP h s x)).1 pre c d
    by_cases hn : s.1 x = []
    · have e : stepP h s x = (updP s.1 x (h ++ [x]), s.2 ++ [x]) := by unfold stepP; rw [if_pos hn]
      rw [e]
      refine ih (fun y hy => hl y (by simp [hy])) _ pre c d (post ++ [x]) h1 (by rw [h2]; simp) ⟨h3.dc, ?_, h3.pre, ?_⟩
      · obtain ⟨q, q1, q2⟩ := h3.pc
        refine ⟨q, ?_, q2⟩
        show updP s.1 x (h ++ [x]) c = _
        unfold updP
        by_cases hc : c = x
        · subst hc; rw [hn] at q1; simp at q1
        · rw [if_neg hc]; exact q1
      · intro u hu e he
        by_cases hux : u = x
        · subst hux
          obtain ⟨e', q1, q2⟩ := Dst.edge hx he
          have := h3.pre m h1 e' q2
          omega
        · have : s.1 u ≠ [] := by
            have q : updP s.1 x (h ++ [x]) u ≠ [] := hu
            unfold updP at q
            rw [if_neg hux] at q
            exact q
          exact h3.all u this e he
    · have e : stepP h s x = s := by unfold stepP; rw [if_neg hn]
      rw [e]
      exact ih (fun y hy => hl y (by simp [hy])) s pre c d post h1 h2 h3
/-- The head is the next task: up to the one behind it. -/
theorem St.ahead {m d : Nat} (h l : List Nat) (hl : ∀ x ∈ l, (m, x) ∈ es ∧ ¬ Dst es t x d) (hd : Dst es t m (d + 1)) : ∀ (s : PM × List Nat), (∀ u, s.1 u ≠ [] → ∀ e, Dst es t u e → d + 1 ≤ e) → ∀ u, (scanP h l s).1 u ≠ [] → ∀ e, Dst es t u e → d + 1 ≤ e := by
  induction l with
  | nil => intro s h1; exact h1
  | cons x r ih =>
    intro s h1
    obtain ⟨hx, hnx⟩ := hl x (by simp)
    show ∀ u, (scanP h r (stepP h s x)).1 u ≠ [] → ∀ e, Dst es t u e → d + 1 ≤ e
    refine ih (fun y hy => hl y (by simp [hy])) _ ?_
    intro u hu e he
    by_cases hux : s.1 u = []
    · have hu2 := hu
      unfold stepP at hu2
      split at hu2
      · unfold updP at hu2
        by_cases e2 : u = x
        · subst e2
          have := Dst.edge_le hx he hd
          have : e ≠ d := fun q => by subst q; exact hnx he
          omega
        · simp [e2] at hu2; exact absurd hux hu2
      · exact absurd hux hu2
    · exact h1 u hux e he
theorem mem_scan (h l : List Nat) : ∀ (s : PM × List Nat), (∀ u ∈ s.2, s.1 u ≠ []) → ∀ u ∈ (scanP h l s).2, (scanP h l s).1 u ≠ [] := by
  induction l with
  | nil => intro s h1; exact h1
  | cons x r ih =>
    intro s h1
    show ∀ u ∈ (scanP h r (stepP h s x)).2, (scanP h r (stepP h s x)).1 u ≠ []
    refine ih _ ?_
    intro u hu
    unfold stepP at hu ⊢
    split
    · rename_i hx
      rw [if_pos hx] at hu
      simp only at hu ⊢
      unfold updP
      by_cases e : u = x
      · simp [e]
      · rw [if_neg e]
        rcases List.mem_append.1 hu with q | q
        · exact h1 u q
        · simp at q; exact absurd q e
    · rename_i hx
      rw [if_neg hx] at hu
      exact h1 u hu
theorem Main.scan (hg : ∀ e ∈ es, e.1 < n ∧ e.2 < n) {m : Nat} {q : List Nat} (hmem : ∀ u ∈ m :: q, P u ≠ []) (h : Main es n t path P (m :: q)) :
    Main es n t path (scanP (P m) (outs es (m : Int)) (P, m :: q)).1 ((scanP (P m) (outs es (m : Int)) (P, m :: q)).2.tail) := by
  have hA : ∀ (l : List Nat) (s : PM × List Nat), s.1 t = path → path ≠ [] → (scanP (P m) l s).1 t = path := fun l s h1 h2 => by
    rw [scanP_old (P m) l s t (by rw [h1]; exact h2)]; exact h1
  have hedge : ∀ x ∈ outs es (m : Int), (m, x) ∈ es := fun x hx => mem_outs.1 hx
  rcases h with ⟨h1, h2⟩ | ⟨pre, c, post, d, he, hs⟩
  · exact .inl ⟨hA _ _ h1 h2, h2⟩
  · cases pre with
    | cons m' pre =>
      have e1 : m = m' := by simpa using (List.cons.inj he).1
      subst e1
      have e2 : q = pre ++ c :: post := (List.cons.inj he).2
      obtain ⟨post', k1, k2⟩ := St.scan (es := es) (n := n) (t := t) (path := path) (m := m) (fun e hd => Nat.lt_of_le_of_lt (Nat.zero_le _) (hs.pre m (by simp) e hd)) (P m) (outs es (m : Int)) hedge (P, m :: q) (m :: pre) c d post (by simp) he hs
      exact .inr ⟨pre, c, post', d, by rw [k1]; rfl, k2.dc, k2.pc, fun u hu => k2.pre u (by simp [hu]), k2.all⟩
    | nil =>
      have e1 : m = c := by simpa using (List.cons.inj he).1
      subst e1
      cases d with
      | zero =>
        obtain ⟨h1, h2⟩ := hs.fin
        exact .inl ⟨hA _ _ h1 h2, h2⟩
      | succ d =>
        obtain ⟨l1, y, l2, o1, o2, o3, o4, o5⟩ := gp_step (n := n) hg hs.dc
        rw [o1] at hedge ⊢
        have hed2 : ∀ x ∈ l2, (m, x) ∈ es := fun x hx => hedge x (by simp [hx])
        have hed1 : ∀ x ∈ l1, (m, x) ∈ es ∧ ¬ Dst es t x d := fun x hx => ⟨hedge x (by simp [hx]), o2 x hx⟩
        rw [scanP_app]
        obtain ⟨qq, eq⟩ := scanP_q (P m) l1 (P, m :: q)
        have hall := St.ahead (P m) l1 hed1 hs.dc (P, m :: q) hs.all
        have hmem1 := mem_scan (P m) l1 (P, m :: q) hmem
        have hold := scanP_old (P m) l1 (P, m :: q) m (hmem m (by simp))
        generalize scanP (P m) l1 (P, m :: q) = s1 at *
        have hy0 : s1.1 y = [] := by
          apply Classical.byContradiction
          intro hne
          have := hall y hne d o3
          omega
        show Main es n t path (scanP (P m) l2 (stepP (P m) s1 y)).1 ((scanP (P m) l2 (stepP (P m) s1 y)).2.tail)
        have e2 : stepP (P m) s1 y = (updP s1.1 y (P m ++ [y]), s1.2 ++ [y]) := by unfold stepP; rw [if_pos hy0]
        rw [e2]
        have hm2 : s1.2 = m :: (q ++ qq) := by rw [eq]; rfl
        have hnew : St es n t path (updP s1.1 y (P m ++ [y])) (m :: (q ++ qq)) y d := by
          refine ⟨o3, ⟨P m, by simp [updP], ?_⟩, ?_, ?_⟩
          · obtain ⟨p, p1, p2⟩ := hs.pc
            rw [p1, ← p2, o5]
            simp
          · intro u hu e hd
            have := hall u (hmem1 u (by rw [hm2]; exact hu)) e hd
            omega
          · intro u hu e hd
            by_cases hux : u = y
            · subst hux
              have := hd.uniq o3
              omega
            · have : s1.1 u ≠ [] := by
                unfold updP at hu
                rw [if_neg hux] at hu
                exact hu
              have := hall u this e hd
              omega
        obtain ⟨post', k1, k2⟩ := St.scan (es := es) (n := n) (t := t) (path := path) (m := m) (fun e hd => by have := hs.dc.uniq hd; omega) (P m) l2 hed2 (updP s1.1 y (P m ++ [y]), s1.2 ++ [y]) (m :: (q ++ qq)) y d [] (by simp) (by rw [hm2]) hnew
        exact .inr ⟨q ++ qq, y, post', d, by rw [k1]; rfl, k2.dc, k2.pc, fun u hu => k2.pre u (by simp at hu ⊢; exact .inr hu), k2.all⟩
theorem val_scan {m : Nat} (hm : Rch es a m) (hg : ∀ e ∈ es, e.1 < n ∧ e.2 < n) (h l : List Nat) (hl : ∀ x ∈ l, (m, x) ∈ es) : ∀ (s : PM × List Nat), (∀ u, s.1 u ≠ [] → Rch es a u ∧ u < n) → ∀ u, (scanP h l s).1 u ≠ [] → Rch es a u ∧ u < n := by
  induction l with
  | nil => intro s h1; exact h1
  | cons x r ih =>
    intro s h1
    have hx := hl x (by simp)
    show ∀ u, (scanP h r (stepP h s x)).1 u ≠ [] → Rch es a u ∧ u < n
    refine ih (fun y hy => hl y (by simp [hy])) _ ?_
    intro u hu
    unfold stepP at hu
    split at hu
    · unfold updP at hu
      by_cases e : u = x
      · subst e; exact ⟨hm.tail hx, (hg _ hx).2⟩
      · simp [e] at hu; exact h1 u hu
    · exact h1 u hu
/-- How long paths are; how many tasks are left. -/
theorem len_scan (h l : List Nat) (hl : ∀ x ∈ l, x < n) : ∀ (s : PM × List Nat), (h.length + unv n s.1 ≤ n) → (∀ u, (s.1 u).length + unv n s.1 ≤ n) → (h.length + unv n (scanP h l s).1 ≤ n) ∧ (∀ u, ((scanP h l s).1 u).length + unv n (scanP h l s).1 ≤ n) ∧ unv n (scanP h l s).1 + (scanP h l s).2.length ≤ unv n s.1 + s.2.length := by
  induction l with
  | nil => intro s h1 h2; exact ⟨h1, h2, Nat.le_refl _⟩
  | cons x r ih =>
    intro s h1 h2
    have hx := hl x (by simp)
    show (h.length + unv n (scanP h r (stepP h s x)).1 ≤ n) ∧ (∀ u, ((scanP h r (stepP h s x)).1 u).length + unv n (scanP h r (stepP h s x)).1 ≤ n) ∧ unv n (scanP h r (stepP h s x)).1 + (scanP h r (stepP h s x)).2.length ≤ unv n s.1 + s.2.length
    by_cases hn : s.1 x = []
    · have e : stepP h s x = (updP s.1 x (h ++ [x]), s.2 ++ [x]) := by unfold stepP; rw [if_pos hn]
      rw [e]
      have hu := unv_upd (l := h ++ [x]) hx hn (by simp)
      obtain ⟨k1, k2, k3⟩ := ih (fun y hy => hl y (by simp [hy])) (updP s.1 x (h ++ [x]), s.2 ++ [x]) (by show h.length + unv n (updP s.1 x (h ++ [x])) ≤ n; omega) (fun u => by
        show (updP s.1 x (h ++ [x]) u).length + unv n (updP s.1 x (h ++ [x])) ≤ n
        have := h2 u
        by_cases e : u = x
        · subst e; simp [updP] at hu ⊢; omega
        · have e3 : updP s.1 x (h ++ [x]) u = s.1 u := by simp [updP, e]
          rw [e3]; omega)
      refine ⟨k1, k2, Nat.le_trans k3 ?_⟩
      show unv n (updP s.1 x (h ++ [x])) + (s.2 ++ [x]).length ≤ _
      simp
      omega
    · have e : stepP h s x = s := by unfold stepP; rw [if_neg hn]
      rw [e]
      exact ih (fun y hy => hl y (by simp [hy])) s h1 h2
theorem BI.round (hg : ∀ e ∈ es, e.1 < n ∧ e.2 < n) {m : Nat} {q : List Nat} (h : BI es n a t P (m :: q)) :
    BI es n a t (scanP (P m) (outs es (m : Int)) (P, m :: q)).1 ((scanP (P m) (outs es (m : Int)) (P, m :: q)).2.tail) ∧ unv n (scanP (P m) (outs es (m : Int)) (P, m :: q)).1 + ((scanP (P m) (outs es (m : Int)) (P, m :: q)).2.tail).length < unv n P + (m :: q).length := by
  obtain ⟨hm1, hm2⟩ := h.val m (h.mem m (by simp))
  obtain ⟨k1, k2, k3⟩ := len_scan (P m) (outs es (m : Int)) (fun x hx => (hg _ (mem_outs.1 hx)).2) (P, m :: q) (h.len m) h.len
  obtain ⟨qq, eq⟩ := scanP_q (P m) (outs es (m : Int)) (P, m :: q)
  refine ⟨⟨val_scan hm1 hg _ _ (fun x hx => mem_outs.1 hx) _ h.val, fun u hu => mem_scan _ _ _ h.mem u (List.mem_of_mem_tail hu), k2, fun hr => (h.main hr).scan hg h.mem⟩, ?_⟩
  rw [eq] at k3 ⊢
  simp at k3 ⊢
  omega
theorem BI.fin (hg : ∀ e ∈ es, e.1 < n ∧ e.2 < n) (ha : a < n) (h : BI es n a t P []) : P t = pathN es n a t := by
  by_cases hr : Rch es a t
  · rcases h.main hr with q | ⟨pre, c, post, d, he, _⟩
    · exact q.1
    · simp at he
  · rw [pathN_none hg ha hr]
    apply Classical.byContradiction
    intro hne
    exact hr (h.val t hne).1
theorem BI.start (hg : ∀ e ∈ es, e.1 < n ∧ e.2 < n) (ha : a < n) : BI es n a t (updP (fun _ => []) a [a]) [a] := by
  have hu := unv_upd (P := fun _ => []) (l := [a]) ha rfl (by simp)
  have hz : unv n (fun _ => []) ≤ n := by
    simp [unv]
  refine ⟨fun u hu => ?_, fun u hu => ?_, fun u => ?_, fun hr => ?_⟩
  · unfold updP at hu
    by_cases e : u = a
    · subst e; exact ⟨Rch.refl _ _, ha⟩
    · simp [e] at hu
  · simp at hu; subst hu; simp [updP]
  · have : (updP (fun _ => []) a [a] u).length ≤ 1 := by unfold updP; split <;> simp
    omega
  · obtain ⟨d, hd⟩ := rch_dst hr
    refine .inr ⟨[], a, [], d, rfl, hd, ⟨[], by simp [updP], ?_⟩, by simp, fun u hu e he => ?_⟩
    · rw [pathN_some hg ha hd]; rfl
    · unfold updP at hu
      by_cases q : u = a
      · subst q; have := hd.uniq he; omega
      · simp [q] at hu
end
end Go.Proofs.YtpbncoaonminoaaDoor.M
