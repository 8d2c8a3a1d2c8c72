/- Requests of the call's own: copied, and one more behind them. -/
import Derived.Test.YtmeeimfjibcncaaDoorLNo
import Derived.Test.YtmeeimfjibcncaaDoorApR
namespace Go.Proofs.YtmeeimfjibcncaaDoor
open Go.RowKit
open M
set_option linter.unusedVariables false
set_option linter.unusedSimpArgs false

theorem info49 : (Tryd.prog.info? 49).map (fun i => (i.zero, i.size, i.bytes)) = some (some (.agg #[.int .i64 0, .int .i64 0, .int .i64 0]), 3, 24) := by kernel_rfl
/-- Requests as cells. -/
def qcells : List Rq → List Value
  | [] => []
  | (x, y, z) :: r => .int .i64 x :: .int .i64 y :: .int .i64 z :: qcells r
theorem qcells_len (Q : List Rq) : (qcells Q).length = Q.length * 3 := by
  induction Q with
  | nil => rfl
  | cons e r ih => obtain ⟨x, y, z⟩ := e; simp [qcells, ih]; omega
theorem qcells_one (Q : List Rq) : ∀ u ∈ qcells Q, u.oneCell' = true := by
  induction Q with
  | nil => intro u hu; simp [qcells] at hu
  | cons e r ih =>
    obtain ⟨x, y, z⟩ := e
    intro u hu
    simp only [qcells, List.mem_cons] at hu
    rcases hu with rfl | rfl | rfl | hu
    · rfl
    · rfl
    · rfl
    · exact ih u hu
theorem qcells_snoc (Q : List Rq) (q : Rq) : qcells (Q ++ [q]) = qcells Q ++ [.int .i64 q.1, .int .i64 q.2.1, .int .i64 q.2.2] := by
  induction Q with
  | nil => rfl
  | cons e r ih => obtain ⟨x, y, z⟩ := e; simp [qcells, ih]
theorem qcells_at (Q : List Rq) : ∀ i (h : i < Q.length), (qcells Q)[i * 3]? = some (.int .i64 Q[i].1) ∧ (qcells Q)[i * 3 + 1]? = some (.int .i64 Q[i].2.1) ∧ (qcells Q)[i * 3 + 2]? = some (.int .i64 Q[i].2.2) := by
  induction Q with
  | nil => intro i h; simp at h
  | cons e r ih =>
    obtain ⟨x, y, z⟩ := e
    intro i h
    cases i with
    | zero => simp [qcells]
    | succ i =>
      have := ih i (by simpa using h)
      have e1 : (i + 1) * 3 = i * 3 + 3 := by omega
      rw [e1]
      simpa [qcells] using this
theorem qin_news {W : World} {b : Nat} : ∀ (Q : List Rq) (o : Nat), (∀ i (h : i < Q.length), W.cell? ⟨b, o + i * 3, none⟩ = some (.int .i64 Q[i].1) ∧ W.cell? ⟨b, o + i * 3 + 1, none⟩ = some (.int .i64 Q[i].2.1) ∧ W.cell? ⟨b, o + i * 3 + 2, none⟩ = some (.int .i64 Q[i].2.2)) →
    ∀ j u, (qcells Q)[j]? = some u → W.cell? ⟨b, o + j, none⟩ = some u
  | [], o, h, j, u, hj => by simp [qcells] at hj
  | (x, y, z) :: r, o, h, j, u, hj => by
    have h0 := h 0 (by simp)
    simp only [Nat.zero_mul, Nat.add_zero, List.getElem_cons_zero] at h0
    match j with
    | 0 => simp [qcells] at hj; subst hj; exact h0.1
    | 1 => simp [qcells] at hj; subst hj; exact h0.2.1
    | 2 => simp [qcells] at hj; subst hj; exact h0.2.2
    | j + 3 =>
      have hj' : (qcells r)[j]? = some u := by simpa [qcells] using hj
      have := qin_news r (o + 3) (fun i hi => by
        have := h (i + 1) (by simpa using hi)
        have e1 : o + (i + 1) * 3 = o + 3 + i * 3 := by omega
        rw [e1] at this
        simpa using this) j u hj'
      rw [show o + (j + 3) = o + 3 + j from by omega]
      exact this
theorem qin_cells {W : World} {b o : Nat} {Q : List Rq} (h : QIn W (some ⟨b, o, none⟩) Q) : ∀ j u, (qcells Q)[j]? = some u → W.cell? ((⟨b, o, none⟩ : Addr).add j) = some u := by
  intro j u hj
  have := qin_news Q o (fun i hi => by
    obtain ⟨b2, o2, e, _, h3⟩ := h i hi
    cases e
    exact h3) j u hj
  simpa [Addr.add_lit] using this
theorem own_qin {w : World} {base : Nat} {a : Option Addr} {n c : Nat} {Q : List Rq} (h : w.ownsRow base 49 3 (.slice a n c) Q.length (qcells Q)) : QIn w a Q := by
  rcases h.2 with ⟨e, hz⟩ | ⟨r, cap, cur, e, hb, hg, _⟩
  · intro i hi; omega
  · cases e
    intro i hi
    obtain ⟨h1, h2, h3⟩ := qcells_at Q i hi
    refine ⟨r, 0, rfl, block_lt hg, ?_, ?_, ?_⟩
    · have := h.cells (g := r) rfl _ _ h1
      simpa [Addr.add_lit] using this
    · have := h.cells (g := r) rfl _ _ h2
      simpa [Addr.add_lit] using this
    · have := h.cells (g := r) rfl _ _ h3
      simpa [Addr.add_lit] using this
theorem own_form {w : World} {base : Nat} {v : Value} {n : Nat} {xs : List Value} {t : TypeId} {sz : Nat} (h : w.ownsRow base t sz v n xs) : ∃ a c, v = .slice a n c := by
  rcases h.2 with ⟨e, hz⟩ | ⟨r, cap, cur, e, _⟩
  · exact ⟨none, 0, by rw [e, hz]⟩
  · exact ⟨_, cap, e⟩

theorem run_append_nothing {P : Program} (w : World) (t ty e : TypeId) (i : TypeInfo) (ht : P.underlying t = some (.slice e)) (hi : P.info? e = some i) (a : Addr) (x : Option Addr) (c : Nat) :
    (Builtin.append_ #[t, t] ty #[.slice (some a) 0 0, .slice x 0 c]).run P w = .ok (.slice (some a) 0 0) w := by
  cases x <;> simp [Builtin.append_, run_underlying ht, sizeOf, typeInfo, hi, Builtin.lenOf, Builtin.firstCells, loadCells, loadCellsFrom, storeCells]

/-- 'append([]Request{}, x...)'. -/
theorem wpList_copyQ {W : World} {ops : Array Oper} {rest : List Oper} {o : Oper} {a : Act} {Q' : Exit → Act → World → Prop} (hgd : o.guard = none) (s x : Operand)
    (ho : o.op = .call { callee := .builtin .append, args := #[s, x], argTypes := #[23, 23] })
    (qa : Option Addr) (K qc : Nat) (Q : List Rq) (hq : QIn W qa Q) (hK : Q.length = K) (hl : K ≤ 1000000) (hs : a.eval s = .slice (some ⟨W.heap.size, 0, none⟩) 0 0) (hx : a.eval x = .slice qa K qc)
    (h : ∀ v' w', w'.ownsRow W.heap.size 49 3 v' K (qcells Q) → Below W.heap.size W w' → wpList Tryd.prog ops Q' rest (a.put o.dst v') w') : wpList Tryd.prog ops Q' (o :: rest) a (W.alloc (.cells #[] 49)) := by
  subst hK
  obtain ⟨i0, hi, hz0, hz1, hz2⟩ := info_parts info49
  have hb : Below W.heap.size W (W.alloc (.cells #[] 49)) := (Below.refl _ _).alloc (Nat.le_refl _) _
  have hown0 : (W.alloc (.cells #[] 49)).ownsRow W.heap.size 49 3 (.slice (some ⟨W.heap.size, 0, none⟩) 0 0) 0 [] := World.ownsRow_made W #[] 0 (Nat.le_refl _) (by simp [maxLen]) (by simp)
  by_cases hz : Q.length = 0
  · have hL : Q = [] := List.eq_nil_of_length_eq_zero hz
    subst hL
    have hr := run_append_nothing (P := Tryd.prog) (W.alloc (.cells #[] 49)) 23 o.type 49 i0 Tryd.underlying23 hi ⟨W.heap.size, 0, none⟩ qa qc
    refine wpList_plain hgd fun K hK => ?_
    unfold Oper.wp execOp
    simp only [ho, resolve, invoke, builtin, Sem.run_bind, Sem.run_pure, Result.andThen_ok, List.map_toArray, List.map_cons, List.map_nil, hs, hx, List.length_nil, hr]
    exact hK _ _ (h _ _ hown0 hb)
  · obtain ⟨b, of, rfl, hbl, _⟩ := hq 0 (by omega)
    refine wpList_append_tell _ hgd s x 23 ho W.heap.size 49 i0 _ 3 24 Tryd.underlying23 hi hz0 hz1 hz2 rfl (by decide) _ 0 [] hs hown0 ⟨b, of, none⟩ Q.length qc (qcells Q) hx (qcells_len Q) (qin_cells (hq.below hb (Nat.le_refl _))) (qcells_one Q) (by unfold maxLen; omega) (by omega) (by simp) ?_
    intro v' w' h1 h2 h3
    refine h v' w' ?_ (hb.grown h2 (by simp) (fun k hk => by simp [Value.ownBlock] at hk; omega))
    simpa using h1

/-- Behind an append: where it lies, and what is left of the world. -/
theorem run_append_two {P : Program} (w : World) (base : Nat) (t ty e : TypeId) (i : TypeInfo) (z : Value) (size bytes : Nat) (ht : P.underlying t = some (.slice e)) (hi : P.info? e = some i) (hz : i.zero = some z)
    (hsize : i.size = size) (hby : i.bytes = bytes) (hzs : z.cells.size = size) (hsz : 0 < size)
    (v : Value) (n : Nat) (xs : List Value) (hown : w.ownsRow base e size v n xs)
    (a : Addr) (m c : Nat) (news : List Value) (hl : news.length = m * size) (hnews : ∀ j u, news[j]? = some u → w.cell? (a.add j) = some u) (h1 : ∀ u ∈ news, u.oneCell' = true)
    (h63 : n + m ≤ maxLen) (hbytes : (n + m) * bytes ≤ 140737488355328) (hbase : base ≤ w.heap.size) :
    ∃ v' w', (Builtin.append_ #[t, t] ty #[v, .slice (some a) m c]).run P w = .ok v' w' ∧ w'.ownsRow base e size v' (n + m) (xs ++ news) ∧ w.grownBy w' v.ownBlock ∧ (v'.ownBlock = v.ownBlock ∨ w.grownBy w' none ∧ ∀ k, v'.ownBlock = some k → w.heap.size ≤ k) := by
  obtain ⟨v', w', hr, h2, h3, _⟩ := run_append_own (P := P) w base t ty e i z size bytes ht hi hz hsize hby hzs hsz v n xs hown a m c news hl hnews h1 h63 hbytes hbase
  refine ⟨v', w', hr, h2, h3, ?_⟩
  rcases hown.2 with ⟨rfl, rfl⟩ | ⟨g, cap, cur, rfl, hbg, hg, hnc, hcm, hcs, htake⟩
  · have hx : xs = [] := List.eq_nil_of_length_eq_zero (by simpa using hown.1)
    subst hx
    obtain ⟨v2, w2, hr2, k2, k3, _⟩ := run_append_own (P := P) w w.heap.size t ty e i z size bytes ht hi hz hsize hby hzs hsz (.slice none 0 0) 0 [] (World.ownsRow_nil w _ e size) a m c news hl hnews h1 h63 hbytes (Nat.le_refl _)
    have he := hr.symm.trans hr2
    have e1 : v' = v2 := by injection he
    have e2 : w' = w2 := by injection he
    subst e1 e2
    exact .inr ⟨k3, fun k hk => (k2.lt k hk).1⟩
  · by_cases hroom : n + m ≤ cap
    · subst hsize
      have hfit : n * i.size + news.length ≤ cur.size := by rw [hl, hcs, ← Nat.add_mul]; exact Nat.mul_le_mul_right _ hroom
      have hr2 := run_append_room (P := P) w t ty e i ht hi g n cap cur hg a m c news hl hnews h1 hroom hfit
      have he := hr.symm.trans hr2
      have e1 : v' = .slice (some ⟨g, 0, none⟩) (n + m) cap := by injection he
      subst e1
      exact .inl rfl
    · obtain ⟨v2, w2, hr2, k2, k3⟩ := run_append_arg_grows (P := P) w t ty e i z size bytes ht hi hz hsize hby hzs hsz ⟨g, 0, none⟩ n cap xs hown.1 (hown.cells (g := g) rfl) a m c news hl hnews (by omega) h63 hbytes
      have he := hr.symm.trans hr2
      have e1 : v' = v2 := by injection he
      have e2 : w' = w2 := by injection he
      subst e1 e2
      exact .inr ⟨k3, fun k hk => (k2.lt k hk).1⟩

/-- A graph, rows, and requests of the call's own. -/
structure O1 (B : Nat) (w0 w : World) (g eb n : Nat) (v : Value) (es : List E) (X : List (Value × List Int)) (qa : Option Addr) (cap : Nat) (Q : List Rq) : Prop where
  p : P1 B w0 w g eb n v es X [(qa, Q)]
  own : w.ownsRow B 49 3 (.slice qa Q.length cap) Q.length (qcells Q)
  nx : ∀ p ∈ X, ∀ k, blkOf qa = some k → p.1.ownBlock ≠ some k
  nf : ∀ k, blkOf qa = some k → ¬ Foot g eb v k
def OX (B : Nat) (w0 w : World) (g eb n : Nat) (es : List E) (X : List (Value × List Int)) (qa : Option Addr) (cap : Nat) (Q : List Rq) : Prop := ∃ v, O1 B w0 w g eb n v es X qa cap Q
section
variable {B : Nat} {w0 w w' : World} {g eb n : Nat} {v : Value} {es : List E} {X : List (Value × List Int)} {qa : Option Addr} {cap : Nat} {Q : List Rq}
theorem OX.px (h : OX B w0 w g eb n es X qa cap Q) : PX B w0 w g eb n es X [(qa, Q)] := by obtain ⟨v, h⟩ := h; exact ⟨v, h.p⟩
theorem OX.step (h : OX B w0 w g eb n es X qa cap Q) (hb : Below w.heap.size w w') : OX B w0 w' g eb n es X qa cap Q := by
  obtain ⟨v, h⟩ := h
  exact ⟨v, h.p.step hb, owns_below h.own hb, h.nx, h.nf⟩
theorem OX.drewN (h : OX B w0 w g eb n es X qa cap Q) (j : Nat) : OX B w0 (w.drewN j) g eb n es X qa cap Q := h.step (below_drewN (Below.refl _ _) j)
theorem OX.fewer (h : OX B w0 w g eb n es X qa cap Q) {X' : List (Value × List Int)} (hx : ∀ p ∈ X', p ∈ X) : OX B w0 w g eb n es X' qa cap Q := by
  obtain ⟨v, h⟩ := h
  exact ⟨v, ⟨h.p.bel, h.p.gm, h.p.gB, h.p.tab, h.p.pos, h.p.le, fun p hp => h.p.ext p (hx p hp), h.p.req⟩, h.own, fun p hp => h.nx p (hx p hp), h.nf⟩
theorem blk_own (qa : Option Addr) (n c : Nat) : (Value.slice qa n c).ownBlock = blkOf qa := by cases qa <;> rfl
theorem OX.cons (h : OX B w0 w g eb n es X qa cap Q) (hb : Below w.heap.size w w') {u : Value} {L : List Int} (hu : ZAt w' u L) (hk : ∀ k, u.ownBlock = some k → w.heap.size ≤ k ∧ k < w'.heap.size) : OX B w0 w' g eb n es ((u, L) :: X) qa cap Q := by
  obtain ⟨v, h⟩ := h
  have h2 := h.p.step hb
  refine ⟨v, ⟨h2.bel, h2.gm, h2.gB, h2.tab, h2.pos, h2.le, fun p hp => ?_, h2.req⟩, owns_below h.own hb, fun p hp k hk' => ?_, h.nf⟩
  · rcases List.mem_cons.1 hp with rfl | hp
    · refine ⟨hu, fun k hk' => ⟨(hk k hk').2, fun hf => ?_⟩⟩
      have := (hk k hk').1
      have := h.p.gm.lt k hf
      omega
    · exact h2.ext p hp
  · rcases List.mem_cons.1 hp with rfl | hp
    · intro e
      have h1 := (hk k e).1
      have h2 := (h.own.lt k (by rw [blk_own]; exact hk')).2
      omega
    · exact h.nx p hp k hk'
theorem OX.of (h : OX B w0 w g eb n es X qa cap Q) (hm6 : Q.length ≤ 1000000) (qc m : Nat) (hm : Q.length = m) (L : List Int) (hL : ofL n es Q = L) :
    Calls Tryd.prog 15 #[ptr g, .slice qa m qc] w fun e w' => ∃ b, e = .returned (.slice (some ⟨b, 0, none⟩) n n) ∧ Hid (OX B w0 w' g eb n es ((.slice (some ⟨b, 0, none⟩) n n, L) :: X) qa cap Q) := by
  have h' := h
  obtain ⟨v, hp, _, _, _⟩ := h
  subst hm hL
  refine (of_any hp.gm hp.tab (Nat.lt_of_lt_of_le hp.pos hp.le) (h'.px.q (List.mem_singleton.2 rfl)) hm6 qc).mono ?_
  rintro e w' ⟨b, rfl, s, hb⟩
  refine ⟨b, rfl, h'.cons hb s.out.2 (fun k hk => ?_)⟩
  have e : b = k := Option.some.inj hk
  subst e
  exact ⟨s.out.1.1, s.out.1.2⟩
theorem OX.reached (h : OX B w0 w g eb n es X qa cap Q) (hm6 : Q.length ≤ 1000000) (qc m : Nat) (hm : Q.length = m) (t : Int) (L : List Nat) (hL : reachedL n es Q t Q.length = L) :
    Calls Tryd.prog 13 #[ptr g, .slice qa m qc, .int .i64 t] w fun e w' => ∃ ao cap', e = .returned (.slice ao L.length cap') ∧ Hid (OX B w0 w' g eb n es ((.slice ao L.length cap', zs L) :: X) qa cap Q) := by
  have h' := h
  obtain ⟨v, hp, _, _, _⟩ := h
  subst hm
  refine (reachedP_any hp.gm hp.tab (Nat.lt_of_lt_of_le hp.pos hp.le) (h'.px.q (List.mem_singleton.2 rfl)) hm6 qc t).mono ?_
  rintro e w' ⟨u, rfl, ho, hb⟩
  subst hL
  have s := h'.cons hb (own_zat (own_z ho)) (fun k hk => ho.lt k hk)
  obtain ⟨ao, cap', rfl⟩ := (own_zat (own_z ho)).form
  rw [zs_len] at s ⊢
  exact ⟨ao, cap', rfl, s⟩
/-- From a graph and requests that were copied. -/
theorem OX.start (h : PX B w0 w g eb n es [] []) (hb : Below w.heap.size w w') (ho : w'.ownsRow w.heap.size 49 3 (.slice qa Q.length cap) Q.length (qcells Q)) : OX B w0 w' g eb n es [] qa cap Q := by
  obtain ⟨v, h⟩ := h
  have h2 := h.step hb
  have hle := h.le
  have hr : ∀ k, blkOf qa = some k → w.heap.size ≤ k ∧ k < w'.heap.size := fun k hk => ho.lt k (by rw [blk_own]; exact hk)
  have hn : ∀ k, blkOf qa = some k → ¬ Foot g eb v k := fun k hk hf => by have := (hr k hk).1; have := h.gm.lt k hf; omega
  refine ⟨v, ⟨h2.bel, h2.gm, h2.gB, h2.tab, h2.pos, h2.le, h2.ext, fun p hp => ?_⟩, owns_base ho (fun k hk => ?_), fun p hp => by simp at hp, hn⟩
  · rw [List.mem_singleton] at hp
    subst hp
    exact ⟨own_qin ho, fun _ k hk => ⟨(hr k hk).2, hn k hk⟩⟩
  · have := (ho.lt k hk).1
    omega
theorem own_addr {base : Nat} {a : Option Addr} {n c m : Nat} {xs : List Value} {t : TypeId} {sz : Nat} (h : w.ownsRow base t sz (.slice a n c) m xs) : a = none ∨ ∃ r, a = some ⟨r, 0, none⟩ := by
  rcases h.2 with ⟨e, _⟩ | ⟨r, _, _, e, _⟩
  · cases e; exact .inl rfl
  · cases e; exact .inr ⟨r, rfl⟩
theorem addr_same {a b : Option Addr} (ha : a = none ∨ ∃ r, a = some ⟨r, 0, none⟩) (hb : b = none ∨ ∃ r, b = some ⟨r, 0, none⟩) (h : blkOf a = blkOf b) : a = b := by
  rcases ha with rfl | ⟨r, rfl⟩ <;> rcases hb with rfl | ⟨s, rfl⟩ <;> simp [blkOf] at h ⊢
  exact h
/-- One more request behind them. -/
theorem OX.app (h : OX B w0 w g eb n es X qa cap Q) {q : Rq} {o : Obj} {qa2 : Option Addr} {c2 m2 : Nat} (hown : w'.ownsRow B 49 3 (.slice qa2 m2 c2) (Q.length + 1) (qcells Q ++ [.int .i64 q.1, .int .i64 q.2.1, .int .i64 q.2.2])) (hg : (w.alloc o).grownBy w' (Value.slice qa Q.length cap).ownBlock)
    (hf : (Value.slice qa2 m2 c2).ownBlock = (Value.slice qa Q.length cap).ownBlock ∨ (w.alloc o).grownBy w' none ∧ ∀ k, (Value.slice qa2 m2 c2).ownBlock = some k → (w.alloc o).heap.size ≤ k) :
    PX B w0 w' g eb n es X [(qa2, Q ++ [q]), (qa, Q)] := by
  obtain ⟨v, hp, ho, hx, hnf⟩ := h
  rw [blk_own] at hg
  rw [blk_own, blk_own] at hf
  have hown2 : w'.ownsRow B 49 3 (.slice qa2 m2 c2) (Q ++ [q]).length (qcells (Q ++ [q])) := by rw [qcells_snoc, List.length_append]; exact hown
  have hq2 := own_qin hown2
  have hs := hg.size
  simp at hs
  have hle := hp.le
  have hb0 : Below w.heap.size w (w.alloc o) := (Below.refl _ _).alloc (Nat.le_refl _) _
  have hroB : ∀ k, blkOf qa = some k → B ≤ k ∧ k < w.heap.size := fun k hk => ho.lt k (by rw [blk_own]; exact hk)
  have hro2 : ∀ k, blkOf qa2 = some k → B ≤ k ∧ k < w'.heap.size := fun k hk => hown2.lt k (by rw [blk_own]; exact hk)
  have hbk : ∀ k, k < w.heap.size → blkOf qa ≠ some k → w'.heap[k]? = w.heap[k]? := fun k hk hne => (hg.block k (by simp; omega) (fun e => hne e.symm)).trans (hb0.block k hk)
  have hfoot : ∀ k, Foot g eb v k → w'.heap[k]? = w.heap[k]? := fun k hk => hbk k (hp.gm.lt k hk) (fun e => hnf k e hk)
  refine ⟨v, (hp.bel.trans (hb0.mono hle)).grown hg (by simp; omega) (fun k hk => (hroB k hk).1), hp.gm.keep hfoot, hp.gB, fun i hi => ?_, hp.pos, by omega, fun p hpx => ?_, fun p hpy => ?_⟩
  · rw [World.cell?_of_block (w := w) (hbk 0 (Nat.lt_of_lt_of_le hp.pos hle) (fun e => by have := (hroB 0 e).1; have := hp.pos; omega))]
    exact hp.tab i hi
  · obtain ⟨e1, e2⟩ := hp.ext p hpx
    exact ⟨e1.keep (by omega) (fun k hk hlt => hbk k hlt (fun e => hx p hpx k e hk)), fun k hk => ⟨by have := (e2 k hk).1; omega, (e2 k hk).2⟩⟩
  · have hfar : ∀ k, blkOf qa2 = some k → ¬ Foot g eb v k := by
      intro k hk hF
      rcases hf with e | ⟨_, e⟩
      · exact hnf k (by rw [← e]; exact hk) hF
      · have h1 := e k hk
        have h2 := hp.gm.lt k hF
        simp at h1
        omega
    rcases List.mem_cons.1 hpy with rfl | hpy
    · exact ⟨hq2, fun _ k hk => ⟨(hro2 k hk).2, hfar k hk⟩⟩
    · rw [List.mem_singleton] at hpy
      subst hpy
      obtain ⟨e1, e2⟩ := hp.req _ (List.mem_singleton.2 rfl)
      refine ⟨?_, fun h0 k hk => ⟨by have := (hroB k hk).2; omega, hnf k hk⟩⟩
      rcases hf with e | ⟨e, _⟩
      · have e3 : qa2 = qa := addr_same (own_addr hown2) (own_addr ho) e
        rw [e3] at hq2
        have := hq2.take Q.length
        rwa [List.take_left] at this
      · exact e1.keep (by omega) (fun k hk hlt => (e.block k (by simp; omega) (by simp)).trans (hb0.block k hlt))
/-- 'append(q, more)'. -/
theorem wpList_oneQ {ops : Array Oper} {rest : List Oper} {o : Oper} {a : Act} {Q' : Exit → Act → World → Prop} (h : OX B w0 w g eb n es X qa cap Q) (hgd : o.guard = none) (s x : Operand)
    (ho : o.op = .call { callee := .builtin .append, args := #[s, x], argTypes := #[23, 23] }) (rt wt pr : Int) (m : Nat) (hm : Q.length = m) (hm6 : m ≤ 1000000)
    (hs : a.eval s = .slice qa m cap) (hx : a.eval x = .slice (some ⟨w.heap.size, 0, none⟩) 1 1)
    (hk : ∀ qa2 c2 w', PX B w0 w' g eb n es X [(qa2, Q ++ [(rt, wt, pr)]), (qa, Q)] → wpList Tryd.prog ops Q' rest (a.put o.dst (.slice qa2 (m + 1) c2)) w') : wpList Tryd.prog ops Q' (o :: rest) a (w.alloc (.cells #[.int .i64 rt, .int .i64 wt, .int .i64 pr] 49)) := by
  subst hm
  obtain ⟨i0, hi, hz0, hz1, hz2⟩ := info_parts info49
  have hle := h.px.le
  have h' := h
  obtain ⟨v, hp⟩ := h
  obtain ⟨v', w', hr, h2, h3, h4⟩ := run_append_two (P := Tryd.prog) (w.alloc (.cells #[.int .i64 rt, .int .i64 wt, .int .i64 pr] 49)) B 23 o.type 49 i0 _ 3 24 Tryd.underlying23 hi hz0 hz1 hz2 rfl (by decide) (.slice qa Q.length cap) Q.length (qcells Q) (hp.own.alloc _) ⟨w.heap.size, 0, none⟩ 1 1 [.int .i64 rt, .int .i64 wt, .int .i64 pr] rfl (World.news_of_block (heap_alloc_at rfl _)) (by simp [Value.oneCell']) (by unfold maxLen; omega) (by omega) (by simp; omega)
  obtain ⟨qa2, c2, rfl⟩ := own_form h2
  have hP := h'.app (q := (rt, wt, pr)) h2 h3 h4
  refine wpList_plain hgd fun K hK => ?_
  unfold Oper.wp execOp
  simp only [ho, resolve, invoke, builtin, Sem.run_bind, Sem.run_pure, Result.andThen_ok, List.map_toArray, List.map_cons, List.map_nil, hs, hx, hr]
  exact hK _ _ (hk _ _ _ hP)
end
end Go.Proofs.YtmeeimfjibcncaaDoor
