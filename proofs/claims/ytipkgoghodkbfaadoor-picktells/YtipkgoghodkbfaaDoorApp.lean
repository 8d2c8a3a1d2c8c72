/- append onto a row of one's own, told where the row lies behind it; a store into a block. -/
import Derived.Test.YtipkgoghodkbfaaDoorMem
import Derived.OwnWalk
namespace Go.Proofs.YtipkgoghodkbfaaDoor
open Go.RowKit
open M
set_option linter.unusedVariables false
set_option linter.unusedSimpArgs false

/-- Behind an append: in the old row, or in a new one. -/
def Fresh (w : World) (v v' : Value) : Prop := v'.ownBlock = v.ownBlock ∨ ∃ k, v'.ownBlock = some k ∧ w.heap.size ≤ k

section
variable {P : Program} (w : World)
theorem run_append_tell (base : Nat) (t ty e : TypeId) (i : TypeInfo) (z : Value) (size bytes : Nat) (ht : P.underlying t = some (.slice e)) (hi : P.info? e = some i) (hz : i.zero = some z)
    (hsize : i.size = size) (hby : i.bytes = bytes) (hzs : z.cells.size = size) (hsz : 0 < size)
    (v : Value) (n : Nat) (xs : List Value) (hown : w.ownsRow base e size v n xs)
    (a : Addr) (m c : Nat) (news : List Value) (hl : news.length = m * size) (hnews : ∀ j u, news[j]? = some u → w.cell? (a.add j) = some u) (h1 : ∀ u ∈ news, u.oneCell' = true)
    (h63 : n + m ≤ maxLen) (hbytes : (n + m) * bytes ≤ 140737488355328) (hbase : base ≤ w.heap.size) :
    ∃ v' w', (Builtin.append_ #[t, t] ty #[v, .slice (some a) m c]).run P w = .ok v' w' ∧ w'.ownsRow base e size v' (n + m) (xs ++ news) ∧ w.grownBy w' v.ownBlock ∧ Fresh w v v' := by
  obtain ⟨v', w', hr, h2, h3, _⟩ := run_append_own (P := P) w base t ty e i z size bytes ht hi hz hsize hby hzs hsz v n xs hown a m c news hl hnews h1 h63 hbytes hbase
  refine ⟨v', w', hr, h2, h3, ?_⟩
  have far : ∀ v2 w2, (Builtin.append_ #[t, t] ty #[v, .slice (some a) m c]).run P w = .ok v2 w2 → w2.ownsRow w.heap.size e size v2 (n + m) (xs ++ news) → (v.ownBlock = none ∨ ∃ k, v2.ownBlock = some k) → Fresh w v v' := by
    intro v2 w2 hr2 k2 hv
    have he := hr.symm.trans hr2
    have e1 : v' = v2 := by injection he
    subst e1
    cases hb : v'.ownBlock with
    | none =>
      rcases hv with hv | ⟨k, hk⟩
      · exact .inl (by rw [hv, hb])
      · rw [hb] at hk; cases hk
    | some k => exact .inr ⟨k, hb, (k2.lt k hb).1⟩
  rcases hown.2 with ⟨rfl, rfl⟩ | ⟨g, cap, cur, rfl, hbg, hg, hnc, hcm, hcs, htake⟩
  · have hx : xs = [] := List.eq_nil_of_length_eq_zero (by simpa using hown.1)
    subst hx
    obtain ⟨v2, w2, hr2, k2, _, _⟩ := run_append_own (P := P) w w.heap.size t ty e i z size bytes ht hi hz hsize hby hzs hsz (.slice none 0 0) 0 [] (World.ownsRow_nil w _ e size) a m c news hl hnews h1 h63 hbytes (Nat.le_refl _)
    exact far v2 w2 hr2 k2 (.inl rfl)
  · by_cases hroom : n + m ≤ cap
    · subst hsize
      have hfit : n * i.size + news.length ≤ cur.size := by rw [hl, hcs, ← Nat.add_mul]; exact Nat.mul_le_mul_right _ hroom
      have hr2 := run_append_room (P := P) w t ty e i ht hi g n cap cur hg a m c news hl hnews h1 hroom hfit
      have he := hr.symm.trans hr2
      have e1 : v' = .slice (some ⟨g, 0, none⟩) (n + m) cap := by injection he
      subst e1
      exact .inl rfl
    · obtain ⟨v2, w2, hr2, k2, _⟩ := run_append_arg_grows (P := P) w t ty e i z size bytes ht hi hz hsize hby hzs hsz ⟨g, 0, none⟩ n cap xs hown.1 (hown.cells (g := g) rfl) a m c news hl hnews (by omega) h63 hbytes
      refine far v2 w2 hr2 k2 (.inr ?_)
      rcases k2.2 with ⟨rfl, hz0⟩ | ⟨g2, c2, cur2, rfl, _⟩
      · omega
      · exact ⟨g2, rfl⟩

theorem wpList_append_tell {ops : Array Oper} {rest : List Oper} {o : Oper} {a : Act} {Q : Exit → Act → World → Prop} (hgd : o.guard = none) (s x : Operand) (t : TypeId)
    (ho : o.op = .call { callee := .builtin .append, args := #[s, x], argTypes := #[t, t] })
    (base : Nat) (e : TypeId) (i : TypeInfo) (z : Value) (size bytes : Nat) (ht : P.underlying t = some (.slice e)) (hi : P.info? e = some i) (hz : i.zero = some z)
    (hsize : i.size = size) (hby : i.bytes = bytes) (hzs : z.cells.size = size) (hsz : 0 < size)
    (v : Value) (n : Nat) (xs : List Value) (hs : a.eval s = v) (hown : w.ownsRow base e size v n xs)
    (ad : Addr) (m c : Nat) (news : List Value) (hx : a.eval x = .slice (some ad) m c) (hl : news.length = m * size) (hnews : ∀ j u, news[j]? = some u → w.cell? (ad.add j) = some u) (h1 : ∀ u ∈ news, u.oneCell' = true)
    (h63 : n + m ≤ maxLen) (hbytes : (n + m) * bytes ≤ 140737488355328) (hbase : base ≤ w.heap.size)
    (h : ∀ v' w', w'.ownsRow base e size v' (n + m) (xs ++ news) → w.grownBy w' v.ownBlock → Fresh w v v' → wpList P ops Q rest (a.put o.dst v') w') : wpList P ops Q (o :: rest) a w := by
  obtain ⟨v', w', hr, h2, h3, h4⟩ := run_append_tell (P := P) w base t o.type e i z size bytes ht hi hz hsize hby hzs hsz v n xs hown ad m c news hl hnews h1 h63 hbytes hbase
  refine wpList_plain hgd fun K hK => ?_
  unfold Oper.wp execOp
  simp only [ho, resolve, invoke, builtin, Sem.run_bind, Sem.run_pure, Result.andThen_ok, List.map_toArray, List.map_cons, List.map_nil, hs, hx, hr]
  exact hK _ _ (h v' w' h2 h3 h4)
end

theorem heap_alloc_at {w : World} {b : Nat} (h : w.heap.size = b) (o : Obj) : (w.alloc o).heap[b]? = some o := by subst h; exact heap_alloc_new w o
theorem heap_setCell_at {w : World} {g o : Nat} {cur : Array Value} {t : TypeId} {fr : Nat × Nat} (h : w.heap[g]? = some (.cells cur t fr)) (u : Value) : (w.setCell ⟨g, o, none⟩ u).heap[g]? = some (.cells (cur.setIfInBounds o u) t fr) := by
  simp [World.setCell, Array.getElem?_modify, h]

theorem info68 : (Tryd.prog.info? 68).map (fun i => (i.zero, i.size, i.bytes)) = some (some (.agg #[.int .i64 0, .int .i64 0]), 2, 16) := by kernel_rfl
theorem info3 : (Tryd.prog.info? 3).map (fun i => (i.zero, i.size, i.bytes)) = some (some (.int .i64 0), 1, 8) := by kernel_rfl

/-- A new edge, in memory. -/
theorem gm_add {w w1 w2 : World} {g eb n : Nat} {v v' : Value} {es : List E} {a b : Nat} {o : Obj} (h : GM w g eb n v es) (hb : Below w.heap.size w w1) (ha : a < n) (hbn : b < n) (hne : (a, b) ∉ es)
    (hown : w2.ownsRow 0 68 2 v' (es.length + 1) (ecells es ++ [.int .i64 a, .int .i64 b])) (hg : (w1.alloc o).grownBy w2 v.ownBlock) (hf : Fresh (w1.alloc o) v v') :
    GM ((w2.setCell ⟨g, 0, none⟩ v').setCell ⟨eb, a, none⟩ (.int .u64 ((mask es a ||| 2 ^ b : Nat) : Int))) g eb n v' (es ++ [(a, b)]) ∧ Turn (Foot g eb v) w ((w2.setCell ⟨g, 0, none⟩ v').setCell ⟨eb, a, none⟩ (.int .u64 ((mask es a ||| 2 ^ b : Nat) : Int))) ∧ Fresh w v v' := by
  have hs1 : w.heap.size ≤ w1.heap.size := hb.size
  have hlt := h.lt
  have hgl := hlt g (.inl rfl)
  have hel := hlt eb (.inr (.inl rfl))
  have hf' : Fresh w v v' := by
    rcases hf with q | ⟨k, q1, q2⟩
    · exact .inl q
    · exact .inr ⟨k, q1, by simp at q2; omega⟩
  have b1 : ∀ k, k < w.heap.size → v.ownBlock ≠ some k → w2.heap[k]? = w.heap[k]? := fun k hk hn => by
    rw [hg.block k (by simp; omega) (fun e => hn e.symm), Below.heap_alloc _ _ _ (by omega), hb.block k hk]
  have k1 := b1 g hgl h.ng
  have k2 := b1 eb hel h.nb
  have ng' : v'.ownBlock ≠ some g := by
    rcases hf' with q | ⟨k, q1, q2⟩
    · rw [q]; exact h.ng
    · rw [q1]; intro e; cases e; omega
  have nb' : v'.ownBlock ≠ some eb := by
    rcases hf' with q | ⟨k, q1, q2⟩
    · rw [q]; exact h.nb
    · rw [q1]; intro e; cases e; omega
  refine ⟨⟨?_, ?_, ?_, h.ne, ng', nb', h.hn, ?_, ?_⟩, ?_, hf'⟩
  · rw [Below.heap_setCell _ _ _ _ h.ne]
    have := heap_setCell_at (o := 0) (k1.trans h.blk) v'
    simpa using this
  · have q : (w2.setCell ⟨g, 0, none⟩ v').heap[eb]? = some (.cells (endsRow es n) 65) := by
      rw [Below.heap_setCell _ _ _ _ (fun e => h.ne e.symm)]; exact k2.trans h.ends
    rw [heap_setCell_at (o := a) q, endsRow_snoc es n a b ha]
  · refine owns_keep (w := w2) ?_ (fun k hk => ?_)
    · rw [ecells_app, List.length_append]
      exact hown
    · rw [Below.heap_setCell _ _ _ _ (fun e => nb' (by rw [hk, e])), Below.heap_setCell _ _ _ _ (fun e => ng' (by rw [hk, e]))]
  · intro e he
    rcases List.mem_append.1 he with q | q
    · exact h.good e q
    · simp at q; subst q; exact ⟨ha, hbn⟩
  · rw [List.nodup_append]
    refine ⟨h.nd, by simp, fun x hx y hy => ?_⟩
    simp at hy
    subst hy
    intro e
    subst e
    exact hne hx
  · refine Turn.setCell (Turn.setCell (Turn.grown ((Turn.of_below hb).alloc _) hg (fun k hk => .inl (.inr (.inr hk)))) (.inl (.inl rfl)) _) (.inl (.inr (.inl rfl))) _
end Go.Proofs.YtipkgoghodkbfaaDoor
