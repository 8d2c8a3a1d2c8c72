/- Two rows that grow: pairs and numbers. -/
import Derived.Test.YtipkgoghodkbfaaDoorCln
namespace Go.Proofs.YtipkgoghodkbfaaDoor
open Go.RowKit
open M
set_option linter.unusedVariables false
set_option linter.unusedSimpArgs false

section
variable {P : Program} (w : World)
theorem wp_append_tell {o : Oper} {a : Act} {K : Act → World → Prop} {Q : Exit → Act → World → Prop} (s x : Operand) (t : TypeId)
    (ho : o.op = .call { callee := .builtin .append, args := #[s, x], argTypes := #[t, t] })
    (base : Nat) (e : TypeId) (i : TypeInfo) (z : Value) (size bytes : Nat) (ht : P.underlying t = some (.slice e)) (hi : P.info? e = some i) (hz : i.zero = some z)
    (hsize : i.size = size) (hby : i.bytes = bytes) (hzs : z.cells.size = size) (hsz : 0 < size)
    (v : Value) (n : Nat) (xs : List Value) (hs : a.eval s = v) (hown : w.ownsRow base e size v n xs)
    (ad : Addr) (m c : Nat) (news : List Value) (hx : a.eval x = .slice (some ad) m c) (hl : news.length = m * size) (hnews : ∀ j u, news[j]? = some u → w.cell? (ad.add j) = some u) (h1 : ∀ u ∈ news, u.oneCell' = true)
    (h63 : n + m ≤ maxLen) (hbytes : (n + m) * bytes ≤ 140737488355328) (hbase : base ≤ w.heap.size)
    (h : ∀ v' w', w'.ownsRow base e size v' (n + m) (xs ++ news) → w.grownBy w' v.ownBlock → Fresh w v v' → K (a.put o.dst v') w') : o.wp P a w K Q := by
  obtain ⟨v', w', hr, h2, h3, h4⟩ := run_append_tell (P := P) w base t o.type e i z size bytes ht hi hz hsize hby hzs hsz v n xs hown ad m c news hl hnews h1 h63 hbytes hbase
  unfold Oper.wp execOp
  simp only [ho, resolve, invoke, builtin, Sem.run_bind, Sem.run_pure, Result.andThen_ok, List.map_toArray, List.map_cons, List.map_nil, hs, hx, hr]
  exact h v' w' h2 h3 h4
end
/-- Pairs of numbers as cells. -/
def icells : List (Int × Int) → List Value
  | [] => []
  | (x, y) :: r => .int .i64 x :: .int .i64 y :: icells r
theorem icells_len (l : List (Int × Int)) : (icells l).length = l.length * 2 := by
  induction l with
  | nil => rfl
  | cons e r ih => obtain ⟨x, y⟩ := e; simp [icells, ih]; omega
theorem icells_app (a b : List (Int × Int)) : icells (a ++ b) = icells a ++ icells b := by
  induction a with
  | nil => rfl
  | cons e r ih => obtain ⟨x, y⟩ := e; simp [icells, ih]
theorem icells_at (es : List (Int × Int)) : ∀ i (h : i < es.length), (icells es)[i * 2]? = some (.int .i64 es[i].1) ∧ (icells es)[i * 2 + 1]? = some (.int .i64 es[i].2) := by
  induction es with
  | nil => intro i h; simp at h
  | cons e r ih =>
    obtain ⟨x, y⟩ := e
    intro i h
    cases i with
    | zero => exact ⟨rfl, rfl⟩
    | succ i =>
      obtain ⟨p, q⟩ := ih i (by simpa using h)
      rw [show (i + 1) * 2 = i * 2 + 1 + 1 by omega]
      simp only [icells, List.getElem_cons_succ, List.getElem?_cons_succ]
      exact ⟨p, q⟩
theorem own_lin {w : World} {base T : Nat} {v : Value} {l : List (Int × Int)} (h : w.ownsRow base T 2 v l.length (icells l)) : ∃ ao cap, v = .slice ao l.length cap ∧ LIn w ao l := by
  rcases h.2 with ⟨rfl, hz⟩ | ⟨r, cap, cur, rfl, hb, hg, _⟩
  · exact ⟨none, 0, by rw [hz], fun i hi => by omega⟩
  · refine ⟨some ⟨r, 0, none⟩, cap, rfl, fun i hi => ⟨r, 0, rfl, block_lt hg, ?_, ?_⟩⟩
    · have := h.cells (g := r) rfl (i * 2) _ (icells_at l i hi).1
      simpa [Addr.add_lit] using this
    · have := h.cells (g := r) rfl (i * 2 + 1) _ (icells_at l i hi).2
      simpa [Addr.add_lit, Nat.add_assoc] using this

structure R2 (T B : Nat) (W0 W : World) (u v : Value) (U : List (Int × Int)) (O : List Int) : Prop where
  bel : Below B W0 W
  le : B ≤ W.heap.size
  o1 : W.ownsRow B T 2 u U.length (icells U)
  o2 : OwnZ W B v O
  ap : ∀ k, u.ownBlock = some k → v.ownBlock ≠ some k
section
variable {T B : Nat} {W0 W W' Wa w2 : World} {u v u' v' : Value} {U : List (Int × Int)} {O : List Int}
theorem R2.step (h : R2 T B W0 W u v U O) (hb : Below W.heap.size W W') : R2 T B W0 W' u v U O :=
  ⟨h.bel.trans (hb.mono h.le), Nat.le_trans h.le hb.size, owns_below h.o1 hb, owns_below h.o2 hb, h.ap⟩
theorem R2.start (w : World) (T : Nat) : R2 T w.heap.size w w (.slice none 0 0) (.slice none 0 0) [] [] :=
  ⟨Below.refl _ _, Nat.le_refl _, World.ownsRow_nil _ _ _ _, ownz_nil _ _, fun k hk => by simp [Value.ownBlock] at hk⟩
theorem R2.put1 (h : R2 T B W0 W u v U O) (hb : Below W.heap.size W Wa) {a b : Int} (hown : w2.ownsRow B T 2 u' (U.length + 1) (icells U ++ [.int .i64 a, .int .i64 b])) (hg : Wa.grownBy w2 u.ownBlock) (hf : Fresh Wa u u') :
    R2 T B W0 w2 u' v (U ++ [(a, b)]) O := by
  have hs := hb.size
  have hv : ∀ k, v.ownBlock = some k → k < W.heap.size := fun k hk => (h.o2.lt k hk).2
  refine ⟨(h.bel.trans (hb.mono h.le)).grown hg (Nat.le_trans h.le hs) (fun k hk => (h.o1.lt k hk).1), Nat.le_trans h.le (Nat.le_trans hs hg.size), ?_, ?_, ?_⟩
  · rw [icells_app, List.length_append]
    exact hown
  · refine owns_keep h.o2 (fun k hk => ?_)
    rw [hg.block k (Nat.lt_of_lt_of_le (hv k hk) hs) (fun e => h.ap k e.symm hk), hb.block k (hv k hk)]
  · intro k hk hk2
    rcases hf with q | ⟨j, q1, q2⟩
    · exact h.ap k (by rw [← q]; exact hk) hk2
    · rw [q1] at hk; cases hk; have := hv _ hk2; omega
theorem R2.put2 (h : R2 T B W0 W u v U O) (hb : Below W.heap.size W Wa) {x : Int} (hown : w2.ownsRow B 3 1 v' (O.length + 1) (O.map (fun x => Value.int .i64 x) ++ [.int .i64 x])) (hg : Wa.grownBy w2 v.ownBlock) (hf : Fresh Wa v v') :
    R2 T B W0 w2 u v' U (O ++ [x]) := by
  have hs := hb.size
  have hv : ∀ k, u.ownBlock = some k → k < W.heap.size := fun k hk => (h.o1.lt k hk).2
  refine ⟨(h.bel.trans (hb.mono h.le)).grown hg (Nat.le_trans h.le hs) (fun k hk => (h.o2.lt k hk).1), Nat.le_trans h.le (Nat.le_trans hs hg.size), ?_, ownz_snoc hown, ?_⟩
  · refine owns_keep h.o1 (fun k hk => ?_)
    rw [hg.block k (Nat.lt_of_lt_of_le (hv k hk) hs) (fun e => h.ap k hk e.symm), hb.block k (hv k hk)]
  · intro k hk hk2
    rcases hf with q | ⟨j, q1, q2⟩
    · exact h.ap k hk (by rw [← q]; exact hk2)
    · rw [q1] at hk2; cases hk2; have := hv _ hk; omega
end
end Go.Proofs.YtipkgoghodkbfaaDoor
