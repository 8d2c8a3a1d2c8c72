/- ParseLines: the walk. -/
import Derived.Test.YtgjfhfjmdkhllaaDoorFew
import Derived.Test.YtgjfhfjmdkhllaaDoorLnsM
import Derived.Test.YtgjfhfjmdkhllaaDoorBakC
import Derived.Deep.AppendLies
import Derived.Deep.Upon
import Derived.Deep.DeepCutAuto
import Derived.Deep.RegionLaw
import Derived.BigQuiet
namespace Go.Proofs.YtgjfhfjmdkhllaaDoor
open Go.RowKit
open M
set_option linter.unusedVariables false
set_option linter.unusedSimpArgs false

/-- The worlds of ParseLines: the file's variable, and the operation's. -/
structure LW (w W : World) (fc oc : Array Value) : Prop where
  bel : Below w.heap.size w W
  fb : W.heap[w.heap.size]? = some (.cells fc 29 (0, 0))
  ob : W.heap[w.heap.size + 1]? = some (.cells oc 46 (0, 0))
theorem LW.below {w W W' : World} {fc oc : Array Value} (h : LW w W fc oc) (hb : Below W.heap.size W W') : LW w W' fc oc :=
  ⟨h.bel.trans (hb.mono h.bel.size), by rw [hb.block _ (block_lt h.fb)]; exact h.fb, by rw [hb.block _ (block_lt h.ob)]; exact h.ob⟩


theorem bcell {W w1 : World} (hb : Below W.heap.size W w1) : (∀ b o, b < W.heap.size → w1.cell? ⟨b, o, none⟩ = W.cell? ⟨b, o, none⟩) ∧ (∀ b o, b < W.heap.size → w1.frozen? ⟨b, o, none⟩ = W.frozen? ⟨b, o, none⟩) :=
  ⟨fun b o h => hb.cell (p := ⟨b, o, none⟩) h, fun b o h => hb.frozen (p := ⟨b, o, none⟩) h⟩
/-- What the statement with the two appends leaves. -/
structure RegEnd (w W W6 : World) (G : Nat) (os : List Oz) (o : Oz) (gc fc oc : Array Value) (g2 : Nat) : Prop where
  lw : LW w W fc oc
  gb : W.heap[G]? = some (.cells gc 29 (0, 0))
  os : OpsIn W (some ⟨g2, 0, none⟩) (os ++ [o])

theorem RegEnd.below {w W W' W6 : World} {G g2 : Nat} {os : List Oz} {o : Oz} {gc fc oc : Array Value} (h : RegEnd w W W6 G os o gc fc oc g2) (hb : Below W.heap.size W W') : RegEnd w W' W6 G os o gc fc oc g2 :=
  ⟨h.lw.below hb, by rw [hb.block _ (block_lt h.gb)]; exact h.gb, h.os.below hb (Nat.le_refl _)⟩
theorem RegEnd.mk3 {w W6 w3 : World} {G g2 c2 t1 t2 : Nat} {g : Fl} {o : Oz} {x0 x1 x2 x3 x4 x5 x6 x7 x8 x9 : Int} {ta oa : Option Addr} {tc oc : Nat} (hL6 : LW w W6 #[.int .i64 x0, .int .i64 x1, .int .i64 x2, .int .i64 x3, .int .i64 x4, .int .i64 x5, .int .i64 x6, .int .i64 x7, .int .i64 x8, .int .i64 x9, .slice ta t1 tc, .slice oa t2 oc] #[.int .i64 o.kind, .int .i64 o.a, .int .i64 o.b, .int .i64 o.c, .int .i64 o.d]) (hG6 : W6.heap[G]? = some (.cells #[.int .i64 x0, .int .i64 x1, .int .i64 x2, .int .i64 x3, .int .i64 x4, .int .i64 x5, .int .i64 x6, .int .i64 x7, .int .i64 x8, .int .i64 x9, .slice ta t1 tc, .slice oa t2 oc] 29 (0, 0))) (hx1 : w.heap.size + 1 < G) (hB3 : Below W6.heap.size W6 w3) (hl2 : g.ops.length = t2)
    (hown2 : w3.ownsRow W6.heap.size 46 5 (.slice (some ⟨g2, 0, none⟩) (t2 + 1) c2) (t2 + 1) (opCells g.ops ++ [.int .i64 o.kind, .int .i64 o.a, .int .i64 o.b, .int .i64 o.c, .int .i64 o.d])) :
    RegEnd w (w3.setCell ⟨G, 11, none⟩ (.slice (some ⟨g2, 0, none⟩) (t2 + 1) c2)) W6 G g.ops o #[.int .i64 x0, .int .i64 x1, .int .i64 x2, .int .i64 x3, .int .i64 x4, .int .i64 x5, .int .i64 x6, .int .i64 x7, .int .i64 x8, .int .i64 x9, .slice ta t1 tc, .slice (some ⟨g2, 0, none⟩) (t2 + 1) c2] #[.int .i64 x0, .int .i64 x1, .int .i64 x2, .int .i64 x3, .int .i64 x4, .int .i64 x5, .int .i64 x6, .int .i64 x7, .int .i64 x8, .int .i64 x9, .slice ta t1 tc, .slice oa t2 oc] #[.int .i64 o.kind, .int .i64 o.a, .int .i64 o.b, .int .i64 o.c, .int .i64 o.d] g2 := by
  have hG3 : w3.heap[G]? = some (.cells #[.int .i64 x0, .int .i64 x1, .int .i64 x2, .int .i64 x3, .int .i64 x4, .int .i64 x5, .int .i64 x6, .int .i64 x7, .int .i64 x8, .int .i64 x9, .slice ta t1 tc, .slice oa t2 oc] 29 (0, 0)) := by rw [hB3.block _ (block_lt hG6)]; exact hG6
  have hL3 : LW w w3 #[.int .i64 x0, .int .i64 x1, .int .i64 x2, .int .i64 x3, .int .i64 x4, .int .i64 x5, .int .i64 x6, .int .i64 x7, .int .i64 x8, .int .i64 x9, .slice ta t1 tc, .slice oa t2 oc] #[.int .i64 o.kind, .int .i64 o.a, .int .i64 o.b, .int .i64 o.c, .int .i64 o.d] := hL6.below hB3
  have hs := Joins.block_setCell (i := 11) hG3 (.slice (some ⟨g2, 0, none⟩) (t2 + 1) c2)
  refine ⟨⟨hL3.bel.setCell (p := ⟨G, 11, none⟩) (by show w.heap.size ≤ G; omega) _, ?_, ?_⟩, hs, ?_⟩
  · rw [Below.heap_setCell _ _ _ _ (by show w.heap.size ≠ G; omega)]; exact hL3.fb
  · rw [Below.heap_setCell _ _ _ _ (by show w.heap.size + 1 ≠ G; omega)]; exact hL3.ob
  · have h2 := own_set hown2 hG3 (by decide) 11 (.slice (some ⟨g2, 0, none⟩) (t2 + 1) c2)
    have e1 : opCells g.ops ++ [.int .i64 o.kind, .int .i64 o.a, .int .i64 o.b, .int .i64 o.c, .int .i64 o.d] = opCells (g.ops ++ [o]) := by simp [opCells, opA]
    have e2 : t2 + 1 = (g.ops ++ [o]).length := by simp [hl2]
    rw [e1] at h2
    generalize w3.setCell ⟨G, 11, none⟩ (.slice (some ⟨g2, 0, none⟩) (t2 + 1) c2) = W at *
    rw [e2] at h2
    exact ops_own h2

/-- append of nothing, at a step of a region that draws. -/
theorem step_append_none {P : Program} {w : World} {ops : Array Oper} {o : Oper} {a : Act} {K : Act → World → Prop} {Q : Exit → Act → World → Prop} {E : Prop} (hgd : o.guard = none) (s x : Operand) (t : TypeId)
    (ho : o.op = .call { callee := .builtin .append, args := #[s, x], argTypes := #[t, t] }) (v xv : Value) (hs : a.eval s = v) (hx : a.eval x = xv)
    (hr : ∀ ty, (Builtin.append_ #[t, t] ty #[v, xv]).run P w = .ok v w) (h : K (a.put o.dst v) w) :
    if Region.wanted o (yielded ops a.tmps) = true then Oper.wp P o a w K Q else E := by
  have hw : Region.wanted o (yielded ops a.tmps) = true := by simp [Region.wanted, hgd]
  rw [if_pos hw]
  unfold Oper.wp execOp
  simp only [ho, resolve, invoke, builtin, Sem.run_bind, Sem.run_pure, Result.andThen_ok, List.map_toArray, List.map_cons, List.map_nil, hs, hx, hr]
  exact h
theorem append_none (w : World) (ty : TypeId) (G : Addr) (oa : Option Addr) (oc : Nat) : (Builtin.append_ #[27, 27] ty #[.slice (some G) 0 0, .slice oa 0 oc]).run Tryd.prog w = .ok (.slice (some G) 0 0) w := by
  obtain ⟨i5, hi5, hz0, hz1, hz2⟩ := info_parts info46
  have hsrc : Src Tryd.prog i5.size 27 (.slice oa 0 oc) 0 [] w := ⟨.inl ⟨46, Tryd.underlying27⟩, fun _ => by simp [Builtin.lenOf], by cases oa <;> simp [Builtin.firstCells, loadCells, loadCellsFrom], by cases oa <;> simp [Builtin.firstCells, loadCells, loadCellsFrom], by simp, fun u hu => by simp at hu⟩
  exact run_append_nothing w 27 27 ty 46 i5 Tryd.underlying27 hi5 (some G) 0 0 (Nat.le_refl _) _ hsrc

theorem below_drewS {B : Nat} {a w : World} (h : Below B a w) (q : Nat) : Below B a (w.drewN q) := ⟨h.os, h.tape, h.output, h.size, h.block⟩
theorem byte_at {S : ByteArray} {l : List UInt8} (h : S.data.toList = l) (i : Nat) (hi : i < S.size) (c : UInt8) (hc : l[i]? = some c) : S[i] = c := by
  subst h
  have e : S.data.toList[i]? = some S[i] := by rw [List.getElem?_eq_getElem (by simpa using hi)]; rfl
  rw [e] at hc
  exact Option.some.inj hc
theorem ba_list' (S : ByteArray) : S = ⟨S.data.toList.toArray⟩ := ba_of rfl
theorem opCells_at : ∀ (os : List Oz) (j : Nat) (u : Value), (opCells os)[j]? = some u → ∃ (i : Nat) (hi : i < os.length), (j = i * 5 ∧ u = .int .i64 os[i].kind) ∨ (j = i * 5 + 1 ∧ u = .int .i64 os[i].a) ∨ (j = i * 5 + 2 ∧ u = .int .i64 os[i].b) ∨ (j = i * 5 + 3 ∧ u = .int .i64 os[i].c) ∨ (j = i * 5 + 4 ∧ u = .int .i64 os[i].d)
  | [], j, u, h => by simp [opCells] at h
  | o :: os, j, u, h => by
    have e : opCells (o :: os) = [.int .i64 o.kind, .int .i64 o.a, .int .i64 o.b, .int .i64 o.c, .int .i64 o.d] ++ opCells os := by simp [opCells, opA]
    rw [e] at h
    by_cases hj : j < 5
    · refine ⟨0, by simp, ?_⟩
      have : j = 0 ∨ j = 1 ∨ j = 2 ∨ j = 3 ∨ j = 4 := by omega
      rcases this with rfl | rfl | rfl | rfl | rfl <;> simp at h <;> simp [h]
    · rw [List.getElem?_append_right (by simp; omega)] at h
      obtain ⟨i, hi, hh⟩ := opCells_at os (j - 5) u (by simpa using h)
      refine ⟨i + 1, by simp; omega, ?_⟩
      simp only [List.getElem_cons_succ]
      rcases hh with ⟨e1, e2⟩ | ⟨e1, e2⟩ | ⟨e1, e2⟩ | ⟨e1, e2⟩ | ⟨e1, e2⟩
      · exact .inl ⟨by omega, e2⟩
      · exact .inr (.inl ⟨by omega, e2⟩)
      · exact .inr (.inr (.inl ⟨by omega, e2⟩))
      · exact .inr (.inr (.inr (.inl ⟨by omega, e2⟩)))
      · exact .inr (.inr (.inr (.inr ⟨by omega, e2⟩)))
theorem opsIn_news {W : World} {b off : Nat} {os : List Oz} (h : OpsIn W (some ⟨b, off, none⟩) os) : ∀ j u, (opCells os)[j]? = some u → W.cell? ((⟨b, off, none⟩ : Addr).add j) = some u := by
  intro j u hj
  rw [Addr.add_lit]
  obtain ⟨i, hi, hh⟩ := opCells_at os j u hj
  obtain ⟨b2, o2, hq, _, c0, c1, c2, c3, c4⟩ := h i hi
  cases hq
  rcases hh with ⟨rfl, rfl⟩ | ⟨rfl, rfl⟩ | ⟨rfl, rfl⟩ | ⟨rfl, rfl⟩ | ⟨rfl, rfl⟩
  · exact c0
  · rw [← Nat.add_assoc]; exact c1
  · rw [← Nat.add_assoc]; exact c2
  · rw [← Nat.add_assoc]; exact c3
  · rw [← Nat.add_assoc]; exact c4
theorem opCells_len (os : List Oz) : (opCells os).length = os.length * 5 := by
  induction os with
  | nil => rfl
  | cons o os ih => simp [opCells, opA] at *; omega
theorem opCells_one (os : List Oz) : ∀ u ∈ opCells os, u.oneCell' = true := by
  intro u hu
  obtain ⟨j, hj, rfl⟩ := List.getElem_of_mem hu
  obtain ⟨i, hi, hh⟩ := opCells_at os j _ (List.getElem?_eq_getElem hj)
  rcases hh with ⟨_, e⟩ | ⟨_, e⟩ | ⟨_, e⟩ | ⟨_, e⟩ | ⟨_, e⟩ <;> rw [e] <;> rfl

set_option maxRecDepth 1000000 in
set_option maxHeartbeats 2000000 in
theorem lines_none (x0 x1 x2 x3 x4 x5 x6 x7 x8 x9 : Int) (f : Fl) (ta oa : Option Addr) (tc oc : Nat) (w : World) (v : Value) (hT : Tabs w) (hI : InF w v f x0 x1 x2 x3 x4 x5 x6 x7 x8 x9 ta oa tc oc) (o : Oz) (hno : textF (fewF f) = none) :
    Calls Tryd.prog 7 #[v, .agg #[.int .i64 o.kind, .int .i64 o.a, .int .i64 o.b, .int .i64 o.c, .int .i64 o.d]] w fun e w' => e = .returned (.bool true) ∧ Below w.heap.size w w' := by
  obtain ⟨rfl, hcf, hti0, hoi0, ⟨tl1, tl2⟩, ⟨ol1, ol2⟩, _, _, _⟩ := hI
  obtain ⟨hg1, hg2⟩ := fewF_len f
  have hgc : (fewF f).cfg = [x0, x1, x2, x3, x4, x5, x6, x7, x8, x9] := hcf
  have hti : TasksIn w ta (fewF f).tasks := hti0.take 70
  have hoi : OpsIn w oa (fewF f).ops := hoi0.take 200
  have hm1 : (fewF f).tasks.length ≤ 70 := by omega
  have hm2 : (fewF f).ops.length ≤ 200 := by omega
  have hL0 : LW w ((w.alloc (.cells #[.int .i64 x0, .int .i64 x1, .int .i64 x2, .int .i64 x3, .int .i64 x4, .int .i64 x5, .int .i64 x6, .int .i64 x7, .int .i64 x8, .int .i64 x9, .slice ta f.tasks.length tc, .slice oa f.ops.length oc] 29)).alloc (.cells #[.int .i64 o.kind, .int .i64 o.a, .int .i64 o.b, .int .i64 o.c, .int .i64 o.d] 46)) #[.int .i64 x0, .int .i64 x1, .int .i64 x2, .int .i64 x3, .int .i64 x4, .int .i64 x5, .int .i64 x6, .int .i64 x7, .int .i64 x8, .int .i64 x9, .slice ta f.tasks.length tc, .slice oa f.ops.length oc] #[.int .i64 o.kind, .int .i64 o.a, .int .i64 o.b, .int .i64 o.c, .int .i64 o.d] := ⟨Joins.below_alloc2 w _ _, by rw [Below.heap_alloc _ _ _ (by simp)]; exact heap_alloc_new w _, heap_alloc2_new w _ _⟩
  have kS : Calls Tryd.prog 9 #[] ((w.alloc (.cells #[.int .i64 x0, .int .i64 x1, .int .i64 x2, .int .i64 x3, .int .i64 x4, .int .i64 x5, .int .i64 x6, .int .i64 x7, .int .i64 x8, .int .i64 x9, .slice ta f.tasks.length tc, .slice oa f.ops.length oc] 29)).alloc (.cells #[.int .i64 o.kind, .int .i64 o.a, .int .i64 o.b, .int .i64 o.c, .int .i64 o.d] 46)) fun e w1 => e = .returned (.bool true) ∧ Hid (LW w w1 #[.int .i64 x0, .int .i64 x1, .int .i64 x2, .int .i64 x3, .int .i64 x4, .int .i64 x5, .int .i64 x6, .int .i64 x7, .int .i64 x8, .int .i64 x9, .slice ta f.tasks.length tc, .slice oa f.ops.length oc] #[.int .i64 o.kind, .int .i64 o.a, .int .i64 o.b, .int .i64 o.c, .int .i64 o.d]) := by
    refine (shown_any _ (hT.on hL0.bel hT.big)).mono ?_
    rintro e w1 ⟨rfl, hb⟩
    exact ⟨rfl, hL0.below hb⟩
  have kF : ∀ w1, LW w w1 #[.int .i64 x0, .int .i64 x1, .int .i64 x2, .int .i64 x3, .int .i64 x4, .int .i64 x5, .int .i64 x6, .int .i64 x7, .int .i64 x8, .int .i64 x9, .slice ta f.tasks.length tc, .slice oa f.ops.length oc] #[.int .i64 o.kind, .int .i64 o.a, .int .i64 o.b, .int .i64 o.c, .int .i64 o.d] → Calls Tryd.prog 13 #[.agg #[.int .i64 x0, .int .i64 x1, .int .i64 x2, .int .i64 x3, .int .i64 x4, .int .i64 x5, .int .i64 x6, .int .i64 x7, .int .i64 x8, .int .i64 x9, .slice ta f.tasks.length tc, .slice oa f.ops.length oc]] w1 fun e w2 => e = .returned (.agg #[.int .i64 x0, .int .i64 x1, .int .i64 x2, .int .i64 x3, .int .i64 x4, .int .i64 x5, .int .i64 x6, .int .i64 x7, .int .i64 x8, .int .i64 x9, .slice ta (fewF f).tasks.length tc, .slice oa (fewF f).ops.length oc]) ∧ Hid (LW w w2 #[.int .i64 x0, .int .i64 x1, .int .i64 x2, .int .i64 x3, .int .i64 x4, .int .i64 x5, .int .i64 x6, .int .i64 x7, .int .i64 x8, .int .i64 x9, .slice ta f.tasks.length tc, .slice oa f.ops.length oc] #[.int .i64 o.kind, .int .i64 o.a, .int .i64 o.b, .int .i64 o.c, .int .i64 o.d]) := fun w1 h1 => by
    rw [hg1, hg2]
    refine (few_any x0 x1 x2 x3 x4 x5 x6 x7 x8 x9 f.tasks.length f.ops.length ta oa tc oc w1 tl1 ol1 tl2 ol2).mono ?_
    rintro e w2 ⟨rfl, hb⟩
    exact ⟨rfl, h1.below hb⟩
  have hfO : (fewF f).ops.length ≤ 4096 := by omega
  have hR := hno
  clear hno
  generalize fewF f = g at *
  clear hg1 hg2 hti0 hoi0 hcf hL0
  generalize f.tasks.length = n1 at *
  generalize f.ops.length = n2 at *
  clear tl1 tl2 ol1 ol2
  have kT : ∀ w2, LW w w2 #[.int .i64 x0, .int .i64 x1, .int .i64 x2, .int .i64 x3, .int .i64 x4, .int .i64 x5, .int .i64 x6, .int .i64 x7, .int .i64 x8, .int .i64 x9, .slice ta n1 tc, .slice oa n2 oc] #[.int .i64 o.kind, .int .i64 o.a, .int .i64 o.b, .int .i64 o.c, .int .i64 o.d] → Calls Tryd.prog 14 #[.agg #[.int .i64 x0, .int .i64 x1, .int .i64 x2, .int .i64 x3, .int .i64 x4, .int .i64 x5, .int .i64 x6, .int .i64 x7, .int .i64 x8, .int .i64 x9, .slice ta g.tasks.length tc, .slice oa g.ops.length oc]] (put12 w2 w.heap.size (.int .i64 x0) (.int .i64 x1) (.int .i64 x2) (.int .i64 x3) (.int .i64 x4) (.int .i64 x5) (.int .i64 x6) (.int .i64 x7) (.int .i64 x8) (.int .i64 x9) (.slice ta g.tasks.length tc) (.slice oa g.ops.length oc)) fun e w4 => e = .returned (.tuple #[.string ⟨#[]⟩, .int .i64 1]) ∧ Hid (LW w w4 #[.int .i64 x0, .int .i64 x1, .int .i64 x2, .int .i64 x3, .int .i64 x4, .int .i64 x5, .int .i64 x6, .int .i64 x7, .int .i64 x8, .int .i64 x9, .slice ta g.tasks.length tc, .slice oa g.ops.length oc] #[.int .i64 o.kind, .int .i64 o.a, .int .i64 o.b, .int .i64 o.c, .int .i64 o.d]) := fun w2 h1 => by
    obtain ⟨p1, p2⟩ := put_file (Nat.le_refl _) h1.bel h1.fb (.int .i64 x0) (.int .i64 x1) (.int .i64 x2) (.int .i64 x3) (.int .i64 x4) (.int .i64 x5) (.int .i64 x6) (.int .i64 x7) (.int .i64 x8) (.int .i64 x9) (.slice ta g.tasks.length tc) (.slice oa g.ops.length oc)
    have p3 : (put12 w2 w.heap.size (.int .i64 x0) (.int .i64 x1) (.int .i64 x2) (.int .i64 x3) (.int .i64 x4) (.int .i64 x5) (.int .i64 x6) (.int .i64 x7) (.int .i64 x8) (.int .i64 x9) (.slice ta g.tasks.length tc) (.slice oa g.ops.length oc)).heap[w.heap.size + 1]? = some (.cells #[.int .i64 o.kind, .int .i64 o.a, .int .i64 o.b, .int .i64 o.c, .int .i64 o.d] 46 (0, 0)) := by rw [(put12_only w2 w.heap.size (.int .i64 x0) (.int .i64 x1) (.int .i64 x2) (.int .i64 x3) (.int .i64 x4) (.int .i64 x5) (.int .i64 x6) (.int .i64 x7) (.int .i64 x8) (.int .i64 x9) (.slice ta g.tasks.length tc) (.slice oa g.ops.length oc)).block _ (by omega)]; exact h1.ob
    refine (text_no x0 x1 x2 x3 x4 x5 x6 x7 x8 x9 g hgc ta oa tc oc _ (hT.on p2 hT.big) (hti.below p2 (Nat.le_refl _)) (hoi.below p2 (Nat.le_refl _)) hfO hR).mono ?_
    rintro e w4 ⟨rfl, hb⟩
    exact ⟨rfl, LW.below ⟨p2, p1, p3⟩ hb⟩
  clear hgc hti hoi hR
  go_enter Tryd.func7, Tryd.ntmps7
  go_wp2_with (first | (go_at_call 9; refine kS.mono ?_; rintro e w1 ⟨rfl, hL1⟩; obtain ⟨a0, a1, a2, a3, a4, a5, a6, a7, a8, a9, a10, a11, fz⟩ := cells12 hL1.out.fb) | (go_at_call 13; refine (kF w1 hL1.out).mono ?_; rintro e w2 ⟨rfl, hL2⟩; clear a0 a1 a2 a3 a4 a5 a6 a7 a8 a9 a10 a11 fz; obtain ⟨a0, a1, a2, a3, a4, a5, a6, a7, a8, a9, a10, a11, fz⟩ := cells12 hL2.out.fb) | (go_at_call 14; refine (kT w2 hL2.out).mono ?_; rintro e w4 ⟨rfl, hL4⟩; clear a0 a1 a2 a3 a4 a5 a6 a7 a8 a9 a10 a11 fz))
  go_ret
  exact ⟨rfl, hL4.out.bel⟩

set_option maxRecDepth 1000000 in
set_option maxHeartbeats 2000000 in
theorem lines_some (x0 x1 x2 x3 x4 x5 x6 x7 x8 x9 : Int) (f : Fl) (ta oa : Option Addr) (tc oc : Nat) (w : World) (v : Value) (hT : Tabs w) (hI : InF w v f x0 x1 x2 x3 x4 x5 x6 x7 x8 x9 ta oa tc oc) (o : Oz) (r : List UInt8) (hno : textF (fewF f) = some r) :
    Calls Tryd.prog 7 #[v, .agg #[.int .i64 o.kind, .int .i64 o.a, .int .i64 o.b, .int .i64 o.c, .int .i64 o.d]] w fun e w' => e = .returned (.bool true) ∧ Below w.heap.size w w' := by
  obtain ⟨rfl, hcf, hti0, hoi0, ⟨tl1, tl2⟩, ⟨ol1, ol2⟩, _, _, _⟩ := hI
  obtain ⟨hg1, hg2⟩ := fewF_len f
  have hgc : (fewF f).cfg = [x0, x1, x2, x3, x4, x5, x6, x7, x8, x9] := hcf
  have hti : TasksIn w ta (fewF f).tasks := hti0.take 70
  have hoi : OpsIn w oa (fewF f).ops := hoi0.take 200
  have hm1 : (fewF f).tasks.length ≤ 70 := by omega
  have hm2 : (fewF f).ops.length ≤ 200 := by omega
  have hL0 : LW w ((w.alloc (.cells #[.int .i64 x0, .int .i64 x1, .int .i64 x2, .int .i64 x3, .int .i64 x4, .int .i64 x5, .int .i64 x6, .int .i64 x7, .int .i64 x8, .int .i64 x9, .slice ta f.tasks.length tc, .slice oa f.ops.length oc] 29)).alloc (.cells #[.int .i64 o.kind, .int .i64 o.a, .int .i64 o.b, .int .i64 o.c, .int .i64 o.d] 46)) #[.int .i64 x0, .int .i64 x1, .int .i64 x2, .int .i64 x3, .int .i64 x4, .int .i64 x5, .int .i64 x6, .int .i64 x7, .int .i64 x8, .int .i64 x9, .slice ta f.tasks.length tc, .slice oa f.ops.length oc] #[.int .i64 o.kind, .int .i64 o.a, .int .i64 o.b, .int .i64 o.c, .int .i64 o.d] := ⟨Joins.below_alloc2 w _ _, by rw [Below.heap_alloc _ _ _ (by simp)]; exact heap_alloc_new w _, heap_alloc2_new w _ _⟩
  have kS : Calls Tryd.prog 9 #[] ((w.alloc (.cells #[.int .i64 x0, .int .i64 x1, .int .i64 x2, .int .i64 x3, .int .i64 x4, .int .i64 x5, .int .i64 x6, .int .i64 x7, .int .i64 x8, .int .i64 x9, .slice ta f.tasks.length tc, .slice oa f.ops.length oc] 29)).alloc (.cells #[.int .i64 o.kind, .int .i64 o.a, .int .i64 o.b, .int .i64 o.c, .int .i64 o.d] 46)) fun e w1 => e = .returned (.bool true) ∧ Hid (LW w w1 #[.int .i64 x0, .int .i64 x1, .int .i64 x2, .int .i64 x3, .int .i64 x4, .int .i64 x5, .int .i64 x6, .int .i64 x7, .int .i64 x8, .int .i64 x9, .slice ta f.tasks.length tc, .slice oa f.ops.length oc] #[.int .i64 o.kind, .int .i64 o.a, .int .i64 o.b, .int .i64 o.c, .int .i64 o.d]) := by
    refine (shown_any _ (hT.on hL0.bel hT.big)).mono ?_
    rintro e w1 ⟨rfl, hb⟩
    exact ⟨rfl, hL0.below hb⟩
  have kF : ∀ w1, LW w w1 #[.int .i64 x0, .int .i64 x1, .int .i64 x2, .int .i64 x3, .int .i64 x4, .int .i64 x5, .int .i64 x6, .int .i64 x7, .int .i64 x8, .int .i64 x9, .slice ta f.tasks.length tc, .slice oa f.ops.length oc] #[.int .i64 o.kind, .int .i64 o.a, .int .i64 o.b, .int .i64 o.c, .int .i64 o.d] → Calls Tryd.prog 13 #[.agg #[.int .i64 x0, .int .i64 x1, .int .i64 x2, .int .i64 x3, .int .i64 x4, .int .i64 x5, .int .i64 x6, .int .i64 x7, .int .i64 x8, .int .i64 x9, .slice ta f.tasks.length tc, .slice oa f.ops.length oc]] w1 fun e w2 => e = .returned (.agg #[.int .i64 x0, .int .i64 x1, .int .i64 x2, .int .i64 x3, .int .i64 x4, .int .i64 x5, .int .i64 x6, .int .i64 x7, .int .i64 x8, .int .i64 x9, .slice ta (fewF f).tasks.length tc, .slice oa (fewF f).ops.length oc]) ∧ Hid (LW w w2 #[.int .i64 x0, .int .i64 x1, .int .i64 x2, .int .i64 x3, .int .i64 x4, .int .i64 x5, .int .i64 x6, .int .i64 x7, .int .i64 x8, .int .i64 x9, .slice ta f.tasks.length tc, .slice oa f.ops.length oc] #[.int .i64 o.kind, .int .i64 o.a, .int .i64 o.b, .int .i64 o.c, .int .i64 o.d]) := fun w1 h1 => by
    rw [hg1, hg2]
    refine (few_any x0 x1 x2 x3 x4 x5 x6 x7 x8 x9 f.tasks.length f.ops.length ta oa tc oc w1 tl1 ol1 tl2 ol2).mono ?_
    rintro e w2 ⟨rfl, hb⟩
    exact ⟨rfl, h1.below hb⟩
  have hfO : (fewF f).ops.length ≤ 4096 := by omega
  have hR := hno
  clear hno
  generalize fewF f = g at *
  clear hg1 hg2 hti0 hoi0 hcf hL0
  generalize f.tasks.length = n1 at *
  generalize f.ops.length = n2 at *
  clear tl1 tl2 ol1 ol2
  have kT : ∀ w2, LW w w2 #[.int .i64 x0, .int .i64 x1, .int .i64 x2, .int .i64 x3, .int .i64 x4, .int .i64 x5, .int .i64 x6, .int .i64 x7, .int .i64 x8, .int .i64 x9, .slice ta n1 tc, .slice oa n2 oc] #[.int .i64 o.kind, .int .i64 o.a, .int .i64 o.b, .int .i64 o.c, .int .i64 o.d] → Calls Tryd.prog 14 #[.agg #[.int .i64 x0, .int .i64 x1, .int .i64 x2, .int .i64 x3, .int .i64 x4, .int .i64 x5, .int .i64 x6, .int .i64 x7, .int .i64 x8, .int .i64 x9, .slice ta g.tasks.length tc, .slice oa g.ops.length oc]] (put12 w2 w.heap.size (.int .i64 x0) (.int .i64 x1) (.int .i64 x2) (.int .i64 x3) (.int .i64 x4) (.int .i64 x5) (.int .i64 x6) (.int .i64 x7) (.int .i64 x8) (.int .i64 x9) (.slice ta g.tasks.length tc) (.slice oa g.ops.length oc)) fun e w4 => e = .returned (.tuple #[.string ⟨r.toArray⟩, .int .i64 0]) ∧ Hid (LW w w4 #[.int .i64 x0, .int .i64 x1, .int .i64 x2, .int .i64 x3, .int .i64 x4, .int .i64 x5, .int .i64 x6, .int .i64 x7, .int .i64 x8, .int .i64 x9, .slice ta g.tasks.length tc, .slice oa g.ops.length oc] #[.int .i64 o.kind, .int .i64 o.a, .int .i64 o.b, .int .i64 o.c, .int .i64 o.d]) := fun w2 h1 => by
    obtain ⟨p1, p2⟩ := put_file (Nat.le_refl _) h1.bel h1.fb (.int .i64 x0) (.int .i64 x1) (.int .i64 x2) (.int .i64 x3) (.int .i64 x4) (.int .i64 x5) (.int .i64 x6) (.int .i64 x7) (.int .i64 x8) (.int .i64 x9) (.slice ta g.tasks.length tc) (.slice oa g.ops.length oc)
    have p3 : (put12 w2 w.heap.size (.int .i64 x0) (.int .i64 x1) (.int .i64 x2) (.int .i64 x3) (.int .i64 x4) (.int .i64 x5) (.int .i64 x6) (.int .i64 x7) (.int .i64 x8) (.int .i64 x9) (.slice ta g.tasks.length tc) (.slice oa g.ops.length oc)).heap[w.heap.size + 1]? = some (.cells #[.int .i64 o.kind, .int .i64 o.a, .int .i64 o.b, .int .i64 o.c, .int .i64 o.d] 46 (0, 0)) := by rw [(put12_only w2 w.heap.size (.int .i64 x0) (.int .i64 x1) (.int .i64 x2) (.int .i64 x3) (.int .i64 x4) (.int .i64 x5) (.int .i64 x6) (.int .i64 x7) (.int .i64 x8) (.int .i64 x9) (.slice ta g.tasks.length tc) (.slice oa g.ops.length oc)).block _ (by omega)]; exact h1.ob
    refine (text_some x0 x1 x2 x3 x4 x5 x6 x7 x8 x9 g hgc ta oa tc oc _ (hT.on p2 hT.big) (hti.below p2 (Nat.le_refl _)) (hoi.below p2 (Nat.le_refl _)) r hR).mono ?_
    rintro e w4 ⟨rfl, hb⟩
    exact ⟨rfl, LW.below ⟨p2, p1, p3⟩ hb⟩
  have hsR0 : (⟨r.toArray⟩ : ByteArray).data.toList = r := by simp
  have hsR1 := ba_size hsR0
  generalize (⟨r.toArray⟩ : ByteArray) = sR at *
  have HSR := hide_it hsR0
  have HSZ := hide_it hsR1
  clear hsR0 hsR1
  generalize hl1 : g.tasks.length = t1 at *
  generalize hl2 : g.ops.length = t2 at *
  go_enter Tryd.func7, Tryd.ntmps7
  go_wp2_with (first | (go_at_call 9; refine kS.mono ?_; rintro e w1 ⟨rfl, hL1⟩; obtain ⟨a0, a1, a2, a3, a4, a5, a6, a7, a8, a9, a10, a11, fz⟩ := cells12 hL1.out.fb) | (go_at_call 13; refine (kF w1 hL1.out).mono ?_; rintro e w2 ⟨rfl, hL2⟩; clear a0 a1 a2 a3 a4 a5 a6 a7 a8 a9 a10 a11 fz; obtain ⟨a0, a1, a2, a3, a4, a5, a6, a7, a8, a9, a10, a11, fz⟩ := cells12 hL2.out.fb) | (go_at_call 14; refine (kT w2 hL2.out).mono ?_; rintro e w4 ⟨rfl, hL4⟩; clear a0 a1 a2 a3 a4 a5 a6 a7 a8 a9 a10 a11 fz; obtain ⟨a0, a1, a2, a3, a4, a5, a6, a7, a8, a9, a10, a11, fz⟩ := cells12 hL4.out.fb; refine Hid.out ?_))
  refine hide_it ?_
  clear a0 a1 a2 a3 a4 a5 a6 a7 a8 a9 a10 a11 fz
  obtain ⟨p0, p1, p2, p3, p4⟩ := cells5 hL4.out.ob
  obtain ⟨a0, a1, a2, a3, a4, a5, a6, a7, a8, a9, a10, a11, fz⟩ := cells12 hL4.out.fb
  have hx1 := block_lt hL4.out.ob
  go_wp2
  clear a0 a1 a2 a3 a4 a5 a6 a7 a8 a9 a10 a11 fz p0 p1 p2 p3 p4
  obtain ⟨W6, hW6⟩ : ∃ W, W = w4.alloc (.cells #[.int .i64 x0, .int .i64 x1, .int .i64 x2, .int .i64 x3, .int .i64 x4, .int .i64 x5, .int .i64 x6, .int .i64 x7, .int .i64 x8, .int .i64 x9, .slice ta t1 tc, .slice oa t2 oc] 29) := ⟨_, rfl⟩
  have hL6 : Hid (LW w W6 #[.int .i64 x0, .int .i64 x1, .int .i64 x2, .int .i64 x3, .int .i64 x4, .int .i64 x5, .int .i64 x6, .int .i64 x7, .int .i64 x8, .int .i64 x9, .slice ta t1 tc, .slice oa t2 oc] #[.int .i64 o.kind, .int .i64 o.a, .int .i64 o.b, .int .i64 o.c, .int .i64 o.d]) := by rw [hW6]; exact hL4.out.below ((Below.refl _ _).alloc (Nat.le_refl _) _)
  have hG6 : Hid (W6.heap[w4.heap.size]? = some (.cells #[.int .i64 x0, .int .i64 x1, .int .i64 x2, .int .i64 x3, .int .i64 x4, .int .i64 x5, .int .i64 x6, .int .i64 x7, .int .i64 x8, .int .i64 x9, .slice ta t1 tc, .slice oa t2 oc] 29 (0, 0))) := by rw [hW6]; exact heap_alloc_new w4 _
  rw [← hW6]
  clear hW6 kT kF kS hL4
  generalize w4.heap.size = G at *
  obtain ⟨p0, p1, p2, p3, p4⟩ := cells5 hL6.out.ob
  obtain ⟨a0, a1, a2, a3, a4, a5, a6, a7, a8, a9, a10, a11, fz⟩ := cells12 hL6.out.fb
  obtain ⟨b0, b1, b2, b3, b4, b5, b6, b7, b8, b9, b10, b11, gz⟩ := cells12 hG6.out
  have hxG := block_lt hG6.out
  have hx1' : w.heap.size + 1 < W6.heap.size := by omega
  have hx0' : w.heap.size < W6.heap.size := by omega
  have hoi6 : Hid (OpsIn W6 oa g.ops) := hoi.below hL6.out.bel (Nat.le_refl _)
  go_cut [] (fun wx => ∃ g2 c2, Hid (RegEnd w wx W6 G g.ops o #[.int .i64 x0, .int .i64 x1, .int .i64 x2, .int .i64 x3, .int .i64 x4, .int .i64 x5, .int .i64 x6, .int .i64 x7, .int .i64 x8, .int .i64 x9, .slice ta t1 tc, .slice (some ⟨g2, 0, none⟩) (t2 + 1) c2] #[.int .i64 x0, .int .i64 x1, .int .i64 x2, .int .i64 x3, .int .i64 x4, .int .i64 x5, .int .i64 x6, .int .i64 x7, .int .i64 x8, .int .i64 x9, .slice ta t1 tc, .slice oa t2 oc] #[.int .i64 o.kind, .int .i64 o.a, .int .i64 o.b, .int .i64 o.c, .int .i64 o.d] g2))
  case first =>
    by_cases ht2 : t2 = 0
    · subst ht2
      have hgn : g.ops = [] := List.eq_nil_of_length_eq_zero hl2
      obtain ⟨i5, hi5, hz0, hz1, hz2⟩ := info_parts info46
      have litA : (W6.drew.alloc (.cells #[] 46)).ownsRow W6.heap.size 46 5 (.slice (some ⟨W6.heap.size, 0, none⟩) 0 0) 0 [] := World.ownsRow_lit W6.drew #[] 0 (Nat.le_refl _) (Nat.zero_le _) rfl
      have litB : ((W6.drew.alloc (.cells #[] 46)).alloc (.cells #[.int .i64 o.kind, .int .i64 o.a, .int .i64 o.b, .int .i64 o.c, .int .i64 o.d] 46)).ownsRow W6.heap.size 46 5 (.slice (some ⟨W6.heap.size, 0, none⟩) 0 0) 0 [] := litA.alloc _
      have litC : ((W6.drew.alloc (.cells #[.int .i64 o.kind, .int .i64 o.a, .int .i64 o.b, .int .i64 o.c, .int .i64 o.d] 46)).alloc (.cells #[] 46)).ownsRow W6.heap.size 46 5 (.slice (some ⟨W6.heap.size + 1, 0, none⟩) 0 0) 0 [] := by
        have := World.ownsRow_lit (base := W6.heap.size) (e := 46) (size := 5) (W6.drew.alloc (.cells #[.int .i64 o.kind, .int .i64 o.a, .int .i64 o.b, .int .i64 o.c, .int .i64 o.d] 46)) #[] 0 (by simp) (Nat.zero_le _) rfl
        simpa using this
      have bD : Below W6.heap.size W6 W6.drew := (Below.refl _ _).drew
      have bA : Below W6.heap.size W6 (W6.drew.alloc (.cells #[] 46)) := bD.alloc (Nat.le_refl _) _
      have bB : Below W6.heap.size W6 ((W6.drew.alloc (.cells #[] 46)).alloc (.cells #[.int .i64 o.kind, .int .i64 o.a, .int .i64 o.b, .int .i64 o.c, .int .i64 o.d] 46)) := bA.alloc (by simp) _
      have bC : Below W6.heap.size W6 ((W6.drew.alloc (.cells #[.int .i64 o.kind, .int .i64 o.a, .int .i64 o.b, .int .i64 o.c, .int .i64 o.d] 46)).alloc (.cells #[] 46)) := (bD.alloc (Nat.le_refl _) _).alloc (by simp) _
      have h5B : ((W6.drew.alloc (.cells #[] 46)).alloc (.cells #[.int .i64 o.kind, .int .i64 o.a, .int .i64 o.b, .int .i64 o.c, .int .i64 o.d] 46)).heap[W6.heap.size + 1]? = some (.cells #[.int .i64 o.kind, .int .i64 o.a, .int .i64 o.b, .int .i64 o.c, .int .i64 o.d] 46 (0, 0)) := heap_alloc2_new W6.drew _ _
      have h5C : ((W6.drew.alloc (.cells #[.int .i64 o.kind, .int .i64 o.a, .int .i64 o.b, .int .i64 o.c, .int .i64 o.d] 46)).alloc (.cells #[] 46)).heap[W6.heap.size]? = some (.cells #[.int .i64 o.kind, .int .i64 o.a, .int .i64 o.b, .int .i64 o.c, .int .i64 o.d] 46 (0, 0)) := by rw [Below.heap_alloc _ _ _ (by simp)]; exact heap_alloc_new W6.drew _
      have LB' := hide_it litB
      have LC := hide_it litC
      have BB := hide_it bB
      have BC := hide_it bC
      have HB5 := hide_it h5B
      have HC5 := hide_it h5C
      clear litA litB litC bA bB bC h5B h5C bD
      go_region_law
        (first
          | (refine step_append_none (by rfl) _ _ _ (by rfl) (.slice (some ⟨W6.heap.size, 0, none⟩) 0 0) (.slice oa 0 oc) (by rfl) (by rfl) (fun ty => append_none _ ty _ oa oc) ?_)
          | (refine step_append_none (by rfl) _ _ _ (by rfl) (.slice (some ⟨W6.heap.size + 1, 0, none⟩) 0 0) (.slice oa 0 oc) (by rfl) (by rfl) (fun ty => append_none _ ty _ oa oc) ?_)
          | (refine step_append_lies _ (by rfl) _ _ _ (by rfl) W6.heap.size 46 i5 _ 5 40 Tryd.underlying27 hi5 hz0 hz1 hz2 rfl (by omega) (.slice (some ⟨W6.heap.size, 0, none⟩) 0 0) 0 [] (by rfl) LB'.out ⟨W6.heap.size + 1, 0, none⟩ 1 1 [.int .i64 o.kind, .int .i64 o.a, .int .i64 o.b, .int .i64 o.c, .int .i64 o.d] (by rfl) (by rfl) (World.news_of_block (cs := #[.int .i64 o.kind, .int .i64 o.a, .int .i64 o.b, .int .i64 o.c, .int .i64 o.d]) (t := 46) (fr := (0, 0)) HB5.out) (by simp [Value.oneCell']) (by omega) (by unfold maxLen; omega) (by omega) BB.out.size _ rfl ?_; intro g2 c2 w3 hown2 hgrow2 hat2 hlt2; (have hB3 : Below W6.heap.size W6 w3 := (BB.out.grown hgrow2 BB.out.size (fun q hq => (LB'.out.lt q hq).1))); (obtain ⟨hc3, hf3⟩ := bcell hB3))
          | (refine step_append_lies _ (by rfl) _ _ _ (by rfl) W6.heap.size 46 i5 _ 5 40 Tryd.underlying27 hi5 hz0 hz1 hz2 rfl (by omega) (.slice (some ⟨W6.heap.size + 1, 0, none⟩) 0 0) 0 [] (by rfl) LC.out ⟨W6.heap.size, 0, none⟩ 1 1 [.int .i64 o.kind, .int .i64 o.a, .int .i64 o.b, .int .i64 o.c, .int .i64 o.d] (by rfl) (by rfl) (World.news_of_block (cs := #[.int .i64 o.kind, .int .i64 o.a, .int .i64 o.b, .int .i64 o.c, .int .i64 o.d]) (t := 46) (fr := (0, 0)) HC5.out) (by simp [Value.oneCell']) (by omega) (by unfold maxLen; omega) (by omega) BC.out.size _ rfl ?_; intro g2 c2 w3 hown2 hgrow2 hat2 hlt2; (have hB3 : Below W6.heap.size W6 w3 := (BC.out.grown hgrow2 BC.out.size (fun q hq => (LC.out.lt q hq).1))); (obtain ⟨hc3, hf3⟩ := bcell hB3)))
      all_goals (go_wp2_with fail; go_meet)
      all_goals exact ⟨g2, c2, RegEnd.mk3 (t2 := 0) hL6.out hG6.out hx1 hB3 hl2 (by rw [hgn]; exact hown2)⟩
    · have ht2p : 0 < t2 := by omega
      obtain ⟨ob, oof, hoa, -, -⟩ := hoi6.out 0 (by rw [hl2]; exact ht2p)
      subst hoa
      obtain ⟨i5, hi5, hz0, hz1, hz2⟩ := info_parts info46
      have litA : (W6.drew.alloc (.cells #[] 46)).ownsRow W6.heap.size 46 5 (.slice (some ⟨W6.heap.size, 0, none⟩) 0 0) 0 [] := World.ownsRow_lit W6.drew #[] 0 (Nat.le_refl _) (Nat.zero_le _) rfl
      have litB : ((W6.drew.alloc (.cells #[] 46)).alloc (.cells #[.int .i64 o.kind, .int .i64 o.a, .int .i64 o.b, .int .i64 o.c, .int .i64 o.d] 46)).ownsRow W6.heap.size 46 5 (.slice (some ⟨W6.heap.size, 0, none⟩) 0 0) 0 [] := litA.alloc _
      have litC : ((W6.drew.alloc (.cells #[.int .i64 o.kind, .int .i64 o.a, .int .i64 o.b, .int .i64 o.c, .int .i64 o.d] 46)).alloc (.cells #[] 46)).ownsRow W6.heap.size 46 5 (.slice (some ⟨W6.heap.size + 1, 0, none⟩) 0 0) 0 [] := by
        have := World.ownsRow_lit (base := W6.heap.size) (e := 46) (size := 5) (W6.drew.alloc (.cells #[.int .i64 o.kind, .int .i64 o.a, .int .i64 o.b, .int .i64 o.c, .int .i64 o.d] 46)) #[] 0 (by simp) (Nat.zero_le _) rfl
        simpa using this
      have bD : Below W6.heap.size W6 W6.drew := (Below.refl _ _).drew
      have bA : Below W6.heap.size W6 (W6.drew.alloc (.cells #[] 46)) := bD.alloc (Nat.le_refl _) _
      have bB : Below W6.heap.size W6 ((W6.drew.alloc (.cells #[] 46)).alloc (.cells #[.int .i64 o.kind, .int .i64 o.a, .int .i64 o.b, .int .i64 o.c, .int .i64 o.d] 46)) := bA.alloc (by simp) _
      have bC : Below W6.heap.size W6 ((W6.drew.alloc (.cells #[.int .i64 o.kind, .int .i64 o.a, .int .i64 o.b, .int .i64 o.c, .int .i64 o.d] 46)).alloc (.cells #[] 46)) := (bD.alloc (Nat.le_refl _) _).alloc (by simp) _
      have nw : ∀ W, Below W6.heap.size W6 W → ∀ j u, (opCells g.ops)[j]? = some u → W.cell? ((⟨ob, oof, none⟩ : Addr).add j) = some u := fun W hW => opsIn_news (hoi6.out.below hW (Nat.le_refl _))
      have h5B : ((W6.drew.alloc (.cells #[] 46)).alloc (.cells #[.int .i64 o.kind, .int .i64 o.a, .int .i64 o.b, .int .i64 o.c, .int .i64 o.d] 46)).heap[W6.heap.size + 1]? = some (.cells #[.int .i64 o.kind, .int .i64 o.a, .int .i64 o.b, .int .i64 o.c, .int .i64 o.d] 46 (0, 0)) := heap_alloc2_new W6.drew _ _
      have h5C : ((W6.drew.alloc (.cells #[.int .i64 o.kind, .int .i64 o.a, .int .i64 o.b, .int .i64 o.c, .int .i64 o.d] 46)).alloc (.cells #[] 46)).heap[W6.heap.size]? = some (.cells #[.int .i64 o.kind, .int .i64 o.a, .int .i64 o.b, .int .i64 o.c, .int .i64 o.d] 46 (0, 0)) := by rw [Below.heap_alloc _ _ _ (by simp)]; exact heap_alloc_new W6.drew _
      have hlc : (opCells g.ops).length = t2 * 5 := by rw [opCells_len, hl2]
      have hone := opCells_one g.ops
      have LA := hide_it litA
      have LB' := hide_it litB
      have LC := hide_it litC
      have BA := hide_it bA
      have BB := hide_it bB
      have BC := hide_it bC
      have NW := hide_it nw
      have HB5 := hide_it h5B
      have HC5 := hide_it h5C
      have HLC := hide_it hlc
      have HON := hide_it hone
      clear litA litB litC bA bB bC nw h5B h5C hlc hone bD
      go_region_law
        (first
          | (refine step_append_lies _ (by rfl) _ _ _ (by rfl) W6.heap.size 46 i5 _ 5 40 Tryd.underlying27 hi5 hz0 hz1 hz2 rfl (by omega) (.slice (some ⟨W6.heap.size, 0, none⟩) 0 0) 0 [] (by rfl) (by first | exact LA.out | exact LB'.out) ⟨ob, oof, none⟩ t2 oc (opCells g.ops) (by rfl) HLC.out (by first | exact NW.out _ BA.out | exact NW.out _ BB.out) HON.out ht2p (by unfold maxLen; omega) (by omega) (by first | exact BA.out.size | exact BB.out.size) _ rfl ?_; intro gg cg w2 hown1 hgrow hat hlt; (rw [Nat.zero_add, List.nil_append] at hown1); (have hB2 : Below W6.heap.size W6 w2 := (by first | exact BA.out.grown hgrow BA.out.size (fun q hq => (LA.out.lt q hq).1) | exact BB.out.grown hgrow BB.out.size (fun q hq => (LB'.out.lt q hq).1))); (obtain ⟨hc2, hf2⟩ := bcell hB2); (have hs2 := hB2.size))
          | (refine step_append_lies _ (by rfl) _ _ _ (by rfl) W6.heap.size 46 i5 _ 5 40 Tryd.underlying27 hi5 hz0 hz1 hz2 rfl (by omega) (.slice (some ⟨W6.heap.size + 1, 0, none⟩) 0 0) 0 [] (by rfl) (by first | exact LC.out) ⟨ob, oof, none⟩ t2 oc (opCells g.ops) (by rfl) HLC.out (by first | exact NW.out _ BC.out) HON.out ht2p (by unfold maxLen; omega) (by omega) (by first | exact BC.out.size) _ rfl ?_; intro gg cg w2 hown1 hgrow hat hlt; (rw [Nat.zero_add, List.nil_append] at hown1); (have hB2 : Below W6.heap.size W6 w2 := (by first | exact BC.out.grown hgrow BC.out.size (fun q hq => (LC.out.lt q hq).1))); (obtain ⟨hc2, hf2⟩ := bcell hB2); (have hs2 := hB2.size))
          | (refine step_append_lies _ (by rfl) _ _ _ (by rfl) W6.heap.size 46 i5 _ 5 40 Tryd.underlying27 hi5 hz0 hz1 hz2 rfl (by omega) (.slice (some ⟨gg, 0, none⟩) t2 cg) t2 (opCells g.ops) (by rfl) (hown1.alloc _) ⟨w2.heap.size, 0, none⟩ 1 1 [.int .i64 o.kind, .int .i64 o.a, .int .i64 o.b, .int .i64 o.c, .int .i64 o.d] (by rfl) (by rfl) (World.news_of_block (cs := #[.int .i64 o.kind, .int .i64 o.a, .int .i64 o.b, .int .i64 o.c, .int .i64 o.d]) (t := 46) (fr := (0, 0)) (heap_alloc_new w2 _)) (by simp [Value.oneCell']) (by omega) (by unfold maxLen; omega) (by omega) (by simp; omega) _ rfl ?_; intro g2 c2 w3 hown2 hgrow2 hat2 hlt2; (have hB3 : Below W6.heap.size W6 w3 := ((hB2.alloc hs2 _).grown hgrow2 (by simp; omega) (fun q hq => (hown1.lt q hq).1))); (obtain ⟨hc3, hf3⟩ := bcell hB3))
          | (refine step_append_lies _ (by rfl) _ _ _ (by rfl) W6.heap.size 46 i5 _ 5 40 Tryd.underlying27 hi5 hz0 hz1 hz2 rfl (by omega) (.slice (some ⟨gg, 0, none⟩) t2 cg) t2 (opCells g.ops) (by rfl) hown1 ⟨W6.heap.size + 1, 0, none⟩ 1 1 [.int .i64 o.kind, .int .i64 o.a, .int .i64 o.b, .int .i64 o.c, .int .i64 o.d] (by rfl) (by rfl) (World.news_of_block (cs := #[.int .i64 o.kind, .int .i64 o.a, .int .i64 o.b, .int .i64 o.c, .int .i64 o.d]) (t := 46) (fr := (0, 0)) (by rw [hgrow.block _ (by first | (simp; done) | (simp; omega)) (by simp [Value.ownBlock])]; exact HB5.out)) (by simp [Value.oneCell']) (by omega) (by unfold maxLen; omega) (by omega) hs2 _ rfl ?_; intro g2 c2 w3 hown2 hgrow2 hat2 hlt2; (have hB3 : Below W6.heap.size W6 w3 := (hB2.grown hgrow2 hs2 (fun q hq => (hown1.lt q hq).1))); (obtain ⟨hc3, hf3⟩ := bcell hB3))
          | (refine step_append_lies _ (by rfl) _ _ _ (by rfl) W6.heap.size 46 i5 _ 5 40 Tryd.underlying27 hi5 hz0 hz1 hz2 rfl (by omega) (.slice (some ⟨gg, 0, none⟩) t2 cg) t2 (opCells g.ops) (by rfl) hown1 ⟨W6.heap.size, 0, none⟩ 1 1 [.int .i64 o.kind, .int .i64 o.a, .int .i64 o.b, .int .i64 o.c, .int .i64 o.d] (by rfl) (by rfl) (World.news_of_block (cs := #[.int .i64 o.kind, .int .i64 o.a, .int .i64 o.b, .int .i64 o.c, .int .i64 o.d]) (t := 46) (fr := (0, 0)) (by rw [hgrow.block _ (by first | (simp; done) | (simp; omega)) (by simp [Value.ownBlock])]; exact HC5.out)) (by simp [Value.oneCell']) (by omega) (by unfold maxLen; omega) (by omega) hs2 _ rfl ?_; intro g2 c2 w3 hown2 hgrow2 hat2 hlt2; (have hB3 : Below W6.heap.size W6 w3 := (hB2.grown hgrow2 hs2 (fun q hq => (hown1.lt q hq).1))); (obtain ⟨hc3, hf3⟩ := bcell hB3)))
      all_goals (go_wp2_with fail; go_meet)
      all_goals exact ⟨g2, c2, RegEnd.mk3 hL6.out hG6.out hx1 hB3 hl2 hown2⟩
  case rest =>
    obtain ⟨g2, c2, hE⟩ := hcut
    clear a0 a1 a2 a3 a4 a5 a6 a7 a8 a9 a10 a11 b0 b1 b2 b3 b4 b5 b6 b7 b8 b9 b10 b11 fz gz p0 p1 p2 p3 p4 hL6 hG6 hoi6 hx1' hx0' hxG
    obtain ⟨a0, a1, a2, a3, a4, a5, a6, a7, a8, a9, a10, a11, fz⟩ := cells12 hE.out.gb
    have e1 : (addO g o).tasks.length = t1 := hl1
    have e2 : (addO g o).ops.length = t2 + 1 := by simp [addO, hl2]
    have htw : ∀ W, Below w.heap.size w W → TasksIn W ta (addO g o).tasks := fun W hW => hti.below hW (Nat.le_refl _)
    cases hR2 : textF (addO g o) with
    | none =>
      have kT2 : Calls Tryd.prog 14 #[.agg #[.int .i64 x0, .int .i64 x1, .int .i64 x2, .int .i64 x3, .int .i64 x4, .int .i64 x5, .int .i64 x6, .int .i64 x7, .int .i64 x8, .int .i64 x9, .slice ta t1 tc, .slice (some ⟨g2, 0, none⟩) (t2 + 1) c2]] wc fun e w8 => e = .returned (.tuple #[.string ⟨#[]⟩, .int .i64 1]) ∧ Hid (Below w.heap.size w w8) := by
        have h := text_no x0 x1 x2 x3 x4 x5 x6 x7 x8 x9 (addO g o) hgc ta (some ⟨g2, 0, none⟩) tc c2 wc (hT.on hE.out.lw.bel hT.big) (htw _ hE.out.lw.bel) hE.out.os (by rw [e2]; omega) hR2
        rw [e1, e2] at h
        refine h.mono ?_
        rintro e w8 ⟨rfl, hb⟩
        exact ⟨rfl, hE.out.lw.bel.trans (hb.mono hE.out.lw.bel.size)⟩
      clear e1 e2 htw hR2 hR hgc hti hoi hl1 hl2
      go_wp2_with (go_at_call 14; refine kT2.mono ?_; rintro e w8 ⟨rfl, hB8⟩)
      go_ret
      exact ⟨rfl, hB8.out⟩
    | some t =>
      obtain ⟨l, htl, hl10, ⟨q, hq⟩, hll, hrl, hpt⟩ := text_more (by rw [hgc]; rfl) (by omega) hR hR2
      have hlpos : 0 < l.length := by rw [hq]; simp
      have htlen : t.length = r.length + l.length := by rw [htl]; simp
      have hsT : (⟨t.toArray⟩ : ByteArray).data.toList = t := by simp
      have hsT1 := ba_size hsT
      have hszT : (⟨t.toArray⟩ : ByteArray).size = sR.size + l.length := by rw [hsT1, htlen, HSZ.out]
      have hpre : (⟨t.toArray⟩ : ByteArray).extract 0 sR.size = sR := by
        refine (ba_of (l := r) ?_).trans (ba_of HSR.out).symm
        rw [ByteArray.data_extract, Array.toList_extract, hsT, HSZ.out, htl]
        simp
      have hat : ∀ (j : Nat) (hj : j < l.length) (hi : sR.size + j < (⟨t.toArray⟩ : ByteArray).size), (⟨t.toArray⟩ : ByteArray)[sR.size + j] = l[j] := by
        intro j hj hi
        refine byte_at hsT _ hi _ ?_
        rw [htl, HSZ.out, List.getElem?_append_right (by omega)]
        simp [hj]
      have hlast : ∀ (i : Nat) (hi : i < (⟨t.toArray⟩ : ByteArray).size), i + 1 = (⟨t.toArray⟩ : ByteArray).size → (⟨t.toArray⟩ : ByteArray)[i] = 10 := by
        intro i hi he
        refine byte_at hsT _ hi _ ?_
        have hql : q.length + 1 = l.length := by rw [hq]; simp
        rw [htl, List.getElem?_append_right (by have := HSZ.out; omega), hq, List.getElem?_append_right (by have := HSZ.out; omega)]
        have : i - r.length - q.length = 0 := by have := HSZ.out; omega
        rw [this]
        rfl
      obtain ⟨capX, wFX, hcvX, hprX⟩ := conv_all ⟨t.toArray⟩ t rfl (by omega)
      have HPX := hide_it hprX
      have HPT := hide_it (hpt (by omega))
      have kT2 : Calls Tryd.prog 14 #[.agg #[.int .i64 x0, .int .i64 x1, .int .i64 x2, .int .i64 x3, .int .i64 x4, .int .i64 x5, .int .i64 x6, .int .i64 x7, .int .i64 x8, .int .i64 x9, .slice ta t1 tc, .slice (some ⟨g2, 0, none⟩) (t2 + 1) c2]] wc fun e w8 => e = .returned (.tuple #[.string ⟨t.toArray⟩, .int .i64 0]) ∧ Hid (RegEnd w w8 W6 G g.ops o #[.int .i64 x0, .int .i64 x1, .int .i64 x2, .int .i64 x3, .int .i64 x4, .int .i64 x5, .int .i64 x6, .int .i64 x7, .int .i64 x8, .int .i64 x9, .slice ta t1 tc, .slice (some ⟨g2, 0, none⟩) (t2 + 1) c2] #[.int .i64 x0, .int .i64 x1, .int .i64 x2, .int .i64 x3, .int .i64 x4, .int .i64 x5, .int .i64 x6, .int .i64 x7, .int .i64 x8, .int .i64 x9, .slice ta t1 tc, .slice oa t2 oc] #[.int .i64 o.kind, .int .i64 o.a, .int .i64 o.b, .int .i64 o.c, .int .i64 o.d] g2) := by
        have h := text_some x0 x1 x2 x3 x4 x5 x6 x7 x8 x9 (addO g o) hgc ta (some ⟨g2, 0, none⟩) tc c2 wc (hT.on hE.out.lw.bel hT.big) (htw _ hE.out.lw.bel) hE.out.os t hR2
        rw [e1, e2] at h
        refine h.mono ?_
        rintro e w8 ⟨rfl, hb⟩
        exact ⟨rfl, hE.out.below hb⟩
      have hnT : t.length = sR.size + l.length := by rw [htlen, HSZ.out]
      have kP : ∀ w8, RegEnd w w8 W6 G g.ops o #[.int .i64 x0, .int .i64 x1, .int .i64 x2, .int .i64 x3, .int .i64 x4, .int .i64 x5, .int .i64 x6, .int .i64 x7, .int .i64 x8, .int .i64 x9, .slice ta t1 tc, .slice (some ⟨g2, 0, none⟩) (t2 + 1) c2] #[.int .i64 x0, .int .i64 x1, .int .i64 x2, .int .i64 x3, .int .i64 x4, .int .i64 x5, .int .i64 x6, .int .i64 x7, .int .i64 x8, .int .i64 x9, .slice ta t1 tc, .slice oa t2 oc] #[.int .i64 o.kind, .int .i64 o.a, .int .i64 o.b, .int .i64 o.c, .int .i64 o.d] g2 → Calls Tryd.prog 10 #[.slice (some ⟨w8.heap.size, 0, none⟩) t.length (capX w8)] (wFX w8) fun e w9 => ∃ ta' tc' oa' oc', e = .returned (.tuple #[.agg #[.int .i64 x0, .int .i64 x1, .int .i64 x2, .int .i64 x3, .int .i64 x4, .int .i64 x5, .int .i64 x6, .int .i64 x7, .int .i64 x8, .int .i64 x9, .slice ta' t1 tc', .slice oa' (t2 + 1) oc'], .int .i64 0, .int .i64 0]) ∧ Hid (RegEnd w w9 W6 G g.ops o #[.int .i64 x0, .int .i64 x1, .int .i64 x2, .int .i64 x3, .int .i64 x4, .int .i64 x5, .int .i64 x6, .int .i64 x7, .int .i64 x8, .int .i64 x9, .slice ta t1 tc, .slice (some ⟨g2, 0, none⟩) (t2 + 1) c2] #[.int .i64 x0, .int .i64 x1, .int .i64 x2, .int .i64 x3, .int .i64 x4, .int .i64 x5, .int .i64 x6, .int .i64 x7, .int .i64 x8, .int .i64 x9, .slice ta t1 tc, .slice oa t2 oc] #[.int .i64 o.kind, .int .i64 o.a, .int .i64 o.b, .int .i64 o.c, .int .i64 o.d] g2) ∧ Hid (OpsIn w9 oa' (g.ops ++ [o])) := fun w8 h8 => by
        obtain ⟨p1, p2, p3, p4⟩ := HPX.out w8
        have hE9 := h8.below p4
        have h := parse_file x0 x1 x2 x3 x4 x5 x6 x7 x8 x9 _ _ _ (wFX w8) (hT.on hE9.lw.bel hT.big) p2 p3 p1 (addO g o) hgc 0 0 HPT.out
        rw [e1, e2] at h
        refine h.mono ?_
        rintro e w' ⟨a1, a2, a3, a4, rfl, h1, h2, h3⟩
        exact ⟨a1, a2, a3, a4, rfl, hE9.below h3, h2⟩
      have hlt8 : sR.size < (⟨t.toArray⟩ : ByteArray).size := by omega
      have hTs : (⟨t.toArray⟩ : ByteArray).size ≤ 20000 := by have := HSZ.out; omega
      have hRs : sR.size ≤ 20000 := by omega
      have hlt8I : (sR.size : Int) < ((⟨t.toArray⟩ : ByteArray).size : Int) := by omega
      have hsz2 : (⟨t.toArray⟩ : ByteArray).size = sR.size + l.length := hszT
      have HSZT := hide_it hsz2
      have HAT := hide_it hat
      have HLA := hide_it hlast
      have H10 := hide_it hl10
      have HG2 : Hid (∀ i (hi : i < (g.ops ++ [o]).length), i = t2 → (g.ops ++ [o])[i] = o) := fun i hi he => by
        subst he
        rw [List.getElem_append_right (by omega)]
        simp [hl2]
      have HLO : Hid ((g.ops ++ [o]).length = t2 + 1) := by show _ = _; simp [hl2]
      generalize (⟨t.toArray⟩ : ByteArray) = sT at *
      generalize t.length = nT at *
      clear hprX hsT1 hszT hsz2 hrl hpt hR2 hR hat hlast hl10 hsT htl htlen hnT HPX HPT hq hti hoi hgc e1 e2 htw
      go_wp2_with (go_at_call 14; refine kT2.mono ?_; rintro e w8 ⟨rfl, hE8⟩)
      · exfalso
        rename_i hbad
        rcases hbad with h | h
        · omega
        · rw [HLA.out _ _ (by omega)] at h
          simp at h
      · clear a0 a1 a2 a3 a4 a5 a6 a7 a8 a9 a10 a11 fz
        go_loop [11, 12] (fun nv iv => ∃ j : Nat, j ≤ l.length ∧ iv = .int .i64 ((sR.size + j : Nat) : Int) ∧ nv = .int .i64 (((l.take j).count 10 : Nat) : Int)) (fun _ iv => sT.size - (intOf iv).toNat)
        case atStart => exact ⟨0, Nat.zero_le _, by simp, by simp⟩
        case round =>
          obtain ⟨j, hj, rfl, rfl⟩ := hrel
          have hcl : (l.take j).count 10 ≤ 20000 := Nat.le_trans List.count_le_length (by simp; omega)
          by_cases hlt : j < l.length
          · have hjT : sR.size + j < sT.size := by rw [HSZT.out]; omega
            have hjI : ((sR.size + j : Nat) : Int) < (sT.size : Int) := by omega
            have hj0 : (0 : Int) ≤ ((sR.size + j : Nat) : Int) := by omega
            have hby := HAT.out j hlt hjT
            have HCT : Hid ((l.take (j + 1)).count 10 = (l.take j).count 10 + if l[j] = 10 then 1 else 0) := by
              show _ = _
              rw [List.take_succ_eq_append_getElem hlt, List.count_append]
              simp [List.count_cons, beq_iff_eq]
            generalize hcj : l[j] = cj at *
            clear hcj
            generalize hnj : sR.size + j = ij at *
            have HNJ := hide_it hnj
            clear hnj
            by_cases hten : cj = 10
            · have HB := hide_it hby
              have hbI : (((sT[ij]).toNat : Nat) : Int) = 10 := by rw [hby, hten]; rfl
              clear hby
              go_wp2
              go_round
              case rel => exact ⟨j + 1, by omega, by have := HNJ.out; go_num, by rw [HCT.out, if_pos hten]; go_num⟩
              case measure => simp [intOf]; omega
            · have hbI : ¬ (((sT[ij]).toNat : Nat) : Int) = 10 := by
                rw [hby]
                intro e
                exact hten (UInt8.toNat_inj.1 (by show cj.toNat = 10; omega))
              have hbB : ((((sT[ij]).toNat : Nat) : Int) == 10) = false := beq_eq_false_iff_ne.2 hbI
              clear hby
              go_wp2
              go_round
              case rel => exact ⟨j + 1, by omega, by have := HNJ.out; go_num, by rw [HCT.out, if_neg hten]; go_num⟩
              case measure => simp [intOf]; omega
          · have hje : j = l.length := by omega
            have hone : (l.take j).count 10 = 1 := by rw [hje, List.take_length]; exact H10.out
            have hjI : ¬ (((sR.size + j : Nat)) : Int) < (sT.size : Int) := by rw [HSZT.out]; omega
            rw [hone]
            clear hone hcl hje
            generalize sR.size + j = ij at *
            go_wp2_with (go_at_call 10; refine (kP _ hE8.out).mono ?_; rintro e w9 ⟨ta9, tc9, oa9, oc9, rfl, hE9, hO9⟩; refine Hid.out ?_)
            obtain ⟨b9, o9, hq9, hb9, c0, c1, c2, c3, c4⟩ := hO9.out t2 (by rw [HLO.out]; omega)
            subst hq9
            rw [HG2.out _ _ rfl] at c0 c1 c2 c3 c4
            obtain ⟨a0, a1, a2, a3, a4, a5, a6, a7, a8, a9, a10, a11, fz⟩ := cells12 hE9.out.gb
            obtain ⟨p0, p1, p2, p3, p4⟩ := cells5 hE9.out.lw.ob
            have y1 := block_lt hE9.out.gb
            have y2 := block_lt hE9.out.lw.ob
            have t2I0 : (0 : Int) ≤ (t2 : Int) := by omega
            have t2I1 : (t2 : Int) < (t2 : Int) + 1 := by omega
            clear kP hcvX kT2
            refine hide_it ?_
            go_wp2
            go_quiet (fail)
            all_goals go_wp2
            go_ret
            exact ⟨rfl, below_drewS (hE9.out.lw.bel.alloc hE9.out.lw.bel.size _) _⟩

theorem lines_walk (x0 x1 x2 x3 x4 x5 x6 x7 x8 x9 : Int) (f : Fl) (ta oa : Option Addr) (tc oc : Nat) (w : World) (v : Value) (hT : Tabs w) (hI : InF w v f x0 x1 x2 x3 x4 x5 x6 x7 x8 x9 ta oa tc oc) (o : Oz) (v2 : Value) (hv2 : v2 = .agg #[.int .i64 o.kind, .int .i64 o.a, .int .i64 o.b, .int .i64 o.c, .int .i64 o.d]) :
    Calls Tryd.prog 7 #[v, v2] w fun e w' => e = .returned (.bool true) ∧ Below w.heap.size w w' := by
  subst hv2
  cases hR : textF (fewF f) with
  | none => exact lines_none x0 x1 x2 x3 x4 x5 x6 x7 x8 x9 f ta oa tc oc w v hT hI o hR
  | some r => exact lines_some x0 x1 x2 x3 x4 x5 x6 x7 x8 x9 f ta oa tc oc w v hT hI o r hR

end Go.Proofs.YtgjfhfjmdkhllaaDoor
