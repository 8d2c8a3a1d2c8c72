/- append([]int{}, x...); slices.Clone. -/
import Derived.Test.YtipkgoghodkbfaaDoorBst
import Derived.Lib.SliceRun
namespace Go.Proofs.YtipkgoghodkbfaaDoor
open Go.RowKit
open M
set_option linter.unusedVariables false
set_option linter.unusedSimpArgs false

theorem nin_cells {W : World} {b o : Nat} {xs : List Int} (h : NIn W (some ⟨b, o, none⟩) xs) : ∀ j u, (xs.map fun x => Value.int .i64 x)[j]? = some u → W.cell? ((⟨b, o, none⟩ : Addr).add j) = some u := by
  intro j u hj
  have hl : j < xs.length := by
    have := (List.getElem?_eq_some_iff.1 hj).1
    simpa using this
  obtain ⟨b2, o2, e, _, h3⟩ := h j hl
  cases e
  rw [Addr.add_lit, h3, ← hj]
  simp [hl]
theorem one_z (xs : List Int) : ∀ u ∈ xs.map (fun x => Value.int .i64 x), u.oneCell' = true := by
  intro u hu
  obtain ⟨x, _, rfl⟩ := List.mem_map.1 hu
  rfl
theorem run_append_nothing {P : Program} (w : World) (t ty e : TypeId) (i : TypeInfo) (ht : P.underlying t = some (.slice e)) (hi : P.info? e = some i) (a : Addr) (x : Option Addr) (c : Nat) :
    (Builtin.append_ #[t, t] ty #[.slice (some a) 0 0, .slice x 0 c]).run P w = .ok (.slice (some a) 0 0) w := by
  cases x <;> simp [Builtin.append_, run_underlying ht, sizeOf, typeInfo, hi, Builtin.lenOf, Builtin.firstCells, loadCells, loadCellsFrom, storeCells]

/-- 'append([]int{}, x...)'. -/
theorem wpList_copyZ {W : World} {ops : Array Oper} {rest : List Oper} {o : Oper} {a : Act} {Q' : Exit → Act → World → Prop} (hgd : o.guard = none) (s x : Operand)
    (ho : o.op = .call { callee := .builtin .append, args := #[s, x], argTypes := #[22, 22] })
    (qa : Option Addr) (K qc : Nat) (Q : List Int) (hq : NIn W qa Q) (hK : Q.length = K) (hl : K ≤ 1000000) (hs : a.eval s = .slice (some ⟨W.heap.size, 0, none⟩) 0 0) (hx : a.eval x = .slice qa K qc)
    (h : ∀ v' w', OwnZ w' W.heap.size v' Q → Below W.heap.size W w' → wpList Tryd.prog ops Q' rest (a.put o.dst v') w') : wpList Tryd.prog ops Q' (o :: rest) a (W.alloc (.cells #[] 3)) := by
  subst hK
  obtain ⟨i0, hi, hz0, hz1, hz2⟩ := info_parts info3
  have hb : Below W.heap.size W (W.alloc (.cells #[] 3)) := (Below.refl _ _).alloc (Nat.le_refl _) _
  have hown0 := ownz_new W
  by_cases hz : Q.length = 0
  · have hL : Q = [] := List.eq_nil_of_length_eq_zero hz
    subst hL
    have hr := run_append_nothing (P := Tryd.prog) (W.alloc (.cells #[] 3)) 22 o.type 3 i0 Tryd.underlying22 hi ⟨W.heap.size, 0, none⟩ qa qc
    refine wpList_plain hgd fun K hK => ?_
    unfold Oper.wp execOp
    simp only [ho, resolve, invoke, builtin, Sem.run_bind, Sem.run_pure, Result.andThen_ok, List.map_toArray, List.map_cons, List.map_nil, hs, hx, List.length_nil, hr]
    exact hK _ _ (h _ _ hown0 hb)
  · obtain ⟨b, of, rfl, hbl, _⟩ := hq 0 (by omega)
    refine wpList_append_tell _ hgd s x 22 ho W.heap.size 3 i0 _ 1 8 Tryd.underlying22 hi hz0 hz1 hz2 rfl (by decide) _ 0 [] hs hown0 ⟨b, of, none⟩ Q.length qc (Q.map fun x => Value.int .i64 x) hx (by simp) (nin_cells (hq.below hb (Nat.le_refl _))) (one_z Q) (by unfold maxLen; omega) (by omega) (by simp) ?_
    intro v' w' h1 h2 h3
    refine h v' w' ?_ (hb.grown h2 (by simp) (fun k hk => by simp [Value.ownBlock] at hk; omega))
    simpa using h1

set_option maxRecDepth 1000000 in
set_option maxHeartbeats 2000000 in
theorem clone_any {w : World} {ao : Option Addr} {xs : List Int} {m c : Nat} (hx : NIn w ao xs) (hm : xs.length = m) (hm6 : m ≤ 1000000) :
    Calls Tryd.prog 27 #[.slice ao m c] w fun e w' => ∃ u, e = .returned u ∧ Hid (OwnZ w' w.heap.size u xs ∧ Below w.heap.size w w') := by
  have q22 : ∀ (w : World) (a : Option Addr) (n c n' c' : Nat), (binOp .eql 22 (.slice a n c) (.slice none n' c')).run Tryd.prog w = .ok (.bool a.isNone) w := fun w a n c n' c' => Lib.run_eql_slice_nil w _ _ a n c n' c' Tryd.underlying22
  cases ao with
  | none =>
    have e : xs = [] := by
      cases xs with
      | nil => rfl
      | cons x r => obtain ⟨_, _, e, _⟩ := hx 0 (by simp); cases e
    subst e
    simp only [List.length_nil] at hm
    subst hm
    go_enter Tryd.func27, Tryd.ntmps27
    go_wp2
    go_ret
    exact ⟨_, rfl, ownz_nil _ _, Below.refl _ _⟩
  | some a =>
    go_enter Tryd.func27, Tryd.ntmps27
    go_wp2_with (at_builtin; (refine wpList_copyZ rfl (.tmp 5) (.tmp 6) rfl (some a) m c xs hx hm hm6 rfl rfl ?_; intro v' w' h1 h2))
    go_ret
    exact ⟨_, rfl, h1, h2⟩
end Go.Proofs.YtipkgoghodkbfaaDoor
