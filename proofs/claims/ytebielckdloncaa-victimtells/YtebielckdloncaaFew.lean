/- At most thirty runs, in a row of the call's own. -/
import Derived.Test.YtebielckdloncaaCho
namespace Go.Proofs.Ytebielckdloncaa
open Go.RowKit
open M
set_option linter.unusedVariables false
set_option linter.unusedSimpArgs false

/-- The cells of runs. -/
def rcs (l : List R) : List Value := l.flatMap (fun r => [.int .i64 r.t, .int .i64 r.p, .int .i64 r.m, .int .i64 r.q, .int .i64 r.s])
theorem rcs_len (l : List R) : (rcs l).length = l.length * 5 := by
  induction l with
  | nil => rfl
  | cons r l ih =>
    have e : rcs (r :: l) = [.int .i64 r.t, .int .i64 r.p, .int .i64 r.m, .int .i64 r.q, .int .i64 r.s] ++ rcs l := by simp [rcs]
    rw [e, List.length_append, ih]; simp; omega
theorem rcs_app (l m : List R) : rcs (l ++ m) = rcs l ++ rcs m := by simp [rcs]
theorem rcs_one (r : R) : rcs [r] = [.int .i64 r.t, .int .i64 r.p, .int .i64 r.m, .int .i64 r.q, .int .i64 r.s] := by simp [rcs]
theorem rcs_cell (l : List R) : ∀ u ∈ rcs l, u.oneCell' = true := by
  intro u hu
  obtain ⟨r, _, h⟩ := List.mem_flatMap.1 hu
  simp at h
  rcases h with h | h | h | h | h <;> subst h <;> rfl
theorem rcs_at : ∀ (l : List R) (j : Nat) (hj : j < l.length), (rcs l)[j * 5]? = some (.int .i64 l[j].t) ∧ (rcs l)[j * 5 + 1]? = some (.int .i64 l[j].p) ∧ (rcs l)[j * 5 + 2]? = some (.int .i64 l[j].m) ∧ (rcs l)[j * 5 + 3]? = some (.int .i64 l[j].q) ∧ (rcs l)[j * 5 + 4]? = some (.int .i64 l[j].s)
  | [], j, hj => by simp at hj
  | r :: l, 0, _ => by
    have e : rcs (r :: l) = [.int .i64 r.t, .int .i64 r.p, .int .i64 r.m, .int .i64 r.q, .int .i64 r.s] ++ rcs l := by simp [rcs]
    rw [e]; exact ⟨rfl, rfl, rfl, rfl, rfl⟩
  | r :: l, j + 1, hj => by
    have e : rcs (r :: l) = [.int .i64 r.t, .int .i64 r.p, .int .i64 r.m, .int .i64 r.q, .int .i64 r.s] ++ rcs l := by simp [rcs]
    obtain ⟨q0, q1, q2, q3, q4⟩ := rcs_at l j (by simpa using hj)
    rw [e]
    refine ⟨?_, ?_, ?_, ?_, ?_⟩
    · rw [List.getElem?_append_right (by simp; omega)]; simpa [show (j + 1) * 5 - 5 = j * 5 by omega] using q0
    · rw [List.getElem?_append_right (by simp; omega)]; simpa [show (j + 1) * 5 + 1 - 5 = j * 5 + 1 by omega] using q1
    · rw [List.getElem?_append_right (by simp; omega)]; simpa [show (j + 1) * 5 + 2 - 5 = j * 5 + 2 by omega] using q2
    · rw [List.getElem?_append_right (by simp; omega)]; simpa [show (j + 1) * 5 + 3 - 5 = j * 5 + 3 by omega] using q3
    · rw [List.getElem?_append_right (by simp; omega)]; simpa [show (j + 1) * 5 + 4 - 5 = j * 5 + 4 by omega] using q4
/-- Runs in a row of one's own. -/
theorem runs_own {w : World} {base m c : Nat} {e : TypeId} {ao : Option Addr} {l : List R} (h : w.ownsRow base e 5 (.slice ao m c) m (rcs l)) (hm : m = l.length) : RunsIn w ao l := by
  intro i hi
  rcases h.2 with ⟨e, q⟩ | ⟨g, cc, cur, e, hb, hg, h1, h2, h3, h4⟩
  · cases e; omega
  · cases e
    obtain ⟨q0, q1, q2, q3, q4⟩ := rcs_at l i hi
    have hc : ∀ k u, (rcs l)[k]? = some u → w.cell? ⟨g, k, none⟩ = some u := fun k u hu => by
      have hk : k < m * 5 := by
        rcases Nat.lt_or_ge k (m * 5) with q | q
        · exact q
        · rw [List.getElem?_eq_none (by rw [rcs_len, ← hm]; exact q)] at hu; cases hu
      rw [cell_of_row w g k _ _ _ hg, ← Array.getElem?_toList, ← hu, ← h4, List.getElem?_take_of_lt hk]
    exact ⟨g, 0, rfl, block_lt hg, by rw [Nat.zero_add]; exact hc _ _ q0, by rw [Nat.zero_add]; exact hc _ _ q1, by rw [Nat.zero_add]; exact hc _ _ q2, by rw [Nat.zero_add]; exact hc _ _ q3, by rw [Nat.zero_add]; exact hc _ _ q4⟩
theorem info27 : (Try.prog.info? 27).map (fun i => (i.zero, i.size, i.bytes)) = some (some (.agg #[.int .i64 0, .int .i64 0, .int .i64 0, .int .i64 0, .int .i64 0]), 5, 40) := by kernel_rfl
theorem info28 : (Try.prog.info? 28).map (fun i => (i.zero, i.size, i.bytes)) = some (some (.agg #[.int .i64 0, .int .i64 0, .int .i64 0, .int .i64 0, .int .i64 0]), 5, 40) := by kernel_rfl

/-- An append of runs: what can be read, laid behind a row of one's own. -/
theorem wpList_rcat {ops : Array Oper} {rest : List Oper} {o : Oper} {a : Act} {w : World} {Q : Exit → Act → World → Prop} (sl el : TypeId) (hul : Try.prog.underlying sl = some (.slice el)) (hinfo : (Try.prog.info? el).map (fun i => (i.zero, i.size, i.bytes)) = some (some (.agg #[.int .i64 0, .int .i64 0, .int .i64 0, .int .i64 0, .int .i64 0]), 5, 40)) (hgd : o.guard = none) (s x : Operand)
    (ho : o.op = .call { callee := .builtin .append, args := #[s, x], argTypes := #[sl, sl] })
    {base m : Nat} {v : Value} {L : List R} (hm : m = L.length) (hown : w.ownsRow base el 5 v m (rcs L)) {ax : Option Addr} {K : List R} {kx cx : Nat} (hkx : K.length = kx) (hr : RunsIn w ax K) (hn : ax = none → kx = 0 ∧ cx = 0) (hl : m + kx ≤ 1000000) (hs1 : a.eval s = v) (hx : a.eval x = .slice ax kx cx) (hbase : base ≤ w.heap.size)
    (k : ∀ ao' cap' m' w', Hid (m' = m + kx ∧ w'.ownsRow base el 5 (.slice ao' m' cap') m' (rcs (L ++ K)) ∧ w.grownBy w' v.ownBlock ∧ Fresh w v (.slice ao' m' cap')) → wpList Try.prog ops Q rest (a.put o.dst (.slice ao' m' cap')) w') : wpList Try.prog ops Q (o :: rest) a w := by
  obtain ⟨i0, hi, hz0, hz1, hz2⟩ := info_parts hinfo
  obtain ⟨ao, cap, rfl⟩ := own_slice hown
  have hmc : m ≤ cap := by
    rcases hown.2 with ⟨e, q⟩ | ⟨g, cc, cur, e, _, _, h1, _⟩
    · cases e; exact Nat.le_refl _
    · cases e; exact h1
  cases ax with
  | none =>
    obtain ⟨h1, h2⟩ := hn rfl
    subst h1 h2
    have hK : K = [] := List.eq_nil_of_length_eq_zero hkx
    subst hK
    have hr := run_append_none2 (P := Try.prog) w sl o.type el i0 hul hi ao m cap hmc
    refine wpList_plain hgd fun K0 hK => ?_
    unfold Oper.wp execOp
    simp only [ho, resolve, invoke, builtin, Sem.run_bind, Sem.run_pure, Result.andThen_ok, List.map_toArray, List.map_cons, List.map_nil, hs1, hx, hr]
    exact hK _ _ (k ao cap m w ⟨rfl, by rw [List.append_nil]; exact hown, ⟨rfl, rfl, rfl, Nat.le_refl _, fun _ _ _ => rfl⟩, .inl rfl⟩)
  | some p =>
    refine wpList_append_tell _ hgd s x sl ho base el i0 _ 5 40 hul hi hz0 hz1 hz2 rfl (by decide) _ m (rcs L) hs1 hown p kx cx (rcs K) hx (by rw [rcs_len, hkx]) (fun j u hj => ?_) (rcs_cell K) (by unfold maxLen; omega) (by omega) hbase ?_
    · have hj2 : j < K.length * 5 := by
        rcases Nat.lt_or_ge j (K.length * 5) with q | q
        · exact q
        · rw [List.getElem?_eq_none (by rw [rcs_len]; exact q)] at hj; cases hj
      obtain ⟨q, r, hr5, rfl⟩ : ∃ q r, r < 5 ∧ j = q * 5 + r := ⟨j / 5, j % 5, Nat.mod_lt _ (by omega), by omega⟩
      have hq : q < K.length := by omega
      obtain ⟨b', o', e, _, c0, c1, c2, c3, c4⟩ := hr q hq
      cases e
      obtain ⟨e0, e1, e2, e3, e4⟩ := rcs_at K q hq
      rw [Addr.add_lit]
      match r, hr5 with
      | 0, _ => rw [Nat.add_zero] at hj ⊢; rw [e0] at hj; cases hj; exact c0
      | 1, _ => rw [e1] at hj; cases hj; rw [← Nat.add_assoc]; exact c1
      | 2, _ => rw [e2] at hj; cases hj; rw [← Nat.add_assoc]; exact c2
      | 3, _ => rw [e3] at hj; cases hj; rw [← Nat.add_assoc]; exact c3
      | 4, _ => rw [e4] at hj; cases hj; rw [← Nat.add_assoc]; exact c4
    · intro v' w' h1 h2 h3
      rw [← rcs_app] at h1
      obtain ⟨ao', cap', rfl⟩ := own_slice h1
      exact k ao' cap' _ w' ⟨rfl, h1, h2, h3⟩

set_option maxRecDepth 1000000 in
set_option maxHeartbeats 4000000 in
theorem few_any (l : List R) (la : Option Addr) (n cap : Nat) (w : World) (hl : l.length = n) (hc : n ≤ cap) (hm : cap ≤ maxLen) (hR : RunsIn w la l) (hn : la = none → n = 0 ∧ cap = 0) :
    Calls Try.prog 9 #[.slice la n cap] w fun e w' => ∃ ao c m, e = .returned (.slice ao m c) ∧ Hid (m = (l.take 30).length ∧ Below w.heap.size w w' ∧ w'.ownsRow w.heap.size 27 5 (.slice ao m c) m (rcs (l.take 30))) := by
  unfold maxLen at hm
  obtain ⟨k, hk⟩ : ∃ k, min n 30 = k := ⟨_, rfl⟩
  have hmin : ∀ (ts : Array TypeId) (t : TypeId) (W : World), (Builtin.min_ ts t #[.int .i64 (n : Int), .int .i64 30]).run Try.prog W = .ok (.int .i64 (k : Int)) W := fun ts t W => by
    by_cases h : (n : Int) < 30
    · simp [Builtin.min_, Builtin.min2, h]; omega
    · simp [Builtin.min_, Builtin.min2, h]; omega
  have hB0 : Below w.heap.size w (w.alloc (.cells #[] 27)) := (Below.refl _ _).alloc (Nat.le_refl _) _
  have HR : Hid (RunsIn (w.alloc (.cells #[] 27)) la (l.take 30)) := by
    have h := hR.below hB0
    intro i hi
    have hi2 : i < l.length := by simp at hi; omega
    obtain ⟨b, o, e, hb, c0, c1, c2, c3, c4⟩ := h i hi2
    exact ⟨b, o, e, hb, by simpa using c0, by simpa using c1, by simpa using c2, by simpa using c3, by simpa using c4⟩
  have HL : Hid ((l.take 30).length = k) := (show (l.take 30).length = k from by rw [List.length_take]; omega)
  have HN : Hid (la = none → k = 0 ∧ cap = 0) := fun h => by obtain ⟨h1, h2⟩ := hn h; exact ⟨by omega, h2⟩
  have HO : Hid ((w.alloc (.cells #[] 27)).ownsRow w.heap.size 27 5 (.slice (some ⟨w.heap.size, 0, none⟩) 0 0) 0 (rcs [])) := ⟨rfl, .inr ⟨w.heap.size, 0, #[], rfl, Nat.le_refl _, heap_alloc_new w _, Nat.le_refl _, Nat.zero_le _, rfl, rfl⟩⟩
  have hkc : (k : Int) ≤ cap := by omega
  have hk30 : k ≤ 30 := by omega
  have HB : Hid (Below w.heap.size w (w.alloc (.cells #[] 27))) := hB0
  clear hR hl hk hB0
  cases la with
  | none =>
    obtain ⟨rfl, rfl⟩ := hn rfl
    have hk0 : k = 0 := by omega
    subst hk0
    clear hn
    go_enter Try.func9, Try.ntmps9
    go_wp2_with (at_builtin; refine wpList_rcat 22 27 Try.underlying22 info27 rfl (.tmp 3) (.tmp 8) rfl (m := 0) (L := []) rfl HO.out HL.out HR.out (fun _ => ⟨rfl, rfl⟩) (by omega) rfl rfl (by simp) ?_; intro ao' c' m' w3 HA)
    go_ret
    refine ⟨ao', c', m', rfl, ?_, ?_, ?_⟩
    · have h1 := HL.out
      have h2 := HA.out.1
      rw [List.length_take] at h1
      try rw [List.length_take]
      omega
    · exact HB.out.grown HA.out.2.2.1 HB.out.size (fun q hq => by simp [Value.ownBlock] at hq; omega)
    · exact HA.out.2.1
  | some p =>
    clear hn
    go_enter Try.func9, Try.ntmps9
    go_wp2_with (at_builtin; refine wpList_rcat 22 27 Try.underlying22 info27 rfl (.tmp 3) (.tmp 8) rfl (m := 0) (L := []) rfl HO.out HL.out HR.out (fun q => by cases q) (by omega) rfl rfl (by simp) ?_; intro ao' c' m' w3 HA)
    go_ret
    refine ⟨ao', c', m', rfl, ?_, ?_, ?_⟩
    · have h1 := HL.out
      have h2 := HA.out.1
      rw [List.length_take] at h1
      try rw [List.length_take]
      omega
    · exact HB.out.grown HA.out.2.2.1 HB.out.size (fun q hq => by simp [Value.ownBlock] at hq; omega)
    · exact HA.out.2.1
end Go.Proofs.Ytebielckdloncaa
