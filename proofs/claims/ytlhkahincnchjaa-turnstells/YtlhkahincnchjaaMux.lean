/- What TurnsTells' walk needs: a row that is copied, what is read of the document's turns. -/
import Derived.Test.YtlhkahincnchjaaMur
import Derived.Test.YtlhkahincnchjaaIvl
namespace Go.Proofs.Ytlhkahincnchjaa
open Go.RowKit
open M
set_option linter.unusedVariables false
set_option linter.unusedSimpArgs false

theorem sixKinds (K : Int) : K = 0 ∨ K = 1 ∨ K = 2 ∨ K = 3 ∨ K = 4 ∨ K = 5 ∨ (K ≠ 0 ∧ K ≠ 1 ∧ K ≠ 2 ∧ K ≠ 3 ∧ K ≠ 4 ∧ K ≠ 5) := by omega
theorem StepsIn.at {W : World} {a : Option Addr} {l : List Sp} (h : StepsIn W a l) {i : Nat} (hi : i < l.length) : ∃ b o, a = some ⟨b, o, none⟩ ∧ SpOk W l[i] ∧ ∀ W', Below W.heap.size W W' → W'.cell? ⟨b, o + i * 4, none⟩ = some (.int .i64 l[i].kind) ∧ W'.cell? ⟨b, o + i * 4 + 1, none⟩ = some (.int .i64 l[i].id) ∧ W'.cell? ⟨b, o + i * 4 + 2, none⟩ = some (.int .i64 l[i].wt) ∧ W'.cell? ⟨b, o + i * 4 + 3, none⟩ = some (.slice l[i].la l[i].L.length l[i].lc) := by
  obtain ⟨b, o, e, hb, c0, c1, c2, c3, hs⟩ := h i hi
  exact ⟨b, o, e, hs, fun W' q => ⟨by rw [q.cell (p := ⟨b, _, none⟩) hb]; exact c0, by rw [q.cell (p := ⟨b, _, none⟩) hb]; exact c1, by rw [q.cell (p := ⟨b, _, none⟩) hb]; exact c2, by rw [q.cell (p := ⟨b, _, none⟩) hb]; exact c3⟩⟩

/-- An append of one want, in a region that draws. -/
theorem wp_wone {o : Oper} {a : Act} {w : World} {K : Act → World → Prop} {Q : Exit → Act → World → Prop} (sl el : TypeId) (hul : Try.prog.underlying sl = some (.slice el)) (hinfo : (Try.prog.info? el).map (fun i => (i.zero, i.size, i.bytes)) = some (some (.agg #[.int .i64 0, .int .i64 0]), 2, 16)) (s x : Operand)
    (ho : o.op = .call { callee := .builtin .append, args := #[s, x], argTypes := #[sl, sl] })
    {base m : Nat} {v : Value} {L : List Wn} (hm : m = L.length) (hown : w.ownsRow base el 2 v m (wcs L)) {n : Nat} {c1 c2 : Int} (hr : w.heap[n]? = some (.cells #[.int .i64 c1, .int .i64 c2] el)) (hl : m + 1 ≤ 1000000) (hs1 : a.eval s = v) (hx : a.eval x = .slice (some ⟨n, 0, none⟩) 1 1) (hbase : base ≤ w.heap.size)
    (k : ∀ ao' cap' m' w', Hid (m' = m + 1 ∧ w'.ownsRow base el 2 (.slice ao' m' cap') m' (wcs (L ++ [(c1, c2)])) ∧ w.grownBy w' v.ownBlock) → K (a.put o.dst (.slice ao' m' cap')) w') : o.wp Try.prog a w K Q := by
  obtain ⟨i0, hi, hz0, hz1, hz2⟩ := info_parts hinfo
  obtain ⟨ao, cap, rfl⟩ := own_slice hown
  obtain ⟨v', w', hrun, ho', hg, fr⟩ := run_append_tell (P := Try.prog) w base sl o.type el i0 _ 2 16 hul hi hz0 hz1 hz2 rfl (by decide) _ m (wcs L) hown ⟨n, 0, none⟩ 1 1 (wcs [(c1, c2)]) rfl (fun j u hj => by
    rw [Addr.add_lit, Nat.zero_add, cell_of_row _ n j _ _ _ hr]
    match j, hj with
    | 0, hj => exact hj
    | 1, hj => exact hj
    | j + 2, hj => simp [wcs] at hj) (wcs_one _) (by unfold maxLen; omega) (by omega) hbase
  rw [← wcs_app] at ho'
  obtain ⟨ao', cap', rfl⟩ := own_slice ho'
  unfold Oper.wp execOp
  simp only [ho, resolve, invoke, builtin, Sem.run_bind, Sem.run_pure, Result.andThen_ok, List.map_toArray, List.map_cons, List.map_nil, hs1, hx, hrun]
  exact k ao' cap' _ w' ⟨rfl, ho', hg⟩
/-- A row of wants that grew among what is new lies beside the rest. -/
theorem MX.row2 {B : Nat} {w0 w w' : World} {os : List Ob} {R : List (Nat × Obj)} (h : MX B w0 w os R) (hb : Below w.heap.size w w') {e : TypeId} {v : Value} {L : List Wn} (ho : w'.ownsRow w.heap.size e 2 v L.length (wcs L)) : MX B w0 w' (os ++ [obW e v L]) R :=
  h.add (G := fun k => v.ownBlock = some k) (o := obW e v L) hb ⟨owns_base ho (fun k hk => Nat.zero_le k), fun k hk => hk⟩ (fun k hk => ho.lt k hk)
section
variable {B : Nat} {w0 w w' : World} {os : List Ob} {R : List (Nat × Obj)}
theorem MX.lenS (h : MX B w0 w os R) (i : Nat) {t : Nat} {x : Tn} (hi : os[i]? = some (obA t x)) : Calls Try.prog 23 #[ptr t] w fun e w' => e = .returned (.int .i64 x.n) ∧ w' = w := by
  obtain ⟨F, h⟩ := h
  exact len_any (h.ho i _ hi)
/-- What is read of the document's turns. -/
theorem MX.readB (h : MX B w0 w os R) (i : Nat) {t : Nat} {x : Tn} (hi : os[i]? = some (obB t x)) : ∃ ao cap, x.n ≤ cap ∧ cap ≤ maxLen ∧ w.cell? ⟨t, 1, none⟩ = some (.slice ao x.n cap) ∧ w.cell? ⟨t, 2, none⟩ = some (.int .i64 x.k) ∧ ∀ j, j < x.n → ∃ g, ao = some ⟨g, 0, none⟩ ∧ ∀ i, i < x.n → w.cell? ⟨g, i * 3, none⟩ = some (.int .i64 (x.I i)) ∧ w.cell? ⟨g, i * 3 + 2, none⟩ = some (.int .i64 (x.C i)) := by
  obtain ⟨F, h⟩ := h
  obtain ⟨v, h1, _⟩ := h.ho i _ hi
  have c1 := h1.c1
  have c2 := h1.c2
  obtain ⟨ao, cap, rfl, e1, e2, e3⟩ := h1.form
  refine ⟨ao, cap, e1, e2, c1, c2, fun j hj => ?_⟩
  obtain ⟨g, rfl, _⟩ := e3 j hj
  refine ⟨g, rfl, fun i hi => ?_⟩
  obtain ⟨g', q, _, _, a, _, c, _⟩ := e3 i hi
  cases q
  exact ⟨a, c⟩
end
/-- What the two say at a place, and at none. -/
theorem cr_yes {x : Tn} {id : Int} {p : Nat} (h : plc x id = (p : Int)) : crI x id = x.C p ∧ crB x id = true := by
  unfold crI crB
  rw [h, if_pos (Int.natCast_nonneg p), decide_eq_true (Int.natCast_nonneg p), Int.toNat_natCast]
  exact ⟨rfl, rfl⟩
theorem cr_no {x : Tn} {id : Int} (h : ¬ 0 ≤ plc x id) : crI x id = 0 ∧ crB x id = false := by
  unfold crI crB
  rw [if_neg h, decide_eq_false h]
  exact ⟨rfl, rfl⟩
theorem tu_yes {x : Tn} (h : 0 < x.n) : tuI x = x.I x.k ∧ tuB x = true := by
  unfold tuI tuB
  rw [if_neg (by omega), decide_eq_false (by omega)]
  exact ⟨rfl, rfl⟩
theorem tu_no {x : Tn} (h : x.n = 0) : tuI x = 0 ∧ tuB x = false := by
  unfold tuI tuB
  rw [if_pos h, decide_eq_true h]
  exact ⟨rfl, rfl⟩
end Go.Proofs.Ytlhkahincnchjaa
