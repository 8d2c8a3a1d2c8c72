/- VictimOrder, walked. -/
import Derived.Test.YtebielckdloncaaLMo
import Derived.Deep.CutRange
import Derived.Deep.CutBlock
namespace Go.Proofs.Ytebielckdloncaa
open Go.RowKit
open M
set_option linter.unusedVariables false
set_option linter.unusedSimpArgs false

/-- A run's five cells in a row. -/
def CellsAt (cur : Array Value) (i : Nat) (r : R) : Prop := cur[i * 5]? = some (.int .i64 r.t) ∧ cur[i * 5 + 1]? = some (.int .i64 r.p) ∧ cur[i * 5 + 2]? = some (.int .i64 r.m) ∧ cur[i * 5 + 3]? = some (.int .i64 r.q) ∧ cur[i * 5 + 4]? = some (.int .i64 r.s)
section
variable {cur : Array Value} {i k : Nat} {r : R}
theorem CellsAt.size (h : CellsAt cur i r) : i * 5 + 4 < cur.size := by
  obtain ⟨_, _, _, _, h⟩ := h
  exact (Array.getElem?_eq_some_iff.1 h).1
theorem CellsAt.off (h : CellsAt cur i r) (hk : k < i * 5 ∨ i * 5 + 5 ≤ k) (v : Value) : CellsAt (cur.setIfInBounds k v) i r := by
  obtain ⟨h0, h1, h2, h3, h4⟩ := h
  refine ⟨?_, ?_, ?_, ?_, ?_⟩ <;> (rw [Array.getElem?_setIfInBounds_ne (by omega)]; assumption)
theorem CellsAt.task (h : CellsAt cur i r) (t : Int) : CellsAt (cur.setIfInBounds (i * 5) (.int .i64 t)) i ⟨t, r.p, r.m, r.q, r.s⟩ := by
  have hs := h.size
  obtain ⟨h0, h1, h2, h3, h4⟩ := h
  refine ⟨by rw [Array.getElem?_setIfInBounds_self_of_lt (by omega)], ?_, ?_, ?_, ?_⟩ <;> (rw [Array.getElem?_setIfInBounds_ne (by omega)]; assumption)
theorem CellsAt.put (hs : i * 5 + 5 ≤ cur.size) (r : R) : CellsAt (((((cur.setIfInBounds (i * 5) (.int .i64 r.t)).setIfInBounds (i * 5 + 1) (.int .i64 r.p)).setIfInBounds (i * 5 + 2) (.int .i64 r.m)).setIfInBounds (i * 5 + 3) (.int .i64 r.q)).setIfInBounds (i * 5 + 4) (.int .i64 r.s)) i r := by
  refine ⟨?_, ?_, ?_, ?_, ?_⟩ <;> simp [Array.getElem?_setIfInBounds] <;> omega
end
/-- The row that the tasks are written into: k of them. -/
def RowL (W : World) (g n : Nat) (G : Nat → R) (l : List R) (k : Nat) : Prop := ∃ cur, W.heap[g]? = some (.cells cur 27) ∧ (∀ i, i < k → i < n → CellsAt cur i (G i)) ∧ ∀ i, k ≤ i → i < n → CellsAt cur i (at' l i)
/-- The row that is filled from its end: k of them. -/
def RowT (W : World) (g n : Nat) (G : Nat → R) (k : Nat) : Prop := ∃ cur, W.heap[g]? = some (.cells cur 27) ∧ cur.size = n * 5 ∧ ∀ i, i < k → i < n → CellsAt cur (n - 1 - i) (G i)
section
variable {W : World} {g n k : Nat} {G : Nat → R} {l : List R}
theorem RowL.other (h : RowL W g n G l k) {q : Nat} (hq : g ≠ q) (o : Nat) (v : Value) : RowL (W.setCell ⟨q, o, none⟩ v) g n G l k := by
  obtain ⟨cur, h1, h2⟩ := h
  exact ⟨cur, (Below.heap_setCell _ _ _ _ hq).trans h1, h2⟩
theorem RowT.other (h : RowT W g n G k) {q : Nat} (hq : g ≠ q) (o : Nat) (v : Value) : RowT (W.setCell ⟨q, o, none⟩ v) g n G k := by
  obtain ⟨cur, h1, h2⟩ := h
  exact ⟨cur, (Below.heap_setCell _ _ _ _ hq).trans h1, h2⟩
theorem RowL.step (h : RowL W g n G l k) (hk : k < n) {t : Int} (hG : G k = ⟨t, (at' l k).p, (at' l k).m, (at' l k).q, (at' l k).s⟩) : RowL (W.setCell ⟨g, k * 5, none⟩ (.int .i64 t)) g n G l (k + 1) := by
  obtain ⟨cur, h1, h2, h3⟩ := h
  refine ⟨_, heap_setCell_at h1 _, fun i hi hn => ?_, fun i hi hn => (h3 i (by omega) hn).off (by omega) _⟩
  by_cases e : i = k
  · subst e
    rw [hG]
    exact (h3 i (Nat.le_refl _) hn).task t
  · exact (h2 i (by omega) hn).off (by omega) _
theorem RowT.step (h : RowT W g n G k) {d : Nat} (hd : d + k + 1 = n) {r : R} (hG : G k = r) : RowT (((((W.setCell ⟨g, d * 5, none⟩ (.int .i64 r.t)).setCell ⟨g, d * 5 + 1, none⟩ (.int .i64 r.p)).setCell ⟨g, d * 5 + 2, none⟩ (.int .i64 r.m)).setCell ⟨g, d * 5 + 3, none⟩ (.int .i64 r.q)).setCell ⟨g, d * 5 + 4, none⟩ (.int .i64 r.s)) g n G (k + 1) := by
  obtain ⟨cur, h1, h2, h3⟩ := h
  refine ⟨_, heap_setCell_at (heap_setCell_at (heap_setCell_at (heap_setCell_at (heap_setCell_at h1 _) _) _) _) _, by simp [h2], fun i hi hn => ?_⟩
  by_cases e : i = k
  · subst e
    rw [hG, show n - 1 - i = d by omega]
    exact CellsAt.put (by omega) r
  · exact (((((h3 i (by omega) hn).off (by omega) _).off (by omega) _).off (by omega) _).off (by omega) _).off (by omega) _
theorem RowL.start {c : Nat} {base : Nat} (h : W.ownsRow base 27 5 (.slice (some ⟨g, 0, none⟩) n c) n (rcs l)) (hn : l.length = n) : W.heap[g]? ≠ none ∧ RowL W g n G l 0 := by
  rcases h.2 with ⟨e, q⟩ | ⟨g', cc, cur, e, hb, hg, h1, h2, h3, h4⟩
  · cases e
  · cases e
    refine ⟨by rw [hg]; simp, cur, hg, fun i hi => by omega, fun i _ hi => ?_⟩
    obtain ⟨q0, q1, q2, q3, q4⟩ := rcs_at l i (by omega)
    rw [← at_get (by omega)] at q0 q1 q2 q3 q4
    have hc : ∀ k u, (rcs l)[k]? = some u → cur[k]? = some u := fun k u hu => by
      have hk : k < n * 5 := by
        rcases Nat.lt_or_ge k (n * 5) with q | q
        · exact q
        · rw [List.getElem?_eq_none (by rw [rcs_len, hn]; exact q)] at hu; cases hu
      rw [← Array.getElem?_toList, ← hu, ← h4, List.getElem?_take_of_lt hk]
    exact ⟨hc _ _ q0, hc _ _ q1, hc _ _ q2, hc _ _ q3, hc _ _ q4⟩
theorem CellsAt.world {cur : Array Value} {i : Nat} {r : R} (h : CellsAt cur i r) (hg : W.heap[g]? = some (.cells cur 27)) : W.cell? ⟨g, i * 5, none⟩ = some (.int .i64 r.t) ∧ W.cell? ⟨g, i * 5 + 1, none⟩ = some (.int .i64 r.p) ∧ W.cell? ⟨g, i * 5 + 2, none⟩ = some (.int .i64 r.m) ∧ W.cell? ⟨g, i * 5 + 3, none⟩ = some (.int .i64 r.q) ∧ W.cell? ⟨g, i * 5 + 4, none⟩ = some (.int .i64 r.s) := by
  obtain ⟨h0, h1, h2, h3, h4⟩ := h
  refine ⟨?_, ?_, ?_, ?_, ?_⟩ <;> (rw [cell_of_row W g _ _ _ _ hg]; assumption)
theorem RowL.done (h : RowL W g n G l n) : RunsIn W (some ⟨g, 0, none⟩) ((List.range n).map G) := by
  obtain ⟨cur, h1, h2, _⟩ := h
  intro i hi
  have hi' : i < n := by simpa using hi
  obtain ⟨c0, c1, c2, c3, c4⟩ := (h2 i hi' hi').world h1
  exact ⟨g, 0, rfl, block_lt h1, by simpa using c0, by simpa using c1, by simpa using c2, by simpa using c3, by simpa using c4⟩
theorem RowT.done (h : RowT W g n G n) : RunsIn W (some ⟨g, 0, none⟩) ((List.range n).map G).reverse := by
  obtain ⟨cur, h1, _, h2⟩ := h
  intro i hi
  have hi' : i < n := by simpa using hi
  have q := h2 (n - 1 - i) (by omega) (by omega)
  rw [show n - 1 - (n - 1 - i) = i by omega] at q
  obtain ⟨c0, c1, c2, c3, c4⟩ := q.world h1
  exact ⟨g, 0, rfl, block_lt h1, by simpa using c0, by simpa using c1, by simpa using c2, by simpa using c3, by simpa using c4⟩
end
/-- Runs with tasks of their own. -/
def tsk (l : List R) (i : Nat) : R := ⟨(7 * (i : Int)) % 31, (at' l i).p, (at' l i).m, (at' l i).q, (at' l i).s⟩
theorem tsk_own {l : List R} {n : Nat} (hn : n ≤ 30) : ∀ i j, i < ((List.range n).map (tsk l)).length → j < ((List.range n).map (tsk l)).length → i ≠ j → (at' ((List.range n).map (tsk l)) i).t ≠ (at' ((List.range n).map (tsk l)) j).t := by
  intro i j hi hj hij
  rw [at_get hi, at_get hj]
  simp at hi hj
  simp [tsk]
  omega

set_option maxRecDepth 1000000 in
set_option maxHeartbeats 16000000 in
theorem victimOrder_walk (l : List R) (la : Option Addr) (cap : Nat) (prio mem free slots most : Int) (w : World) (hR : RunsIn w la l) (hc : l.length ≤ cap) (hm : cap ≤ maxLen) (hn : la = none → l.length = 0 ∧ cap = 0)
    (b1 : -9223372036854775808 ≤ prio ∧ prio ≤ 9223372036854775807) (b2 : -9223372036854775808 ≤ mem ∧ mem ≤ 9223372036854775807) (b3 : -9223372036854775808 ≤ free ∧ free ≤ 9223372036854775807) (b4 : -9223372036854775808 ≤ slots ∧ slots ≤ 9223372036854775807) (b5 : -9223372036854775808 ≤ most ∧ most ≤ 9223372036854775807) :
    Calls Try.prog 5 #[.slice la l.length cap, .int .i64 prio, .int .i64 mem, .int .i64 free, .int .i64 slots, .int .i64 most] w fun e w' => e = .returned (.bool true) ∧ Below w.heap.size w w' := by
  have kS := shown_any w
  have kF := fun W (h : Below w.heap.size w W) => few_any l la l.length cap W rfl hc hm (hR.below h) hn
  have KF := hide_it kF
  clear kF hR hc hm hn
  obtain ⟨n0, hn0⟩ : ∃ n, l.length = n := ⟨_, rfl⟩
  rw [hn0] at KF ⊢
  go_enter Try.func5, Try.ntmps5
  go_wp2_with (first | (go_at_call 8; refine kS.mono ?_; rintro e w1 ⟨rfl, hb⟩; have H1 := hide_it hb; clear hb) | (go_at_call 9; refine (KF.out _ H1.out).mono ?_; rintro e w2 ⟨fa, fc, fm, rfl, HF⟩; refine Hid.out ?_))
  have hl30 : (l.take 30).length ≤ 30 := by rw [List.length_take]; omega
  obtain ⟨l', hl'⟩ : ∃ l', l' = l.take 30 := ⟨_, rfl⟩
  rw [← hl'] at hl30 HF
  have HL : Hid (l'.length = fm) := HF.out.1.symm
  have HB : Hid (Below w.heap.size w w2) := H1.out.trans (HF.out.2.1.mono H1.out.size)
  have hm30 : fm ≤ 30 := by have := HF.out.1; omega
  have hmk : ∀ W : World, (Instr.makeSlice 22 (.int .i64 (fm : Int)) (.int .i64 (fm : Int))).run Try.prog W = .ok (.slice (some ⟨W.heap.size, 0, none⟩) fm fm) (W.alloc (.cells (madeCells #[.int .i64 0, .int .i64 0, .int .i64 0, .int .i64 0, .int .i64 0] (fm * 5)) 27)) := fun W => by
    obtain ⟨i, hi1, hi2⟩ := Option.map_eq_some_iff.1 info27
    simp only [Prod.mk.injEq] at hi2
    have := run_make (P := Try.prog) W 22 27 i _ Try.underlying22 hi1 hi2.1 .i64 .i64 fm fm (by omega) (by omega) (by rw [hi2.2.2]; omega) (by omega)
    rw [hi2.2.1] at this
    exact this
  have HO : Hid (w2.ownsRow w.heap.size 27 5 (.slice fa fm fc) fm (rcs l')) := owns_base HF.out.2.2 (fun k hk => Nat.le_trans H1.out.size (HF.out.2.2.lt k hk).1)
  clear HF KF hl30 hl' kS H1
  have HT0 : ∀ g, g = w2.heap.size → Below w.heap.size w (w2.alloc (.cells (madeCells #[.int .i64 0, .int .i64 0, .int .i64 0, .int .i64 0, .int .i64 0] (fm * 5)) 27)) ∧ RowT (w2.alloc (.cells (madeCells #[.int .i64 0, .int .i64 0, .int .i64 0, .int .i64 0, .int .i64 0] (fm * 5)) 27)) g fm (tsk l') 0 ∧ w.heap.size ≤ g ∧ (fm = 0 ∨ ∃ fo, fa = some ⟨fo, 0, none⟩ ∧ fo ≠ g ∧ w.heap.size ≤ fo ∧ RowL (w2.alloc (.cells (madeCells #[.int .i64 0, .int .i64 0, .int .i64 0, .int .i64 0, .int .i64 0] (fm * 5)) 27)) fo fm (tsk l') l' 0) := by
    rintro _ rfl
    refine ⟨HB.out.alloc HB.out.size _, ⟨_, heap_alloc_new w2 _, size_madeCells _ _, fun i hi => by omega⟩, HB.out.size, ?_⟩
    rcases HO.out.2 with ⟨e, q⟩ | ⟨g, cc, cur, e, hb, hg, _⟩
    · cases e; exact .inl (by omega)
    · have ho := HO.out
      cases e
      have hlt := block_lt hg
      refine .inr ⟨g, rfl, by omega, hb, ?_⟩
      obtain ⟨_, cur', hc, r⟩ := (RowL.start (G := tsk l') ho HL.out)
      exact ⟨cur', (Below.heap_alloc _ _ _ hlt).trans hc, r⟩
  have HT := hide_it (HT0 _ rfl)
  clear HT0 HO HB
  refine hide_it ?_
  go_upto_block 0 with fail
  generalize hgt : w2.heap.size = gt at *
  generalize hw3 : w2.alloc (.cells (madeCells #[.int .i64 0, .int .i64 0, .int .i64 0, .int .i64 0, .int .i64 0] (fm * 5)) 27) = w3 at *
  clear hmk hgt hw3
  go_wp2_with fail
  go_loopw [15] (fun iv W => ∃ k : Nat, k ≤ fm ∧ iv = .int .i64 k ∧ Hid (Below w.heap.size w W ∧ RowT W gt fm (tsk l') k ∧ w.heap.size ≤ gt ∧ (fm = 0 ∨ ∃ fo, fa = some ⟨fo, 0, none⟩ ∧ fo ≠ gt ∧ w.heap.size ≤ fo ∧ RowL W fo fm (tsk l') l' k))) (fun iv _ => fm - (intOf iv).toNat)
  case atStart => exact ⟨0, Nat.zero_le _, rfl, HT.out⟩
  case round =>
    clear HT
    obtain ⟨k, hk, rfl, HI⟩ := hrel
    by_cases hlt : k < fm
    · obtain ⟨hb, ht, hg, hr⟩ := HI.out
      rcases hr with hr | ⟨fo, rfl, hne, hf, hl⟩
      · omega
      · obtain ⟨d, hd⟩ : ∃ d, d + k + 1 = fm := ⟨fm - 1 - k, by omega⟩
        obtain ⟨x, hx⟩ : ∃ x, x = at' l' k := ⟨_, rfl⟩
        obtain ⟨curl, hc1, _, hc2⟩ := id hl
        obtain ⟨curt, hd1, hd2, _⟩ := id ht
        obtain ⟨c0, c1, c2, c3, c4⟩ := (hc2 k (Nat.le_refl _) hlt).world hc1
        have hcell : ∀ o, o < 5 → ∃ v, wr.cell? ⟨gt, d * 5 + o, none⟩ = some v := fun o ho => by
          rw [cell_of_row wr gt _ _ _ _ hd1]
          exact ⟨_, Array.getElem?_eq_getElem (by omega)⟩
        obtain ⟨v0, t0⟩ := hcell 0 (by omega)
        obtain ⟨v1, t1⟩ := hcell 1 (by omega)
        obtain ⟨v2, t2⟩ := hcell 2 (by omega)
        obtain ⟨v3, t3⟩ := hcell 3 (by omega)
        obtain ⟨v4, t4⟩ := hcell 4 (by omega)
        rw [Nat.add_zero] at t0
        have f1 : ∀ i, wr.frozen? ⟨fo, i, none⟩ = false := fun i => by simp [World.frozen?, hc1]
        have f2 : ∀ i, wr.frozen? ⟨gt, i, none⟩ = false := fun i => by simp [World.frozen?, hd1]
        have hne' : gt ≠ fo := fun e => hne e.symm
        have HST : Hid (∀ t, tsk l' k = ⟨t, x.p, x.m, x.q, x.s⟩ → RowL (wr.setCell ⟨fo, k * 5, none⟩ (.int .i64 t)) fo fm (tsk l') l' (k + 1) ∧ RowT (wr.setCell ⟨fo, k * 5, none⟩ (.int .i64 t)) gt fm (tsk l') k) := fun t e => ⟨hl.step hlt (by rw [← hx]; exact e), ht.other hne' _ _⟩
        have HBB : Hid (Below w.heap.size w wr ∧ w.heap.size ≤ gt ∧ w.heap.size ≤ fo ∧ fo ≠ gt) := ⟨hb, hg, hf, hne⟩
        have HX : Hid (x = at' l' k) := hx
        rw [← hx] at c0 c1 c2 c3 c4
        have HD : Hid (d + k + 1 = fm) := hd
        have e1 : (fm : Int) - 1 - k = (d : Int) := by omega
        clear hcell hc1 hc2 hd1 hd2 hl ht HI hb hg hf hx hd HL
        obtain ⟨xt, xp, xm, xq, xs⟩ := x
        simp only [] at c0 c1 c2 c3 c4
        go_wp2_with fail
        go_roundw
        case rel =>
          obtain ⟨p1, p2⟩ := HST.out _ (show tsk l' k = ⟨7 * (k : Int) % 31, xp, xm, xq, xs⟩ from by rw [tsk, ← HX.out])
          obtain ⟨hb, hg, hf, hne⟩ := HBB.out
          exact ⟨k + 1, by omega, by go_num, (((((hb.setCell hf _).setCell hg _).setCell hg _).setCell hg _).setCell hg _).setCell hg _, p2.step HD.out (r := ⟨7 * (k : Int) % 31, xp, xm, xq, xs⟩) (by rw [tsk, ← HX.out]), hg, .inr ⟨fo, rfl, hne, hf, ((((p1.other hne _ _).other hne _ _).other hne _ _).other hne _ _).other hne _ _⟩⟩
        case measure => dsimp only [intOf]; omega
    · obtain rfl : k = fm := by omega
      obtain ⟨hb, ht, hg, hr⟩ := HI.out
      obtain ⟨K, hK⟩ : ∃ K, K = (List.range k).map (tsk l') := ⟨_, rfl⟩
      have hKl : K.length = k := by rw [hK]; simp
      have h1 : RunsIn wr fa K := by
        rcases hr with hr | ⟨fo, rfl, hne, hf, hl⟩
        · intro i hi; omega
        · rw [hK]; exact hl.done
      have h2 : RunsIn wr (some ⟨gt, 0, none⟩) K.reverse := by rw [hK]; exact ht.done
      have hv : (vics K prio most).length < 50 := by have := vics_len K prio most; omega
      have hv2 : (vics K.reverse prio most).length < 50 := by have := vics_len K.reverse prio most; rw [List.length_reverse] at this; omega
      have he : ans K.reverse prio mem free slots most = ans K prio mem free slots most := ans_turned (by rw [hK]; exact tsk_own hm30)
      obtain ⟨AL, hAL⟩ : ∃ A, ansL K prio mem free slots most = A := ⟨_, rfl⟩
      obtain ⟨AB, hAB⟩ : ∃ A, ansB K prio mem free slots most = A := ⟨_, rfl⟩
      have hAL2 : ansL K.reverse prio mem free slots most = AL := by unfold ansL at hAL ⊢; rw [he]; exact hAL
      have hAB2 : ansB K.reverse prio mem free slots most = AB := by unfold ansB at hAB ⊢; rw [he]; exact hAB
      have hal : AL.length ≤ 1000000 := by have := ansL_len K prio mem free slots most; rw [hAL] at this; omega
      obtain ⟨am, ham⟩ : ∃ m, AL.length = m := ⟨_, rfl⟩
      have k1 : Calls Try.prog 10 #[.slice fa k fc, .int .i64 prio, .int .i64 mem, .int .i64 free, .int .i64 slots, .int .i64 most] wr fun e w' => ∃ ao c, e = .returned (.tuple #[.slice ao am c, .bool AB]) ∧ Hid (Below wr.heap.size wr w' ∧ Rd w' ao AL c) := choose_at hKl (by omega) h1 hv hAL hAB ham
      have k2 : ∀ W, Below wr.heap.size wr W → Calls Try.prog 10 #[.slice (some ⟨gt, 0, none⟩) k k, .int .i64 prio, .int .i64 mem, .int .i64 free, .int .i64 slots, .int .i64 most] W fun e w' => ∃ ao c, e = .returned (.tuple #[.slice ao am c, .bool AB]) ∧ Hid (Below W.heap.size W w' ∧ Rd w' ao AL c) := fun W h => choose_at (by rw [List.length_reverse]; exact hKl) (by omega) (h2.below h) hv2 hAL2 hAB2 ham
      have K2 := hide_it k2
      have HA := hide_it hal
      have HAM := hide_it ham
      have HBB := hide_it hb
      have dd : (AB == AB) = true := by simp
      clear hr h1 h2 hv hv2 he hAL hAB hAL2 hAB2 hal ham k2 hb ht hK hKl HL
      go_wp2_with (first | (go_at_call 10; first | (refine k1.mono ?_; rintro e w8 ⟨a8, c8, rfl, h8⟩; clear k1) | (refine (K2.out _ h8.out.1).mono ?_; rintro e w9 ⟨a9, c9, rfl, h9⟩; have HR8 : Hid (Rd w9 a8 AL c8) := h8.out.2.below h9.out.1)) | (go_at_call 12; refine (same_true HR8.out h9.out.2 HA.out HAM.out).mono ?_; rintro e w10 ⟨rfl, hb9⟩; have H9 := hide_it hb9; clear hb9))
      go_ret
      exact ⟨ret_bool (by simp), HBB.out.trans ((h8.out.1.trans ((h9.out.1.trans (H9.out.mono h9.out.1.size)).mono h8.out.1.size)).mono HBB.out.size)⟩
end Go.Proofs.Ytebielckdloncaa
