/- VictimTells, walked. -/
import Derived.Test.YtebielckdloncaaLMo
import Derived.Test.YtebielckdloncaaRfc
import Derived.Test.YtebielckdloncaaEqr
import Derived.Deep.RegionLaw
import Derived.Deep.RegionHeld3
namespace Go.Proofs.Ytebielckdloncaa
open Go.RowKit
open M
set_option linter.unusedVariables false
set_option linter.unusedSimpArgs false

theorem refchoose_at {l : List R} {la : Option Addr} {n cap : Nat} {prio mem free slots most : Int} {w : World} (hl : l.length = n) (hn : n ≤ 1000) (hR : RunsIn w la l) {L : List Int} {B : Bool} {m : Nat} (h1 : ansL l prio mem free slots most = L) (h2 : ansB l prio mem free slots most = B) (h3 : L.length = m) :
    Calls Try.prog 11 #[.slice la n cap, .int .i64 prio, .int .i64 mem, .int .i64 free, .int .i64 slots, .int .i64 most] w fun e w' => ∃ ao c, e = .returned (.tuple #[.slice ao m c, .bool B]) ∧ Hid (Below w.heap.size w w' ∧ Rd w' ao L c) := by
  refine (refchoose_any l la n cap prio mem free slots most w hl hn hR).mono ?_
  rintro e w' ⟨ao, m', c, rfl, h⟩
  obtain ⟨e1, e2⟩ := h.out
  rw [h1] at e1 e2
  rw [h2]
  have e3 : m' = m := by omega
  subst e3
  have o := owns_base (base' := 0) e2.own (fun q _ => Nat.zero_le _)
  have hm : L.length = m' := by omega
  rw [← hm] at o
  exact ⟨ao, c, rfl, e2.bel, own_rd o⟩
/-- One run, in memory. -/
theorem runs_cell {W : World} {n : Nat} {T : TypeId} {y : R} (hb : W.heap[n]? = some (.cells #[.int .i64 y.t, .int .i64 y.p, .int .i64 y.m, .int .i64 y.q, .int .i64 y.s] T)) : RunsIn W (some ⟨n, 0, none⟩) [y] := by
  intro i hi
  have : i = 0 := by simpa using hi
  subst this
  refine ⟨n, 0, rfl, block_lt hb, ?_, ?_, ?_, ?_, ?_⟩ <;> (rw [cell_of_row _ n _ _ _ _ hb]; rfl)
/-- An append of runs, as a step. -/
theorem wp_rcat {o : Oper} {a : Act} {w : World} {K : Act → World → Prop} {Q : Exit → Act → World → Prop} (sl el : TypeId) (hul : Try.prog.underlying sl = some (.slice el)) (hinfo : (Try.prog.info? el).map (fun i => (i.zero, i.size, i.bytes)) = some (some (.agg #[.int .i64 0, .int .i64 0, .int .i64 0, .int .i64 0, .int .i64 0]), 5, 40)) (s x : Operand)
    (ho : o.op = .call { callee := .builtin .append, args := #[s, x], argTypes := #[sl, sl] })
    {base m : Nat} {v : Value} {L : List R} (hm : m = L.length) (hown : w.ownsRow base el 5 v m (rcs L)) {n : Nat} {y : R} (hr : RunsIn w (some ⟨n, 0, none⟩) [y]) (hl : m + 1 ≤ 1000000) (hs1 : a.eval s = v) (hx : a.eval x = .slice (some ⟨n, 0, none⟩) 1 1) (hbase : base ≤ w.heap.size)
    (k : ∀ ao' cap' m' w', Hid (m' = m + 1 ∧ w'.ownsRow base el 5 (.slice ao' m' cap') m' (rcs (L ++ [y])) ∧ w.grownBy w' v.ownBlock ∧ Fresh w v (.slice ao' m' cap')) → K (a.put o.dst (.slice ao' m' cap')) w') : o.wp Try.prog a w K Q := by
  obtain ⟨i0, hi, hz0, hz1, hz2⟩ := info_parts hinfo
  obtain ⟨ao, cap, rfl⟩ := own_slice hown
  obtain ⟨v', w', hrun, ho', hg, fr⟩ := run_append_tell (P := Try.prog) w base sl o.type el i0 _ 5 40 hul hi hz0 hz1 hz2 rfl (by decide) _ m (rcs L) hown ⟨n, 0, none⟩ 1 1 (rcs [y]) (by rw [rcs_len]; rfl) (fun j u hj => by
    have hj2 : j < 5 := by
      rcases Nat.lt_or_ge j 5 with q | q
      · exact q
      · rw [List.getElem?_eq_none (by rw [rcs_len]; exact q)] at hj; cases hj
    obtain ⟨b', o', e, _, c0, c1, c2, c3, c4⟩ := hr 0 (by simp)
    cases e
    obtain ⟨e0, e1, e2, e3, e4⟩ := rcs_at [y] 0 (by simp)
    rw [Addr.add_lit]
    match j, hj2 with
    | 0, _ => rw [e0] at hj; cases hj; exact c0
    | 1, _ => rw [e1] at hj; cases hj; exact c1
    | 2, _ => rw [e2] at hj; cases hj; exact c2
    | 3, _ => rw [e3] at hj; cases hj; exact c3
    | 4, _ => rw [e4] at hj; cases hj; exact c4) (rcs_cell _) (by unfold maxLen; omega) (by omega) hbase
  rw [← rcs_app] at ho'
  obtain ⟨ao', cap', rfl⟩ := own_slice ho'
  unfold Oper.wp execOp
  simp only [ho, resolve, invoke, builtin, Sem.run_bind, Sem.run_pure, Result.andThen_ok, List.map_toArray, List.map_cons, List.map_nil, hs1, hx, hrun]
  exact k ao' cap' _ w' ⟨rfl, ho', hg, fr⟩
theorem take_one' {l : List R} {k : Nat} (h : k < l.length) : l.take (k + 1) = l.take k ++ [at' l k] := by
  rw [at_get h]; exact List.take_succ_eq_append_getElem h
theorem own_room {w : World} {base m c : Nat} {e : TypeId} {ao : Option Addr} {xs : List Value} (h : w.ownsRow base e 5 (.slice ao m c) m xs) : m ≤ c ∧ c ≤ maxLen ∧ (ao = none → m = 0 ∧ c = 0) := by
  rcases h.2 with ⟨e, q⟩ | ⟨g, cc, cur, e, hb, hg, h1, h2, h3, h4⟩
  · cases e; exact ⟨by omega, by unfold maxLen; omega, fun _ => ⟨by omega, rfl⟩⟩
  · cases e; exact ⟨by omega, by omega, fun q => by cases q⟩

set_option maxRecDepth 1000000 in
set_option maxHeartbeats 16000000 in
theorem victimTells_walk (l : List R) (la : Option Addr) (cap : Nat) (prio mem free slots most : Int) (w : World) (hR : RunsIn w la l) (hc : l.length ≤ cap) (hm : cap ≤ maxLen) (hn : la = none → l.length = 0 ∧ cap = 0)
    (b1 : -9223372036854775808 ≤ prio ∧ prio ≤ 9223372036854775807) (b2 : -9223372036854775808 ≤ mem ∧ mem ≤ 9223372036854775807) (b3 : -9223372036854775808 ≤ free ∧ free ≤ 9223372036854775807) (b4 : -9223372036854775808 ≤ slots ∧ slots ≤ 9223372036854775807) (b5 : -9223372036854775808 ≤ most ∧ most ≤ 9223372036854775807) :
    Calls Try.prog 3 #[.slice la l.length cap, .int .i64 prio, .int .i64 mem, .int .i64 free, .int .i64 slots, .int .i64 most] w fun e w' => e = .returned (.bool true) ∧ Below w.heap.size w w' := by
  have mx := mixedT
  have kS := shown_any w
  have kF := fun W (h : Below w.heap.size w W) => few_any l la l.length cap W rfl hc hm (hR.below h) hn
  have KF := hide_it kF
  clear kF hR hc hm hn
  obtain ⟨n0, hn0⟩ : ∃ n, l.length = n := ⟨_, rfl⟩
  rw [hn0] at KF ⊢
  go_enter Try.func3, Try.ntmps3
  go_wp2_with (first | (go_at_call 8; refine kS.mono ?_; rintro e w1 ⟨rfl, hb⟩; have H1 := hide_it hb; clear hb) | (go_at_call 9; refine (KF.out _ H1.out).mono ?_; rintro e w2 ⟨fa, fc, fm, rfl, HF⟩; refine Hid.out ?_))
  have hl30 : (l.take 30).length ≤ 30 := by rw [List.length_take]; omega
  obtain ⟨l', hl'⟩ : ∃ l', l' = l.take 30 := ⟨_, rfl⟩
  rw [← hl'] at hl30 HF
  have HL : Hid (l'.length = fm) := HF.out.1.symm
  have HR : Hid (RunsIn w2 fa l') := runs_own HF.out.2.2 HF.out.1
  have HB : Hid (Below w.heap.size w w2) := H1.out.trans (HF.out.2.1.mono H1.out.size)
  have hm30 : fm ≤ 30 := by have := HF.out.1; omega
  have HRM := hide_it (own_room HF.out.2.2)
  have kF2 : ∀ W, Below w2.heap.size w2 W → Calls Try.prog 9 #[.slice fa fm fc] W fun e w' => ∃ ao c, e = .returned (.slice ao fm c) ∧ Hid (Below W.heap.size W w' ∧ RunsIn w' ao l') := fun W h => by
    refine (few_any l' fa fm fc W HL.out HRM.out.1 HRM.out.2.1 (HR.out.below h) HRM.out.2.2).mono ?_
    rintro e w' ⟨ao, c, m, rfl, h9⟩
    obtain ⟨q1, q2, q3⟩ := h9.out
    rw [List.take_of_length_le hl30] at q1 q3
    have q4 : m = fm := by have := HL.out; omega
    subst q4
    exact ⟨ao, c, rfl, q2, runs_own q3 q1⟩
  have KF2 := hide_it kF2
  clear HF KF hl30 hl' kS H1 kF2 HRM
  refine hide_it ?_
  go_wp2_with fail
  go_loopw [14, 15] (fun rv iv W => ∃ (k m c : Nat) (ao : Option Addr), k ≤ fm ∧ iv = .int .i64 k ∧ rv = .slice ao m c ∧ Hid (Below w2.heap.size w2 W) ∧ Hid (m = (l'.take k).length ∧ W.ownsRow w2.heap.size 28 5 (.slice ao m c) m (rcs (l'.take k)))) (fun _ iv _ => fm - (intOf iv).toNat)
  case atStart => exact ⟨0, 0, 0, none, Nat.zero_le _, rfl, rfl, Below.refl _ _, ⟨by simp, World.ownsRow_nil _ _ _ _⟩⟩
  case round =>
    obtain ⟨k, m, c, ao, hk, rfl, rfl, HBr, HO⟩ := hrel
    by_cases hlt : k < fm
    · have hkl : k < l'.length := by have := HL.out; omega
      obtain ⟨lb, lo, hla, hlb2, d0, d1, d2, d3, d4⟩ := HR.out k hkl
      rw [← at_get hkl] at d0 d1 d2 d3 d4
      have HT : Hid (l'.take (k + 1) = l'.take k ++ [at' l' k]) := take_one' hkl
      have hmk : m = k := by have h := HO.out.1; rw [List.length_take] at h; omega
      subst hmk
      generalize at' l' m = x at *
      obtain ⟨xt, xp, xm, xq, xs⟩ := x
      simp only [] at d0 d1 d2 d3 d4
      have HCC : Hid (∀ W, Below w2.heap.size w2 W → W.cell? ⟨lb, lo + m * 5, none⟩ = some (.int .i64 xt) ∧ W.cell? ⟨lb, lo + m * 5 + 1, none⟩ = some (.int .i64 xp) ∧ W.cell? ⟨lb, lo + m * 5 + 2, none⟩ = some (.int .i64 xm) ∧ W.cell? ⟨lb, lo + m * 5 + 3, none⟩ = some (.int .i64 xq) ∧ W.cell? ⟨lb, lo + m * 5 + 4, none⟩ = some (.int .i64 xs)) := fun W h => ⟨(h.cell (p := ⟨lb, _, none⟩) hlb2).trans d0, (h.cell (p := ⟨lb, _, none⟩) hlb2).trans d1, (h.cell (p := ⟨lb, _, none⟩) hlb2).trans d2, (h.cell (p := ⟨lb, _, none⟩) hlb2).trans d3, (h.cell (p := ⟨lb, _, none⟩) hlb2).trans d4⟩
      obtain ⟨c0, c1, c2, c3, c4⟩ := HCC.out wr HBr.out
      have hlb : lb < wr.heap.size := by have := HBr.out.size; omega
      clear d0 d1 d2 d3 d4 hlb2
      have HOW : Hid (∀ W, Below wr.heap.size wr W → W.ownsRow w2.heap.size 28 5 (.slice ao m c) m (rcs (l'.take m)) ∧ w2.heap.size ≤ W.heap.size) := fun W h => ⟨owns_below HO.out.2 h, Nat.le_trans HBr.out.size h.size⟩
      have HGR : Hid (∀ W W', Below wr.heap.size wr W → W.grownBy W' (Value.slice ao m c).ownBlock → Below w2.heap.size w2 W') := fun W W' h hg => (HBr.out.trans (h.mono HBr.out.size)).grown hg (Nat.le_trans HBr.out.size h.size) (fun q hq => (HO.out.2.lt q hq).1)
      have HM1 : Hid (m + 1 ≤ 1000000) := (show m + 1 ≤ 1000000 from by omega)
      subst hla
      go_wp2_with fail
      go_region_held3 (fun W => W.cell? ⟨lb, lo + m * 5, none⟩ = some (.int .i64 xt) ∧ W.cell? ⟨lb, lo + m * 5 + 1, none⟩ = some (.int .i64 xp) ∧ W.cell? ⟨lb, lo + m * 5 + 2, none⟩ = some (.int .i64 xm) ∧ W.cell? ⟨lb, lo + m * 5 + 3, none⟩ = some (.int .i64 xq) ∧ W.cell? ⟨lb, lo + m * 5 + 4, none⟩ = some (.int .i64 xs)) (first | go_keep | (go_split_ands; simp [*]; done) | exact HCC.out _ B6.out) ((rw [if_pos (by rfl)]; refine wp_rcat 25 28 Try.underlying25 info28 (.tmp 31) (.tmp 58) (by rfl) HO.out.1 (HOW.out _ (by first | exact (((Below.refl _ _).alloc (Nat.le_refl _) _).drew) | exact (((Below.refl _ _).drew).alloc (Nat.le_refl _) _) | exact ((Below.refl _ _).alloc (Nat.le_refl _) _))).1 (runs_cell (y := ⟨xt, xp, xm, xq, xs⟩) (by first | exact heap_alloc_at rfl _ | exact heap_alloc_new _ _)) HM1.out (by simp [Act.eval, Act.put]) (by simp [Act.eval, Act.put]) (HOW.out _ (by first | exact (((Below.refl _ _).alloc (Nat.le_refl _) _).drew) | exact (((Below.refl _ _).drew).alloc (Nat.le_refl _) _) | exact ((Below.refl _ _).alloc (Nat.le_refl _) _))).2 ?_; intro ao' c' m' w6 HA; have B6 := hide_it (HGR.out _ _ (by first | exact (((Below.refl _ _).alloc (Nat.le_refl _) _).drew) | exact (((Below.refl _ _).drew).alloc (Nat.le_refl _) _) | exact ((Below.refl _ _).alloc (Nat.le_refl _) _)) HA.out.2.2.1)))
      all_goals
        go_wp2
        go_roundw
        case rel => exact ⟨m + 1, m', c', ao', by omega, by go_num, rfl, B6.out, ⟨by rw [HT.out, List.length_append, ← HO.out.1, HA.out.1]; rfl, by rw [HT.out]; exact HA.out.2.1⟩⟩
        case measure => dsimp only [intOf]; omega
    · obtain rfl : k = fm := by omega
      have htk : l'.take k = l' := List.take_of_length_le (by have := HL.out; omega)
      obtain ⟨o1, o2⟩ := HO.out
      rw [htk] at o1 o2
      have HRR : Hid (RunsIn wr ao l') := runs_own o2 o1
      have hlm : l'.length = m := o1.symm
      have hv : (vics l' prio most).length < 50 := by have := vics_len l' prio most; have := HL.out; omega
      obtain ⟨AL, hAL⟩ : ∃ A, ansL l' prio mem free slots most = A := ⟨_, rfl⟩
      obtain ⟨AB, hAB⟩ : ∃ A, ansB l' prio mem free slots most = A := ⟨_, rfl⟩
      have hal : AL.length ≤ 1000000 := by have := ansL_len l' prio mem free slots most; rw [hAL] at this; have := HL.out; omega
      obtain ⟨am, ham⟩ : ∃ q, AL.length = q := ⟨_, rfl⟩
      have k9 := KF2.out wr HBr.out
      have k10 : ∀ W, Below w2.heap.size w2 W → Calls Try.prog 10 #[.slice fa k fc, .int .i64 prio, .int .i64 mem, .int .i64 free, .int .i64 slots, .int .i64 most] W fun e w' => ∃ ao c, e = .returned (.tuple #[.slice ao am c, .bool AB]) ∧ Hid (Below W.heap.size W w' ∧ Rd w' ao AL c) := fun W h => choose_at HL.out (by omega) (HR.out.below h) hv hAL hAB ham
      have k11 : ∀ W, Below wr.heap.size wr W → Calls Try.prog 11 #[.slice ao m c, .int .i64 prio, .int .i64 mem, .int .i64 free, .int .i64 slots, .int .i64 most] W fun e w' => ∃ ao c, e = .returned (.tuple #[.slice ao am c, .bool AB]) ∧ Hid (Below W.heap.size W w' ∧ Rd w' ao AL c) := fun W h => refchoose_at hlm (by have := HL.out; omega) (HRR.out.below h) hAL hAB ham
      have K10 := hide_it k10
      have K11 := hide_it k11
      have HA := hide_it hal
      have HAM := hide_it ham
      have HBX : Hid (Below w2.heap.size w2 wr) := HBr.out
      have dd : (AB == AB) = true := by simp
      clear htk o1 o2 hlm hv hAL hAB hal ham k10 k11 KF2 HRR HO HBr
      go_wp2_with (first | (go_at_call 9; refine k9.mono ?_; rintro e w8 ⟨aw, cw, rfl, h8⟩; have B8 : Hid (Below w2.heap.size w2 w8) := HBX.out.trans (h8.out.1.mono HBX.out.size)) | (go_at_call 10; refine (K10.out _ B8.out).mono ?_; rintro e w9 ⟨a9, c9, rfl, h9⟩; have B9 : Hid (Below wr.heap.size wr w9) := h8.out.1.trans (h9.out.1.mono h8.out.1.size)) | (go_at_call 11; refine (K11.out _ B9.out).mono ?_; rintro e w10 ⟨a10, c10, rfl, h10⟩; refine Hid.out ?_))
      have B10 : Hid (Below w2.heap.size w2 w10) := HBX.out.trans ((B9.out.trans (h10.out.1.mono B9.out.size)).mono HBX.out.size)
      have HF1 : Hid (RunsIn w10 fa l') := HR.out.below B10.out
      have HW1 : Hid (RunsIn w10 aw l') := (h8.out.2.below h9.out.1).below h10.out.1
      have HRA : Hid (Rd w10 a9 AL c9) := h9.out.2.below h10.out.1
      have HRB : Hid (Rd w10 a10 AL c10) := h10.out.2
      have HBB : Hid (Below w.heap.size w w10) := HB.out.trans (B10.out.mono HB.out.size)
      clear k9 h8 h9 h10 B8 B9 B10 K10 K11 HR HB HBX
      refine hide_it ?_
      go_wp2_with fail
      go_loopw [21] (fun iv W => ∃ i : Nat, i ≤ k ∧ iv = .int .i64 i ∧ Hid (Below w10.heap.size w10 W)) (fun iv _ => k - (intOf iv).toNat)
      case atStart => exact ⟨0, Nat.zero_le _, rfl, Below.refl _ _⟩
      case round =>
        obtain ⟨i, hi, rfl, H⟩ := hrel
        by_cases hlt2 : i < k
        · have hil : i < l'.length := by have := HL.out; omega
          obtain ⟨lb, lo, hla, hlb, c0, c1, c2, c3, c4⟩ := (HF1.out.below H.out) i hil
          obtain ⟨ub, uo, hua, hub, d0, d1, d2, d3, d4⟩ := (HW1.out.below H.out) i hil
          rw [← at_get hil] at c0 c1 c2 c3 c4 d0 d1 d2 d3 d4
          generalize at' l' i = x at *
          obtain ⟨xt, xp, xm, xq, xs⟩ := x
          simp only [] at c0 c1 c2 c3 c4 d0 d1 d2 d3 d4
          have la0 := cell_grown hlb c0
          have la1 := cell_grown hlb c1
          have la2 := cell_grown hlb c2
          have la3 := cell_grown hlb c3
          have la4 := cell_grown hlb c4
          have lb0 := cell_grown hub d0
          have lb1 := cell_grown hub d1
          have lb2 := cell_grown hub d2
          have lb3 := cell_grown hub d3
          have lb4 := cell_grown hub d4
          have n27 := neq27
          subst hla
          subst hua
          go_wp2_with fail
          go_quiet_grown (fail)
          have HB9 : Hid (Below wr.heap.size wr (Go.Sort.grow (wr.drewN nq) osq)) := below_grown wr nq osq
          clear la0 la1 la2 la3 la4 lb0 lb1 lb2 lb3 lb4
          generalize Go.Sort.grow (wr.drewN nq) osq = w9 at *
          go_wp2
          go_roundw
          case rel => exact ⟨i + 1, by omega, by go_num, H.out.trans (HB9.out.mono H.out.size)⟩
          case measure => dsimp only [intOf]; omega
        · have HRA2 : Hid (Rd wr a9 AL c9) := HRA.out.below H.out
          have HRB2 : Hid (Rd wr a10 AL c10) := HRB.out.below H.out
          have HBW : Hid (Below w.heap.size w wr) := HBB.out.trans (H.out.mono HBB.out.size)
          obtain rfl : i = k := by omega
          clear HRA HRB HF1 HW1 HL
          go_wp2_with (go_at_call 12; refine (same_true HRA2.out HRB2.out HA.out HAM.out).mono ?_; rintro e w12 ⟨rfl, hb9⟩; have H9 := hide_it hb9; clear hb9)
          go_ret
          exact ⟨ret_bool (by simp), HBW.out.trans (H9.out.mono HBW.out.size)⟩
end Go.Proofs.Ytebielckdloncaa
