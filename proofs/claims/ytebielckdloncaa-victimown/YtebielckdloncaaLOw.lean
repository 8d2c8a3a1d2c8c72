/- VictimOwn, walked. -/
import Derived.Test.YtebielckdloncaaLMo
import Derived.Deep.CutRange
import Derived.Deep.CutBlock
namespace Go.Proofs.Ytebielckdloncaa
open Go.RowKit
open M
set_option linter.unusedVariables false
set_option linter.unusedSimpArgs false

/-- A run that came in, in any world on the way. -/
theorem RunsIn.at_ {w : World} {a : Option Addr} {l : List R} (h : RunsIn w a l) {i : Nat} (hi : i < l.length) : ∃ b o, a = some ⟨b, o, none⟩ ∧ b < w.heap.size ∧ w.cell? ⟨b, o + i * 5, none⟩ = some (.int .i64 (at' l i).t) ∧ w.cell? ⟨b, o + i * 5 + 1, none⟩ = some (.int .i64 (at' l i).p) ∧ w.cell? ⟨b, o + i * 5 + 2, none⟩ = some (.int .i64 (at' l i).m) ∧ w.cell? ⟨b, o + i * 5 + 3, none⟩ = some (.int .i64 (at' l i).q) ∧ w.cell? ⟨b, o + i * 5 + 4, none⟩ = some (.int .i64 (at' l i).s) := by
  obtain ⟨b, o, h1, h2, h3⟩ := h i hi
  rw [← at_get hi] at h3
  exact ⟨b, o, h1, h2, h3⟩
theorem take_one {l : List R} {k : Nat} (h : k < l.length) : l.take (k + 1) = l.take k ++ [at' l k] := by
  rw [at_get h]; exact List.take_succ_eq_append_getElem h
theorem vics_same {l l' : List R} {prio most : Int} (h : l.filter (mayB prio most) = l'.filter (mayB prio most)) : (vics l prio most).length = (vics l' prio most).length := by
  have a := vrun_filter prio most l []
  have b := vrun_filter prio most l' []
  simp only [List.nil_append] at a b
  have e : vrun l prio most = vrun l' prio most := by rw [a, b, h]
  have q := congrArg List.length e
  unfold vrun at q
  simpa using q

theorem runs_one {W : World} {n : Nat} (h : W.heap.size = n) (T : TypeId) (y : R) : RunsIn (W.alloc (.cells #[.int .i64 y.t, .int .i64 y.p, .int .i64 y.m, .int .i64 y.q, .int .i64 y.s] T)) (some ⟨n, 0, none⟩) [y] := by
  intro i hi
  have : i = 0 := by simpa using hi
  subst this
  have hb := heap_alloc_at h (.cells #[.int .i64 y.t, .int .i64 y.p, .int .i64 y.m, .int .i64 y.q, .int .i64 y.s] T)
  refine ⟨n, 0, rfl, block_lt hb, ?_, ?_, ?_, ?_, ?_⟩ <;> (rw [cell_of_row _ n _ _ _ _ hb]; rfl)
theorem adj_p {x : R} {prio most : Int} : mayB prio most ⟨x.t, max x.p prio, x.m, x.q, x.s⟩ = false := by simp [mayB]; omega
theorem adj_q {x : R} {prio most : Int} : mayB prio most ⟨x.t, x.p, x.m, max x.q most, x.s⟩ = false := by simp [mayB]; omega
theorem filt_more {l L : List R} {prio most : Int} {k : Nat} {y : R} (hf : L.filter (mayB prio most) = (l.take k).filter (mayB prio most)) (hy : mayB prio most y = false) (hk : k < l.length) : (L ++ [y] ++ [at' l k]).filter (mayB prio most) = (l.take (k + 1)).filter (mayB prio most) := by
  rw [take_one hk, List.filter_append, List.filter_append, List.filter_append, hf]
  simp [hy]
theorem filt_one {l L : List R} {prio most : Int} {k : Nat} (hf : L.filter (mayB prio most) = (l.take k).filter (mayB prio most)) (hk : k < l.length) : (L ++ [at' l k]).filter (mayB prio most) = (l.take (k + 1)).filter (mayB prio most) := by
  rw [take_one hk, List.filter_append, List.filter_append, hf]
theorem filt_over {l L : List R} {prio most : Int} {k : Nat} {y : R} (hf : L.filter (mayB prio most) = (l.take k).filter (mayB prio most)) (hy : mayB prio most y = false) (hk : l.length ≤ k) : (L ++ [y]).filter (mayB prio most) = (l.take (k + 1)).filter (mayB prio most) := by
  rw [List.take_of_length_le (by omega)]
  rw [List.take_of_length_le hk] at hf
  rw [List.filter_append, hf]
  simp [hy]

set_option maxRecDepth 1000000 in
set_option maxHeartbeats 16000000 in
theorem victimOwn_walk (l : List R) (la : Option Addr) (cap : Nat) (u : List R) (ua : Option Addr) (ucap : Nat) (prio mem free slots most : Int) (w : World) (hR : RunsIn w la l) (hc : l.length ≤ cap) (hm : cap ≤ maxLen) (hn : la = none → l.length = 0 ∧ cap = 0)
    (hRu : RunsIn w ua u) (hcu : u.length ≤ ucap) (hmu : ucap ≤ maxLen) (hnu : ua = none → u.length = 0 ∧ ucap = 0)
    (b1 : -9223372036854775808 ≤ prio ∧ prio ≤ 9223372036854775807) (b2 : -9223372036854775808 ≤ mem ∧ mem ≤ 9223372036854775807) (b3 : -9223372036854775808 ≤ free ∧ free ≤ 9223372036854775807) (b4 : -9223372036854775808 ≤ slots ∧ slots ≤ 9223372036854775807) (b5 : -9223372036854775808 ≤ most ∧ most ≤ 9223372036854775807) :
    Calls Try.prog 6 #[.slice la l.length cap, .slice ua u.length ucap, .int .i64 prio, .int .i64 mem, .int .i64 free, .int .i64 slots, .int .i64 most] w fun e w' => e = .returned (.bool true) ∧ Below w.heap.size w w' := by
  have kS := shown_any w
  have kF := fun W (h : Below w.heap.size w W) => few_any l la l.length cap W rfl hc hm (hR.below h) hn
  have kG := fun W (h : Below w.heap.size w W) => few_any u ua u.length ucap W rfl hcu hmu (hRu.below h) hnu
  have KF := hide_it kF
  have KG := hide_it kG
  clear kF kG hR hc hm hn hRu hcu hmu hnu
  obtain ⟨n0, hn0⟩ : ∃ n, l.length = n := ⟨_, rfl⟩
  obtain ⟨n1, hn1⟩ : ∃ n, u.length = n := ⟨_, rfl⟩
  rw [hn0] at KF ⊢
  rw [hn1] at KG ⊢
  go_enter Try.func6, Try.ntmps6
  go_wp2_with (first | (go_at_call 8; refine kS.mono ?_; rintro e w1 ⟨rfl, hb⟩; have H1 := hide_it hb; clear hb) | (go_at_call 9; refine (KF.out _ H1.out).mono ?_; rintro e w2 ⟨fa, fc, fm, rfl, HF⟩; refine Hid.out ?_))
  have HB2 : Hid (Below w.heap.size w w2) := H1.out.trans (HF.out.2.1.mono H1.out.size)
  refine hide_it ?_
  go_wp2_with (go_at_call 9; refine (KG.out _ HB2.out).mono ?_; rintro e w3 ⟨ga, gc, gm, rfl, HG⟩; refine Hid.out ?_)
  have hl30 : (l.take 30).length ≤ 30 := by rw [List.length_take]; omega
  have hu30 : (u.take 30).length ≤ 30 := by rw [List.length_take]; omega
  obtain ⟨l', hl'⟩ : ∃ l', l' = l.take 30 := ⟨_, rfl⟩
  obtain ⟨u', hu'⟩ : ∃ u', u' = u.take 30 := ⟨_, rfl⟩
  rw [← hl'] at hl30 HF
  rw [← hu'] at hu30 HG
  have HL : Hid (l'.length = fm) := HF.out.1.symm
  have HU : Hid (u'.length = gm) := HG.out.1.symm
  have HR : Hid (RunsIn w3 fa l') := (runs_own HF.out.2.2 HF.out.1).below HG.out.2.1
  have HRU : Hid (RunsIn w3 ga u') := runs_own HG.out.2.2 HG.out.1
  have HB : Hid (Below w.heap.size w w3) := HB2.out.trans (HG.out.2.1.mono HB2.out.size)
  have hm30 : fm ≤ 30 := by have := HF.out.1; omega
  have hg30 : gm ≤ 30 := by have := HG.out.1; omega
  clear HF HG KF KG hl30 hu30 hl' hu' kS H1 HB2
  have k0 : Calls Try.prog 10 #[.slice fa fm fc, .int .i64 prio, .int .i64 mem, .int .i64 free, .int .i64 slots, .int .i64 most] w3 fun e w' => ∃ ao c, e = .returned (.tuple #[.slice ao (ansL l' prio mem free slots most).length c, .bool (ansB l' prio mem free slots most)]) ∧ Hid (Below w3.heap.size w3 w' ∧ Rd w' ao (ansL l' prio mem free slots most) c) := choose_at HL.out (by omega) HR.out (by have := vics_len l' prio most; have := HL.out; omega) rfl rfl rfl
  have KA : ∀ (L : List R) (m c : Nat) (ao : Option Addr) (W : World), RunsIn W ao L → L.length = m → m ≤ 1000 → L.filter (mayB prio most) = l'.filter (mayB prio most) → Calls Try.prog 10 #[.slice ao m c, .int .i64 prio, .int .i64 mem, .int .i64 free, .int .i64 slots, .int .i64 most] W fun e w' => ∃ ao c, e = .returned (.tuple #[.slice ao (ansL l' prio mem free slots most).length c, .bool (ansB l' prio mem free slots most)]) ∧ Hid (Below W.heap.size W w' ∧ Rd w' ao (ansL l' prio mem free slots most) c) := fun L m c ao W h1 h2 h3 h4 => by
    have e := ans_filter (mem := mem) (free := free) (slots := slots) h4
    exact choose_at h2 (by omega) h1 (by rw [vics_same h4]; have := vics_len l' prio most; have := HL.out; omega) (by unfold ansL; rw [e]) (by unfold ansB; rw [e]) rfl
  have HKA := hide_it KA
  have HAL : Hid ((ansL l' prio mem free slots most).length ≤ 30) := by have := ansL_len l' prio mem free slots most; have := HL.out; exact (show _ ≤ 30 from by omega)
  clear KA
  obtain ⟨AL, hAL⟩ : ∃ A, A = ansL l' prio mem free slots most := ⟨_, rfl⟩
  rw [← hAL] at k0 HKA HAL
  clear hAL
  generalize ansB l' prio mem free slots most = AB at *
  obtain ⟨am, ham⟩ : ∃ m, AL.length = m := ⟨_, rfl⟩
  have HAM := hide_it ham
  rw [ham] at k0 HKA HAL
  clear ham
  refine hide_it ?_
  go_wp2_with (go_at_call 10; refine k0.mono ?_; rintro e w5 ⟨a5, c5, rfl, h5⟩; refine Hid.out ?_)
  have HB5 : Hid (Below w.heap.size w w5) := HB.out.trans (h5.out.1.mono HB.out.size)
  have HR5 : Hid (RunsIn w5 fa l') := HR.out.below h5.out.1
  have HU5 : Hid (RunsIn w5 ga u') := HRU.out.below h5.out.1
  have HRD : Hid (Rd w5 a5 AL c5) := h5.out.2
  have HO0 : Hid ((w5.alloc (.cells #[] 27)).ownsRow w5.heap.size 27 5 (.slice (some ⟨w5.heap.size, 0, none⟩) 0 0) 0 (rcs [])) := ⟨rfl, .inr ⟨w5.heap.size, 0, #[], rfl, Nat.le_refl _, heap_alloc_new w5 _, Nat.le_refl _, Nat.zero_le _, rfl, rfl⟩⟩
  have B0 : Hid (Below w5.heap.size w5 (w5.alloc (.cells #[] 27))) := (Below.refl _ _).alloc (Nat.le_refl _) _
  clear h5 k0 HB HR HRU
  refine hide_it ?_
  go_wp2_with fail
  go_loopw [18, 19] (fun av iv W => ∃ (k m c : Nat) (ao : Option Addr) (L : List R), k ≤ gm ∧ iv = .int .i64 k ∧ av = .slice ao m c ∧ Hid (Below w5.heap.size w5 W) ∧ Hid (m = L.length ∧ W.ownsRow w5.heap.size 27 5 (.slice ao m c) m (rcs L)) ∧ Hid (L.length ≤ 2 * k ∧ L.filter (mayB prio most) = (l'.take k).filter (mayB prio most))) (fun _ iv _ => gm - (intOf iv).toNat)
  case atStart => exact ⟨0, 0, 0, _, [], Nat.zero_le _, rfl, rfl, B0.out, ⟨rfl, HO0.out⟩, ⟨by simp, by simp⟩⟩
  case round =>
    clear HO0 B0
    obtain ⟨k, m, c, ao, L, hk, rfl, rfl, HB, HO, HF⟩ := hrel
    by_cases hlt : k < gm
    · obtain ⟨ub, uo, hua, hub, c0, c1, c2, c3, c4⟩ := (HU5.out.below HB.out).at_ (i := k) (by have := HU.out; omega)
      generalize at' u' k = x at *
      obtain ⟨xt, xp, xm, xq, xs⟩ := x
      simp only [] at c0 c1 c2 c3 c4
      subst hua
      obtain ⟨P, hP⟩ : ∃ P, P = max xp prio := ⟨_, rfl⟩
      obtain ⟨Q, hQ⟩ : ∃ Q, Q = max xq most := ⟨_, rfl⟩
      have m1 := max_is xp prio
      have m2 := max_is xq most
      rw [← hP] at m1
      rw [← hQ] at m2
      have HY1 : Hid (mayB prio most ⟨xt, P, xm, xq, xs⟩ = false) := by rw [hP]; exact adj_p (x := ⟨xt, xp, xm, xq, xs⟩)
      have HY2 : Hid (mayB prio most ⟨xt, xp, xm, Q, xs⟩ = false) := by rw [hQ]; exact adj_q (x := ⟨xt, xp, xm, xq, xs⟩)
      clear hP hQ
      have HM1 : Hid (m + 1 ≤ 1000000) := by have h1 := HF.out.1; have h2 := HO.out.1; exact (show m + 1 ≤ 1000000 from by omega)
      have HBX : Hid (∀ X Y, Below wr.heap.size wr ((wr.alloc X).alloc Y)) := fun X Y => ((Below.refl _ _).alloc (Nat.le_refl _) _).alloc (by simp) _
      by_cases he : (k : Int) % 2 = 0
      · clear m2
        have HY := HY1
        clear HY1 HY2
        have HAF : Hid (∀ X Y ao' c' m' w', Hid (m' = m + 1 ∧ w'.ownsRow w5.heap.size 27 5 (.slice ao' m' c') m' (rcs (L ++ [(⟨xt, P, xm, xq, xs⟩ : R)])) ∧ ((wr.alloc X).alloc Y).grownBy w' (Value.slice ao m c).ownBlock ∧ Fresh ((wr.alloc X).alloc Y) (.slice ao m c) (.slice ao' m' c')) → Below w5.heap.size w5 w' ∧ m' = (L ++ [(⟨xt, P, xm, xq, xs⟩ : R)]).length ∧ w'.ownsRow w5.heap.size 27 5 (.slice ao' m' c') m' (rcs (L ++ [(⟨xt, P, xm, xq, xs⟩ : R)])) ∧ m' + 1 ≤ 1000000) := fun X Y ao' c' m' w' hA => by
          have q1 := hA.out.1
          have q2 := HO.out.1
          have q3 := HF.out.1
          refine ⟨((HB.out.alloc HB.out.size _).alloc (Nat.le_trans HB.out.size (by simp)) _).grown hA.out.2.2.1 (Nat.le_trans HB.out.size (by simp; omega)) (fun q hq => (HO.out.2.lt q hq).1), by rw [q1, q2]; simp, hA.out.2.1, by omega⟩
        by_cases hf : k < fm
        · have HKL : Hid (k < l'.length) := by have := HL.out; exact (show k < l'.length from by omega)
          obtain ⟨zb, zo, hza, hzb, z0, z1, z2, z3, z4⟩ := HR5.out.at_ HKL.out
          have HZF : Hid (∀ p : R → Prop, p (at' l' k) → p (at' l' k)) := fun p h => h
          have HNX : Hid ((L ++ [(⟨xt, P, xm, xq, xs⟩ : R)] ++ [at' l' k]).filter (mayB prio most) = (l'.take (k + 1)).filter (mayB prio most)) := filt_more HF.out.2 HY.out HKL.out
          generalize at' l' k = z at *
          obtain ⟨zt, zp, zm, zq, zs⟩ := z
          simp only [] at z0 z1 z2 z3 z4
          clear HZF
          have HZC : Hid (∀ W, Below w5.heap.size w5 W → W.cell? ⟨zb, zo + k * 5, none⟩ = some (.int .i64 zt) ∧ W.cell? ⟨zb, zo + k * 5 + 1, none⟩ = some (.int .i64 zp) ∧ W.cell? ⟨zb, zo + k * 5 + 2, none⟩ = some (.int .i64 zm) ∧ W.cell? ⟨zb, zo + k * 5 + 3, none⟩ = some (.int .i64 zq) ∧ W.cell? ⟨zb, zo + k * 5 + 4, none⟩ = some (.int .i64 zs)) := fun W h => ⟨(Below.cell h (p := ⟨zb, _, none⟩) hzb).trans z0, (Below.cell h (p := ⟨zb, _, none⟩) hzb).trans z1, (Below.cell h (p := ⟨zb, _, none⟩) hzb).trans z2, (Below.cell h (p := ⟨zb, _, none⟩) hzb).trans z3, (Below.cell h (p := ⟨zb, _, none⟩) hzb).trans z4⟩
          clear z0 z1 z2 z3 z4
          subst hza
          go_wp2_with (first | (at_builtin; refine wpList_rcat 22 27 Try.underlying22 info27 rfl (.tmp 63) (.tmp 65) rfl HO.out.1 (owns_below HO.out.2 (HBX.out _ _)) (K := [⟨xt, P, xm, xq, xs⟩]) rfl (runs_one (by simp) 27 ⟨xt, P, xm, xq, xs⟩) (fun q => by cases q) HM1.out rfl rfl (by have := HB.out.size; simp; omega) ?_; intro ao1 c1' n1' w6 HA; have A6 := hide_it (HAF.out _ _ _ _ _ _ HA); obtain ⟨e0, e1, e2, e3, e4⟩ := HZC.out _ A6.out.1) | (at_builtin; refine wpList_rcat 22 27 Try.underlying22 info27 rfl (.tmp 71) (.tmp 76) rfl A6.out.2.1 (owns_below A6.out.2.2.1 ((Below.refl _ _).alloc (Nat.le_refl _) _)) (K := [⟨zt, zp, zm, zq, zs⟩]) rfl (runs_one rfl 27 ⟨zt, zp, zm, zq, zs⟩) (fun q => by cases q) A6.out.2.2.2 rfl rfl (by have := A6.out.1.size; simp; omega) ?_; intro ao2 c2' n2' w7 HC2))
          go_roundw
          case rel => exact ⟨k + 1, n2', c2', ao2, L ++ [(⟨xt, P, xm, xq, xs⟩ : R)] ++ [⟨zt, zp, zm, zq, zs⟩], by omega, by simp, rfl, (A6.out.1.alloc A6.out.1.size _).grown HC2.out.2.2.1 (Nat.le_trans A6.out.1.size (by simp)) (fun q hq => (A6.out.2.2.1.lt q hq).1), ⟨by rw [HC2.out.1, A6.out.2.1]; simp, HC2.out.2.1⟩, ⟨by have := HF.out.1; simp; omega, HNX.out⟩⟩
          case measure => dsimp only [intOf]; omega
        · have HNX : Hid ((L ++ [(⟨xt, P, xm, xq, xs⟩ : R)]).filter (mayB prio most) = (l'.take (k + 1)).filter (mayB prio most)) := filt_over HF.out.2 HY.out (by have := HL.out; omega)
          go_wp2_with (at_builtin; refine wpList_rcat 22 27 Try.underlying22 info27 rfl (.tmp 63) (.tmp 65) rfl HO.out.1 (owns_below HO.out.2 (HBX.out _ _)) (K := [⟨xt, P, xm, xq, xs⟩]) rfl (runs_one (by simp) 27 ⟨xt, P, xm, xq, xs⟩) (fun q => by cases q) HM1.out rfl rfl (by have := HB.out.size; simp; omega) ?_; intro ao1 c1' n1' w6 HA; have A6 := hide_it (HAF.out _ _ _ _ _ _ HA))
          go_roundw
          case rel => exact ⟨k + 1, n1', c1', ao1, L ++ [(⟨xt, P, xm, xq, xs⟩ : R)], by omega, by simp, rfl, A6.out.1, ⟨A6.out.2.1, A6.out.2.2.1⟩, ⟨by have := HF.out.1; simp; omega, HNX.out⟩⟩
          case measure => dsimp only [intOf]; omega
      · clear m1
        have HY := HY2
        clear HY1 HY2
        have HAF : Hid (∀ X Y ao' c' m' w', Hid (m' = m + 1 ∧ w'.ownsRow w5.heap.size 27 5 (.slice ao' m' c') m' (rcs (L ++ [(⟨xt, xp, xm, Q, xs⟩ : R)])) ∧ ((wr.alloc X).alloc Y).grownBy w' (Value.slice ao m c).ownBlock ∧ Fresh ((wr.alloc X).alloc Y) (.slice ao m c) (.slice ao' m' c')) → Below w5.heap.size w5 w' ∧ m' = (L ++ [(⟨xt, xp, xm, Q, xs⟩ : R)]).length ∧ w'.ownsRow w5.heap.size 27 5 (.slice ao' m' c') m' (rcs (L ++ [(⟨xt, xp, xm, Q, xs⟩ : R)])) ∧ m' + 1 ≤ 1000000) := fun X Y ao' c' m' w' hA => by
          have q1 := hA.out.1
          have q2 := HO.out.1
          have q3 := HF.out.1
          refine ⟨((HB.out.alloc HB.out.size _).alloc (Nat.le_trans HB.out.size (by simp)) _).grown hA.out.2.2.1 (Nat.le_trans HB.out.size (by simp; omega)) (fun q hq => (HO.out.2.lt q hq).1), by rw [q1, q2]; simp, hA.out.2.1, by omega⟩
        by_cases hf : k < fm
        · have HKL : Hid (k < l'.length) := by have := HL.out; exact (show k < l'.length from by omega)
          obtain ⟨zb, zo, hza, hzb, z0, z1, z2, z3, z4⟩ := HR5.out.at_ HKL.out
          have HZF : Hid (∀ p : R → Prop, p (at' l' k) → p (at' l' k)) := fun p h => h
          have HNX : Hid ((L ++ [(⟨xt, xp, xm, Q, xs⟩ : R)] ++ [at' l' k]).filter (mayB prio most) = (l'.take (k + 1)).filter (mayB prio most)) := filt_more HF.out.2 HY.out HKL.out
          generalize at' l' k = z at *
          obtain ⟨zt, zp, zm, zq, zs⟩ := z
          simp only [] at z0 z1 z2 z3 z4
          clear HZF
          have HZC : Hid (∀ W, Below w5.heap.size w5 W → W.cell? ⟨zb, zo + k * 5, none⟩ = some (.int .i64 zt) ∧ W.cell? ⟨zb, zo + k * 5 + 1, none⟩ = some (.int .i64 zp) ∧ W.cell? ⟨zb, zo + k * 5 + 2, none⟩ = some (.int .i64 zm) ∧ W.cell? ⟨zb, zo + k * 5 + 3, none⟩ = some (.int .i64 zq) ∧ W.cell? ⟨zb, zo + k * 5 + 4, none⟩ = some (.int .i64 zs)) := fun W h => ⟨(Below.cell h (p := ⟨zb, _, none⟩) hzb).trans z0, (Below.cell h (p := ⟨zb, _, none⟩) hzb).trans z1, (Below.cell h (p := ⟨zb, _, none⟩) hzb).trans z2, (Below.cell h (p := ⟨zb, _, none⟩) hzb).trans z3, (Below.cell h (p := ⟨zb, _, none⟩) hzb).trans z4⟩
          clear z0 z1 z2 z3 z4
          subst hza
          go_wp2_with (first | (at_builtin; refine wpList_rcat 22 27 Try.underlying22 info27 rfl (.tmp 63) (.tmp 65) rfl HO.out.1 (owns_below HO.out.2 (HBX.out _ _)) (K := [⟨xt, xp, xm, Q, xs⟩]) rfl (runs_one (by simp) 27 ⟨xt, xp, xm, Q, xs⟩) (fun q => by cases q) HM1.out rfl rfl (by have := HB.out.size; simp; omega) ?_; intro ao1 c1' n1' w6 HA; have A6 := hide_it (HAF.out _ _ _ _ _ _ HA); obtain ⟨e0, e1, e2, e3, e4⟩ := HZC.out _ A6.out.1) | (at_builtin; refine wpList_rcat 22 27 Try.underlying22 info27 rfl (.tmp 71) (.tmp 76) rfl A6.out.2.1 (owns_below A6.out.2.2.1 ((Below.refl _ _).alloc (Nat.le_refl _) _)) (K := [⟨zt, zp, zm, zq, zs⟩]) rfl (runs_one rfl 27 ⟨zt, zp, zm, zq, zs⟩) (fun q => by cases q) A6.out.2.2.2 rfl rfl (by have := A6.out.1.size; simp; omega) ?_; intro ao2 c2' n2' w7 HC2))
          go_roundw
          case rel => exact ⟨k + 1, n2', c2', ao2, L ++ [(⟨xt, xp, xm, Q, xs⟩ : R)] ++ [⟨zt, zp, zm, zq, zs⟩], by omega, by simp, rfl, (A6.out.1.alloc A6.out.1.size _).grown HC2.out.2.2.1 (Nat.le_trans A6.out.1.size (by simp)) (fun q hq => (A6.out.2.2.1.lt q hq).1), ⟨by rw [HC2.out.1, A6.out.2.1]; simp, HC2.out.2.1⟩, ⟨by have := HF.out.1; simp; omega, HNX.out⟩⟩
          case measure => dsimp only [intOf]; omega
        · have HNX : Hid ((L ++ [(⟨xt, xp, xm, Q, xs⟩ : R)]).filter (mayB prio most) = (l'.take (k + 1)).filter (mayB prio most)) := filt_over HF.out.2 HY.out (by have := HL.out; omega)
          go_wp2_with (at_builtin; refine wpList_rcat 22 27 Try.underlying22 info27 rfl (.tmp 63) (.tmp 65) rfl HO.out.1 (owns_below HO.out.2 (HBX.out _ _)) (K := [⟨xt, xp, xm, Q, xs⟩]) rfl (runs_one (by simp) 27 ⟨xt, xp, xm, Q, xs⟩) (fun q => by cases q) HM1.out rfl rfl (by have := HB.out.size; simp; omega) ?_; intro ao1 c1' n1' w6 HA; have A6 := hide_it (HAF.out _ _ _ _ _ _ HA))
          go_roundw
          case rel => exact ⟨k + 1, n1', c1', ao1, L ++ [(⟨xt, xp, xm, Q, xs⟩ : R)], by omega, by simp, rfl, A6.out.1, ⟨A6.out.2.1, A6.out.2.2.1⟩, ⟨by have := HF.out.1; simp; omega, HNX.out⟩⟩
          case measure => dsimp only [intOf]; omega
    · obtain rfl : k = gm := by omega
      clear HU5 HU
      go_wp2_with fail
      go_loopw [18, 21] (fun av iv W => ∃ (i m c : Nat) (ao : Option Addr) (L : List R), i ≤ max k fm ∧ k ≤ i ∧ iv = .int .i64 i ∧ av = .slice ao m c ∧ Hid (Below w5.heap.size w5 W) ∧ Hid (m = L.length ∧ W.ownsRow w5.heap.size 27 5 (.slice ao m c) m (rcs L)) ∧ Hid (L.length ≤ 2 * i ∧ L.filter (mayB prio most) = (l'.take i).filter (mayB prio most))) (fun _ iv _ => fm - (intOf iv).toNat)
      case atStart => exact ⟨k, m, c, ao, L, by omega, Nat.le_refl _, rfl, rfl, HB.out, HO.out, HF.out⟩
      case round =>
        clear HF HO HB
        obtain ⟨i, m, c, ao, L, hi, hki, rfl, rfl, HB, HO, HF⟩ := hrel
        have hi30 : i ≤ 30 := by omega
        by_cases hlt2 : i < fm
        · have HKL : Hid (i < l'.length) := by have := HL.out; exact (show i < l'.length from by omega)
          have HM1 : Hid (m + 1 ≤ 1000000) := by have h1 := HF.out.1; have h2 := HO.out.1; exact (show m + 1 ≤ 1000000 from by omega)
          obtain ⟨zb, zo, hza, hzb, z0, z1, z2, z3, z4⟩ := (HR5.out.below HB.out).at_ HKL.out
          have HNX : Hid ((L ++ [at' l' i]).filter (mayB prio most) = (l'.take (i + 1)).filter (mayB prio most)) := filt_one HF.out.2 HKL.out
          generalize at' l' i = z at *
          obtain ⟨zt, zp, zm, zq, zs⟩ := z
          simp only [] at z0 z1 z2 z3 z4
          subst hza
          go_wp2_with (at_builtin; refine wpList_rcat 22 27 Try.underlying22 info27 rfl (.tmp 86) (.tmp 91) rfl HO.out.1 (owns_below HO.out.2 ((Below.refl _ _).alloc (Nat.le_refl _) _)) (K := [⟨zt, zp, zm, zq, zs⟩]) rfl (runs_one rfl 27 ⟨zt, zp, zm, zq, zs⟩) (fun q => by cases q) HM1.out rfl rfl (by have := HB.out.size; simp; omega) ?_; intro ao2 c2' n2' w7 HC2)
          go_roundw
          case rel => exact ⟨i + 1, n2', c2', ao2, L ++ [⟨zt, zp, zm, zq, zs⟩], by omega, by omega, by simp, rfl, (HB.out.alloc HB.out.size _).grown HC2.out.2.2.1 (Nat.le_trans HB.out.size (by simp)) (fun q hq => (HO.out.2.lt q hq).1), ⟨by rw [HC2.out.1, HO.out.1]; simp, HC2.out.2.1⟩, ⟨by have := HF.out.1; simp; omega, HNX.out⟩⟩
          case measure => dsimp only [intOf]; omega
        · have HRX := hide_it (runs_own HO.out.2 HO.out.1)
          have HFX : Hid (L.filter (mayB prio most) = l'.filter (mayB prio most)) := by
            have h := HF.out.2
            rw [List.take_of_length_le (by have := HL.out; omega)] at h
            exact h
          have k1 := HKA.out L m c ao wr HRX.out HO.out.1.symm (by have h1 := HF.out.1; have h2 := HO.out.1; omega) HFX.out
          have HRA : Hid (Rd wr a5 AL c5) := HRD.out.below HB.out
          have HWB : Hid (Below w.heap.size w wr) := HB5.out.trans (HB.out.mono HB5.out.size)
          have HA30 : Hid (AL.length ≤ 1000000) := by have h1 := HAL.out; have h2 := HAM.out; exact (show AL.length ≤ 1000000 from by omega)
          have dd : (AB == AB) = true := by simp
          clear HRX HFX HKA HF HO HRD HB5 HB HR5
          go_wp2_with (first | (go_at_call 10; refine k1.mono ?_; rintro e w8 ⟨a8, c8, rfl, h8⟩; have HRA8 : Hid (Rd w8 a5 AL c5) := HRA.out.below h8.out.1) | (go_at_call 12; refine (same_true HRA8.out h8.out.2 HA30.out HAM.out).mono ?_; rintro e w9 ⟨rfl, hb9⟩; have H9 := hide_it hb9; clear hb9))
          go_ret
          exact ⟨ret_bool (by simp), HWB.out.trans ((h8.out.1.trans (H9.out.mono h8.out.1.size)).mono HWB.out.size)⟩
end Go.Proofs.Ytebielckdloncaa
