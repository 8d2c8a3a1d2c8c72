/- The document's own Raised. -/
import Derived.Test.YtmeeimfjibcncaaDoorROf
import Derived.Deep.RegionHeld3
namespace Go.Proofs.YtmeeimfjibcncaaDoor
open Go.RowKit
open M
set_option linter.unusedVariables false
set_option linter.unusedSimpArgs false

theorem ofL_len (n : Nat) (es : List E) (Q : List Rq) : (ofL n es Q).length = n := by simp [ofL]
/-- 'append([]Edge{}, l...)', as a step. -/
theorem wp_copyE {o : Oper} {a : Act} {W : World} {K : Act → World → Prop} {Q : Exit → Act → World → Prop} (s x : Operand)
    (ho : o.op = .call { callee := .builtin .append, args := #[s, x], argTypes := #[34, 34] })
    (base blk : Nat) (hown0 : W.ownsRow base 58 2 (.slice (some ⟨blk, 0, none⟩) 0 0) 0 [])
    (u : Value) (es : List E) (b : Nat) (hu : W.ownsRow b 58 2 u es.length (ecells es)) (hl : es.length ≤ 1000000) (m : Nat) (hm : es.length = m) (hs : a.eval s = .slice (some ⟨blk, 0, none⟩) 0 0) (hx : a.eval x = u) (hbase : base ≤ W.heap.size)
    (k : ∀ ao cap w', Hid (w'.ownsRow base 58 2 (.slice ao m cap) es.length (ecells es) ∧ Below base W w') → K (a.put o.dst (.slice ao m cap)) w') : o.wp Tryd.prog a W K Q := by
  subst hm
  obtain ⟨i0, hi, hz0, hz1, hz2⟩ := info_parts info58
  rcases hu.2 with ⟨rfl, hz⟩ | ⟨r, cap, cur, rfl, hbr, hgr, hnc, hcm, hcs, htk⟩
  · have hL : es = [] := List.eq_nil_of_length_eq_zero hz
    subst hL
    have hr := run_append_nil2 (P := Tryd.prog) W 34 o.type 58 i0 Tryd.underlying34 hi ⟨blk, 0, none⟩
    unfold Oper.wp execOp
    simp only [ho, resolve, invoke, builtin, Sem.run_bind, Sem.run_pure, Result.andThen_ok, List.map_toArray, List.map_cons, List.map_nil, hs, hx, hr]
    exact k _ _ _ ⟨hown0, Below.refl _ _⟩
  · obtain ⟨v', w', hr, h2, h3, _⟩ := run_append_tell (P := Tryd.prog) W base 34 o.type 58 i0 _ 2 16 Tryd.underlying34 hi hz0 hz1 hz2 rfl (by decide) _ 0 [] hown0 ⟨r, 0, none⟩ es.length cap (ecells es) (ecells_len es) (hu.cells (g := r) rfl) (ecells_one es) (by unfold maxLen; omega) (by omega) hbase
    have h2' : w'.ownsRow base 58 2 v' es.length (ecells es) := by simpa using h2
    obtain ⟨ao', cap', rfl⟩ : ∃ a c, v' = .slice a es.length c := by
      rcases h2'.2 with ⟨e, hz⟩ | ⟨r, cap, cur, e, _⟩
      · exact ⟨none, 0, by rw [e, hz]⟩
      · exact ⟨_, cap, e⟩
    unfold Oper.wp execOp
    simp only [ho, resolve, invoke, builtin, Sem.run_bind, Sem.run_pure, Result.andThen_ok, List.map_toArray, List.map_cons, List.map_nil, hs, hx, hr]
    refine k _ _ _ ⟨h2', (Below.refl _ _).grown h3 hbase (fun k hk => (hown0.lt k hk).1)⟩

set_option maxRecDepth 1000000 in
set_option maxHeartbeats 4000000 in
theorem rraised_any {a b : Int} {w : World} {r n : Nat} {v : Value} {es : List E} (h : RM w r n v es) (hn : n ≤ 64) (hg : ∀ e ∈ es, e.1 < n ∧ e.2 < n) (hg2 : ∀ e ∈ addE n es a b, e.1 < n ∧ e.2 < n) (hle : es.length ≤ 1000000) (hle2 : (addE n es a b).length ≤ 1000000) {qa : Option Addr} {Q : List Rq} (hq : QIn w qa Q) (hm : Q.length ≤ 1000000) (qc : Nat) :
    Calls Tryd.prog 18 #[ptr r, .slice qa Q.length qc, .int .i64 a, .int .i64 b] w fun e w' => ∃ u, e = .returned u ∧ OwnI w' w.heap.size u (diffL (prioOf n es Q) (prioOf n (addE n es a b) Q) n) ∧ Below w.heap.size w w' := by
  have k1 : Calls Tryd.prog 16 #[ptr r, .slice qa Q.length qc] w fun e w' => ∃ ao cap, e = .returned (.slice ao n cap) ∧ Hid (ZAt w' (.slice ao n cap) (ofL n es Q) ∧ Below w.heap.size w w') := by
    refine (rof_any h hn hg hle hq hm qc).mono ?_
    rintro e w' ⟨u, rfl, ho, hb2⟩
    have s := own_zat ho
    obtain ⟨ao, cap', rfl⟩ := s.form
    rw [ofL_len] at s ⊢
    exact ⟨ao, cap', rfl, s, hb2⟩
  have k2 : ∀ W r2 v2, RM W r2 n v2 (addE n es a b) → Below w.heap.size w W → Calls Tryd.prog 16 #[ptr r2, .slice qa Q.length qc] W fun e w' => ∃ ao cap, e = .returned (.slice ao n cap) ∧ Hid (ZAt w' (.slice ao n cap) (ofL n (addE n es a b) Q) ∧ Below W.heap.size W w') := fun W r2 v2 h2 hb => by
    refine (rof_any h2 hn hg2 hle2 (hq.below hb (Nat.le_refl _)) hm qc).mono ?_
    rintro e w' ⟨u, rfl, ho, hb2⟩
    have s := own_zat ho
    obtain ⟨ao, cap', rfl⟩ := s.form
    rw [ofL_len] at s ⊢
    exact ⟨ao, cap', rfl, s, hb2⟩
  have ka : ∀ W r2 v2, RM W r2 n v2 es → Calls Tryd.prog 11 #[ptr r2, .int .i64 a, .int .i64 b] W fun e w' => e = .returned (.tuple #[.bool (newB n es a b), .int .i64 (errN n a b)]) ∧ Hid (∃ v', RM w' r2 n v' (addE n es a b) ∧ Turn (fun k => k = r2) W w') := fun W r2 v2 h2 => by
    refine (radd_any h2 hn a b hle).mono ?_
    rintro e w' ⟨rfl, v', h3, h4, _⟩
    exact ⟨rfl, v', h3, h4⟩
  obtain ⟨vo, vc, hv, -⟩ := h.eat
  have HH := hide_it h
  have HDS := hide_it (diffL_step (prioOf n es Q) (prioOf n (addE n es a b) Q))
  have HD0 : Hid (diffL (prioOf n es Q) (prioOf n (addE n es a b) Q) 0 = []) := rfl
  have HDL : Hid (∀ k, (diffL (prioOf n es Q) (prioOf n (addE n es a b) Q) k).length ≤ k) := fun k => by unfold diffL; exact Nat.le_trans (List.length_filter_le _ _) (by simp)
  have HZ1 : Hid (∀ t (ht : t < (ofL n es Q).length), (ofL n es Q)[t] = prioOf n es Q t) := fun t ht => by simp [ofL]
  have HZ2 : Hid (∀ t (ht : t < (ofL n (addE n es a b) Q).length), (ofL n (addE n es a b) Q)[t] = prioOf n (addE n es a b) Q t) := fun t ht => by simp [ofL]
  have HL1 : Hid ((ofL n es Q).length = n) := ofL_len _ _ _
  have HL2 : Hid ((ofL n (addE n es a b) Q).length = n) := ofL_len _ _ _
  obtain ⟨i0, hi, hz0, hz1, hz2⟩ := info_parts info3
  generalize ofL n es Q = Z1 at *
  generalize ofL n (addE n es a b) Q = Z2 at *
  generalize prioOf n es Q = P at *
  generalize prioOf n (addE n es a b) Q = R at *
  generalize diffL P R = D at *
  generalize addE n es a b = es2 at *
  generalize newB n es a b = nb at *
  generalize errN n a b = er at *
  generalize Q.length = m at *
  subst hv
  obtain ⟨el, hel⟩ : ∃ el, es.length = el := ⟨_, rfl⟩
  have HEL := hide_it hel
  have HLE := hide_it hle
  rw [hel] at HH
  clear h hg hg2 hle hle2 hq hel
  go_enter Tryd.func18, Tryd.ntmps18
  go_upto_region 2 with (go_at_call 16; refine k1.mono ?_; rintro e w1 ⟨wo, wcp, rfl, s1⟩)
  have HC : Hid (∀ W, Below w1.heap.size w1 W → W.cell? ⟨r, 0, none⟩ = some (.int .i64 n) ∧ W.cell? ⟨r, 1, none⟩ = some (.slice vo el vc)) := fun W hb => by
    have := (HH.out.below s1.out.2).below hb
    exact ⟨this.c0, this.c1⟩
  have HOW : Hid (∀ W, Below w1.heap.size w1 W → W.ownsRow 0 58 2 (.slice vo el vc) es.length (ecells es) ∧ w1.heap.size ≤ W.heap.size) := fun W hb => ⟨((HH.out.below s1.out.2).below hb).own, hb.size⟩
  obtain ⟨c0, c1⟩ := HC.out w1 (Below.refl _ _)
  clear k1
  go_cut [10] from 17 to 28 (fun s10 wx => ∃ r2, s10 = ptr r2 ∧ Hid (∃ v2, RM wx r2 n v2 es ∧ Below w1.heap.size w1 wx ∧ w1.heap.size ≤ r2))
  case first =>
    (go_region_held3 (fun W => W.cell? ⟨r, 0, none⟩ = some (.int .i64 n) ∧ W.cell? ⟨r, 1, none⟩ = some (.slice vo el vc)) (first | go_keep | (go_split_ands; simp [*]; done) | exact HC.out _ B6.out) ((rw [if_pos (by rfl)]; refine wp_copyE (.tmp 21) (.tmp 25) (by rfl) w1.heap.size w1.heap.size (by first | exact World.ownsRow_made _ #[] 0 (Nat.le_refl _) (by simp [maxLen]) (by simp)) (.slice vo el vc) es 0 (HOW.out _ (by first | exact (((Below.refl _ _).drew).alloc (Nat.le_refl _) _) | exact (((Below.refl _ _).alloc (Nat.le_refl _) _).drew) | exact ((Below.refl _ _).alloc (Nat.le_refl _) _))).1 HLE.out el HEL.out (by simp [Act.eval, Act.put]) (by simp [Act.eval, Act.put]) (HOW.out _ (by first | exact (((Below.refl _ _).drew).alloc (Nat.le_refl _) _) | exact (((Below.refl _ _).alloc (Nat.le_refl _) _).drew) | exact ((Below.refl _ _).alloc (Nat.le_refl _) _))).2 ?_; intro ao6 cap6 w6 HA; have B6 := hide_it ((show Below w1.heap.size w1 _ from (by first | exact (((Below.refl _ _).drew).alloc (Nat.le_refl _) _) | exact (((Below.refl _ _).alloc (Nat.le_refl _) _).drew) | exact ((Below.refl _ _).alloc (Nat.le_refl _) _))).trans HA.out.2))))
    all_goals
      have hrm : Hid (∃ v2, RM (w6.alloc (.cells #[.int .i64 n, .slice ao6 el cap6] 36)) w6.heap.size n v2 es ∧ Below w1.heap.size w1 (w6.alloc (.cells #[.int .i64 n, .slice ao6 el cap6] 36)) ∧ w1.heap.size ≤ w6.heap.size) := by
        have h6 := HA.out.1
        refine ⟨_, ⟨heap_alloc_new _ _, (owns_base h6 (fun _ _ => Nat.zero_le _)).alloc _, fun e => ?_⟩, B6.out.alloc B6.out.size _, B6.out.size⟩
        have := (h6.lt _ e).2
        omega
      go_wp2
      go_meet
      exact ⟨_, rfl, hrm⟩
  case rest =>
    obtain ⟨r2, rfl, HR⟩ := hcut
    obtain ⟨v2, hrm, hb2, hge⟩ := HR.out
    have HG := hide_it hge
    have HB2 := hide_it hb2
    have ka' := ka _ _ _ hrm
    clear HR hrm hb2 hge ka c0 c1 HOW HC
    go_upto_region 4 with (go_at_call 11; refine ka'.mono ?_; rintro e w4 ⟨rfl, s4⟩)
    obtain ⟨v4, hr4, ht4⟩ := s4.out
    have B4 : Hid (Below w1.heap.size w1 w4) := HB2.out.trans (ht4.below HB2.out.size (fun k hk => by rw [hk]; exact HG.out))
    have k2' := k2 _ _ _ hr4 (s1.out.2.trans (B4.out.mono s1.out.2.size))
    clear ka' k2 s4 hr4 ht4 HB2 HG
    go_upto_region 6 with (go_at_call 16; refine k2'.mono ?_; rintro e w5 ⟨io, ic, rfl, s5⟩)
    have B5 : Hid (Below w1.heap.size w1 w5) := B4.out.trans (s5.out.2.mono B4.out.size)
    have hsz : w.heap.size ≤ w5.heap.size := Nat.le_trans s1.out.2.size B5.out.size
    have KW : Hid (∀ W, Below w5.heap.size w5 W → W.cell? ⟨r, 0, none⟩ = some (.int .i64 n) ∧ ZAt W (.slice wo n wcp) Z1 ∧ ZAt W (.slice io n ic) Z2 ∧ Below w.heap.size w W) := fun W hb => by
      have hb1 : Below w1.heap.size w1 W := B5.out.trans (hb.mono B5.out.size)
      exact ⟨((HH.out.below s1.out.2).below hb1).c0, s1.out.1.below hb1 (Nat.le_refl _), s5.out.1.below hb (Nat.le_refl _), s1.out.2.trans (hb1.mono s1.out.2.size)⟩
    have hb0 : Hid (Below w5.heap.size w5 (w5.alloc (.cells #[] 3))) := (Below.refl _ _).alloc (Nat.le_refl _) _
    have hst : Hid (OwnI (w5.alloc (.cells #[] 3)) w5.heap.size (.slice (some ⟨w5.heap.size, 0, none⟩) 0 0) (D 0)) := by unfold Hid; rw [HD0.out]; exact World.ownsRow_made w5 #[] 0 (Nat.le_refl _) (by simp [maxLen]) (by simp)
    clear k2' B4 B5 s1 s5 HH
    go_wp2
    go_loopw [12, 13] (fun u i W => Hid (Below w5.heap.size w5 W) ∧ ∃ t : Nat, t ≤ n ∧ i = .int .i64 t ∧ Hid (OwnI W w5.heap.size u (D t))) (fun _ i _ => n - (intOf i).toNat)
    case atStart => exact ⟨hb0, 0, Nat.zero_le _, rfl, hst⟩
    case round =>
      obtain ⟨hBr, t, ht, rfl, HO⟩ := hrel
      obtain ⟨w7, rfl⟩ : ∃ W, W = wr := ⟨_, rfl⟩
      clear hb0 hst
      by_cases htn : t < n
      · obtain ⟨c0, z1, z2, hBw⟩ := KW.out _ hBr.out
        have HBw := hide_it hBw
        obtain ⟨q1, e1, _, c1⟩ := z1.at t (by rw [HL1.out]; exact htn)
        obtain ⟨q2, e2, _, c2⟩ := z2.at t (by rw [HL2.out]; exact htn)
        rw [HZ1.out] at c1
        rw [HZ2.out] at c2
        subst e1 e2
        have HS := HDS.out t
        have hdl := HDL.out t
        have hszr := hBr.out.size
        generalize P t = pt at *
        generalize R t = rt at *
        have htI : (t : Int) < n := by omega
        clear z1 z2 hBw
        by_cases hpr : pt = rt
        · have HS2 : Hid (D (t + 1) = D t) := by rw [HS, if_pos hpr]; exact List.append_nil _
          subst hpr
          have hne : (pt != pt) = false := by simp
          clear HS
          go_wp2
          go_big_quiet (fail)
          go_wp2
          go_roundw
          case rel => exact ⟨below_drewN hBr.out _, t + 1, by omega, by go_num, by rw [HS2.out]; exact owns_below HO.out (below_drewN (Below.refl _ _) _)⟩
          case measure => simp [intOf]; omega
        · have HS2 : Hid (D (t + 1) = D t ++ [t]) := by unfold Hid; rw [HS, if_neg hpr]
          have hne : (pt != rt) = true := by simpa using hpr
          clear HS
          go_wp2
          go_big_quiet (fail)
          obtain ⟨w8, hw8⟩ : ∃ w8, w7.drewN nq = w8 := ⟨_, rfl⟩
          rw [hw8]
          have B8 : Hid (Below w5.heap.size w5 w8) := by unfold Hid; rw [← hw8]; exact below_drewN hBr.out _
          have HO8 : Hid (OwnI w8 w5.heap.size u12 (D t)) := by unfold Hid; rw [← hw8]; exact owns_below HO.out (below_drewN (Below.refl _ _) _)
          have hs8 : w5.heap.size ≤ w8.heap.size := B8.out.size
          clear hw8 HO hBr
          go_wp2_with (at_builtin; (refine wpList_append_tell _ rfl (.tmp 54) (.tmp 56) 38 rfl w5.heap.size 3 i0 _ 1 8 Tryd.underlying38 hi hz0 hz1 hz2 rfl (by decide) _ (D t).length ((D t).map fun x => Value.int .i64 (x : Nat)) rfl (HO8.out.alloc _) ⟨_, 0, none⟩ 1 1 [.int .i64 t] rfl rfl (World.news_of_block (heap_alloc_at rfl _)) (by simp [Value.oneCell']) (by unfold maxLen; omega) (by omega) (by simp; omega) ?_; intro v' w2 hown' hgrow hfr; have hB2 := hide_it ((B8.out.alloc (by omega) _).grown hgrow (by simp; omega) (fun k hk => (HO8.out.lt k hk).1))))
          go_roundw
          case rel => exact ⟨hB2, t + 1, by omega, by go_num, by rw [HS2.out]; exact own_snoc hown'⟩
          case measure => simp [intOf]; omega
      · obtain rfl : t = n := by omega
        obtain ⟨c0, z1, z2, hBw⟩ := KW.out _ hBr.out
        have HBw := hide_it hBw
        clear z1 z2 hBw
        go_wp2
        go_ret
        exact ⟨_, rfl, owns_base HO.out (fun k hk => Nat.le_trans hsz (HO.out.lt k hk).1), HBw.out⟩
end Go.Proofs.YtmeeimfjibcncaaDoor
