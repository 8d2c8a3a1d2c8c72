/- TurnsCredit's walk. -/
import Derived.Test.YtlhkahincnchjaaIvl
import Derived.Test.YtlhkahincnchjaaWei
import Derived.Test.YtlhkahincnchjaaArr
namespace Go.Proofs.Ytlhkahincnchjaa
open Go.RowKit
open M
set_option linter.unusedVariables false
set_option linter.unusedSimpArgs false

theorem kinds6 (K : Int) : K = 0 ∨ K = 1 ∨ K = 2 ∨ K = 3 ∨ K = 4 ∨ K = 5 ∨ (K ≠ 0 ∧ K ≠ 1 ∧ K ≠ 2 ∧ K ≠ 3 ∧ K ≠ 4 ∧ K ≠ 5) := by omega
/-- What holds behind each step. -/
structure CRm (Q : Int) (k : Nat) (x : Tn) (wf : Nat → Int) : Prop where
  gd : Gd 1024 k x
  q : x.q = Q
  ids : ∀ j, j < x.n → 0 ≤ x.I j ∧ x.I j < 16 ∧ x.W j = wf (x.I j).toNat
  wb : ∀ j, 0 ≤ wf j ∧ wf j ≤ 100
theorem CRm.next {Q : Int} {k : Nat} {x : Tn} {wf : Nat → Int} (h : CRm Q k x wf) : CRm Q (k + 1) x wf := ⟨⟨h.gd.iv, by have := h.gd.len; omega, h.gd.ids⟩, h.q, h.ids, h.wb⟩
theorem crm_join {Q : Int} {k : Nat} {x : Tn} {wf : Nat → Int} (h : CRm Q k x wf) (hk : k ≤ 1000) {u : Nat} (hu : u < 16) {wt : Int} (he : joinE x u wt = 0) : CRm Q (k + 1) (joinX x u wt) (upd wf u wt) := by
  obtain ⟨e, hw, hne⟩ := joinX_yes he
  have g := gd_join h.gd (by omega) (by omega) (id := (u : Int)) (by unfold i64B; omega) wt
  refine ⟨g, by rw [e]; exact h.q, fun j hj => ?_, fun j => ?_⟩
  · rw [e] at hj ⊢
    show 0 ≤ upd x.I x.n u j ∧ upd x.I x.n u j < 16 ∧ upd x.W x.n wt j = upd wf u wt (upd x.I x.n u j).toNat
    have hj2 : j < x.n + 1 := hj
    by_cases q : j = x.n
    · rw [q, upd_same, upd_same, Int.toNat_natCast, upd_same]
      exact ⟨by omega, by omega, rfl⟩
    · rw [upd_other _ _ q, upd_other _ _ q]
      obtain ⟨a, b, c⟩ := h.ids j (by omega)
      refine ⟨a, b, ?_⟩
      rw [upd_other _ _ (fun r => hne j (by omega) (by omega))]
      exact c
  · unfold upd
    split
    · omega
    · exact h.wb j
theorem crm_no {Q : Int} {k : Nat} {x : Tn} {wf : Nat → Int} (h : CRm Q k x wf) {id wt : Int} (he : joinE x id wt ≠ 0) : CRm Q (k + 1) (joinX x id wt) wf := by rw [joinX_no he]; exact h.next
theorem crm_leave {Q : Int} {k : Nat} {x : Tn} {wf : Nat → Int} (h : CRm Q k x wf) (id : Int) : CRm Q (k + 1) (leaveX x id) wf := by
  have g := gd_leave h.gd (by omega) id
  refine ⟨⟨g.iv, by have := g.len; omega, g.ids⟩, ?_, fun j hj => ?_, h.wb⟩
  · rcases plc_cases x id with ⟨i, hi, _, _, e⟩ | ⟨_, e⟩
    · rw [leaveX_yes e]; exact h.q
    · rw [leaveX_no (by omega)]; exact h.q
  · rcases plc_cases x id with ⟨i, hi, _, _, e⟩ | ⟨_, e⟩
    · rw [leaveX_yes e] at hj ⊢
      have hj2 : j < x.n - 1 := hj
      show 0 ≤ del x.I i j ∧ del x.I i j < 16 ∧ del x.W i j = wf (del x.I i j).toNat
      unfold del
      by_cases q : j < i
      · simp only [q, if_true]; exact h.ids j (by omega)
      · simp only [q, if_false]; exact h.ids (j + 1) (by omega)
    · rw [leaveX_no (by omega)] at hj ⊢
      exact h.ids j hj
theorem crm_take {Q : Int} {k : Nat} {x y : Tn} {wf : Nat → Int} {l : List Wn} {id : Int} {ok : Bool} (h : CRm Q k x wf) (ht : TakeP (fewL l) x y id ok) : CRm Q (k + 1) y wf := by
  have s := ht.same
  have g := h.gd.take (by omega) (fun j _ => fewL_max l _) ht
  refine ⟨⟨g.iv, by have := g.len; omega, g.ids⟩, by rw [s.q]; exact h.q, fun j hj => ?_, h.wb⟩
  rw [s.I, s.W]
  exact h.ids j (by rw [← s.n]; exact hj)
/-- What is asked of each number. -/
theorem crm_read {Q : Int} {k : Nat} {x : Tn} {wf : Nat → Int} (h : CRm Q k x wf) (j : Nat) : 0 ≤ crI x j ∧ (crB x j = false → crI x j = 0) ∧ (crB x j = true → crI x j < 1024 + Q * wf j) := by
  unfold crI crB
  rcases plc_cases x (j : Int) with ⟨i, hi, hI, _, e⟩ | ⟨_, e⟩
  · rw [e, if_pos (Int.natCast_nonneg i), decide_eq_true (Int.natCast_nonneg i), Int.toNat_natCast]
    obtain ⟨_, _, hw⟩ := h.ids i hi
    rw [hI, Int.toNat_natCast] at hw
    have hl := h.gd.iv.lt hi
    rw [hw, h.q] at hl
    exact ⟨h.gd.iv.c0 i hi, fun q => (by cases q), fun _ => hl⟩
  · rw [e, if_neg (by omega), decide_eq_false (by omega)]
    exact ⟨by omega, fun _ => rfl, fun q => (by cases q)⟩

theorem MX.put {B : Nat} {w0 w : World} {os : List Ob} {R : List (Nat × Obj)} {b : Nat} {cur : Array Value} {ty : TypeId} (h : MX B w0 w os ((b, .cells cur ty) :: R)) (hR : ∀ p ∈ R, p.1 ≠ b) (o : Nat) (u : Value) : MX B w0 (w.setCell ⟨b, o, none⟩ u) os ((b, .cells (cur.setIfInBounds o u) ty) :: R) := by
  refine h.turnR ((Turn.refl _ w).setCell (p := ⟨b, o, none⟩) (.inl ⟨_, List.mem_cons_self ..⟩) u) (fun p hp => ?_)
  rcases List.mem_cons.1 hp with rfl | hp
  · exact ⟨heap_setCell_at (o := o) (h.row (List.mem_cons_self ..)) u, .inl ⟨_, List.mem_cons_self ..⟩⟩
  · exact ⟨by rw [Below.heap_setCell _ _ _ _ (hR p hp)]; exact h.row (List.mem_cons_of_mem _ hp), .inl ⟨_, List.mem_cons_of_mem _ hp⟩⟩
theorem StepsIn.get {W : World} {a : Option Addr} {l : List Sp} (h : StepsIn W a l) {i : Nat} (hi : i < l.length) : ∃ b o, a = some ⟨b, o, none⟩ ∧ SpOk W l[i] ∧ ∀ W', Below W.heap.size W W' → W'.cell? ⟨b, o + i * 4, none⟩ = some (.int .i64 l[i].kind) ∧ W'.cell? ⟨b, o + i * 4 + 1, none⟩ = some (.int .i64 l[i].id) ∧ W'.cell? ⟨b, o + i * 4 + 2, none⟩ = some (.int .i64 l[i].wt) ∧ W'.cell? ⟨b, o + i * 4 + 3, none⟩ = some (.slice l[i].la l[i].L.length l[i].lc) := by
  obtain ⟨b, o, e, hb, c0, c1, c2, c3, hs⟩ := h i hi
  exact ⟨b, o, e, hs, fun W' q => ⟨by rw [q.cell (p := ⟨b, _, none⟩) hb]; exact c0, by rw [q.cell (p := ⟨b, _, none⟩) hb]; exact c1, by rw [q.cell (p := ⟨b, _, none⟩) hb]; exact c2, by rw [q.cell (p := ⟨b, _, none⟩) hb]; exact c3⟩⟩

set_option maxRecDepth 1000000 in
set_option maxHeartbeats 8000000 in
theorem turnsCredit_walk (a : Int) (l : List Sp) (la : Option Addr) (lc : Nat) (w : World) (ha : -9223372036854775808 ≤ a ∧ a ≤ 9223372036854775807) (hl : StepsIn w la l) (hll : l.length ≤ lc) (hlm : lc ≤ maxLen) :
    Calls Try.prog 5 #[.int .i64 a, .slice la l.length lc] w fun e w' => e = .returned (.bool true) ∧ Below w.heap.size w w' := by
  have ks := shown_any w
  unfold maxLen at hlm
  obtain ⟨m0, hm0⟩ : ∃ m0, max a 1 = m0 := ⟨_, rfl⟩
  obtain ⟨Q, hQ⟩ : ∃ Q, min m0 1048576 = Q := ⟨_, rfl⟩
  have q1 : ∀ ts u W, (Builtin.max_ ts u #[.int .i64 a, .int .i64 1]).run Try.prog W = .ok (.int .i64 m0) W := fun ts u W => by rw [← hm0]; exact max_num _ _ ts u W
  have q2 : ∀ ts u W, (Builtin.min_ ts u #[.int .i64 m0, .int .i64 1048576]).run Try.prog W = .ok (.int .i64 Q) W := fun ts u W => by rw [← hQ]; exact min_num _ _ ts u W
  have HL := hide_it hl
  have q24 : ∀ (t : Nat) (w : World), (binOp .eql 24 (ptr t) (.pointer none)).run Try.prog w = .ok (.bool false) w := fun t w => by rfl
  have HQ := hide_it (show 1 ≤ Q ∧ Q ≤ 1048576 by omega)
  have HQ0 : Hid (min (max a 1) 1048576 = Q) := (show min (max a 1) 1048576 = Q by rw [hm0]; exact hQ)
  clear hl ha hm0 hQ
  obtain ⟨m, hm⟩ : ∃ m, l.length = m := ⟨_, rfl⟩
  obtain ⟨T, hT⟩ : ∃ T, min m 100 = T := ⟨_, rfl⟩
  have HM := hide_it hm
  rw [hm] at hll ⊢
  clear hm
  go_enter Try.func5, Try.ntmps5
  go_wp2_with (go_at_call 10; refine ks.mono ?_; rintro e w1 ⟨rfl, s0⟩; refine Hid.out ?_)
  refine hide_it ?_
  have h0 := hide_it (mx_start s0.out (Nat.le_refl _))
  have k0 := h0.out.new a
  clear ks
  go_wp2_with (go_at_call 11; refine k0.mono ?_; rintro e w2 ⟨t, rfl, s1⟩; refine Hid.out ?_)
  refine hide_it ?_
  have H1 : Hid (∃ x wf, MX w.heap.size w (w2.alloc (.cells (iRow (fun _ => 0) 20) 55)) [obA t x] [(w2.heap.size, .cells (iRow wf 20) 55)] ∧ CRm Q 0 x wf) := by
    refine ⟨mk0 a, fun _ => 0, s1.out.alloc _, ⟨⟨inv_mk0 a (by omega), Nat.le_refl _, fun j hj => absurd hj (Nat.not_lt_zero _)⟩, HQ0.out, fun j hj => absurd hj (Nat.not_lt_zero _), fun _ => by omega⟩⟩
  clear k0 h0 s0 s1 HQ0
  go_upto_region 5 with fail
  apply wp_region_lit
  refine wpList_build55 rfl rfl ?_
  refine wpList_alloc55 rfl rfl ?_
  refine wpList_store55 rfl (.tmp 7) (.tmp 19) rfl rfl rfl rfl ?_
  refine wpList_nil ?_
  have H1 : Hid (∃ x wf, MX w.heap.size w (w2.alloc (.cells zeros20 55)) [obA t x] [(w2.heap.size, .cells (iRow wf 20) 55)] ∧ CRm Q 0 x wf) := H1
  obtain ⟨W0, hW0⟩ : ∃ W0, w2.alloc (.cells zeros20 55) = W0 := ⟨_, rfl⟩
  obtain ⟨wb, hwb⟩ : ∃ wb, w2.heap.size = wb := ⟨_, rfl⟩
  rw [hW0, hwb] at H1
  rw [hW0]
  simp only [hwb]
  clear hW0 hwb
  go_wp2
  go_loopw [8] (fun i W => ∃ (k : Nat), k ≤ T ∧ i = .int .i64 k ∧ Hid (∃ x wf, MX w.heap.size w W [obA t x] [(wb, .cells (iRow wf 20) 55)] ∧ CRm Q k x wf)) (fun i _ => T - (intOf i).toNat)
  case atStart => exact ⟨0, by omega, rfl, H1⟩
  case round =>
    obtain ⟨k, hk, rfl, HX⟩ := hrel
    clear H1
    by_cases hlt : k < T
    · obtain ⟨x, wf, hx, hb⟩ := HX.out
      have d1 : k < m := by omega
      have d2 : k < 100 := by omega
      have d2a : decide ((k : Int) < 100) = true := decide_eq_true (by omega)
      have d2b : decide (k < 100) = true := decide_eq_true d2
      have hkl : k < l.length := by have := HM.out; omega
      obtain ⟨b, o, rfl, hsp, hcell⟩ := HL.out.get hkl
      have hc4 := hcell wr hx.bel
      clear hcell
      generalize l[k] = sp at *
      obtain ⟨K, id0, wt0, L, ao, ac⟩ := sp
      obtain ⟨c0, c1, c2, c3⟩ := hc4
      obtain ⟨-, -, hwt, hws, hwl, hwm, hwb⟩ := hsp
      simp only at c0 c1 c2 c3 hwt hws hwl hwm hwb
      have sB := hide_it ((hx.alloc (.cells #[.int .i64 K, .int .i64 id0, .int .i64 wt0, .slice ao L.length ac] 30)))
      have hwbl : wb ≠ wr.heap.size := by have := block_lt (hx.row (List.mem_singleton.2 rfl)); omega
      have HBel := hide_it hx.bel
      have HWS := hide_it hws
      have HWL := hide_it (And.intro hwl hwm)
      have HID := hide_it (fun p hp => (hwb p hp).1)
      have HWB := hide_it (fun p hp => (hwb p hp).2)
      have HB := hide_it hb
      clear hx hb HX hws hwl hwm hwb HL hwt
      obtain ⟨u, hu, hu16⟩ : ∃ u : Nat, bits .and .i64 id0 15 = u ∧ u < 16 := ⟨(id0 % 16).toNat, by rw [i64_and4]; omega, by omega⟩
      go_upto_block 2 with fail
      obtain ⟨sb, hsb⟩ : ∃ r, wr.heap.size = r := ⟨_, rfl⟩
      rw [hsb] at sB hwbl
      simp only [hsb]
      clear hsb c0 c1 c2 c3
      have HCELL : Hid (∀ W X, MX w.heap.size w W [obA t X] [(sb, .cells #[.int .i64 K, .int .i64 id0, .int .i64 wt0, .slice ao L.length ac] 30), (wb, .cells (iRow wf 20) 55)] → W.cell? ⟨sb, 1, none⟩ = some (.int .i64 id0) ∧ W.cell? ⟨sb, 2, none⟩ = some (.int .i64 wt0) ∧ (∀ j, j < 20 → W.cell? ⟨wb, j, none⟩ = some (.int .i64 (wf j))) ∧ ∀ j, W.frozen? ⟨wb, j, none⟩ = false) := fun W X hX => by
        have h1 := hX.row (List.mem_cons_self ..)
        have h2 := hX.row (List.mem_cons_of_mem _ (List.mem_cons_self ..))
        exact ⟨by rw [cell_of_row _ sb 1 _ _ _ h1]; rfl, by rw [cell_of_row _ sb 2 _ _ _ h1]; rfl, fun j hj => by rw [cell_of_row _ wb j _ _ _ h2]; exact iRow_at _ _ _ hj, fun j => by simp [World.frozen?, h2]⟩
      have g0 := cell_of_row _ sb 0 _ _ _ (sB.out.row (List.mem_cons_self ..))
      obtain ⟨g1, g2, g3, g4⟩ := HCELL.out _ _ sB.out
      have g5 := cell_of_row _ sb 3 _ _ _ (sB.out.row (List.mem_cons_self ..))
      simp only [List.getElem?_toArray, List.getElem?_cons_zero, List.getElem?_cons_succ] at g0 g5
      have HWS2 : Hid (Ws (wr.alloc (.cells #[.int .i64 K, .int .i64 id0, .int .i64 wt0, .slice ao L.length ac] 30)) ao L) := (HWS.out.below HBel.out).below ((Below.refl _ _).alloc (Nat.le_refl _) _)
      generalize wr.alloc _ = w5 at *
      go_cut [] from 37 to 65 (fun wx => Hid (∃ x wf, MX w.heap.size w wx [obA t x] [(wb, .cells (iRow wf 20) 55)] ∧ CRm Q (k + 1) x wf))
      case first =>
        rcases kinds6 K with hx | hx | hx | hx | hx | hx | ⟨n0, n1, n2, n3, n4, n5⟩
        · have k0 : (K == 0) = true := by simp [hx]
          by_cases he : joinE x (u : Int) wt0 = 0
          · have kj := sB.out.join 0 rfl (by have := HB.out.gd.len; omega) (u : Int) wt0
            rw [he] at kj
            have HN := hide_it (crm_join HB.out (by omega) hu16 he)
            have hu20 : u < 20 := by omega
            clear hx he
            generalize joinX x (u : Int) wt0 = y at *
            go_wp2_with (go_at_call 13; refine kj.mono ?_; rintro e w6 ⟨rfl, s6⟩; obtain ⟨e0, e1, e2, f1⟩ := HCELL.out _ _ s6.out; have e2u := e2 u hu20; have f1u := f1 u; clear e2 f1)
            all_goals
              go_meet
              have s7 := (s6.out.drop (R' := [(wb, .cells (iRow wf 20) 55)]) (fun p hp => List.mem_cons_of_mem _ hp)).put (fun p hp => by simp at hp) u (.int .i64 wt0)
              rw [iRow_set] at s7
              exact ⟨y, upd wf u wt0, s7, HN.out⟩
          · have kj := sB.out.join 0 rfl (by have := HB.out.gd.len; omega) (u : Int) wt0
            have HN := hide_it (crm_no HB.out he)
            have he2 : (joinE x (u : Int) wt0 == 0) = false := by simpa using he
            clear hx he
            generalize joinE x (u : Int) wt0 = E at *
            generalize joinX x (u : Int) wt0 = y at *
            go_wp2_with (go_at_call 13; refine kj.mono ?_; rintro e w6 ⟨rfl, s6⟩)
            all_goals
              go_meet
              exact ⟨y, wf, s6.out.drop (fun p hp => List.mem_cons_of_mem _ hp), HN.out⟩
        · have k0 : (K == 0) = false := by simp [hx]
          have k1 : (K == 1) = true := by simp [hx]
          have kl := sB.out.leave 0 rfl (by have := HB.out.gd.len; omega) HB.out.gd.iv.kn (u : Int)
          have HN := hide_it (crm_leave HB.out (u : Int))
          clear hx
          generalize leaveE x (u : Int) = E at *
          generalize leaveX x (u : Int) = y at *
          go_wp2_with (go_at_call 15; refine kl.mono ?_; rintro e w6 ⟨rfl, s6⟩)
          all_goals
            go_meet
            exact ⟨y, wf, s6.out.drop (fun p hp => List.mem_cons_of_mem _ hp), HN.out⟩
        ·
          have k0 : (K == 0) = false := by simp [hx]
          have k1 : (K == 1) = false := by simp [hx]
          have k2 : (K == 2) = true := by simp [hx]
          have kf := few_any (w := w5) HWS2.out HWL.out.1 HWL.out.2 HWB.out
          clear hx
          go_wp2_with (go_at_call 17; refine kf.mono ?_; rintro e w6 ⟨fa, fc, rfl, HF⟩; refine Hid.out ?_)
          refine hide_it ?_
          have kt := (sB.out.below HF.out.1).take 0 rfl (by omega) HB.out.gd (by omega) (lc := fc) HF.out.2 (by rw [fewL_len]; omega) (fewL_ids _ HID.out)
          clear kf
          go_wp2_with (go_at_call 18; refine kt.mono ?_; rintro e w7 ⟨y, id, ok, rfl, s7⟩)
          all_goals
            go_meet
            exact ⟨y, wf, s7.out.2.drop (fun p hp => List.mem_cons_of_mem _ hp), crm_take HB.out s7.out.1⟩
        ·
          have k0 : (K == 0) = false := by simp [hx]
          have k1 : (K == 1) = false := by simp [hx]
          have k2 : (K == 2) = false := by simp [hx]
          have k3 : (K == 3) = true := by simp [hx]
          have kf := few_any (w := w5) HWS2.out HWL.out.1 HWL.out.2 HWB.out
          clear hx
          go_wp2_with (go_at_call 17; refine kf.mono ?_; rintro e w6 ⟨fa, fc, rfl, HF⟩; refine Hid.out ?_)
          refine hide_it ?_
          have kt := (sB.out.below HF.out.1).take 0 rfl (by omega) HB.out.gd (by omega) (lc := fc) HF.out.2 (by rw [fewL_len]; omega) (fewL_ids _ HID.out)
          clear kf
          go_wp2_with (go_at_call 18; refine kt.mono ?_; rintro e w7 ⟨y, id, ok, rfl, s7⟩)
          all_goals
            go_meet
            exact ⟨y, wf, s7.out.2.drop (fun p hp => List.mem_cons_of_mem _ hp), crm_take HB.out s7.out.1⟩
        ·
          have k0 : (K == 0) = false := by simp [hx]
          have k1 : (K == 1) = false := by simp [hx]
          have k2 : (K == 2) = false := by simp [hx]
          have k3 : (K == 3) = false := by simp [hx]
          have k4 : (K == 4) = true := by simp [hx]
          have kf := few_any (w := w5) HWS2.out HWL.out.1 HWL.out.2 HWB.out
          clear hx
          go_wp2_with (go_at_call 17; refine kf.mono ?_; rintro e w6 ⟨fa, fc, rfl, HF⟩; refine Hid.out ?_)
          refine hide_it ?_
          have kt := (sB.out.below HF.out.1).take 0 rfl (by omega) HB.out.gd (by omega) (lc := fc) HF.out.2 (by rw [fewL_len]; omega) (fewL_ids _ HID.out)
          clear kf
          go_wp2_with (go_at_call 18; refine kt.mono ?_; rintro e w7 ⟨y, id, ok, rfl, s7⟩)
          all_goals
            go_meet
            exact ⟨y, wf, s7.out.2.drop (fun p hp => List.mem_cons_of_mem _ hp), crm_take HB.out s7.out.1⟩
        ·
          have k0 : (K == 0) = false := by simp [hx]
          have k1 : (K == 1) = false := by simp [hx]
          have k2 : (K == 2) = false := by simp [hx]
          have k3 : (K == 3) = false := by simp [hx]
          have k4 : (K == 4) = false := by simp [hx]
          have k5 : (K == 5) = true := by simp [hx]
          have kf := few_any (w := w5) HWS2.out HWL.out.1 HWL.out.2 HWB.out
          clear hx
          go_wp2_with (go_at_call 17; refine kf.mono ?_; rintro e w6 ⟨fa, fc, rfl, HF⟩; refine Hid.out ?_)
          refine hide_it ?_
          have kt := (sB.out.below HF.out.1).take 0 rfl (by omega) HB.out.gd (by omega) (lc := fc) HF.out.2 (by rw [fewL_len]; omega) (fewL_ids _ HID.out)
          clear kf
          go_wp2_with (go_at_call 18; refine kt.mono ?_; rintro e w7 ⟨y, id, ok, rfl, s7⟩)
          all_goals
            go_meet
            exact ⟨y, wf, s7.out.2.drop (fun p hp => List.mem_cons_of_mem _ hp), crm_take HB.out s7.out.1⟩
        ·
          have k0 : (K == 0) = false := by simpa using n0
          have k1 : (K == 1) = false := by simpa using n1
          have k2 : (K == 2) = false := by simpa using n2
          have k3 : (K == 3) = false := by simpa using n3
          have k4 : (K == 4) = false := by simpa using n4
          have k5 : (K == 5) = false := by simpa using n5
          clear n0 n1 n2 n3 n4 n5
          go_wp2
          all_goals
            go_meet
            exact ⟨x, wf, sB.out.drop (fun p hp => List.mem_cons_of_mem _ hp), HB.out.next⟩
      case rest =>
        obtain ⟨y, wg, hy, hb⟩ := hcut.out
        have HB2 := hide_it hb
        have HY := hide_it hy
        clear hcut hy hb HB sB HCELL HWS HWS2 HWL HID HWB HBel hu hu16 hwbl g0 g1 g2 g3 g4 g5
        go_wp2
        go_loopw [11] (fun i W => ∃ (j : Nat), j ≤ 20 ∧ i = .int .i64 j ∧ Hid (MX w.heap.size w W [obA t y] [(wb, .cells (iRow wg 20) 55)])) (fun i _ => 20 - (intOf i).toNat)
        case atStart => exact ⟨0, by omega, rfl, HY⟩
        case round =>
          obtain ⟨j, hj, rfl, HJ⟩ := hrel
          clear HY
          by_cases hjl : j < 20
          · have kc := HJ.out.credit 0 rfl (by have := HB2.out.gd.len; omega) (j : Int)
            obtain ⟨r1, r2, r3⟩ := crm_read HB2.out j
            have hwb2 := HB2.out.wb j
            have hq := HQ.out
            have HWC : Hid (∀ W, MX w.heap.size w W [obA t y] [(wb, .cells (iRow wg 20) 55)] → W.cell? ⟨wb, j, none⟩ = some (.int .i64 (wg j))) := fun W hW => by
              rw [cell_of_row _ wb j _ _ _ (hW.row (List.mem_singleton.2 rfl))]; exact iRow_at _ _ _ hjl
            have hgl : 0 ≤ Q * wg j ∧ Q * wg j ≤ 104857600 := by
              refine ⟨Int.mul_nonneg (by omega) hwb2.1, ?_⟩
              have := Int.mul_le_mul hq.2 hwb2.2 hwb2.1 (by omega)
              omega
            obtain ⟨G, hG⟩ : ∃ G, Q * wg j = G := ⟨_, rfl⟩
            rw [hG] at r3 hgl
            obtain ⟨v1, v2⟩ := wr_int (z := G) (by omega)
            obtain ⟨v3, v4⟩ := wr_int (z := 1024 + G) (by omega)
            have v1' : IntKind.i64.wrap (Q * wg j) = G := by rw [hG]; exact v1
            have v2' : wrap64 (Q * wg j) = G := by rw [hG]; exact v2
            have t1 : decide (crI y j < 0) = false := by simp; omega
            cases hb : crB y j with
            | false =>
              have e0 := r2 hb
              rw [hb, e0] at kc
              clear r1 r2 r3 hgl hwb2 hq v1 v2 hG hb e0 t1
              go_wp2_with (go_at_call 20; refine kc.mono ?_; rintro e w6 ⟨rfl, s6⟩)
              clear v1' v2' v3 v4
              go_roundw
              case rel => exact ⟨j + 1, by omega, by go_num, s6⟩
              case measure => simp [intOf]; omega
            | true =>
              have e0 := r3 hb
              have t2 : decide (1024 + G ≤ crI y j) = false := by simp; omega
              rw [hb] at kc
              clear r1 r2 r3 hgl hwb2 hq v1 v2 hG hb e0
              generalize crI y j = c at *
              generalize wg j = g at *
              go_wp2_with (go_at_call 20; refine kc.mono ?_; rintro e w6 ⟨rfl, s6⟩; have cg := HWC.out _ s6.out)
              clear v1' v2' v3 v4 t1 t2 cg HWC
              go_roundw
              case rel => exact ⟨j + 1, by omega, by go_num, s6⟩
              case measure => simp [intOf]; omega
          · go_wp2
            go_roundw
            case rel => exact ⟨k + 1, by omega, by go_num, y, wg, HJ.out, HB2.out⟩
            case measure => simp [intOf]; omega
    · have HZ : Hid (Below w.heap.size w wr) := by
        obtain ⟨x, wf, hx, _⟩ := HX.out
        exact hx.bel
      clear HX
      by_cases d1 : k < m
      · have d2 : decide (k < 100) = false := by simp; omega
        have d3 : decide ((k : Int) < 100) = false := by simp; omega
        clear hT hlt hk
        go_wp2
        go_ret
        exact ⟨rfl, HZ.out⟩
      · have d2 : decide (k < m) = false := by simp; omega
        have d3 : decide ((k : Int) < (m : Int)) = false := by simp; omega
        clear hT hlt d1 hk
        go_wp2
        go_ret
        exact ⟨rfl, HZ.out⟩
end Go.Proofs.Ytlhkahincnchjaa
