/- TurnsIdle's walk. -/
import Derived.Test.YtlhkahincnchjaaSim
namespace Go.Proofs.Ytlhkahincnchjaa
open Go.RowKit
open M
set_option linter.unusedVariables false
set_option linter.unusedSimpArgs false

/-- The cost at a place of the row, counted around it. -/
def cfOf (cl : List Int) (P : Nat) : Int := 1 + ((cl[P % cl.length]?).getD 0) % 1024
theorem cfOf_bnd (cl : List Int) (P : Nat) : 1 ≤ cfOf cl P ∧ cfOf cl P ≤ 1024 := by unfold cfOf; omega
theorem cfOf_is (cl : List Int) {P : Nat} (h : P % cl.length < cl.length) : ∃ A, bits .and .i64 cl[P % cl.length] 1023 = A ∧ IntKind.i64.wrap (1 + A) = cfOf cl P ∧ wrap64 (1 + A) = cfOf cl P := by
  have hb := cfOf_bnd cl P
  have e : cfOf cl P = 1 + cl[P % cl.length] % 1024 := by unfold cfOf; rw [List.getElem?_eq_getElem h]; rfl
  refine ⟨cl[P % cl.length] % 1024, i64_and10 _, ?_, ?_⟩
  · rw [← e]; exact (wr_int (by omega)).1
  · rw [← e]; exact (wr_int (by omega)).2
theorem cfOf_cell {w : World} {ca : Option Addr} {cl : List Int} (h : NumsIn .i64 w ca cl) (h0 : 0 < cl.length) (P : Nat) : ∃ r b o z A, r < cl.length ∧ (P : Int).tmod (cl.length : Int) = (r : Int) ∧ ca = some ⟨b, o, none⟩ ∧ (∀ W', Below w.heap.size w W' → W'.cell? ⟨b, o + r, none⟩ = some (.int .i64 z)) ∧ bits .and .i64 z 1023 = A ∧ IntKind.i64.wrap (1 + A) = cfOf cl P ∧ wrap64 (1 + A) = cfOf cl P := by
  have hr : P % cl.length < cl.length := Nat.mod_lt _ h0
  obtain ⟨A, e1, e2, e3⟩ := cfOf_is cl hr
  obtain ⟨b, o, e, hcell⟩ := h.get hr
  exact ⟨_, b, o, _, A, hr, tmod_nat P cl.length, e, hcell, e1, e2, e3⟩
/-- What holds of the two. -/
structure Idr (N : Nat) (x y : Tn) : Prop where
  gx : Gd 1024 10 x
  gy : Gd 1024 10 y
  sim : 0 < N → Sim N x y
  xn : x.n = N
  yn : y.n = N + 1
  xI : ∀ j, j < N → x.I j = j
  yI : ∀ j, j < N → y.I j = j
  yN : y.I N = 99
  yC : y.C N = 0
theorem idr_start {Q : Int} {N : Nat} {wf : Nat → Int} {x y : Tn} (hx : Jn Q N wf x) (hy : Jn Q N wf y) (hN : N ≤ 9) (hQ : 1 ≤ Q ∧ Q ≤ 1048576) (hw : ∀ j, j < N → 1 ≤ wf j ∧ wf j ≤ 100) : joinE y 99 50 = 0 ∧ Idr N x (joinX y 99 50) := by
  have hp : ¬ 0 ≤ plc y 99 := plc_neg (fun j hj => by rw [hy.n] at hj; rw [hy.I j hj]; omega)
  have e : joinE y 99 50 = 0 := by unfold joinE; rw [if_neg (by omega), if_neg hp]
  have gx0 := jn_gd hx hQ hw (M := 1024) (by omega) (by omega)
  have gy0 := jn_gd hy hQ hw (M := 1024) (by omega) (by omega)
  have gy1 := gd_join gy0 (by omega) (by omega) (id := 99) (by unfold i64B; omega) 50
  obtain ⟨ex, _, _⟩ := joinX_yes e
  have hyn := hy.n
  rw [ex] at gy1 ⊢
  refine ⟨e, ⟨⟨gx0.iv, by have := gx0.len; omega, gx0.ids⟩, ⟨gy1.iv, by have := gy1.len; omega, gy1.ids⟩, fun h0 => ⟨hx.n, by show y.n + 1 = N + 1; rw [hyn], by show y.q = x.q; rw [hy.q, hx.q], by show y.k = x.k; rw [hy.k0, hx.k0], by rw [hx.k0]; exact h0, fun j hj => ?_, fun j hj => ?_, fun j hj => ?_, ?_⟩, hx.n, by show y.n + 1 = N + 1; rw [hyn], hx.I, fun j hj => ?_, ?_, ?_⟩⟩
  · show upd y.I y.n 99 j = x.I j
    rw [upd_other _ _ (by omega), hy.I j hj, hx.I j hj]
  · show upd y.W y.n 50 j = x.W j
    rw [upd_other _ _ (by omega), hy.W j hj, hx.W j hj]
  · show upd y.C y.n 0 j = x.C j
    rw [upd_other _ _ (by omega), hy.C j hj, hx.C j hj]
  · show upd y.C y.n 0 N = 0
    rw [hyn, upd_same]
  · show upd y.I y.n 99 j = j
    rw [upd_other _ _ (by omega)]; exact hy.I j hj
  · show upd y.I y.n 99 N = 99
    rw [hyn, upd_same]
  · show upd y.C y.n 0 N = 0
    rw [hyn, upd_same]
theorem idr_take {N : Nat} {x y x' y' : Tn} {f : Nat → Int} {i j : Int} {a b : Bool} (h : Idr N x y) (h0 : 0 < N) (hN : N ≤ 9) (hf : ∀ j, j < N → 1 ≤ f j ∧ f j ≤ 1024) (hx : TakeP (wrow N f) x x' i a) (hy : TakeP (wrow N f) y y' j b) : i = j ∧ a = true ∧ b = true ∧ Idr N x' y' := by
  have hf2 : ∀ j, j < N → 1 ≤ f j ∧ f j ≤ 1048576 := fun j hj => by have := hf j hj; omega
  have hl0 : costs (wrow N f) y N = 0 := by unfold costs; rw [h.yN]; exact wrow_other N f (fun j hj => by omega)
  have hm : ∀ (z : Tn) j, costs (wrow N f) z j ≤ 1024 := fun z j => wrow_max N f (by omega) (fun j hj => (hf j hj).2) _
  obtain ⟨e1, e2, e3, s⟩ := sim_take (h.sim h0) (fun j hj => by rw [costs_wrow hf2 (h.xI j hj) hj]; have := hf j hj; omega) hl0 hx hy
  have sx := hx.same
  have sy := hy.same
  exact ⟨e1, e2, e3, ⟨h.gx.take (by omega) (fun j _ => hm x j) hx, h.gy.take (by omega) (fun j _ => hm y j) hy, fun _ => s, by rw [sx.n]; exact h.xn, by rw [sy.n]; exact h.yn, by rw [sx.I]; exact h.xI, by rw [sy.I]; exact h.yI, by rw [sy.I]; exact h.yN, s.last⟩⟩
theorem idr_end {N : Nat} {x y : Tn} (h : Idr N x y) (hN : N ≤ 9) : crI y 99 = 0 ∧ crB y 99 = true := by
  have e : plc y 99 = (N : Int) := plc_is (by rw [h.yn]; omega) h.yN (fun j hj => by rw [h.yI j hj]; omega)
  unfold crI crB
  rw [e, if_pos (Int.natCast_nonneg N), decide_eq_true (Int.natCast_nonneg N), Int.toNat_natCast]
  exact ⟨h.yC, rfl⟩

set_option maxRecDepth 1000000 in
set_option maxHeartbeats 4000000 in
theorem turnsIdle_walk (a : Int) (ws : List Int) (wa : Option Addr) (wc : Nat) (cl : List Int) (ca : Option Addr) (cc : Nat) (w : World) (ha : -9223372036854775808 ≤ a ∧ a ≤ 9223372036854775807) (hws : NumsIn .i64 w wa ws) (hwl : ws.length ≤ wc) (hwm : wc ≤ maxLen) (hwb : ∀ y ∈ ws, (Lit.int .i64 y).wf = true)
    (hcl : NumsIn .i64 w ca cl) (hcll : cl.length ≤ cc) (hclm : cc ≤ maxLen) (hclb : ∀ y ∈ cl, (Lit.int .i64 y).wf = true) :
    Calls Try.prog 8 #[.int .i64 a, .slice wa ws.length wc, .slice ca cl.length cc] w fun e w' => e = .returned (.bool true) ∧ Below w.heap.size w w' := by
  have ks := shown_any w
  unfold maxLen at hwm hclm
  obtain ⟨n, hn⟩ : ∃ n, min ws.length 9 = n := ⟨_, rfl⟩
  have hmin : ∀ (ts : Array TypeId) (t : TypeId) (W : World), (Builtin.min_ ts t #[.int .i64 (ws.length : Int), .int .i64 9]).run Try.prog W = .ok (.int .i64 (n : Int)) W := fun ts t W => by
    rw [min_num]; congr 2; omega
  have hn1 : n ≤ 9 := by omega
  have hn2 : n ≤ ws.length := by omega
  obtain ⟨A, hA⟩ : ∃ A, bits .and .i64 a 1023 = A := ⟨_, rfl⟩
  have hAb : 0 ≤ A ∧ A < 1024 := by rw [← hA, i64_and10]; omega
  obtain ⟨eQ', eQ⟩ := wr_int (z := 1 + A) (by omega)
  obtain ⟨Q, hQ⟩ : ∃ Q, 1 + A = Q := ⟨_, rfl⟩
  have HQ := hide_it (show 1 ≤ Q ∧ Q ≤ 1048576 by omega)
  have HQ0 := hide_it (show min (max Q 1) 1048576 = Q by omega)
  rw [hQ] at eQ eQ'
  have HWS := hide_it hws
  have HCL := hide_it hcl
  have q24 : ∀ (t : Nat) (w : World), (binOp .eql 24 (ptr t) (.pointer none)).run Try.prog w = .ok (.bool false) w := fun t w => by rfl
  clear hws hcl hn hwb hclb ha hAb
  go_enter Try.func8, Try.ntmps8
  go_wp2_with (go_at_call 10; refine ks.mono ?_; rintro e w1 ⟨rfl, s0⟩; refine Hid.out ?_)
  refine hide_it ?_
  have h0 := hide_it (mx_start s0.out (Nat.le_refl _))
  have k0 := h0.out.new Q
  clear ks
  go_wp2_with (go_at_call 11; refine k0.mono ?_; rintro e w2 ⟨t, rfl, s1⟩; refine Hid.out ?_)
  refine hide_it ?_
  have k1 := s1.out.new Q
  clear k0 h0 s0
  go_wp2_with (go_at_call 11; refine k1.mono ?_; rintro e w3 ⟨tb, rfl, s2⟩; refine Hid.out ?_)
  refine hide_it ?_
  have H1 : Hid (∃ x y, Jn Q 0 (wOf 100 ws) x ∧ Jn Q 0 (wOf 100 ws) y ∧ MX w.heap.size w w3 [obA t x, obA tb y] []) := ⟨mk0 Q, mk0 Q, jn_zero Q _ HQ0.out, jn_zero Q _ HQ0.out, s2.out⟩
  clear k1 s1 s2 hA eQ eQ' HQ0 hQ
  go_wp2
  go_loopw [11] (fun i W => ∃ (k : Nat), k ≤ n ∧ i = .int .i64 k ∧ Hid (∃ x y, Jn Q k (wOf 100 ws) x ∧ Jn Q k (wOf 100 ws) y ∧ MX w.heap.size w W [obA t x, obA tb y] [])) (fun i _ => n - (intOf i).toNat)
  case atStart => exact ⟨0, by omega, rfl, H1⟩
  case round =>
    obtain ⟨k, hk, rfl, HX⟩ := hrel
    by_cases hlt : k < n
    · obtain ⟨x, y, hj, hi, hx⟩ := HX.out
      obtain ⟨A, A1, e1, e2, e3, e4, e5⟩ := wOf_is ws (show k < ws.length by omega) (M := 100) (by omega)
      obtain ⟨b, o, rfl, hcell⟩ := HWS.out.get (show k < ws.length by omega)
      have cw := hcell wr hx.bel
      have kj := hx.join 0 rfl (by rw [hj.n]; omega) k (wOf 100 ws k)
      have hj2 := jn_join hj e5
      have hi2 := jn_join hi e5
      rw [hj2.1] at kj
      have HJ := hide_it hj2.2
      have HI := hide_it hi2.2
      have KI := hide_it (fun W (hW : MX w.heap.size w W [obA t (joinX x k (wOf 100 ws k)), obA tb y] []) => by
        have := hW.join 1 (x := y) rfl (by rw [hi.n]; omega) k (wOf 100 ws k)
        rw [hi2.1] at this
        exact this)
      clear hj hx hj2 HX H1 hcell e5 hi hi2
      generalize joinX x (k : Int) (wOf 100 ws k) = x' at *
      generalize joinX y (k : Int) (wOf 100 ws k) = y' at *
      generalize wOf 100 ws k = wt at *
      generalize ws[k] = z at *
      go_wp2_with (go_at_call 13; refine kj.mono ?_; rintro e w4 ⟨rfl, s4⟩; refine Hid.out ?_)
      refine hide_it ?_
      have kj2 := KI.out _ s4.out
      clear kj KI e1 e2 e3 e4 cw
      go_wp2_with (go_at_call 13; refine kj2.mono ?_; rintro e w5 ⟨rfl, s5⟩)
      go_roundw
      case rel => exact ⟨k + 1, by omega, by go_num, x', y', HJ.out, HI.out, s5.out⟩
      case measure => simp [intOf]; omega
    · have : k = n := by omega
      subst this
      obtain ⟨x, y, hj, hi, hx⟩ := HX.out
      have hs := idr_start hj hi hn1 HQ.out (fun j _ => by have := wOf_bnd ws j (M := 100) (by omega); omega)
      have kb := hx.join 1 (x := y) rfl (by rw [hi.n]; omega) 99 50
      rw [hs.1] at kb
      have HS := hide_it hs.2
      clear HX H1 HQ HWS hj hi hs hx
      generalize joinX y 99 50 = y' at *
      go_wp2_with (go_at_call 13; refine kb.mono ?_; rintro e w4 ⟨rfl, s4⟩; refine Hid.out ?_)
      refine hide_it ?_
      have H2 : Hid (∃ x y, Idr k x y ∧ MX w.heap.size w w4 [obA t x, obA tb y] []) := ⟨x, y', HS.out, s4.out⟩
      clear HS s4 kb
      obtain ⟨T, hT⟩ : ∃ T, (if k = 0 then 0 else min cl.length 100) = T := ⟨_, rfl⟩
      go_wp2
      go_loopw [13] (fun i W => ∃ (j : Nat), j ≤ T ∧ i = .int .i64 j ∧ Hid (∃ x y, Idr k x y ∧ MX w.heap.size w W [obA t x, obA tb y] [])) (fun i _ => T - (intOf i).toNat)
      case atStart => exact ⟨0, by omega, rfl, H2⟩
      case round =>
        obtain ⟨j, hj, rfl, HX⟩ := hrel
        clear H2
        by_cases hjl : j < T
        · have hk0 : 0 < k := by
            rcases Nat.eq_zero_or_pos k with q | q
            · rw [if_pos q] at hT; omega
            · exact q
          rw [if_neg (by omega)] at hT
          have d0 : decide (0 < k) = true := decide_eq_true hk0
          have d1 : j < cl.length := by omega
          have d2 : j < 100 := by omega
          have d2a : decide ((j : Int) < 100) = true := decide_eq_true (by omega)
          have d2b : decide (j < 100) = true := decide_eq_true d2
          obtain ⟨x, y, hid, hx⟩ := HX.out
          have HID := hide_it hid
          have H3 : Hid (MX w.heap.size w wr [obA t x, obA tb y, obW 37 (.slice none 0 0) (wrow 0 (fun q => cfOf cl (j * 3 + q)))] []) :=
            hx.add (G := fun _ => False) (o := obW 37 (.slice none 0 0) (wrow 0 (fun q => cfOf cl (j * 3 + q)))) (Below.refl _ _) ⟨World.ownsRow_nil _ _ _ _, fun k hk => by simp [Value.ownBlock] at hk⟩ (fun k hk => hk.elim)
          clear hid hx HX
          go_wp2
          go_loopw [14, 15] (fun v i W => ∃ (p : Nat) (ao : Option Addr) (cap : Nat), p ≤ k ∧ i = .int .i64 p ∧ v = .slice ao p cap ∧ Hid (MX w.heap.size w W [obA t x, obA tb y, obW 37 (.slice ao p cap) (wrow p (fun q => cfOf cl (j * 3 + q)))] [])) (fun _ i _ => k - (intOf i).toNat)
          case atStart => exact ⟨0, none, 0, by omega, rfl, rfl, H3⟩
          case round =>
            obtain ⟨p, ao, cap, hp, rfl, rfl, HP⟩ := hrel
            clear H3
            by_cases hpl : p < k
            · obtain ⟨P, hP⟩ : ∃ P, j * 3 + p = P := ⟨_, rfl⟩
              obtain ⟨J3, hJ3⟩ : ∃ J3 : Nat, j * 3 = J3 := ⟨_, rfl⟩
              have hnz : ¬ cl.length = 0 := by omega
              have hnp : 0 < cl.length := by omega
              have hp6 : p < 1000000 := by omega
              have b1 : -1000000000000 ≤ (j : Int) * 3 ∧ (j : Int) * 3 ≤ 1000000000000 := by omega
              have b2 : -1000000000000 ≤ (J3 : Int) + (p : Int) ∧ (J3 : Int) + (p : Int) ≤ 1000000000000 := by omega
              have g3 : (j : Int) * 3 = (J3 : Int) := by omega
              have g6 : (J3 : Int) + (p : Int) = (P : Int) := by omega
              obtain ⟨r, b, o, z, A, hr, g7, rfl, hcell, e1, e2, e3⟩ := cfOf_cell HCL.out hnp P
              have cw := hcell wr HP.out.bel
              have g1 := (wr_int b1).1.trans g3
              have g2 := (wr_int b1).2.trans g3
              have g4 := (wr_int b2).1.trans g6
              have g5 := (wr_int b2).2.trans g6
              clear g3 g6
              clear b1 b2 hnp
              have HSU : Hid (wrow (p + 1) (fun q => cfOf cl (j * 3 + q)) = wrow p (fun q => cfOf cl (j * 3 + q)) ++ [((p : Int), cfOf cl P)]) := by
                have := wrow_succ p (fun q => cfOf cl (j * 3 + q))
                rw [hP] at this
                exact this
              have hwl := hide_it (wrow_len p (fun q => cfOf cl (j * 3 + q)))
              clear hcell hP hJ3
              generalize cfOf cl P = C at *
              go_wp2_with (at_builtin; refine wpList_wadd 28 37 Try.underlying28 info37 rfl (.tmp 84) (.tmp 99) rfl HP.out 2 rfl hwl.out hp6 p C rfl rfl ?_; intro ao' cap' w6 s6)
              clear e1 e2 e3 cw g1 g2 g4 g5 g7
              go_roundw
              case rel => exact ⟨p + 1, ao', cap', by omega, by go_num, rfl, by rw [HSU.out]; exact s6.out⟩
              case measure => simp [intOf]; omega
            · have : p = k := by omega
              subst this
              obtain ⟨ao2, cap2, e2, _, _, hws⟩ := HP.out.wants 2 rfl
              rw [wrow_len] at e2
              cases e2
              have hfb : ∀ q, q < p → 1 ≤ cfOf cl (j * 3 + q) ∧ cfOf cl (j * 3 + q) ≤ 1024 := fun q _ => cfOf_bnd cl _
              have kt := HP.out.take 0 (x := x) rfl (by omega) HID.out.gx (by omega) (lc := cap) hws (by rw [wrow_len]; omega) (wrow_ids _ _ (by omega))
              rw [wrow_len] at kt
              have KT : Hid (∀ W x', MX w.heap.size w W [obA t x', obA tb y, obW 37 (.slice ao p cap) (wrow p (fun q => cfOf cl (j * 3 + q)))] [] → Calls Try.prog 18 #[ptr tb, .slice ao p cap] W fun e w' => ∃ y1 id ok, e = .returned (.tuple #[.int .i64 id, .bool ok]) ∧ Hid (TakeP (wrow p (fun q => cfOf cl (j * 3 + q))) y y1 id ok ∧ MX w.heap.size w w' [obA t x', obA tb y1, obW 37 (.slice ao p cap) (wrow p (fun q => cfOf cl (j * 3 + q)))] [])) := fun W x' hW => by
                obtain ⟨ao3, cap3, e3, _, _, hws3⟩ := hW.wants 2 rfl
                rw [wrow_len] at e3
                cases e3
                have := hW.take 1 (x := y) rfl (by omega) HID.out.gy (by omega) (lc := cap) hws3 (by rw [wrow_len]; omega) (wrow_ids _ _ (by omega))
                rw [wrow_len] at this
                exact this
              have HK := hide_it (fun x' y' i i' a a' (h1 : TakeP (wrow p (fun q => cfOf cl (j * 3 + q))) x x' i a) (h2 : TakeP (wrow p (fun q => cfOf cl (j * 3 + q))) y y' i' a') => idr_take HID.out hk0 hn1 hfb h1 h2)
              clear hws HP HID hfb
              generalize wrow p (fun q => cfOf cl (j * 3 + q)) = L at *
              go_wp2_with (go_at_call 18; refine kt.mono ?_; rintro e w6 ⟨x', i1, a1, rfl, s6⟩; refine Hid.out ?_)
              refine hide_it ?_
              have kt2 := KT.out _ _ s6.out.2
              clear kt KT
              go_wp2_with (go_at_call 18; refine kt2.mono ?_; rintro e w7 ⟨y', i2, a2, rfl, s7⟩; obtain ⟨rfl, rfl, rfl, h4⟩ := HK.out _ _ _ _ _ _ s6.out.1 s7.out.1; have H4 := hide_it h4; clear h4; refine Hid.out ?_)
              refine hide_it ?_
              clear kt2 HK
              have s8 : Hid (MX w.heap.size w w7 [obA t x', obA tb y'] []) := MX.forget (os := [obA t x', obA tb y']) s7.out.2
              clear s6 s7
              go_wp2
              go_roundw
              case rel => exact ⟨j + 1, by omega, by go_num, x', y', H4.out, s8.out⟩
              case measure => simp [intOf]; omega
        · obtain ⟨x, y, hid, hx⟩ := HX.out
          have kc := hx.credit 1 (x := y) rfl (by have := hid.gy.len; omega) 99
          have he := idr_end hid hn1
          rw [he.1, he.2] at kc
          clear HX hid hx he
          by_cases hk0 : k = 0
          · subst hk0
            clear hT hjl hj
            go_wp2_with (go_at_call 20; refine kc.mono ?_; rintro e w6 ⟨rfl, s6⟩)
            go_ret
            exact ⟨rfl, s6.out.bel⟩
          · rw [if_neg hk0] at hT
            have d0 : decide (0 < k) = true := decide_eq_true (by omega)
            by_cases d1 : j < cl.length
            · have d2 : decide (j < 100) = false := by simp; omega
              have d3 : decide ((j : Int) < 100) = false := by simp; omega
              clear hT hjl hj
              go_wp2_with (go_at_call 20; refine kc.mono ?_; rintro e w6 ⟨rfl, s6⟩)
              go_ret
              exact ⟨rfl, s6.out.bel⟩
            · have d2 : decide (j < cl.length) = false := by simp; omega
              have d3 : decide ((j : Int) < (cl.length : Int)) = false := by simp; omega
              clear hT hjl hj d1
              go_wp2_with (go_at_call 20; refine kc.mono ?_; rintro e w6 ⟨rfl, s6⟩)
              go_ret
              exact ⟨rfl, s6.out.bel⟩
end Go.Proofs.Ytlhkahincnchjaa
