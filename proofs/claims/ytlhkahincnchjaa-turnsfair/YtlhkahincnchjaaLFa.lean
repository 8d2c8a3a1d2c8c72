/- TurnsFair's walk. -/
import Derived.Test.YtlhkahincnchjaaFai
import Derived.Test.YtlhkahincnchjaaLId
import Derived.Test.YtlhkahincnchjaaPut
namespace Go.Proofs.Ytlhkahincnchjaa
open Go.RowKit
open M
set_option linter.unusedVariables false
set_option linter.unusedSimpArgs false

theorem mul_bnd {x y X Y : Int} (hx : 0 ≤ x ∧ x ≤ X) (hy : 0 ≤ y ∧ y ≤ Y) : 0 ≤ x * y ∧ x * y ≤ X * Y :=
  ⟨Int.mul_nonneg hx.1 hy.1, Int.mul_le_mul hx.2 hy.2 hy.1 (by omega)⟩
set_option maxRecDepth 1000000 in
set_option maxHeartbeats 8000000 in
theorem turnsFair_walk (a : Int) (ws : List Int) (wa : Option Addr) (wc : Nat) (cl : List Int) (ca : Option Addr) (cc : Nat) (w : World) (ha : -9223372036854775808 ≤ a ∧ a ≤ 9223372036854775807) (hws : NumsIn .i64 w wa ws) (hwl : ws.length ≤ wc) (hwm : wc ≤ maxLen) (hwb : ∀ y ∈ ws, (Lit.int .i64 y).wf = true)
    (hcl : NumsIn .i64 w ca cl) (hcll : cl.length ≤ cc) (hclm : cc ≤ maxLen) (hclb : ∀ y ∈ cl, (Lit.int .i64 y).wf = true) :
    Calls Try.prog 4 #[.int .i64 a, .slice wa ws.length wc, .slice ca cl.length cc] w fun e w' => e = .returned (.bool true) ∧ Below w.heap.size w w' := by
  have ks := shown_any w
  unfold maxLen at hwm hclm
  obtain ⟨n, hn⟩ : ∃ n, min ws.length 10 = n := ⟨_, rfl⟩
  have hmin : ∀ (ts : Array TypeId) (t : TypeId) (W : World), (Builtin.min_ ts t #[.int .i64 (ws.length : Int), .int .i64 10]).run Try.prog W = .ok (.int .i64 (n : Int)) W := fun ts t W => by
    rw [min_num]; congr 2; omega
  have hn1 : n ≤ 10 := by omega
  have hn2 : n ≤ ws.length := by omega
  obtain ⟨A, hA⟩ : ∃ A, bits .and .i64 a 1023 = A := ⟨_, rfl⟩
  have hAb : 0 ≤ A ∧ A < 1024 := by rw [← hA, i64_and10]; omega
  obtain ⟨Q, hQ⟩ : ∃ Q, 1 + A = Q := ⟨_, rfl⟩
  have HQ := hide_it (show 1 ≤ Q ∧ Q ≤ 1024 by omega)
  have HQ0 := hide_it (show min (max Q 1) 1048576 = Q by omega)
  have b9 : -1000000000000 ≤ 1 + A ∧ 1 + A ≤ 1000000000000 := by omega
  have HWS := hide_it hws
  have HCL := hide_it hcl
  have q24 : ∀ (t : Nat) (w : World), (binOp .eql 24 (ptr t) (.pointer none)).run Try.prog w = .ok (.bool false) w := fun t w => by rfl
  have eQ' : IntKind.i64.wrap (1 + A) = Q := (wr_int b9).1.trans hQ
  have eQ : wrap64 (1 + A) = Q := (wr_int b9).2.trans hQ
  clear hws hcl hn hwb hclb ha hAb hQ b9
  go_enter Try.func4, Try.ntmps4
  go_wp2_with (go_at_call 10; refine ks.mono ?_; rintro e w1 ⟨rfl, s0⟩; refine Hid.out ?_)
  refine hide_it ?_
  have h0 := hide_it (mx_start s0.out (Nat.le_refl _))
  have k0 := h0.out.new Q
  clear ks
  go_wp2_with (go_at_call 11; refine k0.mono ?_; rintro e w2 ⟨t, rfl, s1⟩; refine Hid.out ?_)
  refine hide_it ?_
  have hz0 : iRow (fun _ => 0) 10 = #[.int .i64 0, .int .i64 0, .int .i64 0, .int .i64 0, .int .i64 0, .int .i64 0, .int .i64 0, .int .i64 0, .int .i64 0, .int .i64 0] := by rfl
  have s2 := hide_it ((s1.out.alloc (.cells (iRow (fun _ => 0) 10) 53)).alloc (.cells (iRow (fun _ => 0) 10) 53))
  have H1 : Hid (∃ x g, Jn Q 0 (wOf 100 ws) x ∧ (∀ j, j < 0 → g j = wOf 100 ws j) ∧ MX w.heap.size w ((w2.alloc (.cells (iRow (fun _ => 0) 10) 53)).alloc (.cells (iRow (fun _ => 0) 10) 53)) [obA t x] [(w2.heap.size, .cells (iRow g 10) 53), ((w2.alloc (.cells (iRow (fun _ => 0) 10) 53)).heap.size, .cells (iRow (fun _ => 0) 10) 53)]) :=
    ⟨mk0 Q, fun _ => 0, jn_zero Q _ HQ0.out, fun j hj => by omega, s2.out.drop (fun p hp => by simp at hp ⊢; rcases hp with h | h; exact .inr h; exact .inl h)⟩
  rw [hz0] at H1
  have hsz : (w2.alloc (.cells #[.int .i64 0, .int .i64 0, .int .i64 0, .int .i64 0, .int .i64 0, .int .i64 0, .int .i64 0, .int .i64 0, .int .i64 0, .int .i64 0] 53)).heap.size = w2.heap.size + 1 := by simp
  rw [hsz] at H1
  clear k0 h0 s0 s1 s2 hA eQ eQ' HQ0
  have hne : w2.heap.size + 1 ≠ w2.heap.size := by omega
  go_upto_region 9 with fail
  obtain ⟨W0, hW0⟩ : ∃ W0, ((w2.alloc (.cells #[.int .i64 0, .int .i64 0, .int .i64 0, .int .i64 0, .int .i64 0, .int .i64 0, .int .i64 0, .int .i64 0, .int .i64 0, .int .i64 0] 53)).alloc (.cells #[.int .i64 0, .int .i64 0, .int .i64 0, .int .i64 0, .int .i64 0, .int .i64 0, .int .i64 0, .int .i64 0, .int .i64 0, .int .i64 0] 53)) = W0 := ⟨_, rfl⟩
  rw [hW0] at H1 ⊢
  rw [← hz0] at H1
  clear hW0 hsz hz0
  generalize w2.heap.size + 1 = gb at *
  generalize w2.heap.size = wb at *
  have HNE := hide_it hne
  clear hne
  go_wp2
  go_loopw [12] (fun i W => ∃ (k : Nat), k ≤ n ∧ i = .int .i64 k ∧ Hid (∃ x g, Jn Q k (wOf 100 ws) x ∧ (∀ j, j < k → g j = wOf 100 ws j) ∧ MX w.heap.size w W [obA t x] [(wb, .cells (iRow g 10) 53), (gb, .cells (iRow (fun _ => 0) 10) 53)])) (fun i _ => n - (intOf i).toNat)
  case atStart => exact ⟨0, by omega, rfl, H1⟩
  case round =>
    obtain ⟨k, hk, rfl, HX⟩ := hrel
    clear H1
    by_cases hlt : k < n
    · obtain ⟨x, g, hj, hgk, hx⟩ := HX.out
      have hk10 : k < 10 := by omega
      have hr0 := hx.row (List.mem_cons_self ..)
      have c1 : wr.cell? ⟨wb, k, none⟩ = some (.int .i64 (g k)) := by rw [cell_of_row _ wb k _ _ _ hr0]; exact iRow_at _ _ _ hk10
      have f1 : wr.frozen? ⟨wb, k, none⟩ = false := by simp [World.frozen?, hr0]
      obtain ⟨A, A1, e1, e2, e3, e4, e5⟩ := wOf_is ws (show k < ws.length by omega) (M := 100) (by omega)
      obtain ⟨b, o, rfl, hcell⟩ := HWS.out.get (show k < ws.length by omega)
      have cw := hcell wr hx.bel
      have S2 := hide_it (hx.putR (fun p hp => by simp at hp; subst hp; exact HNE.out) k (.int .i64 (wOf 100 ws k)))
      have kj := S2.out.join 0 (x := x) rfl (by rw [hj.n]; omega) k (wOf 100 ws k)
      have hj2 := jn_join hj e5
      rw [hj2.1] at kj
      have HJ := hide_it hj2.2
      have HG2 : Hid (∀ j, j < k + 1 → upd g k (wOf 100 ws k) j = wOf 100 ws j) := fun j hj => by
        by_cases q : j = k
        · subst q; rw [upd_same]
        · rw [upd_other _ _ q]; exact hgk j (by omega)
      rw [iRow_set] at kj
      clear hj hx hj2 HX hcell e5 hr0 S2 hgk
      generalize joinX x (k : Int) (wOf 100 ws k) = y at *
      generalize wOf 100 ws k = wt at *
      generalize g k = g0 at *
      generalize ws[k] = z at *
      go_wp2_with (go_at_call 13; refine kj.mono ?_; rintro e w3 ⟨rfl, s3⟩)
      clear e1 e2 e3 e4 cw c1 f1
      go_roundw
      case rel => exact ⟨k + 1, by omega, by go_num, y, _, HJ.out, HG2.out, s3.out⟩
      case measure => simp [intOf]; omega
    · have : k = n := by omega
      subst this
      obtain ⟨x0, g, hj, hgk, hx⟩ := HX.out
      have HGB : Hid (∀ j, j < k → 1 ≤ g j ∧ g j ≤ 100) := fun j hj => by rw [hgk j hj]; exact wOf_bnd ws j (M := 100) (by omega)
      have hj' : Jn Q k g x0 := ⟨hj.q, hj.n, hj.k0, hj.I, fun j hjk => by rw [hgk j hjk]; exact hj.W j hjk, hj.C⟩
      have H2 : Hid (∃ x S, Fr Q k g 0 0 x S ∧ MX w.heap.size w wr [obA t x] [(gb, .cells (iRow S 10) 53), (wb, .cells (iRow g 10) 53)]) :=
        ⟨x0, fun _ => 0, fr_start hj' (by have := HQ.out; omega) HGB.out hn1, hx.drop (fun p hp => by simp at hp ⊢; rcases hp with h | h; exact .inr h; exact .inl h)⟩
      clear HX HWS hj hj' hgk hx
      obtain ⟨T, hT⟩ : ∃ T, (if k = 0 then 0 else min cl.length 300) = T := ⟨_, rfl⟩
      have hT3 : T ≤ 300 := by rw [← hT]; split <;> omega
      go_wp2
      go_loopw [13, 14] (fun mv i W => ∃ (j : Nat) (mo : Int), j ≤ T ∧ i = .int .i64 j ∧ mv = .int .i64 mo ∧ Hid (∃ x S, Fr Q k g mo j x S ∧ MX w.heap.size w W [obA t x] [(gb, .cells (iRow S 10) 53), (wb, .cells (iRow g 10) 53)])) (fun _ i _ => T - (intOf i).toNat)
      case atStart => exact ⟨0, 0, by omega, rfl, rfl, H2⟩
      case round =>
        obtain ⟨j, mo, hj, rfl, rfl, HX⟩ := hrel
        clear H2
        by_cases hjl : j < T
        · have hk0 : 0 < k := by
            rcases Nat.eq_zero_or_pos k with q | q
            · rw [if_pos q] at hT; omega
            · exact q
          rw [if_neg (by omega)] at hT
          have d0 : decide (0 < k) = true := decide_eq_true hk0
          have d1 : j < cl.length := by omega
          have d2 : j < 300 := by omega
          have d2a : decide ((j : Int) < 300) = true := decide_eq_true (by omega)
          have d2b : decide (j < 300) = true := decide_eq_true d2
          obtain ⟨x, S, hfr, hx⟩ := HX.out
          have HFR := hide_it hfr
          have hmb := hfr.mb
          have H3 : Hid ((mo ≤ mo ∧ mo ≤ 1024 ∧ ∀ q, q < 0 → cfOf cl (j + q) ≤ mo) ∧ MX w.heap.size w wr [obA t x, obW 37 (.slice none 0 0) (wrow 0 (fun q => cfOf cl (j + q)))] [(gb, .cells (iRow S 10) 53), (wb, .cells (iRow g 10) 53)]) :=
            ⟨⟨Int.le_refl _, hmb.2, fun q hq => by omega⟩, hx.add (G := fun _ => False) (o := obW 37 (.slice none 0 0) (wrow 0 (fun q => cfOf cl (j + q)))) (Below.refl _ _) ⟨World.ownsRow_nil _ _ _ _, fun k hk => by simp [Value.ownBlock] at hk⟩ (fun k hk => hk.elim)⟩
          clear hfr hx HX
          go_wp2
          go_loopw [13, 15, 16] (fun mv v i W => ∃ (p : Nat) (ao : Option Addr) (cap : Nat) (m1 : Int), p ≤ k ∧ i = .int .i64 p ∧ v = .slice ao p cap ∧ mv = .int .i64 m1 ∧ Hid ((mo ≤ m1 ∧ m1 ≤ 1024 ∧ ∀ q, q < p → cfOf cl (j + q) ≤ m1) ∧ MX w.heap.size w W [obA t x, obW 37 (.slice ao p cap) (wrow p (fun q => cfOf cl (j + q)))] [(gb, .cells (iRow S 10) 53), (wb, .cells (iRow g 10) 53)])) (fun _ _ i _ => k - (intOf i).toNat)
          case atStart => exact ⟨0, none, 0, mo, by omega, rfl, rfl, rfl, H3⟩
          case round =>
            obtain ⟨p, ao, cap, m1, hp, rfl, rfl, rfl, HP⟩ := hrel
            clear H3
            by_cases hpl : p < k
            · obtain ⟨P, hP⟩ : ∃ P, j + p = P := ⟨_, rfl⟩
              have hnz : ¬ cl.length = 0 := by omega
              have hnp : 0 < cl.length := by omega
              have hp6 : p < 1000000 := by omega
              have b2 : -1000000000000 ≤ (j : Int) + (p : Int) ∧ (j : Int) + (p : Int) ≤ 1000000000000 := by omega
              have g6 : (j : Int) + (p : Int) = (P : Int) := by omega
              obtain ⟨m2, hm2⟩ : ∃ m2, max m1 (cfOf cl P) = m2 := ⟨_, rfl⟩
              have hcb := cfOf_bnd cl P
              have HM2 : Hid (mo ≤ m2 ∧ m2 ≤ 1024 ∧ ∀ q, q < p + 1 → cfOf cl (j + q) ≤ m2) := by
                obtain ⟨z1, z2, z3⟩ := HP.out.1
                refine ⟨by omega, by omega, fun q hq => ?_⟩
                by_cases e : q = p
                · subst e; rw [hP]; omega
                · have := z3 q (by omega); omega
              have hmax : ∀ ts u W, (Builtin.max_ ts u #[.int .i64 m1, .int .i64 (cfOf cl P)]).run Try.prog W = .ok (.int .i64 m2) W := fun ts u W => by rw [← hm2]; exact max_num _ _ ts u W
              obtain ⟨r, b, o, z, A, hr, g7, rfl, hcell, e1, e2, e3⟩ := cfOf_cell HCL.out hnp P
              have cw := hcell wr HP.out.2.bel
              have g4 := (wr_int b2).1.trans g6
              have g5 := (wr_int b2).2.trans g6
              have HSU : Hid (wrow (p + 1) (fun q => cfOf cl (j + q)) = wrow p (fun q => cfOf cl (j + q)) ++ [((p : Int), cfOf cl P)]) := by
                have := wrow_succ p (fun q => cfOf cl (j + q))
                rw [hP] at this
                exact this
              have hwl := hide_it (wrow_len p (fun q => cfOf cl (j + q)))
              have HPX := hide_it HP.out.2
              clear hcell hP b2 hnp g6 hm2 hcb HP
              generalize cfOf cl P = C at *
              go_wp2_with (at_builtin; refine wpList_wadd 28 37 Try.underlying28 info37 rfl (.tmp 89) (.tmp 93) rfl HPX.out 1 rfl hwl.out hp6 p C rfl rfl ?_; intro ao' cap' w6 s6)
              clear e1 e2 e3 cw g4 g5 g7 hmax
              go_roundw
              case rel => exact ⟨p + 1, ao', cap', m2, by omega, by go_num, rfl, rfl, HM2.out, by rw [HSU.out]; exact s6.out⟩
              case measure => simp [intOf]; omega
            · have : p = k := by omega
              subst this
              have hx := HP.out.2
              obtain ⟨ao2, cap2, e2, hcp, _, hws⟩ := hx.wants 1 rfl
              rw [wrow_len] at e2 hcp
              cases e2
              have hm1 : max m1 1 ≤ 1048576 := by have := HP.out.1.2.1; omega
              have hmm : max mo 1 ≤ 1048576 := by omega
              have kt := hx.take 0 (x := x) rfl hmm (fr_gd HFR.out hn1) (by omega) (lc := cap) hws (by rw [wrow_len]; omega) (wrow_ids _ _ (by omega))
              rw [wrow_len] at kt
              have HK : Hid (∀ y id ok, TakeP (wrow p (fun q => cfOf cl (j + q))) x y id ok → ∃ r, r < p ∧ id = (r : Int) ∧ ok = true ∧ Fr Q p g m1 (j + 1) y (upd S r (S r + cfOf cl (j + r)))) := fun y id ok ht => fr_take HFR.out hk0 (fun q hq => ⟨(cfOf_bnd cl _).1, (cfOf_bnd cl _).2, HP.out.1.2.2 q hq⟩) HP.out.1.1 HP.out.1.2.1 ht
              have HWA : Hid (∀ W y R, MX w.heap.size w W [obA t y, obW 37 (.slice ao p cap) (wrow p (fun q => cfOf cl (j + q)))] R → ∀ r, r < p → ∃ b, ao = some ⟨b, 0, none⟩ ∧ W.cell? ⟨b, r * 2 + 1, none⟩ = some (.int .i64 (cfOf cl (j + r)))) := fun W y R hW r hr => by
                obtain ⟨F, hW⟩ := hW
                have ho := (hW.ho 1 _ rfl).1
                rw [wrow_len] at ho
                rcases ho.2 with ⟨_, q⟩ | ⟨gg, cc2, cur, e, hb, hg, h1, h2, h3, h4⟩
                · omega
                · cases e
                  obtain ⟨_, q1⟩ := wcs_at (wrow p (fun q => cfOf cl (j + q))) r (by rw [wrow_len]; exact hr)
                  refine ⟨gg, rfl, ?_⟩
                  rw [cell_of_row W gg _ _ _ _ hg, ← Array.getElem?_toList, ← List.getElem?_take_of_lt (j := p * 2) (by omega), h4, q1]
                  simp [wrow]
              have HSB := hide_it HFR.out.sb
              clear hws HP HFR hm1 hmm hx
              go_upto_region 29 with (go_at_call 18; refine kt.mono ?_; rintro e w6 ⟨y, id, ok, rfl, s6⟩; obtain ⟨r, hr, rfl, rfl, h4⟩ := HK.out _ _ _ s6.out.1; have H4 := hide_it h4; have S6 := hide_it s6.out.2; clear h4 s6; have hdr1 : decide ((p : Int) ≤ (r : Int)) = false := (by simp; omega); have hdr2 : decide (p ≤ r) = false := (by simp; omega))
              have hr10 : r < 10 := by omega
              obtain ⟨b, rfl, k1⟩ := HWA.out _ _ _ S6.out r hr
              have hrow := S6.out.row (List.mem_cons_self ..)
              have c1 : w6.cell? ⟨gb, r, none⟩ = some (.int .i64 (S r)) := by rw [cell_of_row _ gb r _ _ _ hrow]; exact iRow_at _ _ _ hr10
              have f1 : w6.frozen? ⟨gb, r, none⟩ = false := by simp [World.frozen?, hrow]
              have hsr := HSB.out r
              have hcb := cfOf_bnd cl (j + r)
              have bV : -1000000000000 ≤ S r + cfOf cl (j + r) ∧ S r + cfOf cl (j + r) ≤ 1000000000000 := by omega
              have S8 : Hid (MX w.heap.size w ((w6.setCell ⟨gb, r, none⟩ (.int .i64 (S r + cfOf cl (j + r)))).drewN 1) [obA t y, obW 37 (.slice (some ⟨b, 0, none⟩) p cap) (wrow p (fun q => cfOf cl (j + q)))] [(gb, .cells (iRow (upd S r (S r + cfOf cl (j + r))) 10) 53), (wb, .cells (iRow g 10) 53)]) := by
                have := S6.out.putR (fun q hq => by simp at hq; subst hq; exact fun e => HNE.out e.symm) r (.int .i64 (S r + cfOf cl (j + r)))
                rw [iRow_set] at this
                exact this.below (below_drewN (Below.refl _ _) 1)
              obtain ⟨v1, v2⟩ := wr_int bV
              have hcap63 : cap ≤ 9223372036854775807 := by
                obtain ⟨_, _, e2, _, h2, _⟩ := S6.out.wants 1 rfl
                rw [wrow_len] at e2
                cases e2
                unfold maxLen at h2
                omega
              clear S6 HWA HSB hrow hsr hcb bV kt HK
              generalize upd S r (S r + cfOf cl (j + r)) = S2 at *
              generalize wrow p (fun q => cfOf cl (j + q)) = L at *
              generalize S r = sr at *
              generalize cfOf cl (j + r) = C at *
              go_region
              change Exit.then _ _ Exit.normal _ ((w6.setCell ⟨gb, r, none⟩ (.int .i64 (sr + C))).drewN 1)
              generalize (w6.setCell ⟨gb, r, none⟩ (.int .i64 (sr + C))).drewN 1 = w7 at *
              clear v1 v2 c1 f1 k1 hdr1 hdr2
              go_wp2
              go_loopw [20] (fun iv W => ∃ (q : Nat), q ≤ p ∧ iv = .int .i64 q ∧ Hid (MX w.heap.size w W [obA t y, obW 37 (.slice (some ⟨b, 0, none⟩) p cap) L] [(gb, .cells (iRow S2 10) 53), (wb, .cells (iRow g 10) 53)])) (fun iv _ => p - (intOf iv).toNat)
              case atStart => exact ⟨0, by omega, rfl, S8⟩
              case round =>
                obtain ⟨q, hq, rfl, HQ4⟩ := hrel
                clear S8
                by_cases hql : q < p
                · go_wp2
                  go_loopw [21] (fun iv W => ∃ (s : Nat), s ≤ p ∧ iv = .int .i64 s ∧ Hid (MX w.heap.size w W [obA t y, obW 37 (.slice (some ⟨b, 0, none⟩) p cap) L] [(gb, .cells (iRow S2 10) 53), (wb, .cells (iRow g 10) 53)])) (fun iv _ => p - (intOf iv).toNat)
                  case atStart => exact ⟨0, by omega, rfl, HQ4⟩
                  case round =>
                    obtain ⟨s, hs, rfl, HS5⟩ := hrel
                    clear HQ4
                    by_cases hsl : s < p
                    · have hq10 : q < 10 := by omega
                      have hs10 : s < 10 := by omega
                      have ra := HS5.out.row (List.mem_cons_self ..)
                      have rb := HS5.out.row (List.mem_cons_of_mem _ (List.mem_cons_self ..))
                      have e1 : wr.cell? ⟨gb, q, none⟩ = some (.int .i64 (S2 q)) := by rw [cell_of_row _ gb q _ _ _ ra]; exact iRow_at _ _ _ hq10
                      have e2 : wr.cell? ⟨gb, s, none⟩ = some (.int .i64 (S2 s)) := by rw [cell_of_row _ gb s _ _ _ ra]; exact iRow_at _ _ _ hs10
                      have e3 : wr.cell? ⟨wb, q, none⟩ = some (.int .i64 (g q)) := by rw [cell_of_row _ wb q _ _ _ rb]; exact iRow_at _ _ _ hq10
                      have e4 : wr.cell? ⟨wb, s, none⟩ = some (.int .i64 (g s)) := by rw [cell_of_row _ wb s _ _ _ rb]; exact iRow_at _ _ _ hs10
                      have hfair := fr_fair H4.out HGB.out hql hsl
                      have hb1 := H4.out.sb q
                      have hb2 := H4.out.sb s
                      have hg1 := HGB.out q hql
                      have hg2 := HGB.out s hsl
                      have hmb := H4.out.mb
                      have hQQ := HQ.out
                      have n1 := mul_bnd (x := S2 q) (X := 307200) (y := g s) (Y := 100) (by omega) (by omega)
                      have n2 := mul_bnd (x := S2 s) (X := 307200) (y := g q) (Y := 100) (by omega) (by omega)
                      have n3 := mul_bnd (x := 2 * Q + m1) (X := 3072) (y := g q) (Y := 100) (by omega) (by omega)
                      have n4 := mul_bnd (x := (2 * Q + m1) * g q) (X := 307200) (y := g s) (Y := 100) (by omega) (by omega)
                      have b1 : -1000000000000 ≤ S2 q * g s ∧ S2 q * g s ≤ 1000000000000 := by omega
                      have b2 : -1000000000000 ≤ S2 s * g q ∧ S2 s * g q ≤ 1000000000000 := by omega
                      have b3 : -1000000000000 ≤ S2 q * g s - S2 s * g q ∧ S2 q * g s - S2 s * g q ≤ 1000000000000 := by omega
                      have b4 : -1000000000000 ≤ 2 * Q ∧ 2 * Q ≤ 1000000000000 := by omega
                      have b5 : -1000000000000 ≤ 2 * Q + m1 ∧ 2 * Q + m1 ≤ 1000000000000 := by omega
                      have b6 : -1000000000000 ≤ (2 * Q + m1) * g q ∧ (2 * Q + m1) * g q ≤ 1000000000000 := by omega
                      have b7 : -1000000000000 ≤ (2 * Q + m1) * g q * g s ∧ (2 * Q + m1) * g q * g s ≤ 1000000000000 := by omega
                      have dd : decide ((2 * Q + m1) * g q * g s < S2 q * g s - S2 s * g q) = false := by simp; omega
                      have HD : Hid (∀ nq : Nat, MX w.heap.size w (wr.drewN nq) [obA t y, obW 37 (.slice (some ⟨b, 0, none⟩) p cap) L] [(gb, .cells (iRow S2 10) 53), (wb, .cells (iRow g 10) 53)]) := fun nq => HS5.out.below (below_drewN (Below.refl _ _) nq)
                      obtain ⟨x1, x2⟩ := wr_int b1
                      obtain ⟨x3, x4⟩ := wr_int b2
                      obtain ⟨x5, x6⟩ := wr_int b3
                      obtain ⟨x7, x8⟩ := wr_int b4
                      obtain ⟨x9, x10⟩ := wr_int b5
                      obtain ⟨x11, x12⟩ := wr_int b6
                      obtain ⟨x13, x14⟩ := wr_int b7
                      clear ra rb hfair hb1 hb2 hg1 hg2 hmb hQQ n1 n2 n3 n4 b1 b2 b3 b4 b5 b6 b7 HS5 hn2
                      generalize S2 q = sq at *
                      generalize S2 s = ss at *
                      generalize g q = gq at *
                      generalize g s = gs at *
                      go_upto_region 36 with fail
                      go_big_quiet (fail)
                      go_wp2
                      clear x1 x2 x3 x4 x5 x6 x7 x8 x9 x10 x11 x12 x13 x14 dd e1 e2 e3 e4
                      go_roundw
                      case rel => exact ⟨s + 1, by omega, by go_num, HD.out _⟩
                      case measure => simp [intOf]; omega
                    · go_wp2
                      go_roundw
                      case rel => exact ⟨q + 1, by omega, by go_num, HS5⟩
                      case measure => simp [intOf]; omega
                · have s9 : Hid (MX w.heap.size w wr [obA t y] [(gb, .cells (iRow S2 10) 53), (wb, .cells (iRow g 10) 53)]) := MX.forget (os := [obA t y]) HQ4.out
                  clear HQ4
                  go_wp2
                  go_roundw
                  case rel => exact ⟨j + 1, m1, by omega, by go_num, rfl, y, S2, H4.out, s9.out⟩
                  case measure => simp [intOf]; omega
        · have HZ : Hid (Below w.heap.size w wr) := by
            obtain ⟨x, S, _, hx⟩ := HX.out
            exact hx.bel
          clear HX
          by_cases hk0 : k = 0
          · subst hk0
            clear hT hjl hj hT3
            go_wp2
            go_ret
            exact ⟨rfl, HZ.out⟩
          · rw [if_neg hk0] at hT
            have d0 : decide (0 < k) = true := decide_eq_true (by omega)
            by_cases d1 : j < cl.length
            · have d2 : decide (j < 300) = false := by simp; omega
              have d3 : decide ((j : Int) < 300) = false := by simp; omega
              clear hT hjl hj hT3
              go_wp2
              go_ret
              exact ⟨rfl, HZ.out⟩
            · have d2 : decide (j < cl.length) = false := by simp; omega
              have d3 : decide ((j : Int) < (cl.length : Int)) = false := by simp; omega
              clear hT hjl hj d1 hT3
              go_wp2
              go_ret
              exact ⟨rfl, HZ.out⟩
end Go.Proofs.Ytlhkahincnchjaa
