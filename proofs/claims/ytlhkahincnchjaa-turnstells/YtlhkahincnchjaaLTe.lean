/- TurnsTells' walk. -/
import Derived.Test.YtlhkahincnchjaaMut
import Derived.Test.YtlhkahincnchjaaMux
import Derived.Deep.RegionHeld3
import Derived.Deep.CutRange
import Derived.BigRegion
namespace Go.Proofs.Ytlhkahincnchjaa
open Go.RowKit
open M
set_option linter.unusedVariables false
set_option linter.unusedSimpArgs false

theorem Gd.more {k : Nat} {x : Tn} (h : Gd 1024 k x) : Gd 1024 (k + 1) x := ⟨h.iv, by have := h.len; omega, h.ids⟩

set_option maxRecDepth 1000000 in
set_option maxHeartbeats 16000000 in
theorem turnsTells_walk (a : Int) (l : List Sp) (la : Option Addr) (lc : Nat) (w : World) (ha : -9223372036854775808 ≤ a ∧ a ≤ 9223372036854775807) (hl : StepsIn w la l) (hll : l.length ≤ lc) (hlm : lc ≤ maxLen) :
    Calls Try.prog 3 #[.int .i64 a, .slice la l.length lc] w fun e w' => e = .returned (.bool true) ∧ Below w.heap.size w w' := by
  have ks := shown_any w
  unfold maxLen at hlm
  have HL := hide_it hl
  have q24 : ∀ (t : Nat) (w : World), (binOp .eql 24 (ptr t) (.pointer none)).run Try.prog w = .ok (.bool false) w := fun t w => by rfl
  clear hl ha
  obtain ⟨m, hm⟩ : ∃ m, l.length = m := ⟨_, rfl⟩
  obtain ⟨T, hT⟩ : ∃ T, min m 150 = T := ⟨_, rfl⟩
  have HM := hide_it hm
  rw [hm] at hll ⊢
  clear hm
  go_enter Try.func3, Try.ntmps3
  go_wp2_with (go_at_call 10; refine ks.mono ?_; rintro e w1 ⟨rfl, s0⟩; refine Hid.out ?_)
  refine hide_it ?_
  have h0 := hide_it (mx_start s0.out (Nat.le_refl _))
  have k0 := h0.out.new a
  clear ks
  go_wp2_with (go_at_call 11; refine k0.mono ?_; rintro e w2 ⟨t, rfl, s1⟩; refine Hid.out ?_)
  refine hide_it ?_
  have k1 := s1.out.rnew a
  clear k0
  go_wp2_with (go_at_call 12; refine k1.mono ?_; rintro e w3 ⟨r, rfl, s2⟩; refine Hid.out ?_)
  refine hide_it ?_
  have H1 : Hid (∃ x, MX w.heap.size w w3 [obA t x, obB r x] [] ∧ Gd 1024 0 x) := ⟨mk0 a, s2.out, ⟨inv_mk0 a (by omega), Nat.le_refl _, fun j hj => absurd hj (Nat.not_lt_zero _)⟩⟩
  clear k1 h0 s0 s1 s2
  go_wp2
  go_loopw [8] (fun i W => ∃ (k : Nat), k ≤ T ∧ i = .int .i64 k ∧ Hid (∃ x, MX w.heap.size w W [obA t x, obB r x] [] ∧ Gd 1024 k x)) (fun i _ => T - (intOf i).toNat)
  case atStart => exact ⟨0, by omega, rfl, H1⟩
  case round =>
    obtain ⟨k, hk, rfl, HX⟩ := hrel
    clear H1
    by_cases hlt : k < T
    · obtain ⟨x, hx, hb⟩ := HX.out
      have d1 : k < m := by omega
      have d2 : k < 150 := by omega
      have d2a : decide ((k : Int) < 150) = true := decide_eq_true (by omega)
      have d2b : decide (k < 150) = true := decide_eq_true d2
      have hkl : k < l.length := by have := HM.out; omega
      obtain ⟨b, o, rfl, hsp, hcell⟩ := HL.out.at hkl
      have hc4 := hcell wr hx.bel
      clear hcell
      generalize l[k] = sp at *
      obtain ⟨K, id0, wt0, L, ao, ac⟩ := sp
      obtain ⟨c0, c1, c2, c3⟩ := hc4
      obtain ⟨-, hidb, -, hws, hwl, hwm, hwb⟩ := hsp
      simp only at c0 c1 c2 c3 hidb hws hwl hwm hwb
      have sB := hide_it (hx.alloc (.cells #[.int .i64 K, .int .i64 id0, .int .i64 wt0, .slice ao L.length ac] 30))
      have HBel := hide_it hx.bel
      have HWS := hide_it hws
      have HWL := hide_it (And.intro hwl hwm)
      have HID := hide_it (fun p hp => (hwb p hp).1)
      have HWB := hide_it (fun p hp => (hwb p hp).2)
      have HIB := hide_it hidb
      have HB := hide_it hb
      clear hx hb HX hws hwl hwm hwb HL hidb
      go_upto_block 2 with fail
      obtain ⟨sb, hsb⟩ : ∃ r, wr.heap.size = r := ⟨_, rfl⟩
      rw [hsb] at sB
      simp only [hsb]
      clear hsb c0 c1 c2 c3
      have HCELL : Hid (∀ W os, MX w.heap.size w W os [(sb, .cells #[.int .i64 K, .int .i64 id0, .int .i64 wt0, .slice ao L.length ac] 30)] → W.cell? ⟨sb, 1, none⟩ = some (.int .i64 id0) ∧ W.cell? ⟨sb, 2, none⟩ = some (.int .i64 wt0)) := fun W os hX => by
        have h1 := hX.row (List.mem_cons_self ..)
        exact ⟨by rw [cell_of_row _ sb 1 _ _ _ h1]; rfl, by rw [cell_of_row _ sb 2 _ _ _ h1]; rfl⟩
      have g0 := cell_of_row _ sb 0 _ _ _ (sB.out.row (List.mem_cons_self ..))
      obtain ⟨g1, g2⟩ := HCELL.out _ _ sB.out
      have g5 := cell_of_row _ sb 3 _ _ _ (sB.out.row (List.mem_cons_self ..))
      simp only [List.getElem?_toArray, List.getElem?_cons_zero, List.getElem?_cons_succ] at g0 g5
      have HWS2 : Hid (Ws (wr.alloc (.cells #[.int .i64 K, .int .i64 id0, .int .i64 wt0, .slice ao L.length ac] 30)) ao L) := (HWS.out.below HBel.out).below ((Below.refl _ _).alloc (Nat.le_refl _) _)
      clear HWS HBel
      generalize wr.alloc _ = w5 at *
      go_cut [10, 11, 12, 13, 14, 15, 16, 17] from 30 to 204 (fun s10 _ _ _ _ _ _ _ wx => s10 = .bool true ∧ Hid (∃ y, MX w.heap.size w wx [obA t y, obB r y] [(sb, .cells #[.int .i64 K, .int .i64 id0, .int .i64 wt0, .slice ao L.length ac] 30)] ∧ Gd 1024 (k + 1) y))
      case first =>
        rcases sixKinds K with hx | hx | hx | hx | hx | hx | ⟨n0, n1, n2, n3, n4, n5⟩
        · as_aux_lemma =>
            have k0 : (K == 0) = true := by simp [hx]
            have sD := hide_it (sB.out.below (w' := w5.drew) ((Below.refl _ _).drew))
            have kp : Calls Try.prog 13 #[ptr t, .int .i64 id0, .int .i64 wt0] w5.drew fun e w' => e = .returned (.int .i64 (joinE x id0 wt0)) ∧ Hid (MX w.heap.size w w' [obA t (joinX x id0 wt0), obB r x] [(sb, .cells #[.int .i64 K, .int .i64 id0, .int .i64 wt0, .slice ao L.length ac] 30)]) := sD.out.join 0 rfl (by have := HB.out.len; omega) id0 wt0
            have kr : ∀ W X, MX w.heap.size w W [obA t X, obB r x] [(sb, .cells #[.int .i64 K, .int .i64 id0, .int .i64 wt0, .slice ao L.length ac] 30)] → Calls Try.prog 14 #[ptr r, .int .i64 id0, .int .i64 wt0] W fun e w' => e = .returned (.int .i64 (joinE x id0 wt0)) ∧ Hid (MX w.heap.size w w' [obA t X, obB r (joinX x id0 wt0)] [(sb, .cells #[.int .i64 K, .int .i64 id0, .int .i64 wt0, .slice ao L.length ac] 30)]) := fun W X h => h.rjoin 1 rfl (by have := HB.out.len; omega) id0 wt0
            have HN := hide_it (gd_join HB.out (by omega) (by omega) HIB.out wt0)
            generalize joinE x id0 wt0 = E at *
            generalize joinX x id0 wt0 = y at *
            have e1 : (E == E) = true := by simp
            clear hx sB HB HIB g5 HWS2 HWL HID HWB
            go_upto_region 13 with fail
            (go_region_held3 (fun V => V.cell? ⟨sb, 1, none⟩ = some (.int .i64 id0) ∧ V.cell? ⟨sb, 2, none⟩ = some (.int .i64 wt0)) (first | exact HCELL.out _ _ s7.out | exact HCELL.out _ _ s6.out | exact HCELL.out _ _ sD.out | go_keep) (first | (go_at_call 13; refine kp.mono ?_; rintro e w6 ⟨rfl, s6⟩) | (go_at_call 14; refine (kr _ _ s6.out).mono ?_; rintro e w7 ⟨rfl, s7⟩)))
            all_goals
              go_wp2
              go_meet
              exact ⟨rfl, y, s7.out.below ⟨rfl, rfl, rfl, Nat.le_refl _, fun _ _ => rfl⟩, HN.out⟩
        · as_aux_lemma =>
            have k0 : (K == 0) = false := by simp [hx]
            have k1 : (K == 1) = true := by simp [hx]
            have sD := hide_it (sB.out.below (w' := w5.drew) ((Below.refl _ _).drew))
            have kp : Calls Try.prog 15 #[ptr t, .int .i64 id0] w5.drew fun e w' => e = .returned (.int .i64 (leaveE x id0)) ∧ Hid (MX w.heap.size w w' [obA t (leaveX x id0), obB r x] [(sb, .cells #[.int .i64 K, .int .i64 id0, .int .i64 wt0, .slice ao L.length ac] 30)]) := sD.out.leave 0 rfl (by have := HB.out.len; omega) HB.out.iv.kn id0
            have kr : ∀ W X, MX w.heap.size w W [obA t X, obB r x] [(sb, .cells #[.int .i64 K, .int .i64 id0, .int .i64 wt0, .slice ao L.length ac] 30)] → Calls Try.prog 16 #[ptr r, .int .i64 id0] W fun e w' => e = .returned (.int .i64 (leaveE x id0)) ∧ Hid (MX w.heap.size w w' [obA t X, obB r (leaveX x id0)] [(sb, .cells #[.int .i64 K, .int .i64 id0, .int .i64 wt0, .slice ao L.length ac] 30)]) := fun W X h => h.rleave 1 rfl (by have := HB.out.len; omega) HB.out.iv.kn id0
            have HN := hide_it ((gd_leave HB.out (by omega) id0).more)
            generalize leaveE x id0 = E at *
            generalize leaveX x id0 = y at *
            have e1 : (E == E) = true := by simp
            clear hx sB HB HIB g5 HWS2 HWL HID HWB
            go_upto_region 15 with fail
            (go_region_held3 (fun V => V.cell? ⟨sb, 1, none⟩ = some (.int .i64 id0)) (first | exact (HCELL.out _ _ s7.out).1 | exact (HCELL.out _ _ s6.out).1 | exact (HCELL.out _ _ sD.out).1 | go_keep) (first | (go_at_call 15; refine kp.mono ?_; rintro e w6 ⟨rfl, s6⟩) | (go_at_call 16; refine (kr _ _ s6.out).mono ?_; rintro e w7 ⟨rfl, s7⟩)))
            all_goals
              go_wp2
              go_meet
              exact ⟨rfl, y, s7.out.below ⟨rfl, rfl, rfl, Nat.le_refl _, fun _ _ => rfl⟩, HN.out⟩
        · as_aux_lemma =>
            have k0 : (K == 0) = false := by simp [hx]
            have k1 : (K == 1) = false := by simp [hx]
            have k2 : (K == 2) = true := by simp [hx]
            have kf := few_any (w := w5) HWS2.out HWL.out.1 HWL.out.2 HWB.out
            clear hx g1 g2
            go_wp2_with (go_at_call 17; refine kf.mono ?_; rintro e w6 ⟨fa, fc, rfl, HF⟩; refine Hid.out ?_)
            have s6 := hide_it (sB.out.below HF.out.1)
            obtain ⟨fl, hfl⟩ : ∃ fl, fewL L = fl := ⟨_, rfl⟩
            have HFM : Hid (∀ y, costOf fl y ≤ 1024) := by rw [← hfl]; exact fewL_max L
            have HFI : Hid (∀ p ∈ fl, i64B p.1) := by rw [← hfl]; exact fewL_ids L HID.out
            have hflen : fl.length ≤ 10 := by rw [← hfl, fewL_len]; omega
            rw [hfl] at HF ⊢
            obtain ⟨N, hN⟩ : ∃ N, fl.length = N := ⟨_, rfl⟩
            have HNN := hide_it hN
            rw [hN] at hflen ⊢
            clear kf hfl hN g0 g5 sB HWS2 HWL HID HWB HIB
            refine hide_it ?_
            go_wp2_with fail
            go_loopw [12, 13] (fun rv iv W => ∃ (j c : Nat) (so : Option Addr), j ≤ N ∧ iv = .int .i64 j ∧ rv = .slice so j c ∧ Hid (Below w6.heap.size w6 W) ∧ Hid (W.ownsRow w6.heap.size 38 2 (.slice so j c) j (wcs (fl.take j)))) (fun _ iv _ => N - (intOf iv).toNat)
            case atStart => exact ⟨0, 0, none, Nat.zero_le _, rfl, rfl, Below.refl _ _, World.ownsRow_nil _ _ _ _⟩
            case round =>
              obtain ⟨j, c, so, hj, rfl, rfl, HBr, HO⟩ := hrel
              by_cases hlt2 : j < N
              · as_aux_lemma =>
                  have hjl : j < fl.length := by have := HNN.out; omega
                  obtain ⟨fb, fo, hfa, hfb, f0, f1⟩ := HF.out.2 j hjl
                  have HT : Hid (fl.take (j + 1) = fl.take j ++ [fl[j]]) := List.take_succ_eq_append_getElem hjl
                  have HTL : Hid ((fl.take j).length = j) := by show (fl.take j).length = j; rw [List.length_take]; omega
                  generalize fl[j] = p at *
                  obtain ⟨p1, p2⟩ := p
                  simp only [] at f0 f1
                  have HCC : Hid (∀ W, Below w6.heap.size w6 W → W.cell? ⟨fb, fo + j * 2, none⟩ = some (.int .i64 p1) ∧ W.cell? ⟨fb, fo + j * 2 + 1, none⟩ = some (.int .i64 p2)) := fun W h => ⟨(h.cell (p := ⟨fb, _, none⟩) hfb).trans f0, (h.cell (p := ⟨fb, _, none⟩) hfb).trans f1⟩
                  obtain ⟨c0, c1⟩ := HCC.out wr HBr.out
                  have hfb2 : fb < wr.heap.size := by have := HBr.out.size; omega
                  clear f0 f1 hfb hjl
                  have HOW : Hid (∀ W, Below wr.heap.size wr W → W.ownsRow w6.heap.size 38 2 (.slice so j c) j (wcs (fl.take j)) ∧ w6.heap.size ≤ W.heap.size) := fun W h => ⟨owns_below HO.out h, Nat.le_trans HBr.out.size h.size⟩
                  have HGR : Hid (∀ W W', Below wr.heap.size wr W → W.grownBy W' (Value.slice so j c).ownBlock → Below w6.heap.size w6 W') := fun W W' h hg => (HBr.out.trans (h.mono HBr.out.size)).grown hg (Nat.le_trans HBr.out.size h.size) (fun q hq => (HO.out.lt q hq).1)
                  have HM1 : Hid (j + 1 ≤ 1000000) := (show j + 1 ≤ 1000000 from by omega)
                  subst hfa
                  go_wp2_with fail
                  go_region_held3 (fun W => W.cell? ⟨fb, fo + j * 2, none⟩ = some (.int .i64 p1) ∧ W.cell? ⟨fb, fo + j * 2 + 1, none⟩ = some (.int .i64 p2)) (first | go_keep | (go_split_ands; simp [*]; done) | exact HCC.out _ B6.out) ((rw [if_pos (by rfl)]; refine wp_wone 35 38 Try.underlying35 info38 (.tmp 86) (.tmp 98) (by rfl) HTL.out.symm (HOW.out _ (by first | exact (((Below.refl _ _).alloc (Nat.le_refl _) _).drew) | exact (((Below.refl _ _).drew).alloc (Nat.le_refl _) _) | exact ((Below.refl _ _).alloc (Nat.le_refl _) _))).1 (c1 := p1) (c2 := p2) (by first | exact heap_alloc_at rfl _ | exact heap_alloc_new _ _) HM1.out (by simp [Act.eval, Act.put]) (by simp [Act.eval, Act.put]) (HOW.out _ (by first | exact (((Below.refl _ _).alloc (Nat.le_refl _) _).drew) | exact (((Below.refl _ _).drew).alloc (Nat.le_refl _) _) | exact ((Below.refl _ _).alloc (Nat.le_refl _) _))).2 ?_; intro ao' c' m' w7 HA; have B6 := hide_it (HGR.out _ _ (by first | exact (((Below.refl _ _).alloc (Nat.le_refl _) _).drew) | exact (((Below.refl _ _).drew).alloc (Nat.le_refl _) _) | exact ((Below.refl _ _).alloc (Nat.le_refl _) _)) HA.out.2.2)))
                  all_goals
                    go_wp2
                    obtain ⟨em, hown, hgr⟩ := HA.out
                    go_roundw
                    case rel => exact ⟨j + 1, c', ao', by omega, by go_num, by rw [em], B6.out, by rw [← em, show m' = j + 1 from em, HT.out]; rw [em] at hown; exact hown⟩
                    case measure => dsimp only [intOf]; omega
              · as_aux_lemma =>
                  obtain rfl : j = N := by omega
                  have htk : fl.take j = fl := List.take_of_length_le (by rw [HNN.out]; exact Nat.le_refl _)
                  have ho : wr.ownsRow w6.heap.size 38 2 (.slice so j c) fl.length (wcs fl) := by
                    have h := HO.out
                    rw [htk] at h
                    rw [HNN.out]
                    exact h
                  have s7 : Hid (MX w.heap.size w wr [obA t x, obB r x, obW 38 (.slice so j c) fl] [(sb, .cells #[.int .i64 K, .int .i64 id0, .int .i64 wt0, .slice ao L.length ac] 30)]) := s6.out.row2 HBr.out ho
                  have hwf : Ws wr fa fl := HF.out.2.below HBr.out
                  have kt : Calls Try.prog 18 #[ptr t, .slice fa j fc] wr fun e w' => ∃ y id ok, e = .returned (.tuple #[.int .i64 id, .bool ok]) ∧ Hid (TakeP fl x y id ok ∧ MX w.heap.size w w' [obA t y, obB r x, obW 38 (.slice so j c) fl] [(sb, .cells #[.int .i64 K, .int .i64 id0, .int .i64 wt0, .slice ao L.length ac] 30)]) := by
                    have h := s7.out.take 0 rfl (by omega) HB.out (by omega) (lc := fc) hwf (by rw [HNN.out]; omega) HFI.out
                    rw [HNN.out] at h
                    exact h
                  have kr : ∀ W X, MX w.heap.size w W [obA t X, obB r x, obW 38 (.slice so j c) fl] [(sb, .cells #[.int .i64 K, .int .i64 id0, .int .i64 wt0, .slice ao L.length ac] 30)] → Calls Try.prog 19 #[ptr r, .slice so j c] W fun e w' => ∃ y id ok, e = .returned (.tuple #[.int .i64 id, .bool ok]) ∧ Hid (TakeP fl x y id ok ∧ MX w.heap.size w w' [obA t X, obB r y, obW 38 (.slice so j c) fl] [(sb, .cells #[.int .i64 K, .int .i64 id0, .int .i64 wt0, .slice ao L.length ac] 30)]) := fun W X h => by
                    have h2 : MX w.heap.size w W [obA t X, obB r x, obW 38 (.slice so fl.length c) fl] [(sb, .cells #[.int .i64 K, .int .i64 id0, .int .i64 wt0, .slice ao L.length ac] 30)] := by rw [HNN.out]; exact h
                    have h3 := h2.rtake 1 2 (by decide) rfl (by omega) HB.out (by omega) rfl (by rw [HNN.out]; omega)
                    rw [HNN.out] at h3
                    exact h3
                  have HG : Hid (∀ y id ok, TakeP fl x y id ok → Gd 1024 (k + 1) y) := fun y id ok h => (HB.out.take (by omega) (fun j _ => HFM.out _) h).more
                  have KR := hide_it kr
                  clear htk ho hwf kr s7 HO HBr HF HFM HFI s6 HB
                  go_wp2_with (go_at_call 18; refine kt.mono ?_; rintro e w8 ⟨y, id, ok, rfl, s8⟩; refine Hid.out ?_)
                  have kr2 := KR.out _ _ s8.out.2
                  clear kt
                  refine hide_it ?_
                  go_wp2_with (go_at_call 19; refine kr2.mono ?_; rintro e w9 ⟨y', id', ok', rfl, s9⟩; refine Hid.out ?_)
                  obtain ⟨ey, ei, eo⟩ := s8.out.1.uniq s9.out.1
                  subst ey ei eo
                  have e1 : (id == id) = true := by simp
                  have e2 : (ok == ok) = true := by simp
                  have HZ : Hid (MX w.heap.size w w9 [obA t y, obB r y] [(sb, .cells #[.int .i64 K, .int .i64 id0, .int .i64 wt0, .slice ao L.length ac] 30)] ∧ Gd 1024 (k + 1) y) := ⟨MX.forget (os := [obA t y, obB r y]) s9.out.2, HG.out _ _ _ s8.out.1⟩
                  clear kr2 KR HG s8 s9
                  refine hide_it ?_
                  go_wp2_with fail
                  go_meet
                  exact ⟨rfl, y, HZ.out⟩
        · as_aux_lemma =>
            have k0 : (K == 0) = false := by simp [hx]
            have k1 : (K == 1) = false := by simp [hx]
            have k2 : (K == 2) = false := by simp [hx]
            have k3 : (K == 3) = true := by simp [hx]
            have kf := few_any (w := w5) HWS2.out HWL.out.1 HWL.out.2 HWB.out
            clear hx g1 g2
            go_wp2_with (go_at_call 17; refine kf.mono ?_; rintro e w6 ⟨fa, fc, rfl, HF⟩; refine Hid.out ?_)
            have s6 := hide_it (sB.out.below HF.out.1)
            obtain ⟨fl, hfl⟩ : ∃ fl, fewL L = fl := ⟨_, rfl⟩
            have HFM : Hid (∀ y, costOf fl y ≤ 1024) := by rw [← hfl]; exact fewL_max L
            have HFI : Hid (∀ p ∈ fl, i64B p.1) := by rw [← hfl]; exact fewL_ids L HID.out
            have hflen : fl.length ≤ 10 := by rw [← hfl, fewL_len]; omega
            rw [hfl] at HF ⊢
            obtain ⟨N, hN⟩ : ∃ N, fl.length = N := ⟨_, rfl⟩
            have HNN := hide_it hN
            rw [hN] at hflen ⊢
            clear kf hfl hN g0 g5 sB HWS2 HWL HID HWB HIB
            refine hide_it ?_
            go_wp2_with fail
            go_loopw [12, 13] (fun rv iv W => ∃ (j c : Nat) (so : Option Addr), j ≤ N ∧ iv = .int .i64 j ∧ rv = .slice so j c ∧ Hid (Below w6.heap.size w6 W) ∧ Hid (W.ownsRow w6.heap.size 38 2 (.slice so j c) j (wcs (fl.take j)))) (fun _ iv _ => N - (intOf iv).toNat)
            case atStart => exact ⟨0, 0, none, Nat.zero_le _, rfl, rfl, Below.refl _ _, World.ownsRow_nil _ _ _ _⟩
            case round =>
              obtain ⟨j, c, so, hj, rfl, rfl, HBr, HO⟩ := hrel
              by_cases hlt2 : j < N
              · as_aux_lemma =>
                  have hjl : j < fl.length := by have := HNN.out; omega
                  obtain ⟨fb, fo, hfa, hfb, f0, f1⟩ := HF.out.2 j hjl
                  have HT : Hid (fl.take (j + 1) = fl.take j ++ [fl[j]]) := List.take_succ_eq_append_getElem hjl
                  have HTL : Hid ((fl.take j).length = j) := by show (fl.take j).length = j; rw [List.length_take]; omega
                  generalize fl[j] = p at *
                  obtain ⟨p1, p2⟩ := p
                  simp only [] at f0 f1
                  have HCC : Hid (∀ W, Below w6.heap.size w6 W → W.cell? ⟨fb, fo + j * 2, none⟩ = some (.int .i64 p1) ∧ W.cell? ⟨fb, fo + j * 2 + 1, none⟩ = some (.int .i64 p2)) := fun W h => ⟨(h.cell (p := ⟨fb, _, none⟩) hfb).trans f0, (h.cell (p := ⟨fb, _, none⟩) hfb).trans f1⟩
                  obtain ⟨c0, c1⟩ := HCC.out wr HBr.out
                  have hfb2 : fb < wr.heap.size := by have := HBr.out.size; omega
                  clear f0 f1 hfb hjl
                  have HOW : Hid (∀ W, Below wr.heap.size wr W → W.ownsRow w6.heap.size 38 2 (.slice so j c) j (wcs (fl.take j)) ∧ w6.heap.size ≤ W.heap.size) := fun W h => ⟨owns_below HO.out h, Nat.le_trans HBr.out.size h.size⟩
                  have HGR : Hid (∀ W W', Below wr.heap.size wr W → W.grownBy W' (Value.slice so j c).ownBlock → Below w6.heap.size w6 W') := fun W W' h hg => (HBr.out.trans (h.mono HBr.out.size)).grown hg (Nat.le_trans HBr.out.size h.size) (fun q hq => (HO.out.lt q hq).1)
                  have HM1 : Hid (j + 1 ≤ 1000000) := (show j + 1 ≤ 1000000 from by omega)
                  subst hfa
                  go_wp2_with fail
                  go_region_held3 (fun W => W.cell? ⟨fb, fo + j * 2, none⟩ = some (.int .i64 p1) ∧ W.cell? ⟨fb, fo + j * 2 + 1, none⟩ = some (.int .i64 p2)) (first | go_keep | (go_split_ands; simp [*]; done) | exact HCC.out _ B6.out) ((rw [if_pos (by rfl)]; refine wp_wone 35 38 Try.underlying35 info38 (.tmp 86) (.tmp 98) (by rfl) HTL.out.symm (HOW.out _ (by first | exact (((Below.refl _ _).alloc (Nat.le_refl _) _).drew) | exact (((Below.refl _ _).drew).alloc (Nat.le_refl _) _) | exact ((Below.refl _ _).alloc (Nat.le_refl _) _))).1 (c1 := p1) (c2 := p2) (by first | exact heap_alloc_at rfl _ | exact heap_alloc_new _ _) HM1.out (by simp [Act.eval, Act.put]) (by simp [Act.eval, Act.put]) (HOW.out _ (by first | exact (((Below.refl _ _).alloc (Nat.le_refl _) _).drew) | exact (((Below.refl _ _).drew).alloc (Nat.le_refl _) _) | exact ((Below.refl _ _).alloc (Nat.le_refl _) _))).2 ?_; intro ao' c' m' w7 HA; have B6 := hide_it (HGR.out _ _ (by first | exact (((Below.refl _ _).alloc (Nat.le_refl _) _).drew) | exact (((Below.refl _ _).drew).alloc (Nat.le_refl _) _) | exact ((Below.refl _ _).alloc (Nat.le_refl _) _)) HA.out.2.2)))
                  all_goals
                    go_wp2
                    obtain ⟨em, hown, hgr⟩ := HA.out
                    go_roundw
                    case rel => exact ⟨j + 1, c', ao', by omega, by go_num, by rw [em], B6.out, by rw [← em, show m' = j + 1 from em, HT.out]; rw [em] at hown; exact hown⟩
                    case measure => dsimp only [intOf]; omega
              · as_aux_lemma =>
                  obtain rfl : j = N := by omega
                  have htk : fl.take j = fl := List.take_of_length_le (by rw [HNN.out]; exact Nat.le_refl _)
                  have ho : wr.ownsRow w6.heap.size 38 2 (.slice so j c) fl.length (wcs fl) := by
                    have h := HO.out
                    rw [htk] at h
                    rw [HNN.out]
                    exact h
                  have s7 : Hid (MX w.heap.size w wr [obA t x, obB r x, obW 38 (.slice so j c) fl] [(sb, .cells #[.int .i64 K, .int .i64 id0, .int .i64 wt0, .slice ao L.length ac] 30)]) := s6.out.row2 HBr.out ho
                  have hwf : Ws wr fa fl := HF.out.2.below HBr.out
                  have kt : Calls Try.prog 18 #[ptr t, .slice fa j fc] wr fun e w' => ∃ y id ok, e = .returned (.tuple #[.int .i64 id, .bool ok]) ∧ Hid (TakeP fl x y id ok ∧ MX w.heap.size w w' [obA t y, obB r x, obW 38 (.slice so j c) fl] [(sb, .cells #[.int .i64 K, .int .i64 id0, .int .i64 wt0, .slice ao L.length ac] 30)]) := by
                    have h := s7.out.take 0 rfl (by omega) HB.out (by omega) (lc := fc) hwf (by rw [HNN.out]; omega) HFI.out
                    rw [HNN.out] at h
                    exact h
                  have kr : ∀ W X, MX w.heap.size w W [obA t X, obB r x, obW 38 (.slice so j c) fl] [(sb, .cells #[.int .i64 K, .int .i64 id0, .int .i64 wt0, .slice ao L.length ac] 30)] → Calls Try.prog 19 #[ptr r, .slice so j c] W fun e w' => ∃ y id ok, e = .returned (.tuple #[.int .i64 id, .bool ok]) ∧ Hid (TakeP fl x y id ok ∧ MX w.heap.size w w' [obA t X, obB r y, obW 38 (.slice so j c) fl] [(sb, .cells #[.int .i64 K, .int .i64 id0, .int .i64 wt0, .slice ao L.length ac] 30)]) := fun W X h => by
                    have h2 : MX w.heap.size w W [obA t X, obB r x, obW 38 (.slice so fl.length c) fl] [(sb, .cells #[.int .i64 K, .int .i64 id0, .int .i64 wt0, .slice ao L.length ac] 30)] := by rw [HNN.out]; exact h
                    have h3 := h2.rtake 1 2 (by decide) rfl (by omega) HB.out (by omega) rfl (by rw [HNN.out]; omega)
                    rw [HNN.out] at h3
                    exact h3
                  have HG : Hid (∀ y id ok, TakeP fl x y id ok → Gd 1024 (k + 1) y) := fun y id ok h => (HB.out.take (by omega) (fun j _ => HFM.out _) h).more
                  have KR := hide_it kr
                  clear htk ho hwf kr s7 HO HBr HF HFM HFI s6 HB
                  go_wp2_with (go_at_call 18; refine kt.mono ?_; rintro e w8 ⟨y, id, ok, rfl, s8⟩; refine Hid.out ?_)
                  have kr2 := KR.out _ _ s8.out.2
                  clear kt
                  refine hide_it ?_
                  go_wp2_with (go_at_call 19; refine kr2.mono ?_; rintro e w9 ⟨y', id', ok', rfl, s9⟩; refine Hid.out ?_)
                  obtain ⟨ey, ei, eo⟩ := s8.out.1.uniq s9.out.1
                  subst ey ei eo
                  have e1 : (id == id) = true := by simp
                  have e2 : (ok == ok) = true := by simp
                  have HZ : Hid (MX w.heap.size w w9 [obA t y, obB r y] [(sb, .cells #[.int .i64 K, .int .i64 id0, .int .i64 wt0, .slice ao L.length ac] 30)] ∧ Gd 1024 (k + 1) y) := ⟨MX.forget (os := [obA t y, obB r y]) s9.out.2, HG.out _ _ _ s8.out.1⟩
                  clear kr2 KR HG s8 s9
                  refine hide_it ?_
                  go_wp2_with fail
                  go_meet
                  exact ⟨rfl, y, HZ.out⟩
        · as_aux_lemma =>
            have k0 : (K == 0) = false := by simp [hx]
            have k1 : (K == 1) = false := by simp [hx]
            have k2 : (K == 2) = false := by simp [hx]
            have k3 : (K == 3) = false := by simp [hx]
            have k4 : (K == 4) = true := by simp [hx]
            have kf := few_any (w := w5) HWS2.out HWL.out.1 HWL.out.2 HWB.out
            clear hx g1 g2
            go_wp2_with (go_at_call 17; refine kf.mono ?_; rintro e w6 ⟨fa, fc, rfl, HF⟩; refine Hid.out ?_)
            have s6 := hide_it (sB.out.below HF.out.1)
            obtain ⟨fl, hfl⟩ : ∃ fl, fewL L = fl := ⟨_, rfl⟩
            have HFM : Hid (∀ y, costOf fl y ≤ 1024) := by rw [← hfl]; exact fewL_max L
            have HFI : Hid (∀ p ∈ fl, i64B p.1) := by rw [← hfl]; exact fewL_ids L HID.out
            have hflen : fl.length ≤ 10 := by rw [← hfl, fewL_len]; omega
            rw [hfl] at HF ⊢
            obtain ⟨N, hN⟩ : ∃ N, fl.length = N := ⟨_, rfl⟩
            have HNN := hide_it hN
            rw [hN] at hflen ⊢
            clear kf hfl hN g0 g5 sB HWS2 HWL HID HWB HIB
            refine hide_it ?_
            go_wp2_with fail
            go_loopw [12, 13] (fun rv iv W => ∃ (j c : Nat) (so : Option Addr), j ≤ N ∧ iv = .int .i64 j ∧ rv = .slice so j c ∧ Hid (Below w6.heap.size w6 W) ∧ Hid (W.ownsRow w6.heap.size 38 2 (.slice so j c) j (wcs (fl.take j)))) (fun _ iv _ => N - (intOf iv).toNat)
            case atStart => exact ⟨0, 0, none, Nat.zero_le _, rfl, rfl, Below.refl _ _, World.ownsRow_nil _ _ _ _⟩
            case round =>
              obtain ⟨j, c, so, hj, rfl, rfl, HBr, HO⟩ := hrel
              by_cases hlt2 : j < N
              · as_aux_lemma =>
                  have hjl : j < fl.length := by have := HNN.out; omega
                  obtain ⟨fb, fo, hfa, hfb, f0, f1⟩ := HF.out.2 j hjl
                  have HT : Hid (fl.take (j + 1) = fl.take j ++ [fl[j]]) := List.take_succ_eq_append_getElem hjl
                  have HTL : Hid ((fl.take j).length = j) := by show (fl.take j).length = j; rw [List.length_take]; omega
                  generalize fl[j] = p at *
                  obtain ⟨p1, p2⟩ := p
                  simp only [] at f0 f1
                  have HCC : Hid (∀ W, Below w6.heap.size w6 W → W.cell? ⟨fb, fo + j * 2, none⟩ = some (.int .i64 p1) ∧ W.cell? ⟨fb, fo + j * 2 + 1, none⟩ = some (.int .i64 p2)) := fun W h => ⟨(h.cell (p := ⟨fb, _, none⟩) hfb).trans f0, (h.cell (p := ⟨fb, _, none⟩) hfb).trans f1⟩
                  obtain ⟨c0, c1⟩ := HCC.out wr HBr.out
                  have hfb2 : fb < wr.heap.size := by have := HBr.out.size; omega
                  clear f0 f1 hfb hjl
                  have HOW : Hid (∀ W, Below wr.heap.size wr W → W.ownsRow w6.heap.size 38 2 (.slice so j c) j (wcs (fl.take j)) ∧ w6.heap.size ≤ W.heap.size) := fun W h => ⟨owns_below HO.out h, Nat.le_trans HBr.out.size h.size⟩
                  have HGR : Hid (∀ W W', Below wr.heap.size wr W → W.grownBy W' (Value.slice so j c).ownBlock → Below w6.heap.size w6 W') := fun W W' h hg => (HBr.out.trans (h.mono HBr.out.size)).grown hg (Nat.le_trans HBr.out.size h.size) (fun q hq => (HO.out.lt q hq).1)
                  have HM1 : Hid (j + 1 ≤ 1000000) := (show j + 1 ≤ 1000000 from by omega)
                  subst hfa
                  go_wp2_with fail
                  go_region_held3 (fun W => W.cell? ⟨fb, fo + j * 2, none⟩ = some (.int .i64 p1) ∧ W.cell? ⟨fb, fo + j * 2 + 1, none⟩ = some (.int .i64 p2)) (first | go_keep | (go_split_ands; simp [*]; done) | exact HCC.out _ B6.out) ((rw [if_pos (by rfl)]; refine wp_wone 35 38 Try.underlying35 info38 (.tmp 86) (.tmp 98) (by rfl) HTL.out.symm (HOW.out _ (by first | exact (((Below.refl _ _).alloc (Nat.le_refl _) _).drew) | exact (((Below.refl _ _).drew).alloc (Nat.le_refl _) _) | exact ((Below.refl _ _).alloc (Nat.le_refl _) _))).1 (c1 := p1) (c2 := p2) (by first | exact heap_alloc_at rfl _ | exact heap_alloc_new _ _) HM1.out (by simp [Act.eval, Act.put]) (by simp [Act.eval, Act.put]) (HOW.out _ (by first | exact (((Below.refl _ _).alloc (Nat.le_refl _) _).drew) | exact (((Below.refl _ _).drew).alloc (Nat.le_refl _) _) | exact ((Below.refl _ _).alloc (Nat.le_refl _) _))).2 ?_; intro ao' c' m' w7 HA; have B6 := hide_it (HGR.out _ _ (by first | exact (((Below.refl _ _).alloc (Nat.le_refl _) _).drew) | exact (((Below.refl _ _).drew).alloc (Nat.le_refl _) _) | exact ((Below.refl _ _).alloc (Nat.le_refl _) _)) HA.out.2.2)))
                  all_goals
                    go_wp2
                    obtain ⟨em, hown, hgr⟩ := HA.out
                    go_roundw
                    case rel => exact ⟨j + 1, c', ao', by omega, by go_num, by rw [em], B6.out, by rw [← em, show m' = j + 1 from em, HT.out]; rw [em] at hown; exact hown⟩
                    case measure => dsimp only [intOf]; omega
              · as_aux_lemma =>
                  obtain rfl : j = N := by omega
                  have htk : fl.take j = fl := List.take_of_length_le (by rw [HNN.out]; exact Nat.le_refl _)
                  have ho : wr.ownsRow w6.heap.size 38 2 (.slice so j c) fl.length (wcs fl) := by
                    have h := HO.out
                    rw [htk] at h
                    rw [HNN.out]
                    exact h
                  have s7 : Hid (MX w.heap.size w wr [obA t x, obB r x, obW 38 (.slice so j c) fl] [(sb, .cells #[.int .i64 K, .int .i64 id0, .int .i64 wt0, .slice ao L.length ac] 30)]) := s6.out.row2 HBr.out ho
                  have hwf : Ws wr fa fl := HF.out.2.below HBr.out
                  have kt : Calls Try.prog 18 #[ptr t, .slice fa j fc] wr fun e w' => ∃ y id ok, e = .returned (.tuple #[.int .i64 id, .bool ok]) ∧ Hid (TakeP fl x y id ok ∧ MX w.heap.size w w' [obA t y, obB r x, obW 38 (.slice so j c) fl] [(sb, .cells #[.int .i64 K, .int .i64 id0, .int .i64 wt0, .slice ao L.length ac] 30)]) := by
                    have h := s7.out.take 0 rfl (by omega) HB.out (by omega) (lc := fc) hwf (by rw [HNN.out]; omega) HFI.out
                    rw [HNN.out] at h
                    exact h
                  have kr : ∀ W X, MX w.heap.size w W [obA t X, obB r x, obW 38 (.slice so j c) fl] [(sb, .cells #[.int .i64 K, .int .i64 id0, .int .i64 wt0, .slice ao L.length ac] 30)] → Calls Try.prog 19 #[ptr r, .slice so j c] W fun e w' => ∃ y id ok, e = .returned (.tuple #[.int .i64 id, .bool ok]) ∧ Hid (TakeP fl x y id ok ∧ MX w.heap.size w w' [obA t X, obB r y, obW 38 (.slice so j c) fl] [(sb, .cells #[.int .i64 K, .int .i64 id0, .int .i64 wt0, .slice ao L.length ac] 30)]) := fun W X h => by
                    have h2 : MX w.heap.size w W [obA t X, obB r x, obW 38 (.slice so fl.length c) fl] [(sb, .cells #[.int .i64 K, .int .i64 id0, .int .i64 wt0, .slice ao L.length ac] 30)] := by rw [HNN.out]; exact h
                    have h3 := h2.rtake 1 2 (by decide) rfl (by omega) HB.out (by omega) rfl (by rw [HNN.out]; omega)
                    rw [HNN.out] at h3
                    exact h3
                  have HG : Hid (∀ y id ok, TakeP fl x y id ok → Gd 1024 (k + 1) y) := fun y id ok h => (HB.out.take (by omega) (fun j _ => HFM.out _) h).more
                  have KR := hide_it kr
                  clear htk ho hwf kr s7 HO HBr HF HFM HFI s6 HB
                  go_wp2_with (go_at_call 18; refine kt.mono ?_; rintro e w8 ⟨y, id, ok, rfl, s8⟩; refine Hid.out ?_)
                  have kr2 := KR.out _ _ s8.out.2
                  clear kt
                  refine hide_it ?_
                  go_wp2_with (go_at_call 19; refine kr2.mono ?_; rintro e w9 ⟨y', id', ok', rfl, s9⟩; refine Hid.out ?_)
                  obtain ⟨ey, ei, eo⟩ := s8.out.1.uniq s9.out.1
                  subst ey ei eo
                  have e1 : (id == id) = true := by simp
                  have e2 : (ok == ok) = true := by simp
                  have HZ : Hid (MX w.heap.size w w9 [obA t y, obB r y] [(sb, .cells #[.int .i64 K, .int .i64 id0, .int .i64 wt0, .slice ao L.length ac] 30)] ∧ Gd 1024 (k + 1) y) := ⟨MX.forget (os := [obA t y, obB r y]) s9.out.2, HG.out _ _ _ s8.out.1⟩
                  clear kr2 KR HG s8 s9
                  refine hide_it ?_
                  go_wp2_with fail
                  go_meet
                  exact ⟨rfl, y, HZ.out⟩
        · as_aux_lemma =>
            have k0 : (K == 0) = false := by simp [hx]
            have k1 : (K == 1) = false := by simp [hx]
            have k2 : (K == 2) = false := by simp [hx]
            have k3 : (K == 3) = false := by simp [hx]
            have k4 : (K == 4) = false := by simp [hx]
            have k5 : (K == 5) = true := by simp [hx]
            have kf := few_any (w := w5) HWS2.out HWL.out.1 HWL.out.2 HWB.out
            clear hx g1 g2
            go_wp2_with (go_at_call 17; refine kf.mono ?_; rintro e w6 ⟨fa, fc, rfl, HF⟩; refine Hid.out ?_)
            have s6 := hide_it (sB.out.below HF.out.1)
            obtain ⟨fl, hfl⟩ : ∃ fl, fewL L = fl := ⟨_, rfl⟩
            have HFM : Hid (∀ y, costOf fl y ≤ 1024) := by rw [← hfl]; exact fewL_max L
            have HFI : Hid (∀ p ∈ fl, i64B p.1) := by rw [← hfl]; exact fewL_ids L HID.out
            have hflen : fl.length ≤ 10 := by rw [← hfl, fewL_len]; omega
            rw [hfl] at HF ⊢
            obtain ⟨N, hN⟩ : ∃ N, fl.length = N := ⟨_, rfl⟩
            have HNN := hide_it hN
            rw [hN] at hflen ⊢
            clear kf hfl hN g0 g5 sB HWS2 HWL HID HWB HIB
            refine hide_it ?_
            go_wp2_with fail
            go_loopw [12, 13] (fun rv iv W => ∃ (j c : Nat) (so : Option Addr), j ≤ N ∧ iv = .int .i64 j ∧ rv = .slice so j c ∧ Hid (Below w6.heap.size w6 W) ∧ Hid (W.ownsRow w6.heap.size 38 2 (.slice so j c) j (wcs (fl.take j)))) (fun _ iv _ => N - (intOf iv).toNat)
            case atStart => exact ⟨0, 0, none, Nat.zero_le _, rfl, rfl, Below.refl _ _, World.ownsRow_nil _ _ _ _⟩
            case round =>
              obtain ⟨j, c, so, hj, rfl, rfl, HBr, HO⟩ := hrel
              by_cases hlt2 : j < N
              · as_aux_lemma =>
                  have hjl : j < fl.length := by have := HNN.out; omega
                  obtain ⟨fb, fo, hfa, hfb, f0, f1⟩ := HF.out.2 j hjl
                  have HT : Hid (fl.take (j + 1) = fl.take j ++ [fl[j]]) := List.take_succ_eq_append_getElem hjl
                  have HTL : Hid ((fl.take j).length = j) := by show (fl.take j).length = j; rw [List.length_take]; omega
                  generalize fl[j] = p at *
                  obtain ⟨p1, p2⟩ := p
                  simp only [] at f0 f1
                  have HCC : Hid (∀ W, Below w6.heap.size w6 W → W.cell? ⟨fb, fo + j * 2, none⟩ = some (.int .i64 p1) ∧ W.cell? ⟨fb, fo + j * 2 + 1, none⟩ = some (.int .i64 p2)) := fun W h => ⟨(h.cell (p := ⟨fb, _, none⟩) hfb).trans f0, (h.cell (p := ⟨fb, _, none⟩) hfb).trans f1⟩
                  obtain ⟨c0, c1⟩ := HCC.out wr HBr.out
                  have hfb2 : fb < wr.heap.size := by have := HBr.out.size; omega
                  clear f0 f1 hfb hjl
                  have HOW : Hid (∀ W, Below wr.heap.size wr W → W.ownsRow w6.heap.size 38 2 (.slice so j c) j (wcs (fl.take j)) ∧ w6.heap.size ≤ W.heap.size) := fun W h => ⟨owns_below HO.out h, Nat.le_trans HBr.out.size h.size⟩
                  have HGR : Hid (∀ W W', Below wr.heap.size wr W → W.grownBy W' (Value.slice so j c).ownBlock → Below w6.heap.size w6 W') := fun W W' h hg => (HBr.out.trans (h.mono HBr.out.size)).grown hg (Nat.le_trans HBr.out.size h.size) (fun q hq => (HO.out.lt q hq).1)
                  have HM1 : Hid (j + 1 ≤ 1000000) := (show j + 1 ≤ 1000000 from by omega)
                  subst hfa
                  go_wp2_with fail
                  go_region_held3 (fun W => W.cell? ⟨fb, fo + j * 2, none⟩ = some (.int .i64 p1) ∧ W.cell? ⟨fb, fo + j * 2 + 1, none⟩ = some (.int .i64 p2)) (first | go_keep | (go_split_ands; simp [*]; done) | exact HCC.out _ B6.out) ((rw [if_pos (by rfl)]; refine wp_wone 35 38 Try.underlying35 info38 (.tmp 86) (.tmp 98) (by rfl) HTL.out.symm (HOW.out _ (by first | exact (((Below.refl _ _).alloc (Nat.le_refl _) _).drew) | exact (((Below.refl _ _).drew).alloc (Nat.le_refl _) _) | exact ((Below.refl _ _).alloc (Nat.le_refl _) _))).1 (c1 := p1) (c2 := p2) (by first | exact heap_alloc_at rfl _ | exact heap_alloc_new _ _) HM1.out (by simp [Act.eval, Act.put]) (by simp [Act.eval, Act.put]) (HOW.out _ (by first | exact (((Below.refl _ _).alloc (Nat.le_refl _) _).drew) | exact (((Below.refl _ _).drew).alloc (Nat.le_refl _) _) | exact ((Below.refl _ _).alloc (Nat.le_refl _) _))).2 ?_; intro ao' c' m' w7 HA; have B6 := hide_it (HGR.out _ _ (by first | exact (((Below.refl _ _).alloc (Nat.le_refl _) _).drew) | exact (((Below.refl _ _).drew).alloc (Nat.le_refl _) _) | exact ((Below.refl _ _).alloc (Nat.le_refl _) _)) HA.out.2.2)))
                  all_goals
                    go_wp2
                    obtain ⟨em, hown, hgr⟩ := HA.out
                    go_roundw
                    case rel => exact ⟨j + 1, c', ao', by omega, by go_num, by rw [em], B6.out, by rw [← em, show m' = j + 1 from em, HT.out]; rw [em] at hown; exact hown⟩
                    case measure => dsimp only [intOf]; omega
              · as_aux_lemma =>
                  obtain rfl : j = N := by omega
                  have htk : fl.take j = fl := List.take_of_length_le (by rw [HNN.out]; exact Nat.le_refl _)
                  have ho : wr.ownsRow w6.heap.size 38 2 (.slice so j c) fl.length (wcs fl) := by
                    have h := HO.out
                    rw [htk] at h
                    rw [HNN.out]
                    exact h
                  have s7 : Hid (MX w.heap.size w wr [obA t x, obB r x, obW 38 (.slice so j c) fl] [(sb, .cells #[.int .i64 K, .int .i64 id0, .int .i64 wt0, .slice ao L.length ac] 30)]) := s6.out.row2 HBr.out ho
                  have hwf : Ws wr fa fl := HF.out.2.below HBr.out
                  have kt : Calls Try.prog 18 #[ptr t, .slice fa j fc] wr fun e w' => ∃ y id ok, e = .returned (.tuple #[.int .i64 id, .bool ok]) ∧ Hid (TakeP fl x y id ok ∧ MX w.heap.size w w' [obA t y, obB r x, obW 38 (.slice so j c) fl] [(sb, .cells #[.int .i64 K, .int .i64 id0, .int .i64 wt0, .slice ao L.length ac] 30)]) := by
                    have h := s7.out.take 0 rfl (by omega) HB.out (by omega) (lc := fc) hwf (by rw [HNN.out]; omega) HFI.out
                    rw [HNN.out] at h
                    exact h
                  have kr : ∀ W X, MX w.heap.size w W [obA t X, obB r x, obW 38 (.slice so j c) fl] [(sb, .cells #[.int .i64 K, .int .i64 id0, .int .i64 wt0, .slice ao L.length ac] 30)] → Calls Try.prog 19 #[ptr r, .slice so j c] W fun e w' => ∃ y id ok, e = .returned (.tuple #[.int .i64 id, .bool ok]) ∧ Hid (TakeP fl x y id ok ∧ MX w.heap.size w w' [obA t X, obB r y, obW 38 (.slice so j c) fl] [(sb, .cells #[.int .i64 K, .int .i64 id0, .int .i64 wt0, .slice ao L.length ac] 30)]) := fun W X h => by
                    have h2 : MX w.heap.size w W [obA t X, obB r x, obW 38 (.slice so fl.length c) fl] [(sb, .cells #[.int .i64 K, .int .i64 id0, .int .i64 wt0, .slice ao L.length ac] 30)] := by rw [HNN.out]; exact h
                    have h3 := h2.rtake 1 2 (by decide) rfl (by omega) HB.out (by omega) rfl (by rw [HNN.out]; omega)
                    rw [HNN.out] at h3
                    exact h3
                  have HG : Hid (∀ y id ok, TakeP fl x y id ok → Gd 1024 (k + 1) y) := fun y id ok h => (HB.out.take (by omega) (fun j _ => HFM.out _) h).more
                  have KR := hide_it kr
                  clear htk ho hwf kr s7 HO HBr HF HFM HFI s6 HB
                  go_wp2_with (go_at_call 18; refine kt.mono ?_; rintro e w8 ⟨y, id, ok, rfl, s8⟩; refine Hid.out ?_)
                  have kr2 := KR.out _ _ s8.out.2
                  clear kt
                  refine hide_it ?_
                  go_wp2_with (go_at_call 19; refine kr2.mono ?_; rintro e w9 ⟨y', id', ok', rfl, s9⟩; refine Hid.out ?_)
                  obtain ⟨ey, ei, eo⟩ := s8.out.1.uniq s9.out.1
                  subst ey ei eo
                  have e1 : (id == id) = true := by simp
                  have e2 : (ok == ok) = true := by simp
                  have HZ : Hid (MX w.heap.size w w9 [obA t y, obB r y] [(sb, .cells #[.int .i64 K, .int .i64 id0, .int .i64 wt0, .slice ao L.length ac] 30)] ∧ Gd 1024 (k + 1) y) := ⟨MX.forget (os := [obA t y, obB r y]) s9.out.2, HG.out _ _ _ s8.out.1⟩
                  clear kr2 KR HG s8 s9
                  refine hide_it ?_
                  go_wp2_with fail
                  go_meet
                  exact ⟨rfl, y, HZ.out⟩
        · as_aux_lemma =>
            have k0 : (K == 0) = false := by simpa using n0
            have k1 : (K == 1) = false := by simpa using n1
            have k2 : (K == 2) = false := by simpa using n2
            have k3 : (K == 3) = false := by simpa using n3
            have k4 : (K == 4) = false := by simpa using n4
            have k5 : (K == 5) = false := by simpa using n5
            clear n0 n1 n2 n3 n4 n5
            go_wp2
            all_goals
              go_meet
              exact ⟨rfl, x, sB.out, HB.out.more⟩
      case rest =>
        obtain ⟨hs10, HY⟩ := hcut
        subst hs10
        obtain ⟨y, sy, gy⟩ := HY.out
        have G := hide_it gy
        have S0 := hide_it sy
        have hyn := gy.len
        clear HB sB HIB HWS2 HWL HID HWB g0 g1 g2 g5 HY sy gy
        obtain ⟨g1, g2⟩ := HCELL.out _ _ S0.out
        have kc := S0.out.credit 0 rfl (by omega) id0
        have kf : ∀ W, MX w.heap.size w W [obA t y, obB r y] [(sb, .cells #[.int .i64 K, .int .i64 id0, .int .i64 wt0, .slice ao L.length ac] 30)] → Calls Try.prog 21 #[ptr r, .int .i64 id0] W fun e w' => e = .returned (.int .i64 (plc y id0)) ∧ Hid (MX w.heap.size w w' [obA t y, obB r y] [(sb, .cells #[.int .i64 K, .int .i64 id0, .int .i64 wt0, .slice ao L.length ac] 30)]) := fun W h => h.rfind 1 rfl (by omega) id0
        have kt : ∀ W, MX w.heap.size w W [obA t y, obB r y] [(sb, .cells #[.int .i64 K, .int .i64 id0, .int .i64 wt0, .slice ao L.length ac] 30)] → Calls Try.prog 22 #[ptr t] W fun e w' => e = .returned (.tuple #[.int .i64 (tuI y), .bool (tuB y)]) ∧ Hid (MX w.heap.size w w' [obA t y, obB r y] [(sb, .cells #[.int .i64 K, .int .i64 id0, .int .i64 wt0, .slice ao L.length ac] 30)]) := fun W h => h.turn 0 rfl (by omega) G.out.iv.kn
        have kn : ∀ W, MX w.heap.size w W [obA t y, obB r y] [(sb, .cells #[.int .i64 K, .int .i64 id0, .int .i64 wt0, .slice ao L.length ac] 30)] → Calls Try.prog 23 #[ptr t] W fun e w' => e = .returned (.int .i64 y.n) ∧ w' = W := fun W h => h.lenS 0 rfl
        have HD : Hid (∀ W, MX w.heap.size w W [obA t y, obB r y] [(sb, .cells #[.int .i64 K, .int .i64 id0, .int .i64 wt0, .slice ao L.length ac] 30)] → ∃ z, MX w.heap.size w W [obA t z, obB r z] [] ∧ Gd 1024 (k + 1) z) := fun W h => ⟨y, h.drop (fun p hp => by simp at hp), G.out⟩
        have HRB : Hid (∀ W, MX w.heap.size w W [obA t y, obB r y] [(sb, .cells #[.int .i64 K, .int .i64 id0, .int .i64 wt0, .slice ao L.length ac] 30)] → ∃ ao cap, y.n ≤ cap ∧ cap ≤ maxLen ∧ W.cell? ⟨r, 1, none⟩ = some (.slice ao y.n cap) ∧ W.cell? ⟨r, 2, none⟩ = some (.int .i64 y.k) ∧ ∀ j, j < y.n → ∃ g, ao = some ⟨g, 0, none⟩ ∧ ∀ i, i < y.n → W.cell? ⟨g, i * 3, none⟩ = some (.int .i64 (y.I i)) ∧ W.cell? ⟨g, i * 3 + 2, none⟩ = some (.int .i64 (y.C i))) := fun W h => h.readB 1 rfl
        have KF := hide_it kf
        have KT := hide_it kt
        have KN := hide_it kn
        clear kf kt kn
        have HKT := hide_it (And.intro hlt (And.intro hk d2))
        by_cases hp : 0 ≤ plc y id0
        · as_aux_lemma =>
            obtain ⟨p, hpn, _, ep⟩ := plc_lt hp
            obtain ⟨ec1, ec2⟩ := cr_yes ep
            have hkn := G.out.iv.kn (by omega)
            obtain ⟨et1, et2⟩ := tu_yes (x := y) (by omega)
            rw [ec1, ec2] at kc
            rw [ep] at KF
            rw [et1, et2] at KT
            have HPN := hide_it (And.intro hpn hkn)
            clear hp ep ec1 ec2 et1 et2 G hpn hkn
            go_wp2_with (go_at_call 20; refine kc.mono ?_; rintro e w10 ⟨rfl, s10⟩; obtain ⟨g1', g2'⟩ := HCELL.out _ _ s10.out; refine Hid.out ?_)
            clear g1 g2 kc S0
            have kf := KF.out _ s10.out
            refine hide_it ?_
            go_wp2_with (go_at_call 21; refine kf.mono ?_; rintro e w11 ⟨rfl, s11⟩; refine Hid.out ?_)
            clear g1' g2' kf s10
            have kt := KT.out _ s11.out
            refine hide_it ?_
            go_wp2_with (go_at_call 22; refine kt.mono ?_; rintro e w12 ⟨rfl, s12⟩; refine Hid.out ?_)
            clear kt s11
            have kn := fun j => KN.out (w12.drewN j) (s12.out.below ⟨rfl, rfl, rfl, Nat.le_refl _, fun _ _ => rfl⟩)
            have HE : Hid (∀ j, ∃ z, MX w.heap.size w (w12.drewN j) [obA t z, obB r z] [] ∧ Gd 1024 (k + 1) z) := fun j => HD.out _ (s12.out.below ⟨rfl, rfl, rfl, Nat.le_refl _, fun _ _ => rfl⟩)
            obtain ⟨ro, rc, r1, r2, b1, b2, hg⟩ := HRB.out _ s12.out
            obtain ⟨hpn, hkn⟩ := HPN.out
            obtain ⟨g, rfl, hm⟩ := hg p hpn
            obtain ⟨-, m1⟩ := hm p hpn
            obtain ⟨m2, -⟩ := hm _ hkn
            clear hm hg KF KT KN HRB HPN HCELL
            generalize y.C p = C at *
            generalize y.I y.k = I0 at *
            generalize y.k = kk at *
            obtain ⟨n, hn⟩ : ∃ n, y.n = n := ⟨_, rfl⟩
            simp only [hn] at kn
            rw [hn] at r1 b1 hpn hkn
            clear hn
            unfold maxLen at r2
            have x1 : ((n : Int) != (n : Int)) = false := by simp
            have x2 : (C != C) = false := by simp
            have x3 : (I0 != I0) = false := by simp
            have x4 : decide ((0 : Int) ≤ (p : Int)) = true := by simp
            have x5 : decide ((0 : Int) < (n : Int)) = true := by simp; omega
            have x6 : decide (0 < n) = true := by simp; omega
            clear s12 HD hT hk hlt d1 d2 d2a d2b hkl hyn
            refine hide_it ?_
            go_upto_region 32 with fail
            simp only [List.append_eq, List.cons_append, List.nil_append]
            go_big_quiet ((go_at_call 23; exact Calls.quiet_of_same (kn _)))
            clear kn
            obtain ⟨hlt, hk, d2⟩ := HKT.out
            go_wp2
            go_roundw
            case rel => exact ⟨k + 1, by omega, by go_num, HE.out _⟩
            case measure => simp [intOf]; omega
        · by_cases hn0 : y.n = 0
          · as_aux_lemma =>
              obtain ⟨ec1, ec2⟩ := cr_no hp
              obtain ⟨et1, et2⟩ := tu_no hn0
              obtain ⟨pz, epz⟩ : ∃ pz, plc y id0 = pz := ⟨_, rfl⟩
              rw [ec1, ec2] at kc
              rw [epz] at KF hp
              rw [et1, et2] at KT
              have x4 : decide ((0 : Int) ≤ pz) = false := decide_eq_false hp
              have HN0 := hide_it hn0
              clear hp epz ec1 ec2 et1 et2 G hn0
              go_wp2_with (go_at_call 20; refine kc.mono ?_; rintro e w10 ⟨rfl, s10⟩; obtain ⟨g1', g2'⟩ := HCELL.out _ _ s10.out; refine Hid.out ?_)
              clear g1 g2 kc S0
              have kf := KF.out _ s10.out
              refine hide_it ?_
              go_wp2_with (go_at_call 21; refine kf.mono ?_; rintro e w11 ⟨rfl, s11⟩; refine Hid.out ?_)
              clear g1' g2' kf s10
              have kt := KT.out _ s11.out
              refine hide_it ?_
              go_wp2_with (go_at_call 22; refine kt.mono ?_; rintro e w12 ⟨rfl, s12⟩; refine Hid.out ?_)
              clear kt s11
              have kn := fun j => KN.out (w12.drewN j) (s12.out.below ⟨rfl, rfl, rfl, Nat.le_refl _, fun _ _ => rfl⟩)
              have HE : Hid (∀ j, ∃ z, MX w.heap.size w (w12.drewN j) [obA t z, obB r z] [] ∧ Gd 1024 (k + 1) z) := fun j => HD.out _ (s12.out.below ⟨rfl, rfl, rfl, Nat.le_refl _, fun _ _ => rfl⟩)
              obtain ⟨ro, rc, r1, r2, b1, b2, hg⟩ := HRB.out _ s12.out
              simp only [HN0.out] at kn
              rw [HN0.out] at r1 b1
              clear hg KF KT KN HRB HCELL HN0
              generalize y.k = kk at *
              unfold maxLen at r2
              clear s12 HD hT hk hlt d1 d2 d2a d2b hkl hyn
              refine hide_it ?_
              go_upto_region 32 with fail
              simp only [List.append_eq, List.cons_append, List.nil_append]
              go_big_quiet ((go_at_call 23; exact Calls.quiet_of_same (kn _)))
              clear kn
              obtain ⟨hlt, hk, d2⟩ := HKT.out
              go_wp2
              go_roundw
              case rel => exact ⟨k + 1, by omega, by go_num, HE.out _⟩
              case measure => simp [intOf]; omega
          · as_aux_lemma =>
              obtain ⟨ec1, ec2⟩ := cr_no hp
              have hkn := G.out.iv.kn (by omega)
              obtain ⟨et1, et2⟩ := tu_yes (x := y) (by omega)
              obtain ⟨pz, epz⟩ : ∃ pz, plc y id0 = pz := ⟨_, rfl⟩
              rw [ec1, ec2] at kc
              rw [epz] at KF hp
              rw [et1, et2] at KT
              have x4 : decide ((0 : Int) ≤ pz) = false := decide_eq_false hp
              have HPN := hide_it hkn
              clear hp epz ec1 ec2 et1 et2 G hkn hn0
              go_wp2_with (go_at_call 20; refine kc.mono ?_; rintro e w10 ⟨rfl, s10⟩; obtain ⟨g1', g2'⟩ := HCELL.out _ _ s10.out; refine Hid.out ?_)
              clear g1 g2 kc S0
              have kf := KF.out _ s10.out
              refine hide_it ?_
              go_wp2_with (go_at_call 21; refine kf.mono ?_; rintro e w11 ⟨rfl, s11⟩; refine Hid.out ?_)
              clear g1' g2' kf s10
              have kt := KT.out _ s11.out
              refine hide_it ?_
              go_wp2_with (go_at_call 22; refine kt.mono ?_; rintro e w12 ⟨rfl, s12⟩; refine Hid.out ?_)
              clear kt s11
              have kn := fun j => KN.out (w12.drewN j) (s12.out.below ⟨rfl, rfl, rfl, Nat.le_refl _, fun _ _ => rfl⟩)
              have HE : Hid (∀ j, ∃ z, MX w.heap.size w (w12.drewN j) [obA t z, obB r z] [] ∧ Gd 1024 (k + 1) z) := fun j => HD.out _ (s12.out.below ⟨rfl, rfl, rfl, Nat.le_refl _, fun _ _ => rfl⟩)
              obtain ⟨ro, rc, r1, r2, b1, b2, hg⟩ := HRB.out _ s12.out
              have hkn := HPN.out
              obtain ⟨g, rfl, hm⟩ := hg _ hkn
              obtain ⟨m2, -⟩ := hm _ hkn
              clear hm hg KF KT KN HRB HPN HCELL
              generalize y.I y.k = I0 at *
              generalize y.k = kk at *
              obtain ⟨n, hn⟩ : ∃ n, y.n = n := ⟨_, rfl⟩
              simp only [hn] at kn
              rw [hn] at r1 b1 hkn
              clear hn
              unfold maxLen at r2
              have x1 : ((n : Int) != (n : Int)) = false := by simp
              have x3 : (I0 != I0) = false := by simp
              have x5 : decide ((0 : Int) < (n : Int)) = true := by simp; omega
              have x6 : decide (0 < n) = true := by simp; omega
              clear s12 HD hT hk hlt d1 d2 d2a d2b hkl hyn
              refine hide_it ?_
              go_upto_region 32 with fail
              simp only [List.append_eq, List.cons_append, List.nil_append]
              go_big_quiet ((go_at_call 23; exact Calls.quiet_of_same (kn _)))
              clear kn
              obtain ⟨hlt, hk, d2⟩ := HKT.out
              go_wp2
              go_roundw
              case rel => exact ⟨k + 1, by omega, by go_num, HE.out _⟩
              case measure => simp [intOf]; omega
    · have HZ : Hid (Below w.heap.size w wr) := by
        obtain ⟨x, hx, _⟩ := HX.out
        exact hx.bel
      clear HX
      by_cases d1 : k < m
      · have d2 : decide (k < 150) = false := by simp; omega
        have d3 : decide ((k : Int) < 150) = false := by simp; omega
        clear hT hlt hk
        go_wp2
        go_ret
        exact ⟨rfl, HZ.out⟩
      · have d2 : decide (k < m) = false := by simp; omega
        have d3 : decide ((k : Int) < (m : Int)) = false := by simp; omega
        clear hT hlt d1 hk
        go_wp2
        go_ret
        exact ⟨rfl, HZ.out⟩
end Go.Proofs.Ytlhkahincnchjaa
