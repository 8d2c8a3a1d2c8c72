/- GraphTells, walked: both are right. -/
import Derived.Test.YtcbgjdlkihepcaaDoorTlB
import Derived.Deep.DeepCutAuto
import Derived.Deep.CutBlock
import Derived.Deep.RegionHeld3
namespace Go.Proofs.YtcbgjdlkihepcaaDoor
open Go.RowKit
open M
set_option linter.unusedVariables false
set_option linter.unusedSimpArgs false

set_option maxRecDepth 1000000 in
set_option maxHeartbeats 8000000 in
theorem tells_I (n a b : Int) (ls : List (Int × Int)) (la : Option Addr) (lc : Nat) (w : World) (hT : Tab w) (h0 : 0 < w.heap.size) (hl : LIn w la ls) (hm : ls.length ≤ maxLen) (hbo : offB (sz n) b = false) :
    Calls Tryd.prog 3 #[.int .i64 n, .slice la ls.length lc, .int .i64 a, .int .i64 b] w fun e w' => e = .returned (.bool true) ∧ Below w.heap.size w w' := by
  unfold maxLen at hm
  have kS := shown_b hT h0 (Below.refl _ w)
  have hN := sz_le n
  have kN1 : ∀ w1 : World, Below w.heap.size w w1 → Calls Tryd.prog 11 #[.int .i64 n] w1 fun e w' => e = .returned (ptr (w1.heap.size + 1)) ∧ Hid (Below w.heap.size w w' ∧ GM w' (w1.heap.size + 1) w1.heap.size (sz n) (.slice none 0 0) []) := fun w1 hb => by
    refine (new_any n w1).mono ?_
    rintro e w' ⟨rfl, h1, h2⟩
    exact ⟨rfl, hb.trans (h2.mono hb.size), h1⟩
  have kN2 : ∀ w1 w2 : World, w.heap.size ≤ w1.heap.size → Below w.heap.size w w2 → GM w2 (w1.heap.size + 1) w1.heap.size (sz n) (.slice none 0 0) [] → Calls Tryd.prog 12 #[.int .i64 n] w2 fun e w' => e = .returned (ptr w2.heap.size) ∧ Hid (TX w.heap.size w w' (w1.heap.size + 1) w1.heap.size (sz n) [] w2.heap.size []) := fun w1 w2 hw1 hb hg => by
    refine (rnew_any n w2).mono ?_
    rintro e w' ⟨rfl, h1, h2⟩
    have h3 := hb.trans (h2.mono hb.size)
    have hgs := hg.lt (w1.heap.size + 1) (.inl rfl)
    refine ⟨rfl, _, _, h3, hg.below h2, h1, ?_, ?_, ?_, tab_below hT h0 h3, h0, h3.size⟩
    · rintro k (rfl | rfl | hk)
      · omega
      · exact hw1
      · simp [Value.ownBlock] at hk
    · have := hb.size
      rintro k (rfl | hk)
      · omega
      · simp [Value.ownBlock] at hk
    · rintro k (rfl | rfl | hk) (h | h)
      · omega
      · simp [Value.ownBlock] at h
      · omega
      · simp [Value.ownBlock] at h
      · simp [Value.ownBlock] at hk
      · simp [Value.ownBlock] at hk
  generalize sz n = N at *
  have HL := hide_it hl
  obtain ⟨m, hmm⟩ : ∃ m, ls.length = m := ⟨_, rfl⟩
  have HM := hide_it hmm
  rw [hmm] at hm ⊢
  clear hl hmm hT
  go_enter Tryd.func3, Tryd.ntmps3
  go_upto_block 0 with (first | (go_at_call 10; refine kS.mono ?_; rintro e w1 ⟨rfl, hb1⟩) | (go_at_call 11; refine (kN1 _ hb1.out).mono ?_; rintro e w2 ⟨rfl, s⟩) | (go_at_call 12; refine (kN2 w1 w2 hb1.out.size s.out.1 s.out.2).mono ?_; rintro e w3 ⟨rfl, t⟩))
  obtain ⟨g, hg⟩ : ∃ g, w1.heap.size + 1 = g := ⟨_, rfl⟩
  rw [hg] at t
  simp only [hg]
  generalize w1.heap.size = eb at *
  generalize w2.heap.size = r at *
  clear s kN1 kN2 kS hb1 hg
  go_cut [] (fun wx => Hid (∃ es : List E, es.length ≤ 200 ∧ TX w.heap.size w wx g eb N es r es))
  case first =>
    go_wp2
    go_loopw [12] (fun i W => ∃ (k : Nat) (es : List E), k ≤ m ∧ k ≤ 200 ∧ es.length ≤ k ∧ i = .int .i64 k ∧ Hid (TX w.heap.size w W g eb N es r es)) (fun i _ => m - (intOf i).toNat)
    case atStart => exact ⟨0, [], Nat.zero_le _, by omega, by simp, rfl, t⟩
    case round =>
      obtain ⟨k, es, hk, hk2, hel, rfl, t⟩ := hrel
      obtain ⟨w5, rfl⟩ : ∃ W, W = wr := ⟨_, rfl⟩
      by_cases hlt : k < m
      · by_cases hlt2 : k < 200
        · have hlx : k < ls.length := by rw [HM.out]; exact hlt
          obtain ⟨lb, lo, rfl, hlb, d1, d2⟩ := HL.out k hlx
          have hcc : Hid (∀ W, Below w.heap.size w W → W.cell? ⟨lb, lo + k * 2, none⟩ = some (.int .i64 ls[k].1) ∧ W.cell? ⟨lb, lo + k * 2 + 1, none⟩ = some (.int .i64 ls[k].2)) := fun W hb => ⟨by rw [hb.cell (p := ⟨lb, _, none⟩) hlb]; exact d1, by rw [hb.cell (p := ⟨lb, _, none⟩) hlb]; exact d2⟩
          clear d1 d2
          generalize ls[k] = pq at *
          obtain ⟨p, q⟩ := pq
          simp only at hcc
          have hl2 := addE_len N es p q
          have hle : es.length ≤ 1000000 := by omega
          obtain ⟨R, hR⟩ : ∃ R, newB N es p q = R := ⟨_, rfl⟩
          obtain ⟨E, hE⟩ : ∃ E, errN N p q = E := ⟨_, rfl⟩
          obtain ⟨es2, hes2⟩ : ∃ es2, addE N es p q = es2 := ⟨_, rfl⟩
          have ka : ∀ j, Calls Tryd.prog 13 #[ptr g, .int .i64 p, .int .i64 q] (w5.drewN j) fun e w' => e = .returned (.tuple #[.bool R, .int .i64 E]) ∧ Hid (TX w.heap.size w w' g eb N es2 r es ∧ Below w.heap.size (w5.drewN j) w') := fun j => TX.gadd (t.out.step (below_drewN (Below.refl _ _) j)) hle p q R E es2 hR hE hes2
          have kb : ∀ W, TX w.heap.size w W g eb N es2 r es → Calls Tryd.prog 14 #[ptr r, .int .i64 p, .int .i64 q] W fun e w' => e = .returned (.tuple #[.bool R, .int .i64 E]) ∧ Hid (TX w.heap.size w w' g eb N es2 r es2 ∧ Below w.heap.size W w') := fun W hW => TX.radd hW hle p q R E es2 hR hE hes2
          have kl : ∀ W, TX w.heap.size w W g eb N es2 r es2 → Calls Tryd.prog 15 #[ptr g] W fun e w' => e = .returned (.int .i64 es2.length) ∧ w' = W := fun W hW => hW.len
          rw [hes2] at hl2
          obtain ⟨c1, c2⟩ := hcc.out _ t.out.bel
          have hEE : (E != E) = false := by simp
          clear hR hE hes2 t
          go_wp2
          first | (go_region_held3 (fun W => W.cell? ⟨lb, lo + k * 2, none⟩ = some (.int .i64 p) ∧ W.cell? ⟨lb, lo + k * 2 + 1, none⟩ = some (.int .i64 q)) (first | go_keep | exact hcc.out _ s6.out.1.bel) ((go_at_call 13; refine (ka 1).mono ?_; rintro e w6 ⟨rfl, s6⟩))) | fail
          go_wp2
          obtain ⟨c3, c4⟩ := hcc.out _ s6.out.1.bel
          have kb' := kb (w6.drewN 1) (s6.out.1.step (below_drewN (Below.refl _ _) 1))
          clear c1 c2 ka kb
          first | (go_region_held3 (fun W => W.cell? ⟨lb, lo + k * 2, none⟩ = some (.int .i64 p) ∧ W.cell? ⟨lb, lo + k * 2 + 1, none⟩ = some (.int .i64 q)) (first | go_keep | exact hcc.out _ s7.out.1.bel) ((go_at_call 14; refine kb'.mono ?_; rintro e w7 ⟨rfl, s7⟩))) | fail
          obtain ⟨ar, cr, c5⟩ := s7.out.1.rl
          have kl' := fun j => kl (w7.drewN j) (s7.out.1.step (below_drewN (Below.refl _ _) j))
          have hLL : (((es2.length : Nat) : Int) != ((es2.length : Nat) : Int)) = false := by simp
          obtain ⟨len, hlen⟩ : ∃ len, es2.length = len := ⟨_, rfl⟩
          have HL2 := hide_it hlen
          rw [hlen] at hLL c5 hl2
          simp only [hlen] at kl'
          clear c3 c4 kb' kl hlen
          cases R
          all_goals
            go_wp2
            go_big_quiet ((go_at_call 15; exact Calls.quiet_of_same (kl' _)))
            go_wp2
            go_roundw
            case rel => exact ⟨k + 1, es2, by omega, by omega, by rw [HL2.out]; omega, by go_num, s7.out.1.step (below_drewN (Below.refl _ _) _)⟩
            case measure => simp [intOf]; omega
        · have h2 : decide ((k : Int) < 200) = false := by simp; omega
          have h3 : decide (k < 200) = false := by simp; omega
          go_wp2
          go_meet
          exact ⟨es, by omega, t.out⟩
      · have h2 : decide ((k : Int) < m) = false := by simp; omega
        have h3 : decide (k < m) = false := by simp; omega
        go_wp2
        go_meet
        exact ⟨es, by omega, t.out⟩
  case rest =>
    obtain ⟨es, hel, t0⟩ := hcut.out
    have t := hide_it t0
    clear t0 hcut
    have hle : es.length ≤ 1000000 := by omega
    obtain ⟨L1, hL1⟩ : ∃ L, outs es a = L := ⟨_, rfl⟩
    obtain ⟨L2, hL2⟩ : ∃ L, ins es a = L := ⟨_, rfl⟩
    obtain ⟨L3, hL3⟩ : ∃ L, reachL N es a = L := ⟨_, rfl⟩
    have l1 : L1.length ≤ 1000000 := by rw [← hL1]; have := outs_len es a; omega
    have l2 : L2.length ≤ 1000000 := by rw [← hL2]; have := ins_len es a; omega
    have l3 : L3.length ≤ 1000000 := by rw [← hL3]; unfold reachL; split; simp; have := rise_len (rset es a.toNat); omega
    obtain ⟨RH, hRH⟩ : ∃ R, hasB N es a b = R := ⟨_, rfl⟩
    obtain ⟨RR, hRR⟩ : ∃ R, reachB N es a b = R := ⟨_, rfl⟩
    have hgood : ∀ e ∈ es, e.1 < N ∧ e.2 < N := by obtain ⟨v, v2, h⟩ := t.out; exact h.gm.good
    have hRH2 : hasR es a b = RH := by rw [hasR_eq hgood, hRH]
    have kn : ∀ W, TX w.heap.size w W g eb N es r es → Calls Tryd.prog 16 #[ptr g] W fun e w' => e = .returned (.int .i64 N) ∧ w' = W := fun W h => h.num
    have kH : ∀ W, TX w.heap.size w W g eb N es r es → Calls Tryd.prog 17 #[ptr g, .int .i64 a, .int .i64 b] W fun e w' => e = .returned (.bool RH) ∧ Hid (TX w.heap.size w w' g eb N es r es) := fun W h => h.has a b RH hRH
    have kh : ∀ W, TX w.heap.size w W g eb N es r es → Calls Tryd.prog 18 #[ptr r, .int .i64 a, .int .i64 b] W fun e w' => e = .returned (.bool RH) ∧ w' = W := fun W h => h.rhas hle a b RH hRH2
    have kO : ∀ W, TX w.heap.size w W g eb N es r es → Calls Tryd.prog 20 #[ptr g, .int .i64 a] W fun e w' => ∃ u, e = .returned u ∧ Hid (TX w.heap.size w w' g eb N es r es ∧ IAt w' u L1) := fun W h => by
      have h' := h
      obtain ⟨v, v2, h⟩ := h
      have := out_any h.gm a hle
      rw [hL1] at this
      exact h'.row1 this
    have ko : ∀ W x, TX w.heap.size w W g eb N es r es → IAt W x L1 → Calls Tryd.prog 21 #[ptr r, .int .i64 a] W fun e w' => ∃ u, e = .returned u ∧ Hid (TX w.heap.size w w' g eb N es r es ∧ IAt w' x L1 ∧ IAt w' u L1) := fun W x h hx => by
      have h' := h
      obtain ⟨v, v2, h⟩ := h
      have := rout_any h.rm a hle
      rw [hL1] at this
      exact h'.row2 hx this
    have kI : ∀ W, TX w.heap.size w W g eb N es r es → Calls Tryd.prog 22 #[ptr g, .int .i64 a] W fun e w' => ∃ u, e = .returned u ∧ Hid (TX w.heap.size w w' g eb N es r es ∧ IAt w' u L2) := fun W h => by
      have h' := h
      obtain ⟨v, v2, h⟩ := h
      have := in_any h.gm a hle
      rw [hL2] at this
      exact h'.row1 this
    have ki : ∀ W x, TX w.heap.size w W g eb N es r es → IAt W x L2 → Calls Tryd.prog 23 #[ptr r, .int .i64 a] W fun e w' => ∃ u, e = .returned u ∧ Hid (TX w.heap.size w w' g eb N es r es ∧ IAt w' x L2 ∧ IAt w' u L2) := fun W x h hx => by
      have h' := h
      obtain ⟨v, v2, h⟩ := h
      have := rin_any h.rm a hle
      rw [hL2] at this
      exact h'.row2 hx this
    have kR : ∀ W, TX w.heap.size w W g eb N es r es → Calls Tryd.prog 24 #[ptr g, .int .i64 a] W fun e w' => ∃ u, e = .returned u ∧ Hid (TX w.heap.size w w' g eb N es r es ∧ IAt w' u L3) := fun W h => by
      have h' := h
      obtain ⟨v, v2, h⟩ := h
      have := reach_any h.gm h.tab (Nat.lt_of_lt_of_le h.pos h.le) a
      rw [hL3] at this
      exact h'.row1 this
    have kr : ∀ W x, TX w.heap.size w W g eb N es r es → IAt W x L3 → Calls Tryd.prog 25 #[ptr r, .int .i64 a] W fun e w' => ∃ u, e = .returned u ∧ Hid (TX w.heap.size w w' g eb N es r es ∧ IAt w' x L3 ∧ IAt w' u L3) := fun W x h hx => by
      have h' := h
      obtain ⟨v, v2, h⟩ := h
      have := rreach_any h.rm h.gm.hn a h.gm.good hle
      rw [hL3] at this
      exact h'.row2 hx this
    have kE : ∀ W x y L, L.length ≤ 1000000 → TX w.heap.size w W g eb N es r es ∧ IAt W x L ∧ IAt W y L → Calls Tryd.prog 19 #[x, y] W fun e w' => e = .returned (.bool true) ∧ Hid (TX w.heap.size w w' g eb N es r es) := fun W x y L hl h => h.1.eqs h.2.1 h.2.2 hl
    have kQ : ∀ W, TX w.heap.size w W g eb N es r es → Calls Tryd.prog 26 #[ptr g, .int .i64 a, .int .i64 b] W fun e w' => e = .returned (.bool RR) ∧ Hid (TX w.heap.size w w' g eb N es r es) := fun W h => h.reaches a b RR hRR
    have kq : offB N b = false → ∀ W, TX w.heap.size w W g eb N es r es → Calls Tryd.prog 27 #[ptr r, .int .i64 a, .int .i64 b] W fun e w' => e = .returned (.bool RR) ∧ Hid (TX w.heap.size w w' g eb N es r es) := fun hb W h => h.rreaches hle a b hb RR hRR
    have hoff : offB N b = true → RR = false := fun ho => by rw [← hRR]; exact Bool.eq_false_iff.2 (fun h => by have := ((reachB_iff _ _ _ _).1 h).2.1; rw [ho] at this; cases this)
    have hHH : (RH == RH) = true := by simp
    have hQQ : (RR == RR) = true := by simp
    have hNN : ((N : Int) == (N : Int)) = true := by simp
    clear hL1 hL2 hL3 hRH hRR hRH2 hgood hle
    have kq' := kq hbo
    have hb1 : 0 ≤ b ∧ b < N := by simp [offB] at hbo; omega
    obtain ⟨hb2, hb3⟩ := hb1
    have hb4 : decide (0 ≤ b) = true := by simpa using hb2
    have hb5 : decide (b < (N : Int)) = true := by simpa using hb3
    clear kq hoff hbo
    go_upto_region 13 with (go_at_call 16; fail)
    simp only [List.append]
    have t := hide_it (t.out.step ((Below.refl _ _).drew))
    have hS := t.out.rn
    first | (go_region_held3 (fun W => W.cell? ⟨r, 0, none⟩ = some (.int .i64 N)) (first | go_keep | exact hS) (first | (go_at_call 16; refine (kn _ t.out).mono ?_; rintro e wa ⟨rfl, rfl⟩) | (go_at_call 17; refine (kH _ t.out).mono ?_; rintro e wb ⟨rfl, t⟩; have hS := t.out.rn) | (go_at_call 18; refine (kh _ t.out).mono ?_; rintro e wc ⟨rfl, rfl⟩) | (go_at_call 20; refine (kO _ t.out).mono ?_; rintro e wd ⟨x, rfl, t1⟩; have hS := t1.out.1.rn) | (go_at_call 21; refine (ko _ _ t1.out.1 t1.out.2).mono ?_; rintro e we ⟨y, rfl, t2⟩; have hS := t2.out.1.rn) | (go_at_call 22; refine (kI _ t.out).mono ?_; rintro e wf ⟨x, rfl, t1⟩; have hS := t1.out.1.rn) | (go_at_call 23; refine (ki _ _ t1.out.1 t1.out.2).mono ?_; rintro e wg ⟨y, rfl, t2⟩; have hS := t2.out.1.rn) | (go_at_call 24; refine (kR _ t.out).mono ?_; rintro e wh ⟨x, rfl, t1⟩; have hS := t1.out.1.rn) | (go_at_call 25; refine (kr _ _ t1.out.1 t1.out.2).mono ?_; rintro e wi ⟨y, rfl, t2⟩; have hS := t2.out.1.rn) | (go_at_call 19; refine (kE _ _ _ _ (by first | exact l1 | exact l2 | exact l3) t2.out).mono ?_; rintro e wj ⟨rfl, t⟩; have hS := t.out.rn) | (go_at_call 26; refine (kQ _ t.out).mono ?_; rintro e wk ⟨rfl, t⟩; have hS := t.out.rn) | (go_at_call 27; refine (kq' _ t.out).mono ?_; rintro e wl ⟨rfl, t⟩; have hS := t.out.rn))) | fail
    go_wp2
    go_ret
    exact ⟨rfl, t.out.bel⟩
end Go.Proofs.YtcbgjdlkihepcaaDoor
