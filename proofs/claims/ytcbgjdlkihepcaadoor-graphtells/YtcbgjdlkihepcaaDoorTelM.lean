/- GraphTells, walked: of a task below 0. -/
import Derived.Test.YtcbgjdlkihepcaaDoorTlB
import Derived.Deep.DeepCutAuto
import Derived.Deep.CutBlock
import Derived.Deep.RegionHeld3
namespace Go.Proofs.YtcbgjdlkihepcaaDoor
open Go.RowKit
open M
set_option linter.unusedVariables false
set_option linter.unusedSimpArgs false

theorem takeD {P : Program} {ops : Array Oper} {Q : Exit → Act → World → Prop} {md : Region.Mode} {S : World → Prop} {i : Nat} {oi : Oper} {v : Value} {fuel : Nat} {listed : Array Bool} {a : Act} {w : World} (d : Nat) (hi : ops[i]? = some oi) (hd : oi.dst = some d)
    (hs : Region.noSelect ops = true) (hf : Region.free md ops listed i = true) (hr : (Region.ready md ops listed).contains i = true)
    (hQ : ∀ c a w, Q (.panic c) (a.put oi.dst v) w → Q (.panic c) a w) (hy : YieldsIf P ops S oi v a) (hS : S w)
    (h : wpAnyH P md ops Q S fuel (listed.setIfInBounds i true) (a.put (some d) v) w) : wpAnyH P md ops Q S (fuel + 1) listed a w := by
  rw [← hd] at h
  exact wpAnyH_take hi hs hf hr hQ hy hS h

set_option maxRecDepth 1000000 in
set_option maxHeartbeats 8000000 in
theorem tells_N (n a b : Int) (ls : List (Int × Int)) (la : Option Addr) (lc : Nat) (w : World) (hT : Tab w) (h0 : 0 < w.heap.size) (hl : LIn w la ls) (hm : ls.length ≤ maxLen) (hneg : b < 0) (hbo : offB (sz n) b = true) :
    Calls Tryd.prog 3 #[.int .i64 n, .slice la ls.length lc, .int .i64 a, .int .i64 b] w fun e w' => e = .returned (.bool true) ∧ Below w.heap.size w w' := by
  unfold maxLen at hm
  have kS := shown_b hT h0 (Below.refl _ w)
  have hN := sz_le n
  have kN1 : ∀ w1 : World, Below w.heap.size w w1 → Calls Tryd.prog 11 #[.int .i64 n] w1 fun e w' => e = .returned (ptr (w1.heap.size + 1)) ∧ Hid (Below w.heap.size w w' ∧ GM w' (w1.heap.size + 1) w1.heap.size (sz n) (.slice none 0 0) []) := fun w1 hb => by
    refine (new_any n w1).mono ?_
    rintro e w' ⟨rfl, h1, h2⟩
    exact ⟨rfl, hb.trans (h2.mono hb.size), h1⟩
  have kN2 : ∀ w1 w2 : World, w.heap.size ≤ w1.heap.size → Below w.heap.size w w2 → GM w2 (w1.heap.size + 1) w1.heap.size (sz n) (.slice none 0 0) [] → Calls Tryd.prog 12 #[.int .i64 n] w2 fun e w' => e = .returned (ptr w2.heap.size) ∧ Hid (TX w.heap.size w w' (w1.heap.size + 1) w1.heap.size (sz n) [] w2.heap.size []) := fun w1 w2 hw1 hb hg => by
    refine (rnew_any n w2).mono ?_
    rintro e w' ⟨rfl, h1, h2⟩
    have h3 := hb.trans (h2.mono hb.size)
    have hgs := hg.lt (w1.heap.size + 1) (.inl rfl)
    refine ⟨rfl, _, _, h3, hg.below h2, h1, ?_, ?_, ?_, tab_below hT h0 h3, h0, h3.size⟩
    · rintro k (rfl | rfl | hk)
      · omega
      · exact hw1
      · simp [Value.ownBlock] at hk
    · have := hb.size
      rintro k (rfl | hk)
      · omega
      · simp [Value.ownBlock] at hk
    · rintro k (rfl | rfl | hk) (h | h)
      · omega
      · simp [Value.ownBlock] at h
      · omega
      · simp [Value.ownBlock] at h
      · simp [Value.ownBlock] at hk
      · simp [Value.ownBlock] at hk
  generalize sz n = N at *
  have HL := hide_it hl
  obtain ⟨m, hmm⟩ : ∃ m, ls.length = m := ⟨_, rfl⟩
  have HM := hide_it hmm
  rw [hmm] at hm ⊢
  clear hl hmm hT
  go_enter Tryd.func3, Tryd.ntmps3
  go_upto_block 0 with (first | (go_at_call 10; refine kS.mono ?_; rintro e w1 ⟨rfl, hb1⟩) | (go_at_call 11; refine (kN1 _ hb1.out).mono ?_; rintro e w2 ⟨rfl, s⟩) | (go_at_call 12; refine (kN2 w1 w2 hb1.out.size s.out.1 s.out.2).mono ?_; rintro e w3 ⟨rfl, t⟩))
  obtain ⟨g, hg⟩ : ∃ g, w1.heap.size + 1 = g := ⟨_, rfl⟩
  rw [hg] at t
  simp only [hg]
  generalize w1.heap.size = eb at *
  generalize w2.heap.size = r at *
  clear s kN1 kN2 kS hb1 hg
  go_cut [] (fun wx => Hid (∃ es : List E, es.length ≤ 200 ∧ TX w.heap.size w wx g eb N es r es))
  case first =>
    go_wp2
    go_loopw [12] (fun i W => ∃ (k : Nat) (es : List E), k ≤ m ∧ k ≤ 200 ∧ es.length ≤ k ∧ i = .int .i64 k ∧ Hid (TX w.heap.size w W g eb N es r es)) (fun i _ => m - (intOf i).toNat)
    case atStart => exact ⟨0, [], Nat.zero_le _, by omega, by simp, rfl, t⟩
    case round =>
      obtain ⟨k, es, hk, hk2, hel, rfl, t⟩ := hrel
      obtain ⟨w5, rfl⟩ : ∃ W, W = wr := ⟨_, rfl⟩
      by_cases hlt : k < m
      · by_cases hlt2 : k < 200
        · have hlx : k < ls.length := by rw [HM.out]; exact hlt
          obtain ⟨lb, lo, rfl, hlb, d1, d2⟩ := HL.out k hlx
          have hcc : Hid (∀ W, Below w.heap.size w W → W.cell? ⟨lb, lo + k * 2, none⟩ = some (.int .i64 ls[k].1) ∧ W.cell? ⟨lb, lo + k * 2 + 1, none⟩ = some (.int .i64 ls[k].2)) := fun W hb => ⟨by rw [hb.cell (p := ⟨lb, _, none⟩) hlb]; exact d1, by rw [hb.cell (p := ⟨lb, _, none⟩) hlb]; exact d2⟩
          clear d1 d2
          generalize ls[k] = pq at *
          obtain ⟨p, q⟩ := pq
          simp only at hcc
          have hl2 := addE_len N es p q
          have hle : es.length ≤ 1000000 := by omega
          obtain ⟨R, hR⟩ : ∃ R, newB N es p q = R := ⟨_, rfl⟩
          obtain ⟨E, hE⟩ : ∃ E, errN N p q = E := ⟨_, rfl⟩
          obtain ⟨es2, hes2⟩ : ∃ es2, addE N es p q = es2 := ⟨_, rfl⟩
          have ka : ∀ j, Calls Tryd.prog 13 #[ptr g, .int .i64 p, .int .i64 q] (w5.drewN j) fun e w' => e = .returned (.tuple #[.bool R, .int .i64 E]) ∧ Hid (TX w.heap.size w w' g eb N es2 r es ∧ Below w.heap.size (w5.drewN j) w') := fun j => TX.gadd (t.out.step (below_drewN (Below.refl _ _) j)) hle p q R E es2 hR hE hes2
          have kb : ∀ W, TX w.heap.size w W g eb N es2 r es → Calls Tryd.prog 14 #[ptr r, .int .i64 p, .int .i64 q] W fun e w' => e = .returned (.tuple #[.bool R, .int .i64 E]) ∧ Hid (TX w.heap.size w w' g eb N es2 r es2 ∧ Below w.heap.size W w') := fun W hW => TX.radd hW hle p q R E es2 hR hE hes2
          have kl : ∀ W, TX w.heap.size w W g eb N es2 r es2 → Calls Tryd.prog 15 #[ptr g] W fun e w' => e = .returned (.int .i64 es2.length) ∧ w' = W := fun W hW => hW.len
          rw [hes2] at hl2
          obtain ⟨c1, c2⟩ := hcc.out _ t.out.bel
          have hEE : (E != E) = false := by simp
          clear hR hE hes2 t
          go_wp2
          first | (go_region_held3 (fun W => W.cell? ⟨lb, lo + k * 2, none⟩ = some (.int .i64 p) ∧ W.cell? ⟨lb, lo + k * 2 + 1, none⟩ = some (.int .i64 q)) (first | go_keep | exact hcc.out _ s6.out.1.bel) ((go_at_call 13; refine (ka 1).mono ?_; rintro e w6 ⟨rfl, s6⟩))) | fail
          go_wp2
          obtain ⟨c3, c4⟩ := hcc.out _ s6.out.1.bel
          have kb' := kb (w6.drewN 1) (s6.out.1.step (below_drewN (Below.refl _ _) 1))
          clear c1 c2 ka kb
          first | (go_region_held3 (fun W => W.cell? ⟨lb, lo + k * 2, none⟩ = some (.int .i64 p) ∧ W.cell? ⟨lb, lo + k * 2 + 1, none⟩ = some (.int .i64 q)) (first | go_keep | exact hcc.out _ s7.out.1.bel) ((go_at_call 14; refine kb'.mono ?_; rintro e w7 ⟨rfl, s7⟩))) | fail
          obtain ⟨ar, cr, c5⟩ := s7.out.1.rl
          have kl' := fun j => kl (w7.drewN j) (s7.out.1.step (below_drewN (Below.refl _ _) j))
          have hLL : (((es2.length : Nat) : Int) != ((es2.length : Nat) : Int)) = false := by simp
          obtain ⟨len, hlen⟩ : ∃ len, es2.length = len := ⟨_, rfl⟩
          have HL2 := hide_it hlen
          rw [hlen] at hLL c5 hl2
          simp only [hlen] at kl'
          clear c3 c4 kb' kl hlen
          cases R
          all_goals
            go_wp2
            go_big_quiet ((go_at_call 15; exact Calls.quiet_of_same (kl' _)))
            go_wp2
            go_roundw
            case rel => exact ⟨k + 1, es2, by omega, by omega, by rw [HL2.out]; omega, by go_num, s7.out.1.step (below_drewN (Below.refl _ _) _)⟩
            case measure => simp [intOf]; omega
        · have h2 : decide ((k : Int) < 200) = false := by simp; omega
          have h3 : decide (k < 200) = false := by simp; omega
          go_wp2
          go_meet
          exact ⟨es, by omega, t.out⟩
      · have h2 : decide ((k : Int) < m) = false := by simp; omega
        have h3 : decide (k < m) = false := by simp; omega
        go_wp2
        go_meet
        exact ⟨es, by omega, t.out⟩
  case rest =>
    obtain ⟨es, hel, t0⟩ := hcut.out
    have t := hide_it t0
    clear t0 hcut
    have hle : es.length ≤ 1000000 := by omega
    obtain ⟨L1, hL1⟩ : ∃ L, outs es a = L := ⟨_, rfl⟩
    obtain ⟨L2, hL2⟩ : ∃ L, ins es a = L := ⟨_, rfl⟩
    obtain ⟨L3, hL3⟩ : ∃ L, reachL N es a = L := ⟨_, rfl⟩
    have l1 : L1.length ≤ 1000000 := by rw [← hL1]; have := outs_len es a; omega
    have l2 : L2.length ≤ 1000000 := by rw [← hL2]; have := ins_len es a; omega
    have l3 : L3.length ≤ 1000000 := by rw [← hL3]; unfold reachL; split; simp; have := rise_len (rset es a.toNat); omega
    obtain ⟨RH, hRH⟩ : ∃ R, hasB N es a b = R := ⟨_, rfl⟩
    obtain ⟨RR, hRR⟩ : ∃ R, reachB N es a b = R := ⟨_, rfl⟩
    have hgood : ∀ e ∈ es, e.1 < N ∧ e.2 < N := by obtain ⟨v, v2, h⟩ := t.out; exact h.gm.good
    have hRH2 : hasR es a b = RH := by rw [hasR_eq hgood, hRH]
    have kn : ∀ W, TX w.heap.size w W g eb N es r es → Calls Tryd.prog 16 #[ptr g] W fun e w' => e = .returned (.int .i64 N) ∧ w' = W := fun W h => h.num
    have kH : ∀ W, TX w.heap.size w W g eb N es r es → Calls Tryd.prog 17 #[ptr g, .int .i64 a, .int .i64 b] W fun e w' => e = .returned (.bool RH) ∧ Hid (TX w.heap.size w w' g eb N es r es) := fun W h => h.has a b RH hRH
    have kh : ∀ W, TX w.heap.size w W g eb N es r es → Calls Tryd.prog 18 #[ptr r, .int .i64 a, .int .i64 b] W fun e w' => e = .returned (.bool RH) ∧ w' = W := fun W h => h.rhas hle a b RH hRH2
    have kO : ∀ W, TX w.heap.size w W g eb N es r es → Calls Tryd.prog 20 #[ptr g, .int .i64 a] W fun e w' => ∃ u, e = .returned u ∧ Hid (TX w.heap.size w w' g eb N es r es ∧ IAt w' u L1) := fun W h => by
      have h' := h
      obtain ⟨v, v2, h⟩ := h
      have := out_any h.gm a hle
      rw [hL1] at this
      exact h'.row1 this
    have ko : ∀ W x, TX w.heap.size w W g eb N es r es → IAt W x L1 → Calls Tryd.prog 21 #[ptr r, .int .i64 a] W fun e w' => ∃ u, e = .returned u ∧ Hid (TX w.heap.size w w' g eb N es r es ∧ IAt w' x L1 ∧ IAt w' u L1) := fun W x h hx => by
      have h' := h
      obtain ⟨v, v2, h⟩ := h
      have := rout_any h.rm a hle
      rw [hL1] at this
      exact h'.row2 hx this
    have kI : ∀ W, TX w.heap.size w W g eb N es r es → Calls Tryd.prog 22 #[ptr g, .int .i64 a] W fun e w' => ∃ u, e = .returned u ∧ Hid (TX w.heap.size w w' g eb N es r es ∧ IAt w' u L2) := fun W h => by
      have h' := h
      obtain ⟨v, v2, h⟩ := h
      have := in_any h.gm a hle
      rw [hL2] at this
      exact h'.row1 this
    have ki : ∀ W x, TX w.heap.size w W g eb N es r es → IAt W x L2 → Calls Tryd.prog 23 #[ptr r, .int .i64 a] W fun e w' => ∃ u, e = .returned u ∧ Hid (TX w.heap.size w w' g eb N es r es ∧ IAt w' x L2 ∧ IAt w' u L2) := fun W x h hx => by
      have h' := h
      obtain ⟨v, v2, h⟩ := h
      have := rin_any h.rm a hle
      rw [hL2] at this
      exact h'.row2 hx this
    have kR : ∀ W, TX w.heap.size w W g eb N es r es → Calls Tryd.prog 24 #[ptr g, .int .i64 a] W fun e w' => ∃ u, e = .returned u ∧ Hid (TX w.heap.size w w' g eb N es r es ∧ IAt w' u L3) := fun W h => by
      have h' := h
      obtain ⟨v, v2, h⟩ := h
      have := reach_any h.gm h.tab (Nat.lt_of_lt_of_le h.pos h.le) a
      rw [hL3] at this
      exact h'.row1 this
    have kr : ∀ W x, TX w.heap.size w W g eb N es r es → IAt W x L3 → Calls Tryd.prog 25 #[ptr r, .int .i64 a] W fun e w' => ∃ u, e = .returned u ∧ Hid (TX w.heap.size w w' g eb N es r es ∧ IAt w' x L3 ∧ IAt w' u L3) := fun W x h hx => by
      have h' := h
      obtain ⟨v, v2, h⟩ := h
      have := rreach_any h.rm h.gm.hn a h.gm.good hle
      rw [hL3] at this
      exact h'.row2 hx this
    have kE : ∀ W x y L, L.length ≤ 1000000 → TX w.heap.size w W g eb N es r es ∧ IAt W x L ∧ IAt W y L → Calls Tryd.prog 19 #[x, y] W fun e w' => e = .returned (.bool true) ∧ Hid (TX w.heap.size w w' g eb N es r es) := fun W x y L hl h => h.1.eqs h.2.1 h.2.2 hl
    have kQ : ∀ W, TX w.heap.size w W g eb N es r es → Calls Tryd.prog 26 #[ptr g, .int .i64 a, .int .i64 b] W fun e w' => e = .returned (.bool RR) ∧ Hid (TX w.heap.size w w' g eb N es r es) := fun W h => h.reaches a b RR hRR
    have kq : offB N b = false → ∀ W, TX w.heap.size w W g eb N es r es → Calls Tryd.prog 27 #[ptr r, .int .i64 a, .int .i64 b] W fun e w' => e = .returned (.bool RR) ∧ Hid (TX w.heap.size w w' g eb N es r es) := fun hb W h => h.rreaches hle a b hb RR hRR
    have hoff : offB N b = true → RR = false := fun ho => by rw [← hRR]; exact Bool.eq_false_iff.2 (fun h => by have := ((reachB_iff _ _ _ _).1 h).2.1; rw [ho] at this; cases this)
    have hHH : (RH == RH) = true := by simp
    have hQQ : (RR == RR) = true := by simp
    have hNN : ((N : Int) == (N : Int)) = true := by simp
    clear hL1 hL2 hL3 hRH hRR hRH2 hgood hle
    have hrr := hoff hbo
    subst hrr
    have hb2 : ¬ 0 ≤ b := by omega
    have hb4 : decide (0 ≤ b) = false := by simp; omega
    clear kq hoff hbo
    go_upto_region 13 with (go_at_call 16; fail)
    simp only [List.append]
    have t := hide_it (t.out.step ((Below.refl _ _).drew))
    have hS := t.out.rn
    refine wp_region_noPanic ?_
    refine wp_region_held_drew (S := (fun W => W.cell? ⟨r, 0, none⟩ = some (.int .i64 N))) (by kernel_rfl) ?hS0 (fun hHeld => ?_)
    case hS0 => exact hS
    refine takeD (i := 0) (v := ?v0) 82 rfl rfl (by kernel_rfl) (by kernel_rfl) (by kernel_rfl) (fun _ _ _ h => h) (Or.inl ⟨by rfl, ?y0⟩) (by assumption) ?r0
    case y0 =>
      intro w hSw
      try dsimp only at hSw
      go_simp
      all_goals with_reducible rfl
    try simp only [Act.put, List.setIfInBounds_toArray, List.set_cons_zero, List.set_cons_succ]
    refine takeD (i := 1) (v := ?v1) 83 rfl rfl (by kernel_rfl) (by kernel_rfl) (by kernel_rfl) (fun _ _ _ h => h) (Or.inl ⟨by rfl, ?y1⟩) (by assumption) ?r1
    case y1 =>
      intro w hSw
      try dsimp only at hSw
      go_simp
      all_goals with_reducible rfl
    try simp only [Act.put, List.setIfInBounds_toArray, List.set_cons_zero, List.set_cons_succ]
    refine takeD (i := 2) (v := ?v2) 84 rfl rfl (by kernel_rfl) (by kernel_rfl) (by kernel_rfl) (fun _ _ _ h => h) (Or.inl ⟨by rfl, ?y2⟩) (by assumption) ?r2
    case y2 =>
      intro w hSw
      try dsimp only at hSw
      go_simp
      all_goals with_reducible rfl
    try simp only [Act.put, List.setIfInBounds_toArray, List.set_cons_zero, List.set_cons_succ]
    refine takeD (i := 4) (v := ?v4) 86 rfl rfl (by kernel_rfl) (by kernel_rfl) (by kernel_rfl) (fun _ _ _ h => h) (Or.inl ⟨by rfl, ?y4⟩) (by assumption) ?r4
    case y4 =>
      intro w hSw
      try dsimp only at hSw
      go_simp
      all_goals with_reducible rfl
    try simp only [Act.put, List.setIfInBounds_toArray, List.set_cons_zero, List.set_cons_succ]
    refine takeD (i := 5) (v := ?v5) 87 rfl rfl (by kernel_rfl) (by kernel_rfl) (by kernel_rfl) (fun _ _ _ h => h) (Or.inl ⟨by rfl, ?y5⟩) (by assumption) ?r5
    case y5 =>
      intro w hSw
      try dsimp only at hSw
      go_simp
      all_goals with_reducible rfl
    try simp only [Act.put, List.setIfInBounds_toArray, List.set_cons_zero, List.set_cons_succ]
    refine takeD (i := 6) (v := ?v6) 88 rfl rfl (by kernel_rfl) (by kernel_rfl) (by kernel_rfl) (fun _ _ _ h => h) (Or.inl ⟨by rfl, ?y6⟩) (by assumption) ?r6
    case y6 =>
      intro w hSw
      try dsimp only at hSw
      go_simp
      all_goals with_reducible rfl
    try simp only [Act.put, List.setIfInBounds_toArray, List.set_cons_zero, List.set_cons_succ]
    refine takeD (i := 7) (v := ?v7) 89 rfl rfl (by kernel_rfl) (by kernel_rfl) (by kernel_rfl) (fun _ _ _ h => h) (Or.inl ⟨by rfl, ?y7⟩) (by assumption) ?r7
    case y7 =>
      intro w hSw
      try dsimp only at hSw
      go_simp
      all_goals with_reducible rfl
    try simp only [Act.put, List.setIfInBounds_toArray, List.set_cons_zero, List.set_cons_succ]
    refine wpAnyH_ready (rs := [3]) (by kernel_rfl) (by simp) ?_
    refine AllReadyH.cons rfl (fun K hK => ?_) AllReadyH.nil
    go_simp
    (go_at_call 16; refine (kn _ t.out).mono ?_; rintro e wa ⟨rfl, rfl⟩)
    refine hK.out _ _ ?hS3 (fun hHeld => ?_)
    case hS3 => first | exact hS | go_keep
    clear hK K
    try simp only [Act.put, List.getElem_toArray, List.getElem_cons_succ, List.getElem_cons_zero, List.setIfInBounds_toArray, List.set_cons_zero, List.set_cons_succ]
    refine takeD (i := 8) (v := ?v8) 90 rfl rfl (by kernel_rfl) (by kernel_rfl) (by kernel_rfl) (fun _ _ _ h => h) (Or.inl ⟨by rfl, ?y8⟩) (by assumption) ?r8
    case y8 =>
      intro w hSw
      try dsimp only at hSw
      go_simp
      all_goals with_reducible rfl
    try simp only [Act.put, List.setIfInBounds_toArray, List.set_cons_zero, List.set_cons_succ]
    refine takeD (i := 9) (v := ?v9) 91 rfl rfl (by kernel_rfl) (by kernel_rfl) (by kernel_rfl) (fun _ _ _ h => h) (Or.inl ⟨by rfl, ?y9⟩) (by assumption) ?r9
    case y9 =>
      intro w hSw
      try dsimp only at hSw
      go_simp
      all_goals with_reducible rfl
    try simp only [Act.put, List.setIfInBounds_toArray, List.set_cons_zero, List.set_cons_succ]
    refine takeD (i := 10) (v := ?v10) 92 rfl rfl (by kernel_rfl) (by kernel_rfl) (by kernel_rfl) (fun _ _ _ h => h) (Or.inl ⟨by rfl, ?y10⟩) (by assumption) ?r10
    case y10 =>
      intro w hSw
      try dsimp only at hSw
      go_simp
      all_goals with_reducible rfl
    try simp only [Act.put, List.setIfInBounds_toArray, List.set_cons_zero, List.set_cons_succ]
    refine takeD (i := 11) (v := ?v11) 93 rfl rfl (by kernel_rfl) (by kernel_rfl) (by kernel_rfl) (fun _ _ _ h => h) (Or.inl ⟨by rfl, ?y11⟩) (by assumption) ?r11
    case y11 =>
      intro w hSw
      try dsimp only at hSw
      go_simp
      all_goals with_reducible rfl
    try simp only [Act.put, List.setIfInBounds_toArray, List.set_cons_zero, List.set_cons_succ]
    refine takeD (i := 12) (v := ?v12) 94 rfl rfl (by kernel_rfl) (by kernel_rfl) (by kernel_rfl) (fun _ _ _ h => h) (Or.inl ⟨by rfl, ?y12⟩) (by assumption) ?r12
    case y12 =>
      intro w hSw
      try dsimp only at hSw
      go_simp
      all_goals with_reducible rfl
    try simp only [Act.put, List.setIfInBounds_toArray, List.set_cons_zero, List.set_cons_succ]
    refine takeD (i := 13) (v := ?v13) 95 rfl rfl (by kernel_rfl) (by kernel_rfl) (by kernel_rfl) (fun _ _ _ h => h) (Or.inl ⟨by rfl, ?y13⟩) (by assumption) ?r13
    case y13 =>
      intro w hSw
      try dsimp only at hSw
      go_simp
      all_goals with_reducible rfl
    try simp only [Act.put, List.setIfInBounds_toArray, List.set_cons_zero, List.set_cons_succ]
    refine takeD (i := 15) (v := ?v15) 97 rfl rfl (by kernel_rfl) (by kernel_rfl) (by kernel_rfl) (fun _ _ _ h => h) (Or.inl ⟨by rfl, ?y15⟩) (by assumption) ?r15
    case y15 =>
      intro w hSw
      try dsimp only at hSw
      go_simp
      all_goals with_reducible rfl
    try simp only [Act.put, List.setIfInBounds_toArray, List.set_cons_zero, List.set_cons_succ]
    refine takeD (i := 16) (v := ?v16) 98 rfl rfl (by kernel_rfl) (by kernel_rfl) (by kernel_rfl) (fun _ _ _ h => h) (Or.inl ⟨by rfl, ?y16⟩) (by assumption) ?r16
    case y16 =>
      intro w hSw
      try dsimp only at hSw
      go_simp
      all_goals with_reducible rfl
    try simp only [Act.put, List.setIfInBounds_toArray, List.set_cons_zero, List.set_cons_succ]
    refine takeD (i := 17) (v := ?v17) 99 rfl rfl (by kernel_rfl) (by kernel_rfl) (by kernel_rfl) (fun _ _ _ h => h) (Or.inl ⟨by rfl, ?y17⟩) (by assumption) ?r17
    case y17 =>
      intro w hSw
      try dsimp only at hSw
      go_simp
      all_goals with_reducible rfl
    try simp only [Act.put, List.setIfInBounds_toArray, List.set_cons_zero, List.set_cons_succ]
    refine wpAnyH_ready (rs := [14]) (by kernel_rfl) (by simp) ?_
    refine AllReadyH.cons rfl (fun K hK => ?_) AllReadyH.nil
    go_simp
    (go_at_call 17; refine (kH _ t.out).mono ?_; rintro e wb ⟨rfl, t⟩; have hS := t.out.rn)
    refine hK.out _ _ ?hS14 (fun hHeld => ?_)
    case hS14 => first | exact hS | go_keep
    clear hK K
    try simp only [Act.put, List.getElem_toArray, List.getElem_cons_succ, List.getElem_cons_zero, List.setIfInBounds_toArray, List.set_cons_zero, List.set_cons_succ]
    refine wpAnyH_ready (rs := [18]) (by kernel_rfl) (by simp) ?_
    refine AllReadyH.cons rfl (fun K hK => ?_) AllReadyH.nil
    go_simp
    (go_at_call 18; refine (kh _ t.out).mono ?_; rintro e wc ⟨rfl, rfl⟩)
    refine hK.out _ _ ?hS18 (fun hHeld => ?_)
    case hS18 => first | exact hS | go_keep
    clear hK K
    try simp only [Act.put, List.getElem_toArray, List.getElem_cons_succ, List.getElem_cons_zero, List.setIfInBounds_toArray, List.set_cons_zero, List.set_cons_succ]
    refine takeD (i := 19) (v := ?v19) 101 rfl rfl (by kernel_rfl) (by kernel_rfl) (by kernel_rfl) (fun _ _ _ h => h) (Or.inl ⟨by rfl, ?y19⟩) (by assumption) ?r19
    case y19 =>
      intro w hSw
      try dsimp only at hSw
      go_simp
      all_goals with_reducible rfl
    try simp only [Act.put, List.setIfInBounds_toArray, List.set_cons_zero, List.set_cons_succ]
    refine takeD (i := 20) (v := ?v20) 102 rfl rfl (by kernel_rfl) (by kernel_rfl) (by kernel_rfl) (fun _ _ _ h => h) (Or.inl ⟨by rfl, ?y20⟩) (by assumption) ?r20
    case y20 =>
      intro w hSw
      try dsimp only at hSw
      go_simp
      all_goals with_reducible rfl
    try simp only [Act.put, List.setIfInBounds_toArray, List.set_cons_zero, List.set_cons_succ]
    refine takeD (i := 21) (v := ?v21) 103 rfl rfl (by kernel_rfl) (by kernel_rfl) (by kernel_rfl) (fun _ _ _ h => h) (Or.inl ⟨by rfl, ?y21⟩) (by assumption) ?r21
    case y21 =>
      intro w hSw
      try dsimp only at hSw
      go_simp
      all_goals with_reducible rfl
    try simp only [Act.put, List.setIfInBounds_toArray, List.set_cons_zero, List.set_cons_succ]
    refine takeD (i := 22) (v := ?v22) 104 rfl rfl (by kernel_rfl) (by kernel_rfl) (by kernel_rfl) (fun _ _ _ h => h) (Or.inl ⟨by rfl, ?y22⟩) (by assumption) ?r22
    case y22 =>
      intro w hSw
      try dsimp only at hSw
      go_simp
      all_goals with_reducible rfl
    try simp only [Act.put, List.setIfInBounds_toArray, List.set_cons_zero, List.set_cons_succ]
    refine takeD (i := 23) (v := ?v23) 105 rfl rfl (by kernel_rfl) (by kernel_rfl) (by kernel_rfl) (fun _ _ _ h => h) (Or.inl ⟨by rfl, ?y23⟩) (by assumption) ?r23
    case y23 =>
      intro w hSw
      try dsimp only at hSw
      go_simp
      all_goals with_reducible rfl
    try simp only [Act.put, List.setIfInBounds_toArray, List.set_cons_zero, List.set_cons_succ]
    refine takeD (i := 25) (v := ?v25) 107 rfl rfl (by kernel_rfl) (by kernel_rfl) (by kernel_rfl) (fun _ _ _ h => h) (Or.inl ⟨by rfl, ?y25⟩) (by assumption) ?r25
    case y25 =>
      intro w hSw
      try dsimp only at hSw
      go_simp
      all_goals with_reducible rfl
    try simp only [Act.put, List.setIfInBounds_toArray, List.set_cons_zero, List.set_cons_succ]
    refine takeD (i := 26) (v := ?v26) 108 rfl rfl (by kernel_rfl) (by kernel_rfl) (by kernel_rfl) (fun _ _ _ h => h) (Or.inl ⟨by rfl, ?y26⟩) (by assumption) ?r26
    case y26 =>
      intro w hSw
      try dsimp only at hSw
      go_simp
      all_goals with_reducible rfl
    try simp only [Act.put, List.setIfInBounds_toArray, List.set_cons_zero, List.set_cons_succ]
    refine wpAnyH_ready (rs := [24]) (by kernel_rfl) (by simp) ?_
    refine AllReadyH.cons rfl (fun K hK => ?_) AllReadyH.nil
    go_simp
    (go_at_call 20; refine (kO _ t.out).mono ?_; rintro e wd ⟨x, rfl, t1⟩; have hS := t1.out.1.rn)
    refine hK.out _ _ ?hS24 (fun hHeld => ?_)
    case hS24 => first | exact hS | go_keep
    clear hK K
    try simp only [Act.put, List.getElem_toArray, List.getElem_cons_succ, List.getElem_cons_zero, List.setIfInBounds_toArray, List.set_cons_zero, List.set_cons_succ]
    refine wpAnyH_ready (rs := [27]) (by kernel_rfl) (by simp) ?_
    refine AllReadyH.cons rfl (fun K hK => ?_) AllReadyH.nil
    go_simp
    (go_at_call 21; refine (ko _ _ t1.out.1 t1.out.2).mono ?_; rintro e we ⟨y, rfl, t2⟩; have hS := t2.out.1.rn)
    refine hK.out _ _ ?hS27 (fun hHeld => ?_)
    case hS27 => first | exact hS | go_keep
    clear hK K
    try simp only [Act.put, List.getElem_toArray, List.getElem_cons_succ, List.getElem_cons_zero, List.setIfInBounds_toArray, List.set_cons_zero, List.set_cons_succ]
    refine wpAnyH_ready (rs := [28]) (by kernel_rfl) (by simp) ?_
    refine AllReadyH.cons rfl (fun K hK => ?_) AllReadyH.nil
    go_simp
    (go_at_call 19; refine (kE _ _ _ _ (by first | exact l1 | exact l2 | exact l3) t2.out).mono ?_; rintro e wj ⟨rfl, t⟩; have hS := t.out.rn)
    refine hK.out _ _ ?hS28 (fun hHeld => ?_)
    case hS28 => first | exact hS | go_keep
    clear hK K
    try simp only [Act.put, List.getElem_toArray, List.getElem_cons_succ, List.getElem_cons_zero, List.setIfInBounds_toArray, List.set_cons_zero, List.set_cons_succ]
    refine takeD (i := 29) (v := ?v29) 111 rfl rfl (by kernel_rfl) (by kernel_rfl) (by kernel_rfl) (fun _ _ _ h => h) (Or.inl ⟨by rfl, ?y29⟩) (by assumption) ?r29
    case y29 =>
      intro w hSw
      try dsimp only at hSw
      go_simp
      all_goals with_reducible rfl
    try simp only [Act.put, List.setIfInBounds_toArray, List.set_cons_zero, List.set_cons_succ]
    refine takeD (i := 30) (v := ?v30) 112 rfl rfl (by kernel_rfl) (by kernel_rfl) (by kernel_rfl) (fun _ _ _ h => h) (Or.inl ⟨by rfl, ?y30⟩) (by assumption) ?r30
    case y30 =>
      intro w hSw
      try dsimp only at hSw
      go_simp
      all_goals with_reducible rfl
    try simp only [Act.put, List.setIfInBounds_toArray, List.set_cons_zero, List.set_cons_succ]
    refine takeD (i := 31) (v := ?v31) 113 rfl rfl (by kernel_rfl) (by kernel_rfl) (by kernel_rfl) (fun _ _ _ h => h) (Or.inl ⟨by rfl, ?y31⟩) (by assumption) ?r31
    case y31 =>
      intro w hSw
      try dsimp only at hSw
      go_simp
      all_goals with_reducible rfl
    try simp only [Act.put, List.setIfInBounds_toArray, List.set_cons_zero, List.set_cons_succ]
    refine takeD (i := 32) (v := ?v32) 114 rfl rfl (by kernel_rfl) (by kernel_rfl) (by kernel_rfl) (fun _ _ _ h => h) (Or.inl ⟨by rfl, ?y32⟩) (by assumption) ?r32
    case y32 =>
      intro w hSw
      try dsimp only at hSw
      go_simp
      all_goals with_reducible rfl
    try simp only [Act.put, List.setIfInBounds_toArray, List.set_cons_zero, List.set_cons_succ]
    refine takeD (i := 34) (v := ?v34) 116 rfl rfl (by kernel_rfl) (by kernel_rfl) (by kernel_rfl) (fun _ _ _ h => h) (Or.inl ⟨by rfl, ?y34⟩) (by assumption) ?r34
    case y34 =>
      intro w hSw
      try dsimp only at hSw
      go_simp
      all_goals with_reducible rfl
    try simp only [Act.put, List.setIfInBounds_toArray, List.set_cons_zero, List.set_cons_succ]
    refine takeD (i := 35) (v := ?v35) 117 rfl rfl (by kernel_rfl) (by kernel_rfl) (by kernel_rfl) (fun _ _ _ h => h) (Or.inl ⟨by rfl, ?y35⟩) (by assumption) ?r35
    case y35 =>
      intro w hSw
      try dsimp only at hSw
      go_simp
      all_goals with_reducible rfl
    try simp only [Act.put, List.setIfInBounds_toArray, List.set_cons_zero, List.set_cons_succ]
    refine wpAnyH_ready (rs := [33]) (by kernel_rfl) (by simp) ?_
    refine AllReadyH.cons rfl (fun K hK => ?_) AllReadyH.nil
    go_simp
    (go_at_call 22; refine (kI _ t.out).mono ?_; rintro e wf ⟨x, rfl, t1⟩; have hS := t1.out.1.rn)
    refine hK.out _ _ ?hS33 (fun hHeld => ?_)
    case hS33 => first | exact hS | go_keep
    clear hK K
    try simp only [Act.put, List.getElem_toArray, List.getElem_cons_succ, List.getElem_cons_zero, List.setIfInBounds_toArray, List.set_cons_zero, List.set_cons_succ]
    refine wpAnyH_ready (rs := [36]) (by kernel_rfl) (by simp) ?_
    refine AllReadyH.cons rfl (fun K hK => ?_) AllReadyH.nil
    go_simp
    (go_at_call 23; refine (ki _ _ t1.out.1 t1.out.2).mono ?_; rintro e wg ⟨y, rfl, t2⟩; have hS := t2.out.1.rn)
    refine hK.out _ _ ?hS36 (fun hHeld => ?_)
    case hS36 => first | exact hS | go_keep
    clear hK K
    try simp only [Act.put, List.getElem_toArray, List.getElem_cons_succ, List.getElem_cons_zero, List.setIfInBounds_toArray, List.set_cons_zero, List.set_cons_succ]
    refine wpAnyH_ready (rs := [37]) (by kernel_rfl) (by simp) ?_
    refine AllReadyH.cons rfl (fun K hK => ?_) AllReadyH.nil
    go_simp
    (go_at_call 19; refine (kE _ _ _ _ (by first | exact l1 | exact l2 | exact l3) t2.out).mono ?_; rintro e wj ⟨rfl, t⟩; have hS := t.out.rn)
    refine hK.out _ _ ?hS37 (fun hHeld => ?_)
    case hS37 => first | exact hS | go_keep
    clear hK K
    try simp only [Act.put, List.getElem_toArray, List.getElem_cons_succ, List.getElem_cons_zero, List.setIfInBounds_toArray, List.set_cons_zero, List.set_cons_succ]
    refine takeD (i := 38) (v := ?v38) 120 rfl rfl (by kernel_rfl) (by kernel_rfl) (by kernel_rfl) (fun _ _ _ h => h) (Or.inl ⟨by rfl, ?y38⟩) (by assumption) ?r38
    case y38 =>
      intro w hSw
      try dsimp only at hSw
      go_simp
      all_goals with_reducible rfl
    try simp only [Act.put, List.setIfInBounds_toArray, List.set_cons_zero, List.set_cons_succ]
    refine takeD (i := 39) (v := ?v39) 121 rfl rfl (by kernel_rfl) (by kernel_rfl) (by kernel_rfl) (fun _ _ _ h => h) (Or.inl ⟨by rfl, ?y39⟩) (by assumption) ?r39
    case y39 =>
      intro w hSw
      try dsimp only at hSw
      go_simp
      all_goals with_reducible rfl
    try simp only [Act.put, List.setIfInBounds_toArray, List.set_cons_zero, List.set_cons_succ]
    refine takeD (i := 40) (v := ?v40) 122 rfl rfl (by kernel_rfl) (by kernel_rfl) (by kernel_rfl) (fun _ _ _ h => h) (Or.inl ⟨by rfl, ?y40⟩) (by assumption) ?r40
    case y40 =>
      intro w hSw
      try dsimp only at hSw
      go_simp
      all_goals with_reducible rfl
    try simp only [Act.put, List.setIfInBounds_toArray, List.set_cons_zero, List.set_cons_succ]
    refine takeD (i := 41) (v := ?v41) 123 rfl rfl (by kernel_rfl) (by kernel_rfl) (by kernel_rfl) (fun _ _ _ h => h) (Or.inl ⟨by rfl, ?y41⟩) (by assumption) ?r41
    case y41 =>
      intro w hSw
      try dsimp only at hSw
      go_simp
      all_goals with_reducible rfl
    try simp only [Act.put, List.setIfInBounds_toArray, List.set_cons_zero, List.set_cons_succ]
    refine takeD (i := 43) (v := ?v43) 125 rfl rfl (by kernel_rfl) (by kernel_rfl) (by kernel_rfl) (fun _ _ _ h => h) (Or.inl ⟨by rfl, ?y43⟩) (by assumption) ?r43
    case y43 =>
      intro w hSw
      try dsimp only at hSw
      go_simp
      all_goals with_reducible rfl
    try simp only [Act.put, List.setIfInBounds_toArray, List.set_cons_zero, List.set_cons_succ]
    refine takeD (i := 44) (v := ?v44) 126 rfl rfl (by kernel_rfl) (by kernel_rfl) (by kernel_rfl) (fun _ _ _ h => h) (Or.inl ⟨by rfl, ?y44⟩) (by assumption) ?r44
    case y44 =>
      intro w hSw
      try dsimp only at hSw
      go_simp
      all_goals with_reducible rfl
    try simp only [Act.put, List.setIfInBounds_toArray, List.set_cons_zero, List.set_cons_succ]
    refine wpAnyH_ready (rs := [42]) (by kernel_rfl) (by simp) ?_
    refine AllReadyH.cons rfl (fun K hK => ?_) AllReadyH.nil
    go_simp
    (go_at_call 24; refine (kR _ t.out).mono ?_; rintro e wh ⟨x, rfl, t1⟩; have hS := t1.out.1.rn)
    refine hK.out _ _ ?hS42 (fun hHeld => ?_)
    case hS42 => first | exact hS | go_keep
    clear hK K
    try simp only [Act.put, List.getElem_toArray, List.getElem_cons_succ, List.getElem_cons_zero, List.setIfInBounds_toArray, List.set_cons_zero, List.set_cons_succ]
    refine wpAnyH_ready (rs := [45]) (by kernel_rfl) (by simp) ?_
    refine AllReadyH.cons rfl (fun K hK => ?_) AllReadyH.nil
    go_simp
    (go_at_call 25; refine (kr _ _ t1.out.1 t1.out.2).mono ?_; rintro e wi ⟨y, rfl, t2⟩; have hS := t2.out.1.rn)
    refine hK.out _ _ ?hS45 (fun hHeld => ?_)
    case hS45 => first | exact hS | go_keep
    clear hK K
    try simp only [Act.put, List.getElem_toArray, List.getElem_cons_succ, List.getElem_cons_zero, List.setIfInBounds_toArray, List.set_cons_zero, List.set_cons_succ]
    refine wpAnyH_ready (rs := [46]) (by kernel_rfl) (by simp) ?_
    refine AllReadyH.cons rfl (fun K hK => ?_) AllReadyH.nil
    go_simp
    (go_at_call 19; refine (kE _ _ _ _ (by first | exact l1 | exact l2 | exact l3) t2.out).mono ?_; rintro e wj ⟨rfl, t⟩; have hS := t.out.rn)
    refine hK.out _ _ ?hS46 (fun hHeld => ?_)
    case hS46 => first | exact hS | go_keep
    clear hK K
    try simp only [Act.put, List.getElem_toArray, List.getElem_cons_succ, List.getElem_cons_zero, List.setIfInBounds_toArray, List.set_cons_zero, List.set_cons_succ]
    refine takeD (i := 47) (v := ?v47) 129 rfl rfl (by kernel_rfl) (by kernel_rfl) (by kernel_rfl) (fun _ _ _ h => h) (Or.inl ⟨by rfl, ?y47⟩) (by assumption) ?r47
    case y47 =>
      intro w hSw
      try dsimp only at hSw
      go_simp
      all_goals with_reducible rfl
    try simp only [Act.put, List.setIfInBounds_toArray, List.set_cons_zero, List.set_cons_succ]
    refine takeD (i := 48) (v := ?v48) 130 rfl rfl (by kernel_rfl) (by kernel_rfl) (by kernel_rfl) (fun _ _ _ h => h) (Or.inl ⟨by rfl, ?y48⟩) (by assumption) ?r48
    case y48 =>
      intro w hSw
      try dsimp only at hSw
      go_simp
      all_goals with_reducible rfl
    try simp only [Act.put, List.setIfInBounds_toArray, List.set_cons_zero, List.set_cons_succ]
    refine takeD (i := 49) (v := ?v49) 131 rfl rfl (by kernel_rfl) (by kernel_rfl) (by kernel_rfl) (fun _ _ _ h => h) (Or.inl ⟨by rfl, ?y49⟩) (by assumption) ?r49
    case y49 =>
      intro w hSw
      try dsimp only at hSw
      go_simp
      all_goals with_reducible rfl
    try simp only [Act.put, List.setIfInBounds_toArray, List.set_cons_zero, List.set_cons_succ]
    refine takeD (i := 50) (v := ?v50) 132 rfl rfl (by kernel_rfl) (by kernel_rfl) (by kernel_rfl) (fun _ _ _ h => h) (Or.inl ⟨by rfl, ?y50⟩) (by assumption) ?r50
    case y50 =>
      intro w hSw
      try dsimp only at hSw
      go_simp
      all_goals with_reducible rfl
    try simp only [Act.put, List.setIfInBounds_toArray, List.set_cons_zero, List.set_cons_succ]
    refine takeD (i := 51) (v := ?v51) 133 rfl rfl (by kernel_rfl) (by kernel_rfl) (by kernel_rfl) (fun _ _ _ h => h) (Or.inl ⟨by rfl, ?y51⟩) (by assumption) ?r51
    case y51 =>
      intro w hSw
      try dsimp only at hSw
      go_simp
      all_goals with_reducible rfl
    try simp only [Act.put, List.setIfInBounds_toArray, List.set_cons_zero, List.set_cons_succ]
    refine takeD (i := 53) (v := ?v53) 135 rfl rfl (by kernel_rfl) (by kernel_rfl) (by kernel_rfl) (fun _ _ _ h => h) (Or.inl ⟨by rfl, ?y53⟩) (by assumption) ?r53
    case y53 =>
      intro w hSw
      try dsimp only at hSw
      go_simp
      all_goals with_reducible rfl
    try simp only [Act.put, List.setIfInBounds_toArray, List.set_cons_zero, List.set_cons_succ]
    refine takeD (i := 54) (v := ?v54) 136 rfl rfl (by kernel_rfl) (by kernel_rfl) (by kernel_rfl) (fun _ _ _ h => h) (Or.inl ⟨by rfl, ?y54⟩) (by assumption) ?r54
    case y54 =>
      intro w hSw
      try dsimp only at hSw
      go_simp
      all_goals with_reducible rfl
    try simp only [Act.put, List.setIfInBounds_toArray, List.set_cons_zero, List.set_cons_succ]
    refine wpAnyH_ready (rs := [52]) (by kernel_rfl) (by simp) ?_
    refine AllReadyH.cons rfl (fun K hK => ?_) AllReadyH.nil
    go_simp
    (go_at_call 26; refine (kQ _ t.out).mono ?_; rintro e wk ⟨rfl, t⟩; have hS := t.out.rn)
    refine hK.out _ _ ?hS52 (fun hHeld => ?_)
    case hS52 => first | exact hS | go_keep
    clear hK K
    try simp only [Act.put, List.getElem_toArray, List.getElem_cons_succ, List.getElem_cons_zero, List.setIfInBounds_toArray, List.set_cons_zero, List.set_cons_succ]
    refine takeD (i := 55) (v := ?v55) 137 rfl rfl (by kernel_rfl) (by kernel_rfl) (by kernel_rfl) (fun _ _ _ h => h) (Or.inl ⟨by rfl, ?y55⟩) (by assumption) ?r55
    case y55 =>
      intro w hSw
      try dsimp only at hSw
      go_simp
      all_goals with_reducible rfl
    try simp only [Act.put, List.setIfInBounds_toArray, List.set_cons_zero, List.set_cons_succ]
    refine takeD (i := 56) (v := undef) 138 rfl rfl (by kernel_rfl) (by kernel_rfl) (by kernel_rfl) (fun _ _ _ h => h) (Or.inr ⟨by rfl, rfl⟩) (by assumption) ?_
    try simp only [Act.put, List.setIfInBounds_toArray, List.set_cons_zero, List.set_cons_succ]
    refine takeD (i := 57) (v := undef) 139 rfl rfl (by kernel_rfl) (by kernel_rfl) (by kernel_rfl) (fun _ _ _ h => h) (Or.inr ⟨by rfl, rfl⟩) (by assumption) ?_
    try simp only [Act.put, List.setIfInBounds_toArray, List.set_cons_zero, List.set_cons_succ]
    refine takeD (i := 58) (v := undef) 140 rfl rfl (by kernel_rfl) (by kernel_rfl) (by kernel_rfl) (fun _ _ _ h => h) (Or.inr ⟨by rfl, rfl⟩) (by assumption) ?_
    try simp only [Act.put, List.setIfInBounds_toArray, List.set_cons_zero, List.set_cons_succ]
    refine takeD (i := 59) (v := undef) 141 rfl rfl (by kernel_rfl) (by kernel_rfl) (by kernel_rfl) (fun _ _ _ h => h) (Or.inr ⟨by rfl, rfl⟩) (by assumption) ?_
    try simp only [Act.put, List.setIfInBounds_toArray, List.set_cons_zero, List.set_cons_succ]
    refine takeD (i := 60) (v := undef) 142 rfl rfl (by kernel_rfl) (by kernel_rfl) (by kernel_rfl) (fun _ _ _ h => h) (Or.inr ⟨by rfl, rfl⟩) (by assumption) ?_
    try simp only [Act.put, List.setIfInBounds_toArray, List.set_cons_zero, List.set_cons_succ]
    refine takeD (i := 61) (v := undef) 143 rfl rfl (by kernel_rfl) (by kernel_rfl) (by kernel_rfl) (fun _ _ _ h => h) (Or.inr ⟨by rfl, rfl⟩) (by assumption) ?_
    try simp only [Act.put, List.setIfInBounds_toArray, List.set_cons_zero, List.set_cons_succ]
    refine takeD (i := 62) (v := ?v62) 144 rfl rfl (by kernel_rfl) (by kernel_rfl) (by kernel_rfl) (fun _ _ _ h => h) (Or.inl ⟨by rfl, ?y62⟩) (by assumption) ?r62
    case y62 =>
      intro w hSw
      try dsimp only at hSw
      go_simp
      all_goals with_reducible rfl
    try simp only [Act.put, List.setIfInBounds_toArray, List.set_cons_zero, List.set_cons_succ]
    refine takeD (i := 63) (v := ?v63) 145 rfl rfl (by kernel_rfl) (by kernel_rfl) (by kernel_rfl) (fun _ _ _ h => h) (Or.inl ⟨by rfl, ?y63⟩) (by assumption) ?r63
    case y63 =>
      intro w hSw
      try dsimp only at hSw
      go_simp
      all_goals with_reducible rfl
    try simp only [Act.put, List.setIfInBounds_toArray, List.set_cons_zero, List.set_cons_succ]
    refine takeD (i := 64) (v := undef) 146 rfl rfl (by kernel_rfl) (by kernel_rfl) (by kernel_rfl) (fun _ _ _ h => h) (Or.inr ⟨by rfl, rfl⟩) (by assumption) ?_
    try simp only [Act.put, List.setIfInBounds_toArray, List.set_cons_zero, List.set_cons_succ]
    refine takeD (i := 65) (v := undef) 147 rfl rfl (by kernel_rfl) (by kernel_rfl) (by kernel_rfl) (fun _ _ _ h => h) (Or.inr ⟨by rfl, rfl⟩) (by assumption) ?_
    try simp only [Act.put, List.setIfInBounds_toArray, List.set_cons_zero, List.set_cons_succ]
    refine takeD (i := 66) (v := undef) 148 rfl rfl (by kernel_rfl) (by kernel_rfl) (by kernel_rfl) (fun _ _ _ h => h) (Or.inr ⟨by rfl, rfl⟩) (by assumption) ?_
    try simp only [Act.put, List.setIfInBounds_toArray, List.set_cons_zero, List.set_cons_succ]
    refine takeD (i := 67) (v := undef) 149 rfl rfl (by kernel_rfl) (by kernel_rfl) (by kernel_rfl) (fun _ _ _ h => h) (Or.inr ⟨by rfl, rfl⟩) (by assumption) ?_
    try simp only [Act.put, List.setIfInBounds_toArray, List.set_cons_zero, List.set_cons_succ]
    refine takeD (i := 68) (v := ?v68) 150 rfl rfl (by kernel_rfl) (by kernel_rfl) (by kernel_rfl) (fun _ _ _ h => h) (Or.inl ⟨by rfl, ?y68⟩) (by assumption) ?r68
    case y68 =>
      intro w hSw
      try dsimp only at hSw
      go_simp
      all_goals with_reducible rfl
    try simp only [Act.put, List.setIfInBounds_toArray, List.set_cons_zero, List.set_cons_succ]
    refine takeD (i := 69) (v := ?v69) 151 rfl rfl (by kernel_rfl) (by kernel_rfl) (by kernel_rfl) (fun _ _ _ h => h) (Or.inl ⟨by rfl, ?y69⟩) (by assumption) ?r69
    case y69 =>
      intro w hSw
      try dsimp only at hSw
      go_simp
      all_goals with_reducible rfl
    try simp only [Act.put, List.setIfInBounds_toArray, List.set_cons_zero, List.set_cons_succ]
    refine takeD (i := 70) (v := ?v70) 152 rfl rfl (by kernel_rfl) (by kernel_rfl) (by kernel_rfl) (fun _ _ _ h => h) (Or.inl ⟨by rfl, ?y70⟩) (by assumption) ?r70
    case y70 =>
      intro w hSw
      try dsimp only at hSw
      go_simp
      all_goals with_reducible rfl
    try simp only [Act.put, List.setIfInBounds_toArray, List.set_cons_zero, List.set_cons_succ]
    refine takeD (i := 71) (v := ?v71) 8 rfl rfl (by kernel_rfl) (by kernel_rfl) (by kernel_rfl) (fun _ _ _ h => h) (Or.inl ⟨by rfl, ?y71⟩) (by assumption) ?r71
    case y71 =>
      intro w hSw
      try dsimp only at hSw
      go_simp
      all_goals with_reducible rfl
    try simp only [Act.put, List.setIfInBounds_toArray, List.set_cons_zero, List.set_cons_succ]
    refine wpAnyH_done (by kernel_rfl) ?_ _
    refine NoPanic.normal ?_
    go_wp2
    go_ret
    exact ⟨rfl, t.out.bel⟩
end Go.Proofs.YtcbgjdlkihepcaaDoor
