/- GraphOwn, walked. -/
import Derived.Test.YtcbgjdlkihepcaaDoorApR
namespace Go.Proofs.YtcbgjdlkihepcaaDoor
open Go.RowKit
open M
set_option linter.unusedVariables false
set_option linter.unusedSimpArgs false

/-- A row that may be written over. -/
def JR (S S3 : Nat) (W : World) (u : Value) (m : Nat) : Prop := ∃ ao cap, u = .slice ao m cap ∧ (0 < m → ∃ r cur, ao = some ⟨r, 0, none⟩ ∧ S ≤ r ∧ r < S3 ∧ W.heap[r]? = some (.cells cur 3) ∧ m ≤ cur.size)
theorem jr_of {S S3 b : Nat} {W : World} {u : Value} {L : List Nat} (h : OwnI W b u L) (hb : S ≤ b) (hs : ∀ k, u.ownBlock = some k → k < S3) : JR S S3 W u L.length := by
  rcases h.2 with ⟨rfl, hz⟩ | ⟨r, cap, cur, rfl, hbr, hgr, hnc, hcm, hcs, htk⟩
  · exact ⟨none, 0, by rw [hz], fun h => by omega⟩
  · exact ⟨_, cap, rfl, fun _ => ⟨r, cur, rfl, by omega, hs r rfl, hgr, by omega⟩⟩
theorem JR.set {S S3 : Nat} {W : World} {u : Value} {m : Nat} (h : JR S S3 W u m) (k i : Nat) (x : Value) : JR S S3 (W.setCell ⟨k, i, none⟩ x) u m := by
  obtain ⟨ao, cap, rfl, h⟩ := h
  refine ⟨ao, cap, rfl, fun h0 => ?_⟩
  obtain ⟨r, cur, h1, h2, h3, h4, h5⟩ := h h0
  by_cases hk : r = k
  · subst hk
    exact ⟨r, _, h1, h2, h3, heap_setCell_at h4 x, by simpa using h5⟩
  · exact ⟨r, cur, h1, h2, h3, by rw [Below.heap_setCell _ _ _ _ hk]; exact h4, h5⟩

/-- All that GraphOwn holds while it writes. -/
structure TS (B S S3 : Nat) (w0 W : World) (g eb n : Nat) (v : Value) (es : List E) (x y z p q r : Value) (L1 L2 L3 : List Nat) : Prop where
  q1 : Q1 B S w0 W g eb n v es
  s3 : S ≤ S3
  op : OwnI W S3 p L1
  oq : OwnI W S3 q L2
  or : OwnI W S3 r L3
  jx : JR S S3 W x L1.length
  jy : JR S S3 W y L2.length
  jz : JR S S3 W z L3.length
section
variable {B S S3 : Nat} {w0 W : World} {g eb n : Nat} {v : Value} {es : List E} {x y z p q r : Value} {L1 L2 L3 : List Nat}
theorem own_set {b k i : Nat} {u a : Value} {L : List Nat} (h : OwnI W b u L) (hk : k < b) : OwnI (W.setCell ⟨k, i, none⟩ a) b u L :=
  owns_keep h (fun j hj => Below.heap_setCell _ _ _ _ (by have := (h.lt j hj).1; show j ≠ k; omega))
theorem TS.set (h : TS B S S3 w0 W g eb n v es x y z p q r L1 L2 L3) (k i : Nat) (a : Value) (h1 : S ≤ k) (h2 : k < S3) : TS B S S3 w0 (W.setCell ⟨k, i, none⟩ a) g eb n v es x y z p q r L1 L2 L3 := by
  have hq := h.q1
  have hbs := hq.bs
  have hle := hq.le
  refine ⟨⟨hq.bel.setCell (by show B ≤ k; omega) a, hq.gm.keep (fun j hj => Below.heap_setCell _ _ _ _ (by have := (hq.gB j hj).2; show j ≠ k; omega)), hq.gB, ?_, hq.pos, hbs, by simpa [World.setCell] using hle⟩, h.s3, own_set h.op h2, own_set h.oq h2, own_set h.or h2, h.jx.set k i a, h.jy.set k i a, h.jz.set k i a⟩
  intro j hj
  have hp := hq.pos
  rw [World.cell?_of_block (w := W) (Below.heap_setCell _ _ _ _ (by show 0 ≠ k; omega))]
  exact hq.tab j hj
theorem TS.qr (h : TS B S S3 w0 W g eb n v es x y z p q r L1 L2 L3) : QR B S w0 W g eb n v es [(S3, p, L1), (S3, q, L2), (S3, r, L3)] := by
  refine ⟨h.q1, fun t ht => ?_⟩
  simp at ht
  rcases ht with rfl | rfl | rfl
  · exact h.op
  · exact h.oq
  · exact h.or
end
theorem frozen_no {W : World} {r i : Nat} {cur : Array Value} {t : TypeId} (h : W.heap[r]? = some (.cells cur t)) : W.frozen? ⟨r, i, none⟩ = false := by simp [World.frozen?, h]

set_option maxRecDepth 1000000 in
set_option maxHeartbeats 4000000 in
theorem own_core (n a : Int) (ls : List (Int × Int)) (la : Option Addr) (lc : Nat) (w : World) (hT : Tab w) (h0 : 0 < w.heap.size) (hl : LIn w la ls) (hm : ls.length ≤ maxLen) :
    Calls Tryd.prog 7 #[.int .i64 n, .slice la ls.length lc, .int .i64 a] w fun e w' => e = .returned (.bool true) ∧ Below w.heap.size w w' := by
  have kS := shown_q hT h0 (Below.refl _ w)
  have kM := fun w1 (hb : Below w.heap.size w w1) => made_q hT h0 hb n ls la lc hl hm ls.length (sz n) _ rfl rfl rfl
  have hfl := foldE_len (sz n) ls 200
  generalize foldE (sz n) (ls.take 200) [] = es at *
  generalize sz n = N at *
  generalize ls.length = m at *
  obtain ⟨L1, hL1⟩ : ∃ L, outs es a = L := ⟨_, rfl⟩
  obtain ⟨L2, hL2⟩ : ∃ L, ins es a = L := ⟨_, rfl⟩
  obtain ⟨L3, hL3⟩ : ∃ L, reachL N es a = L := ⟨_, rfl⟩
  have l1 : L1.length ≤ 200 := by rw [← hL1]; have := outs_len es a; omega
  have l2 : L2.length ≤ 200 := by rw [← hL2]; have := ins_len es a; omega
  have l3 : L3.length ≤ 200 := by rw [← hL3]; unfold reachL; split; simp; have := rise_len (rset es a.toNat); omega
  have kO : ∀ S W g eb v l, QR w.heap.size S w W g eb N v es l → Calls Tryd.prog 20 #[ptr g, .int .i64 a] W fun e w' => ∃ u, e = .returned u ∧ Hid (QR w.heap.size S w w' g eb N v es ((W.heap.size, u, L1) :: l)) := fun S W g eb v l h => h.out (by omega) a L1 hL1
  have kI : ∀ S W g eb v l, QR w.heap.size S w W g eb N v es l → Calls Tryd.prog 22 #[ptr g, .int .i64 a] W fun e w' => ∃ u, e = .returned u ∧ Hid (QR w.heap.size S w w' g eb N v es ((W.heap.size, u, L2) :: l)) := fun S W g eb v l h => h.ins (by omega) a L2 hL2
  have kR : ∀ S W g eb v l, QR w.heap.size S w W g eb N v es l → Calls Tryd.prog 24 #[ptr g, .int .i64 a] W fun e w' => ∃ u, e = .returned u ∧ Hid (QR w.heap.size S w w' g eb N v es ((W.heap.size, u, L3) :: l)) := fun S W g eb v l h => h.reach a L3 hL3
  clear hl hT hm hfl hL1 hL2 hL3
  go_enter Tryd.func7, Tryd.ntmps7
  go_wp2_with (first | (go_at_call 10; refine kS.mono ?_; rintro e w1 ⟨rfl, hb1⟩) | (go_at_call 28; refine (kM _ hb1.out).mono ?_; rintro e w2 ⟨g, eb, v, rfl, s⟩; have s2 := s) | (go_at_call 20; refine (kO _ _ _ _ _ _ s.out).mono ?_; rintro e w3 ⟨x, rfl, s⟩; have s3 := s) | (go_at_call 22; refine (kI _ _ _ _ _ _ s.out).mono ?_; rintro e w4 ⟨y, rfl, s⟩; have s4 := s) | (go_at_call 24; refine (kR _ _ _ _ _ _ s.out).mono ?_; rintro e w5 ⟨z, rfl, s⟩; have s5 := s; refine Hid.out ?_))
  refine hide_it ?_
  have ox := s5.out.2 (w2.heap.size, x, L1) (by simp)
  have oy := s5.out.2 (w3.heap.size, y, L2) (by simp)
  have oz := s5.out.2 (w4.heap.size, z, L3) (by simp)
  simp only at ox oy oz
  have OX' := hide_it ox
  have OY' := hide_it oy
  have OZ' := hide_it oz
  clear ox oy oz
  go_wp2_with (at_builtin; refine wpList_copy rfl (.tmp 33) (.tmp 34) rfl x L1 _ OX'.out (by omega) rfl rfl ?_; intro p w6 hp6 hb6; refine Hid.out ?_)
  refine hide_it ?_
  have HP := hide_it hp6
  have HB6 := hide_it hb6
  clear hp6 hb6
  go_wp2_with (at_builtin; refine wpList_copy rfl (.tmp 36) (.tmp 37) rfl y L2 _ (owns_below OY'.out HB6.out) (by omega) rfl rfl ?_; intro q w7 hq7 hb7; refine Hid.out ?_)
  refine hide_it ?_
  have HQ := hide_it hq7
  have HB7 := hide_it hb7
  clear hq7 hb7
  go_wp2_with (at_builtin; refine wpList_copy rfl (.tmp 39) (.tmp 40) rfl z L3 _ (owns_below (owns_below OZ'.out HB6.out) HB7.out) (by omega) rfl rfl ?_; intro r w8 hr8 hb8; refine Hid.out ?_)
  refine hide_it ?_
  have hz1 : w2.heap.size ≤ w3.heap.size := s3.out.1.le
  have hz2 : w2.heap.size ≤ w4.heap.size := s4.out.1.le
  have hz3 : w2.heap.size ≤ w5.heap.size := s5.out.1.le
  have st : Hid (TS w.heap.size w2.heap.size w5.heap.size w w8 g eb N v es x y z p q r L1 L2 L3) := by
    have h6 := HB6.out
    have h7 := HB7.out
    have h58 : Below w5.heap.size w5 w8 := (h6.trans (h7.mono h6.size)).trans (hb8.mono (Nat.le_trans h6.size h7.size))
    have e67 := h6.size
    have e78 := h7.size
    refine ⟨(s5.out.step h58).1, hz3, owns_below (owns_below HP.out h7) hb8, owns_base (owns_below HQ.out hb8) (fun k hk => Nat.le_trans e67 (HQ.out.lt k hk).1), owns_base hr8 (fun k hk => Nat.le_trans (Nat.le_trans e67 e78) (hr8.lt k hk).1), jr_of (owns_below OX'.out h58) (Nat.le_refl _) (fun k hk => (OX'.out.lt k hk).2), jr_of (owns_below OY'.out h58) hz1 (fun k hk => (OY'.out.lt k hk).2), jr_of (owns_below OZ'.out h58) hz2 (fun k hk => (OZ'.out.lt k hk).2)⟩
  clear hr8 hb8 HP HQ HB6 HB7 OX' OY' OZ' s s3 s4 s5
  obtain ⟨m1, hm1⟩ : ∃ k, L1.length = k := ⟨_, rfl⟩
  obtain ⟨m2, hm2⟩ : ∃ k, L2.length = k := ⟨_, rfl⟩
  obtain ⟨m3, hm3⟩ : ∃ k, L3.length = k := ⟨_, rfl⟩
  have HM1 := hide_it hm1
  have HM2 := hide_it hm2
  have HM3 := hide_it hm3
  rw [hm1] at l1
  rw [hm2] at l2
  rw [hm3] at l3
  clear hm1 hm2 hm3
  obtain ⟨ax, cx, hxe⟩ : ∃ ax cx, x = .slice ax m1 cx := by
    obtain ⟨ax, cx, e, _⟩ := st.out.jx
    rw [HM1.out] at e
    exact ⟨ax, cx, e⟩
  subst hxe
  obtain ⟨ay, cy, hye⟩ : ∃ ay cy, y = .slice ay m2 cy := by
    obtain ⟨ay, cy, e, _⟩ := st.out.jy
    rw [HM2.out] at e
    exact ⟨ay, cy, e⟩
  subst hye
  obtain ⟨az, cz, hze⟩ : ∃ az cz, z = .slice az m3 cz := by
    obtain ⟨az, cz, e, _⟩ := st.out.jz
    rw [HM3.out] at e
    exact ⟨az, cz, e⟩
  subst hze
  generalize w2.heap.size = S at *
  generalize w5.heap.size = S3 at *
  go_wp2
  go_loopw [15] (fun i W => ∃ k : Nat, k ≤ m1 ∧ i = .int .i64 k ∧ Hid (TS w.heap.size S S3 w W g eb N v es (.slice ax m1 cx) (.slice ay m2 cy) (.slice az m3 cz) p q r L1 L2 L3)) (fun i _ => m1 - (intOf i).toNat)
  case atStart => exact ⟨0, Nat.zero_le _, rfl, st⟩
  case round =>
    obtain ⟨k, hk, rfl, st⟩ := hrel
    obtain ⟨wa, rfl⟩ : ∃ W, W = wr := ⟨_, rfl⟩
    by_cases hlt : k < m1
    · obtain ⟨ao, cap, e1, e2⟩ := st.out.jx
      obtain ⟨rr, cur, e3, e4, e5, e6, e7⟩ := e2 (by rw [HM1.out]; omega)
      rw [HM1.out] at e1 e7
      have e8 : ax = some ⟨rr, 0, none⟩ := by injection e1 with e1; rw [e1, e3]
      subst e8
      have c1 : wa.cell? ⟨rr, k, none⟩ = some cur[k] := by rw [cell_of_row wa rr k _ _ _ e6]; simp [show k < cur.size by omega]
      have c2 := frozen_no (i := k) e6
      have ST := hide_it (st.out.set rr k (.int .i64 (-7)) e4 e5)
      generalize cur[k] = cv at *
      clear e1 e2 e3 e6 e7 st
      go_wp2
      go_roundw
      case rel => exact ⟨k + 1, by omega, by go_num, ST⟩
      case measure => simp [intOf]; omega
    · go_wp2
      go_loopw [16] (fun i W => ∃ k : Nat, k ≤ m2 ∧ i = .int .i64 k ∧ Hid (TS w.heap.size S S3 w W g eb N v es (.slice ax m1 cx) (.slice ay m2 cy) (.slice az m3 cz) p q r L1 L2 L3)) (fun i _ => m2 - (intOf i).toNat)
      case atStart => exact ⟨0, Nat.zero_le _, rfl, st⟩
      case round =>
        obtain ⟨k, hk, rfl, st⟩ := hrel
        obtain ⟨wb, rfl⟩ : ∃ W, W = wr := ⟨_, rfl⟩
        by_cases hlt : k < m2
        · obtain ⟨ao, cap, e1, e2⟩ := st.out.jy
          obtain ⟨rr, cur, e3, e4, e5, e6, e7⟩ := e2 (by rw [HM2.out]; omega)
          rw [HM2.out] at e1 e7
          have e8 : ay = some ⟨rr, 0, none⟩ := by injection e1 with e1; rw [e1, e3]
          subst e8
          have c1 : wb.cell? ⟨rr, k, none⟩ = some cur[k] := by rw [cell_of_row wb rr k _ _ _ e6]; simp [show k < cur.size by omega]
          have c2 := frozen_no (i := k) e6
          have ST := hide_it (st.out.set rr k (.int .i64 (-7)) e4 e5)
          generalize cur[k] = cv at *
          clear e1 e2 e3 e6 e7 st
          go_wp2
          go_roundw
          case rel => exact ⟨k + 1, by omega, by go_num, ST⟩
          case measure => simp [intOf]; omega
        · go_wp2
          go_loopw [17] (fun i W => ∃ k : Nat, k ≤ m3 ∧ i = .int .i64 k ∧ Hid (TS w.heap.size S S3 w W g eb N v es (.slice ax m1 cx) (.slice ay m2 cy) (.slice az m3 cz) p q r L1 L2 L3)) (fun i _ => m3 - (intOf i).toNat)
          case atStart => exact ⟨0, Nat.zero_le _, rfl, st⟩
          case round =>
            obtain ⟨k, hk, rfl, st⟩ := hrel
            obtain ⟨wc, rfl⟩ : ∃ W, W = wr := ⟨_, rfl⟩
            by_cases hlt : k < m3
            · obtain ⟨ao, cap, e1, e2⟩ := st.out.jz
              obtain ⟨rr, cur, e3, e4, e5, e6, e7⟩ := e2 (by rw [HM3.out]; omega)
              rw [HM3.out] at e1 e7
              have e8 : az = some ⟨rr, 0, none⟩ := by injection e1 with e1; rw [e1, e3]
              subst e8
              have c1 : wc.cell? ⟨rr, k, none⟩ = some cur[k] := by rw [cell_of_row wc rr k _ _ _ e6]; simp [show k < cur.size by omega]
              have c2 := frozen_no (i := k) e6
              have ST := hide_it (st.out.set rr k (.int .i64 (-7)) e4 e5)
              generalize cur[k] = cv at *
              clear e1 e2 e3 e6 e7 st
              go_wp2
              go_roundw
              case rel => exact ⟨k + 1, by omega, by go_num, ST⟩
              case measure => simp [intOf]; omega
            · have hdec : ¬ ((k : Int) < m3) := by omega
              have kE1 : ∀ W xv l, QR w.heap.size S w W g eb N v es ((wc.heap.size, xv, L1) :: l) → OwnI W S3 p L1 → Calls Tryd.prog 19 #[xv, p] W fun e w' => e = .returned (.bool true) ∧ Hid (QR w.heap.size S w w' g eb N v es ((wc.heap.size, xv, L1) :: l)) := fun W xv l h hp => h.eqs (h.2 _ (List.mem_cons_self)) hp (by rw [HM1.out]; omega)
              have kE2 : ∀ W xv b l, QR w.heap.size S w W g eb N v es ((b, xv, L2) :: l) → OwnI W S3 q L2 → Calls Tryd.prog 19 #[xv, q] W fun e w' => e = .returned (.bool true) ∧ Hid (QR w.heap.size S w w' g eb N v es ((b, xv, L2) :: l)) := fun W xv b l h hp => h.eqs (h.2 _ (List.mem_cons_self)) hp (by rw [HM2.out]; omega)
              have kE3 : ∀ W xv b l, QR w.heap.size S w W g eb N v es ((b, xv, L3) :: l) → OwnI W S3 r L3 → Calls Tryd.prog 19 #[xv, r] W fun e w' => e = .returned (.bool true) ∧ Hid (QR w.heap.size S w w' g eb N v es ((b, xv, L3) :: l)) := fun W xv b l h hp => h.eqs (h.2 _ (List.mem_cons_self)) hp (by rw [HM3.out]; omega)
              have t := hide_it st.out.qr
              clear st
              go_wp2_with (first | (go_at_call 20; refine (kO _ _ _ _ _ _ t.out).mono ?_; rintro e w3 ⟨x1, rfl, t⟩) | (go_at_call 19; refine (kE1 _ _ _ t.out (t.out.2 (S3, p, L1) (by simp))).mono ?_; rintro e w4 ⟨rfl, t⟩; refine Hid.out ?_))
              refine hide_it ?_
              go_wp2_with (first | (go_at_call 22; refine (kI _ _ _ _ _ _ t.out).mono ?_; rintro e w5 ⟨x2, rfl, t⟩) | (go_at_call 19; refine (kE2 _ _ _ _ t.out (t.out.2 (S3, q, L2) (by simp))).mono ?_; rintro e w6 ⟨rfl, t⟩; refine Hid.out ?_))
              refine hide_it ?_
              go_wp2_with (first | (go_at_call 24; refine (kR _ _ _ _ _ _ t.out).mono ?_; rintro e w7 ⟨x3, rfl, t⟩) | (go_at_call 19; refine (kE3 _ _ _ _ t.out (t.out.2 (S3, r, L3) (by simp))).mono ?_; rintro e w8 ⟨rfl, t⟩))
              go_ret
              exact ⟨rfl, t.out.1.bel⟩
end Go.Proofs.YtcbgjdlkihepcaaDoor
