/- The document's own turns: Leave. -/
import Derived.Test.YtlhkahincnchjaaRfa
import Derived.Deep.RegionLaw
namespace Go.Proofs.Ytlhkahincnchjaa
open Go.RowKit
open M
set_option linter.unusedVariables false
set_option linter.unusedSimpArgs false

theorem wp_mcat {o : Oper} {a : Act} {w : World} {K : Act → World → Prop} {Q : Exit → Act → World → Prop} (s x : Operand)
    (ho : o.op = .call { callee := .builtin .append, args := #[s, x], argTypes := #[46, 46] })
    {base m kx : Nat} {v : Value} {I W C I2 W2 C2 : Nat → Int} (hown : w.ownsRow base 50 3 v m (mrow m I W C)) {p : Addr} {cx : Nat} (hr : MbO w (some p) kx I2 W2 C2) (hl : m + kx ≤ 1000000) (hs1 : a.eval s = v) (hx : a.eval x = .slice (some p) kx cx) (hbase : base ≤ w.heap.size)
    (k : ∀ ao' cap' m' w', Hid (m' = m + kx ∧ w'.ownsRow base 50 3 (.slice ao' m' cap') m' (mrow m' (cat I m I2) (cat W m W2) (cat C m C2)) ∧ w.grownBy w' v.ownBlock) → K (a.put o.dst (.slice ao' m' cap')) w') : o.wp Try.prog a w K Q := by
  obtain ⟨i0, hi, hz0, hz1, hz2⟩ := info_parts info50
  obtain ⟨v', w', hrun, h1, h2, h3⟩ := run_append_tell (P := Try.prog) w base 46 o.type 50 i0 _ 3 24 Try.underlying46 hi hz0 hz1 hz2 rfl (by decide) _ m (mrow m I W C) hown p kx cx (mrow kx I2 W2 C2) (mrow_len ..) (fun j u hj => by
    have hj2 : j < kx * 3 := by
      rcases Nat.lt_or_ge j (kx * 3) with q | q
      · exact q
      · rw [List.getElem?_eq_none (by rw [mrow_len]; exact q)] at hj; cases hj
    obtain ⟨q, r, hq, hr3, rfl⟩ := mrow_cut hj2
    obtain ⟨b', o', e, _, c0, c1, c2⟩ := hr q hq
    cases e
    obtain ⟨e0, e1, e2⟩ := mrow_at kx I2 W2 C2 q hq
    rw [Addr.add_lit]
    match r, hr3 with
    | 0, _ => rw [Nat.add_zero] at hj ⊢; rw [e0] at hj; cases hj; exact c0
    | 1, _ => rw [e1] at hj; cases hj; rw [← Nat.add_assoc]; exact c1
    | 2, _ => rw [e2] at hj; cases hj; rw [← Nat.add_assoc]; exact c2) (mrow_one _ _ _ _) (by unfold maxLen; omega) (by omega) hbase
  rw [mrow_cat] at h1
  obtain ⟨ao', cap', rfl⟩ := own_slice h1
  unfold Oper.wp execOp
  simp only [ho, resolve, invoke, builtin, Sem.run_bind, Sem.run_pure, Result.andThen_ok, List.map_toArray, List.map_cons, List.map_nil, hs1, hx, hrun]
  exact k ao' cap' _ w' ⟨rfl, h1, h2⟩

theorem wr_int2 {z : Int} (h : -1000000000000 ≤ z ∧ z ≤ 1000000000000) : IntKind.i64.wrap z = z ∧ wrap64 z = z := ⟨by rw [IntKind.wrap_i64]; omega, by unfold wrap64; omega⟩
theorem TM.putV2 {e tt : TypeId} {w W : World} {t : Nat} {x : Tn} {v : Value} (h : TM e tt w t x v) {F : Nat → Prop} (hF : ∀ k, Foot t v k → F k) (ht : Turn (fun k => v.ownBlock = some k) w W) {v' : Value} {n : Nat} {I Wt C : Nat → Int} (ho : W.ownsRow 0 e 3 v' n (mrow n I Wt C)) (hf : ∀ k, v'.ownBlock = some k → v.ownBlock = some k ∨ w.heap.size ≤ k) :
    TM e tt (W.setCell ⟨t, 1, none⟩ v') t ⟨x.q, n, x.k, I, Wt, C⟩ v' ∧ (∀ k, Foot t v' k → Grow F w (W.setCell ⟨t, 1, none⟩ v') k) ∧ Turn F w (W.setCell ⟨t, 1, none⟩ v') := by
  have hl := block_lt h.blk
  have hz : (W.setCell ⟨t, 1, none⟩ v').heap.size = W.heap.size := by simp [World.setCell]
  have bt : W.heap[t]? = some (.cells #[.int .i64 x.q, v, .int .i64 x.k] tt) := by rw [ht.block t hl h.tv]; exact h.blk
  have vt : v'.ownBlock ≠ some t := fun r => by
    rcases hf t r with q | q
    · exact h.tv q
    · omega
  refine ⟨⟨by rw [heap_setCell_at (o := 1) bt]; rfl, owns_keep ho (fun k hk => Below.heap_setCell _ _ _ _ (fun q => vt (by rw [hk, q]))), vt⟩, fun k hk => ?_, ?_⟩
  · rcases hk with rfl | hk
    · exact .inl (hF _ (.inl rfl))
    · rcases hf k hk with q | q
      · exact .inl (hF k (.inr q))
      · exact .inr ⟨q, by rw [hz]; exact (ho.lt k hk).2⟩
  · exact (ht.mono (fun k _ hk => hF k (.inr hk))).setCell (p := ⟨t, 1, none⟩) (.inl (hF _ (.inl rfl))) _

set_option maxRecDepth 1000000 in
set_option maxHeartbeats 1500000 in
theorem rleave_any {w : World} {F : Nat → Prop} {t : Nat} {x : Tn} (h : MO 50 48 w F t x) (hs : x.n ≤ 1000000) (hk : 0 < x.n → x.k < x.n) (id : Int) : Calls Try.prog 16 #[ptr t, .int .i64 id] w fun e w' => e = .returned (.int .i64 (leaveE x id)) ∧ Hid (St 50 48 F w w' t (leaveX x id)) := by
  have s0 := hide_it (St.refl h)
  have k1 := rfind_any h (by omega) id
  unfold leaveE leaveX
  by_cases hp : 0 ≤ plc x id
  · rw [if_pos hp, if_pos hp]
    obtain ⟨i, hi, _, e⟩ := plc_lt hp
    rw [e] at k1 ⊢
    rw [Int.toNat_natCast]
    obtain ⟨v, sv⟩ := SV.start h
    have hkn := hk (by omega)
    obtain ⟨g, cap, rfl, hcap, hcm, hmb⟩ : ∃ g cap, v = .slice (some ⟨g, 0, none⟩) x.n cap ∧ x.n ≤ cap ∧ cap ≤ maxLen ∧ Mbs w (some ⟨g, 0, none⟩) x.n x.I x.W x.C := by
      obtain ⟨ao, cap, e, e1, e2, hm⟩ := sv.tm.mbs
      obtain ⟨g, e3, _⟩ := hm i hi
      exact ⟨g, cap, by rw [e, e3], e1, e2, by rw [← e3]; exact hm⟩
    have hcm2 : cap ≤ 9223372036854775807 := by unfold maxLen at hcm; omega
    have HSV := hide_it sv
    have q1 := sv.tm.c1
    have q2 := sv.tm.c2
    obtain ⟨j, hj⟩ : ∃ j, i + 1 = j := ⟨_, rfl⟩
    obtain ⟨k, ek⟩ : ∃ k, x.k = k := ⟨_, rfl⟩
    obtain ⟨n, en⟩ : ∃ n, x.n = n := ⟨_, rfl⟩
    obtain ⟨n1, en1⟩ : ∃ n1, x.n - 1 = n1 := ⟨_, rfl⟩
    have HN := hide_it (show x.k = k ∧ x.n = n ∧ x.n - 1 = n1 from ⟨ek, en, en1⟩)
    rw [en] at HSV hi hkn hs q1 hcap hmb
    rw [ek] at hkn q2 ⊢
    rw [en1]
    have hn1 : n = n1 + 1 := by omega
    obtain ⟨A, hA, HRA⟩ : ∃ A : Addr, (if cap = j then some (⟨g, 0, none⟩ : Addr) else some ⟨g, j * 3, none⟩) = some A ∧ Hid (MbO w (some A) (n - j) (fun i => x.I (j + i)) (fun i => x.W (j + i)) (fun i => x.C (j + i))) := by
      by_cases hcj : cap = j
      · exact ⟨⟨g, 0, none⟩, by simp [hcj], fun i hi2 => by omega⟩
      · refine ⟨⟨g, j * 3, none⟩, by simp [hcj], fun i hi2 => ?_⟩
        obtain ⟨g', e, hg, m0, m1, m2⟩ := hmb (j + i) (by omega)
        cases e
        have e3 : j * 3 + i * 3 = (j + i) * 3 := by omega
        exact ⟨g, j * 3, rfl, hg, by rw [e3]; exact m0, by rw [e3]; exact m1, by rw [e3]; exact m2⟩
    have HRT : Hid (MbO w (some ⟨g, 0, none⟩) i x.I x.W x.C) := fun i2 hi2 => hmb.mbo i2 (by omega)
    have HEQ : Hid (∀ m, m = 0 + i + (n - j) → m = n1 ∧ ∀ f : Nat → Int, ∀ q, q < m → cat (cat (fun _ => 0) 0 f) (0 + i) (fun i => f (j + i)) q = del f i q) := fun m hm => by
      refine ⟨by omega, fun f q hq => ?_⟩
      unfold cat del
      by_cases e : q < i
      · have e2 : q < 0 + i := by omega
        simp only [e, e2, if_true]
        rw [if_neg (by omega), Nat.sub_zero]
      · have e2 : ¬ q < 0 + i := by omega
        simp only [e, e2, if_false]
        congr 1
        omega
    have hjn : j ≤ n := by omega
    have hjn2 : (j : Int) ≤ (n : Int) := by omega
    have hjc : j ≤ cap := by omega
    have hic : i ≤ cap := by omega
    have z0 : ((i : Int) < 0) = False := by simp
    have HSZ := hide_it (show 0 + i + (n - j) ≤ 1000000 ∧ 0 + i ≤ 1000000 from ⟨by omega, by omega⟩)
    have HC : Hid (∀ W, Below w.heap.size w W → W.cell? ⟨t, 1, none⟩ = some (.slice (some ⟨g, 0, none⟩) n cap) ∧ W.frozen? ⟨t, 1, none⟩ = false ∧ W.frozen? ⟨t, 2, none⟩ = false ∧ W.cell? ⟨t, 2, none⟩ = some (.int .i64 k)) := fun W hW => by
      have h2 := (HSV.out.below hW).tm
      have c1 := h2.c1
      have c2 := h2.c2
      rw [HN.out.1] at c2
      exact ⟨c1, h2.fr 1, h2.fr 2, c2⟩
    have HV : Hid (∀ W ao c m, Below w.heap.size w W → m = 0 + i + (n - j) → W.ownsRow w.heap.size 50 3 (.slice ao m c) m (mrow m (cat (cat (fun _ => 0) 0 x.I) (0 + i) (fun i => x.I (j + i))) (cat (cat (fun _ => 0) 0 x.W) (0 + i) (fun i => x.W (j + i))) (cat (cat (fun _ => 0) 0 x.C) (0 + i) (fun i => x.C (j + i)))) → m = n1 ∧ SV 50 48 F w (W.setCell ⟨t, 1, none⟩ (.slice ao m c)) t { lessX x i with k := k } (.slice ao m c)) := fun W ao c m hW hm ho => by
      obtain ⟨em, eq⟩ := HEQ.out m hm
      subst em
      refine ⟨rfl, ?_⟩
      rw [mrow_congr (I' := del x.I i) (W' := del x.W i) (C' := del x.C i) (fun q hq => eq x.I q hq) (fun q hq => eq x.W q hq) (fun q hq => eq x.C q hq)] at ho
      obtain ⟨a1, a2, a3⟩ := HSV.out.tm.putV2 HSV.out.ft (Turn.of_below (F := fun k => (Value.slice (some ⟨g, 0, none⟩) n cap).ownBlock = some k) hW) (owns_base ho (fun k hk => Nat.zero_le k)) (fun k hk => .inr (ho.lt k hk).1)
      have st := HSV.out.st.trans ⟨⟨_, a1, a2⟩, a3⟩
      refine ⟨?_, fun j hj => ?_, st.tu, HSV.out.own, HSV.out.lt⟩
      · unfold lessX
        rw [HN.out.2.2]
        have := a1
        rw [HN.out.1] at this
        exact this
      · rcases a2 j hj with q | q
        · rcases q with q | q
          · exact .inl q
          · exact .inr ⟨q.1, by have := hW.size; simp [World.setCell]; omega⟩
        · exact .inr q
    have B0 : Hid (Below w.heap.size w (w.alloc (.cells #[] 50)).drew) := ((Below.refl _ _).alloc (Nat.le_refl _) _).drew
    have B00 : Hid (Below w.heap.size w (w.alloc (.cells #[] 50))) := (Below.refl _ _).alloc (Nat.le_refl _) _
    have OW0 : Hid ((w.alloc (.cells #[] 50)).drew.ownsRow w.heap.size 50 3 (.slice (some ⟨w.heap.size, 0, none⟩) 0 0) 0 (mrow 0 (fun _ => 0) (fun _ => 0) (fun _ => 0))) := owns_below (owns_empty 50 _ rfl _ _ _) ((Below.refl _ _).drew)
    have R0 : Hid (MbO (w.alloc (.cells #[] 50)).drew (some ⟨g, 0, none⟩) i x.I x.W x.C) := HRT.out.below B0.out
    have RA : Hid (∀ W, Below w.heap.size w W → MbO W (some A) (n - j) (fun i => x.I (j + i)) (fun i => x.W (j + i)) (fun i => x.C (j + i))) := fun W hb => HRA.out.below hb
    obtain ⟨c2, f2, f3, c3⟩ := HC.out _ (Below.refl _ _)
    obtain ⟨c2d, f2d, f3d, c3d⟩ := HC.out _ ((Below.refl _ _).drew)
    obtain ⟨cB, fB, fB3, cB3⟩ := HC.out _ B00.out
    have hs1 : n1 < n := by omega
    have hN1 : (n1 : Int) ≤ 1000000 := by omega
    have hkk : k ≤ n1 := by omega
    have hwr : IntKind.i64.wrap ((i : Int) + 1) = (j : Int) := by rw [IntKind.wrap_i64]; omega
    have hwr2 : wrap64 ((i : Int) + 1) = (j : Int) := by unfold wrap64; omega
    clear hp e h hk sv hmb hj hcap q1 q2 HRA HRT HSV hn1
    go_enter Try.func16, Try.ntmps16
    go_upto_region 4 with (go_at_call 21; refine k1.mono ?_; rintro e w1 ⟨rfl, e9⟩; have e8 := e9.symm; clear e9; subst e8)
    go_cut [] from 11 to 29 (fun wx => ∃ ao c W, Hid (SV 50 48 F w wx t { lessX x i with k := k } (.slice ao n1 c) ∧ Below w.heap.size w W ∧ wx = W.setCell ⟨t, 1, none⟩ (.slice ao n1 c)))
    case first =>
      (go_region_law (first | (rw [if_pos (by rfl)]; refine wp_mcat (.tmp 19) (.tmp 26) (by rfl) (cx := cap - j) (base := w.heap.size) (v := .slice b8 m8 n8) H8.out.2.1 (RA.out _ B1.out) (by rw [H8.out.1]; exact HSZ.out.1) (by simp [Act.eval, Act.put]) (by simp [Act.eval, Act.put]) B1.out.size ?_; intro b9 n9 m9 w9 H9; have B2 := hide_it (B1.out.grown H9.out.2.2 B1.out.size (fun q hq => (H8.out.2.1.lt q hq).1)); obtain ⟨x4, x5, x6, x7⟩ := HC.out _ B2.out) | (rw [if_pos (by rfl)]; refine wp_mcat (.tmp 12) (.tmp 18) (by rfl) (cx := cap) (base := w.heap.size) OW0.out R0.out HSZ.out.2 (by simp [Act.eval, Act.put]) (by simp [Act.eval, Act.put]) B0.out.size ?_; intro b8 n8 m8 w8 H8; have B1 := hide_it (B0.out.grown H8.out.2.2 B0.out.size (fun q hq => (OW0.out.lt q hq).1)); obtain ⟨y4, y5, y6, y7⟩ := HC.out _ B1.out)))
      all_goals
        go_wp2
        go_meet
        have e8 := H8.out.1
        subst e8
        obtain ⟨rfl, hsv⟩ := HV.out _ _ _ _ B2.out H9.out.1 H9.out.2.1
        exact ⟨b9, n9, w9, hsv, B2.out, rfl⟩
    case rest =>
      obtain ⟨ao, c, W, HW⟩ := hcut
      obtain ⟨hsv, hbw, rfl⟩ := HW.out
      obtain ⟨z1, z2, z3, z4⟩ := HC.out W hbw
      have HS2 := hide_it hsv
      clear HV HC B0 B00 OW0 R0 RA c2 f2 f3 c3 c2d f2d f3d c3d cB fB fB3 cB3 HW hsv hbw hA HSZ HEQ hwr hwr2
      by_cases hik : i < k
      · obtain ⟨k', hk'⟩ : ∃ k', k - 1 = k' := ⟨_, rfl⟩
        have hik2 : decide ((i : Int) < (k : Int)) = true := by simp; omega
        have bk : -1000000000000 ≤ (k : Int) - 1 ∧ (k : Int) - 1 ≤ 1000000000000 := by omega
        have ek : (k : Int) - 1 = (k' : Int) := by omega
        by_cases hz : k' = n1
        · have eK : (if (if i < k then k - 1 else k) = n1 then 0 else (if i < k then k - 1 else k)) = 0 := by rw [if_pos hik, hk', if_pos hz]
          have hz2 : decide ((n1 : Int) ≤ (k' : Int)) = true := by simp; omega
          have hz3 : decide (n1 ≤ k') = true := by simp; omega
          have hw := (wr_int2 bk).1.trans ek
          have hw2 := (wr_int2 bk).2.trans ek
          obtain ⟨K, hK⟩ : ∃ K : Int, (k : Int) = K := ⟨_, rfl⟩
          rw [hK] at hw hw2 z4 hik2
          clear hz hik ek bk hk' hkk hs1 hkn hi hjn hjn2 hs s0
          go_wp2_with (go_big_quiet (fail))
          go_ret
          refine ⟨rfl, ?_⟩
          try rw [eK]
          exact (((HS2.out.setK k').below (below_drewN (Below.refl _ _) _)).setK 0).st
        · have eK : (if (if i < k then k - 1 else k) = n1 then 0 else (if i < k then k - 1 else k)) = k' := by rw [if_pos hik, hk', if_neg hz]
          have hz2 : decide ((n1 : Int) ≤ (k' : Int)) = false := by simp; omega
          have hz3 : decide (n1 ≤ k') = false := by simp; omega
          have hw := (wr_int2 bk).1.trans ek
          have hw2 := (wr_int2 bk).2.trans ek
          obtain ⟨K, hK⟩ : ∃ K : Int, (k : Int) = K := ⟨_, rfl⟩
          rw [hK] at hw hw2 z4 hik2
          clear hz hik ek bk hk' hkk hs1 hkn hi hjn hjn2 hs s0
          go_wp2_with (go_big_quiet (fail))
          go_ret
          refine ⟨rfl, ?_⟩
          try rw [eK]
          exact ((HS2.out.setK k').below (below_drewN (Below.refl _ _) _)).st
      · have hik2 : decide ((i : Int) < (k : Int)) = false := by simp; omega
        by_cases hz : k = n1
        · have eK : (if (if i < k then k - 1 else k) = n1 then 0 else (if i < k then k - 1 else k)) = 0 := by rw [if_neg hik, if_pos hz]
          have hz2 : decide ((n1 : Int) ≤ (k : Int)) = true := by simp; omega
          obtain ⟨K, hK⟩ : ∃ K : Int, (k : Int) = K := ⟨_, rfl⟩
          rw [hK] at z4 hik2 hz2
          clear hz hik hkk hs1 hkn hi hjn hjn2 hs s0
          go_wp2_with (go_big_quiet (fail))
          go_ret
          refine ⟨rfl, ?_⟩
          try rw [eK]
          exact ((HS2.out.below (below_drewN (Below.refl _ _) _)).setK 0).st
        · have eK : (if (if i < k then k - 1 else k) = n1 then 0 else (if i < k then k - 1 else k)) = k := by rw [if_neg hik, if_neg hz]
          have hz2 : decide ((n1 : Int) ≤ (k : Int)) = false := by simp; omega
          obtain ⟨K, hK⟩ : ∃ K : Int, (k : Int) = K := ⟨_, rfl⟩
          rw [hK] at z4 hik2 hz2
          clear hz hik hkk hs1 hkn hi hjn hjn2 hs s0
          go_wp2_with (go_big_quiet (fail))
          go_ret
          refine ⟨rfl, ?_⟩
          try rw [eK]
          exact (HS2.out.below (below_drewN (Below.refl _ _) _)).st
  · rw [if_neg hp, if_neg hp]
    have hd : decide (plc x id < 0) = true := by simp; omega
    clear hp h
    generalize plc x id = z at *
    go_enter Try.func16, Try.ntmps16
    go_wp2_with (go_at_call 21; refine k1.mono ?_; rintro e w1 ⟨rfl, e9⟩; have e8 := e9.symm; clear e9; subst e8)
    go_ret
    exact ⟨rfl, s0⟩
end Go.Proofs.Ytlhkahincnchjaa
