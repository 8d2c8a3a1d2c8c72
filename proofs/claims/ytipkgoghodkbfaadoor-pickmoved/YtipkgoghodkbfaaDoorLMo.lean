/- PickMoved: the walk. -/
import Derived.Test.YtipkgoghodkbfaaDoorSho
import Derived.Test.YtipkgoghodkbfaaDoorMth
namespace Go.Proofs.YtipkgoghodkbfaaDoor
open Go.RowKit
open M
set_option linter.unusedVariables false
set_option linter.unusedSimpArgs false

theorem i64_and16 (n : Int) : bits .and .i64 n 65535 = n % 65536 := by
  have h : (BitVec.ofInt 64 65535).toNat = 2 ^ 16 - 1 := by decide
  have key : (BitVec.ofInt 64 n &&& BitVec.ofInt 64 65535).toNat = (n % ((2 ^ 64 : Nat) : Int)).toNat % 2 ^ 16 := by
    rw [BitVec.toNat_and, BitVec.toNat_ofInt, h, Nat.and_two_pow_sub_one_eq_mod]
  show IntKind.i64.wrap ((BitVec.ofInt 64 n &&& BitVec.ofInt 64 65535).toNat : Nat) = n % 65536
  rw [key, IntKind.wrap_i64]
  omega
theorem i64_and10 (n : Int) : bits .and .i64 n 1023 = n % 1024 := by
  have h : (BitVec.ofInt 64 1023).toNat = 2 ^ 10 - 1 := by decide
  have key : (BitVec.ofInt 64 n &&& BitVec.ofInt 64 1023).toNat = (n % ((2 ^ 64 : Nat) : Int)).toNat % 2 ^ 10 := by
    rw [BitVec.toNat_and, BitVec.toNat_ofInt, h, Nat.and_two_pow_sub_one_eq_mod]
  show IntKind.i64.wrap ((BitVec.ofInt 64 n &&& BitVec.ofInt 64 1023).toNat : Nat) = n % 1024
  rw [key, IntKind.wrap_i64]
  omega

/-- Two rows of numbers that grow. -/
structure RZ (B : Nat) (W0 W : World) (u v : Value) (U O : List Int) : Prop where
  bel : Below B W0 W
  le : B ≤ W.heap.size
  o1 : OwnZ W B u U
  o2 : OwnZ W B v O
  ap : ∀ k, u.ownBlock = some k → v.ownBlock ≠ some k
section
variable {B : Nat} {W0 W W' Wa w2 : World} {u v u' v' : Value} {U O : List Int}
theorem RZ.step (h : RZ B W0 W u v U O) (hb : Below W.heap.size W W') : RZ B W0 W' u v U O :=
  ⟨h.bel.trans (hb.mono h.le), Nat.le_trans h.le hb.size, owns_below h.o1 hb, owns_below h.o2 hb, h.ap⟩
theorem RZ.put1 (h : RZ B W0 W u v U O) (hb : Below W.heap.size W Wa) {x : Int} (hown : w2.ownsRow B 3 1 u' (U.length + 1) (U.map (fun x => Value.int .i64 x) ++ [.int .i64 x])) (hg : Wa.grownBy w2 u.ownBlock) (hf : Fresh Wa u u') :
    RZ B W0 w2 u' v (U ++ [x]) O := by
  have hs := hb.size
  have hv : ∀ k, v.ownBlock = some k → k < W.heap.size := fun k hk => (h.o2.lt k hk).2
  refine ⟨(h.bel.trans (hb.mono h.le)).grown hg (Nat.le_trans h.le hs) (fun k hk => (h.o1.lt k hk).1), Nat.le_trans h.le (Nat.le_trans hs hg.size), ownz_snoc hown, ?_, ?_⟩
  · refine owns_keep h.o2 (fun k hk => ?_)
    rw [hg.block k (Nat.lt_of_lt_of_le (hv k hk) hs) (fun e => h.ap k e.symm hk), hb.block k (hv k hk)]
  · intro k hk hk2
    rcases hf with q | ⟨j, q1, q2⟩
    · exact h.ap k (by rw [← q]; exact hk) hk2
    · rw [q1] at hk; cases hk; have := hv _ hk2; omega
theorem RZ.put2 (h : RZ B W0 W u v U O) (hb : Below W.heap.size W Wa) {x : Int} (hown : w2.ownsRow B 3 1 v' (O.length + 1) (O.map (fun x => Value.int .i64 x) ++ [.int .i64 x])) (hg : Wa.grownBy w2 v.ownBlock) (hf : Fresh Wa v v') :
    RZ B W0 w2 u v' U (O ++ [x]) := by
  have hs := hb.size
  have hv : ∀ k, u.ownBlock = some k → k < W.heap.size := fun k hk => (h.o1.lt k hk).2
  refine ⟨(h.bel.trans (hb.mono h.le)).grown hg (Nat.le_trans h.le hs) (fun k hk => (h.o2.lt k hk).1), Nat.le_trans h.le (Nat.le_trans hs hg.size), ?_, ownz_snoc hown, ?_⟩
  · refine owns_keep h.o1 (fun k hk => ?_)
    rw [hg.block k (Nat.lt_of_lt_of_le (hv k hk) hs) (fun e => h.ap k hk e.symm), hb.block k (hv k hk)]
  · intro k hk hk2
    rcases hf with q | ⟨j, q1, q2⟩
    · exact h.ap k hk (by rw [← q]; exact hk2)
    · rw [q1] at hk2; cases hk2; have := hv _ hk; omega
end
def lowF (y : Int) : Int := (bits .and .i64 y 65535).tmod 1001
theorem lowF_b (y : Int) : 0 ≤ lowF y ∧ lowF y ≤ 1000 := by
  unfold lowF
  rw [i64_and16, Int.tmod_eq_emod_of_nonneg (by omega)]
  omega
theorem map_snoc (f : Int → Int) (ys : List Int) (k : Nat) (h : k < ys.length) : (ys.take (k + 1)).map f = (ys.take k).map f ++ [f ys[k]] := by
  rw [List.take_succ_eq_append_getElem h, List.map_append]
  rfl

set_option maxRecDepth 1000000 in
set_option maxHeartbeats 8000000 in
theorem moved_core (xs0 ys : List Int) (sa ya : Option Addr) (sc yc : Nat) (b0 : Int) (W : World) (hT : Tab W) (h0 : 0 < W.heap.size) (hx : NIn W sa xs0) (hxm : xs0.length ≤ maxLen) (hxc : xs0.length ≤ sc) (hy : NIn W ya ys) (hym : ys.length ≤ maxLen) :
    Calls Tryd.prog 7 #[.slice sa xs0.length sc, .slice ya ys.length yc, .int .i64 b0] W fun e w' => e = .returned (.bool true) ∧ Below W.heap.size W w' := by
  unfold maxLen at hxm hym
  have ks := shown_any W hT h0
  obtain ⟨m0, hm0⟩ : ∃ m, xs0.length = m := ⟨_, rfl⟩
  obtain ⟨n, hn⟩ : ∃ n, ys.length = n := ⟨_, rfl⟩
  rw [hm0] at hxm hxc ⊢
  rw [hn] at hym ⊢
  obtain ⟨m, hm⟩ : ∃ m : Nat, min m0 60 = m := ⟨_, rfl⟩
  have hmin : min (m0 : Int) 60 = (m : Int) := by omega
  have hmm : m ≤ m0 := by omega
  have hm60 : m ≤ 60 := by omega
  obtain ⟨xs, hxs⟩ : ∃ xs, xs0.take 60 = xs := ⟨_, rfl⟩
  have hxl : xs.length = m := by rw [← hxs, List.length_take]; omega
  have hx2 : NIn W sa xs := by rw [← hxs]; exact hx.take 60
  obtain ⟨d, hd⟩ : ∃ d, bits .and .i64 b0 1023 = d := ⟨_, rfl⟩
  have hdb : 0 ≤ d ∧ d < 1024 := by rw [← hd, i64_and10]; omega
  have HX := hide_it hx2
  have HXL := hide_it hxl
  have HY := hide_it hy
  have HN := hide_it hn
  have HT := hide_it hT
  obtain ⟨i0, hi0, hz0, hz1, hz2⟩ := info_parts info3
  clear hx hx2 hy hT hm0 hn hm hxs hxl
  go_enter Tryd.func7, Tryd.ntmps7
  go_upto_region 4 with (go_at_call 8; refine ks.mono ?_; rintro e w1 ⟨rfl, b1⟩; refine Hid.out ?_)
  refine hide_it ?_
  go_upto_region 4 with fail
  have s0 : Hid (RZ w1.heap.size w1 w1 (.slice none 0 0) (.slice none 0 0) ((ys.take 0).map lowF) (((ys.take 0).map lowF).map (upI d))) :=
    ⟨Below.refl _ _, Nat.le_refl _, ownz_nil _ _, ownz_nil _ _, fun k hk => by simp [Value.ownBlock] at hk⟩
  have B1 := hide_it b1
  clear b1 ks hd
  go_wp2
  go_loopw [8, 9, 10] (fun u v i W' => ∃ k : Nat, k ≤ n ∧ k ≤ 60 ∧ i = .int .i64 k ∧ Hid (RZ w1.heap.size w1 W' u v ((ys.take k).map lowF) (((ys.take k).map lowF).map (upI d)))) (fun _ _ i _ => n - (intOf i).toNat)
  case atStart => exact ⟨0, Nat.zero_le _, by omega, rfl, s0⟩
  case round =>
    obtain ⟨k, hk, hk60, rfl, s4⟩ := hrel
    obtain ⟨w4, rfl⟩ : ∃ W, W = wr := ⟨_, rfl⟩
    clear s0
    by_cases hlt : k < n ∧ k < 60
    · obtain ⟨hlt, hlt2⟩ := hlt
      have q2 : decide ((k : Int) < 60) = true := by simp; omega
      have hyk : k < ys.length := by rw [HN.out]; exact hlt
      obtain ⟨yb, yo, rfl, hyb, cY⟩ := (HY.out.below (B1.out.trans (s4.out.bel.mono B1.out.size)) (Nat.le_refl _)) k hyk
      have HS := hide_it (map_snoc lowF ys k hyk)
      have hll : ((ys.take k).map lowF).length ≤ 60 := by rw [List.length_map, List.length_take]; omega
      have hlb := lowF_b ys[k]
      obtain ⟨p, hp⟩ : ∃ p, lowF ys[k] = p := ⟨_, rfl⟩
      rw [hp] at HS hlb
      unfold lowF at hp
      generalize ys[k] = y at *
      obtain ⟨A, hA⟩ : ∃ A, bits .and .i64 y 65535 = A := ⟨_, rfl⟩
      rw [hA] at hp
      obtain ⟨p2, hp2⟩ : ∃ q, 2 * p = q := ⟨_, rfl⟩
      have e2 : wrap64 (2 * p) = p2 := by unfold wrap64; omega
      have e2' : IntKind.i64.wrap (2 * p) = p2 := by rw [IntKind.wrap_i64]; omega
      obtain ⟨h, hh⟩ : ∃ h, p2 + d = h := ⟨_, rfl⟩
      have e3 : wrap64 (p2 + d) = h := by unfold wrap64; omega
      have e3' : IntKind.i64.wrap (p2 + d) = h := by rw [IntKind.wrap_i64]; omega
      have HH : Hid (upI d p = h) := by unfold Hid upI; omega
      have HL : Hid (((ys.take (k + 1)).map lowF) = (ys.take k).map lowF ++ [p] ∧ ((ys.take (k + 1)).map lowF).map (upI d) = ((ys.take k).map lowF).map (upI d) ++ [h]) := by
        refine ⟨HS.out, ?_⟩
        rw [HS.out, List.map_append, ← HH.out]
        rfl
      clear hp2 hh HS HH
      have hll2 : (((ys.take k).map lowF).map (upI d)).length ≤ 60 := by rw [List.length_map]; exact hll
      generalize ((ys.take k).map lowF).map (upI d) = O at *
      generalize (ys.take k).map lowF = U at *
      have hsz := s4.out.le
      have o1 := hide_it s4.out.o1
      go_upto_region 11 with (at_builtin; (refine wpList_append_tell _ rfl (.tmp 40) (.tmp 42) 22 rfl w1.heap.size 3 i0 _ 1 8 Tryd.underlying22 hi0 hz0 hz1 hz2 rfl (by decide) _ U.length (U.map fun x => Value.int .i64 x) rfl (o1.out.alloc _) ⟨_, 0, none⟩ 1 1 [.int .i64 p] rfl rfl (World.news_of_block (heap_alloc_at rfl _)) (by simp [Value.oneCell']) (by unfold maxLen; omega) (by omega) (by simp; omega) ?_; intro v' w5 hown' hgrow hfr; have s5 := hide_it (s4.out.put1 ((Below.refl _ _).alloc (Nat.le_refl _) _) hown' hgrow hfr)))
      have o2 := hide_it s5.out.o2
      have hsz5 := s5.out.le
      clear s4 o1 hown' hgrow hfr
      go_wp2_with (at_builtin; (refine wpList_append_tell _ rfl (.tmp 44) (.tmp 49) 22 rfl w1.heap.size 3 i0 _ 1 8 Tryd.underlying22 hi0 hz0 hz1 hz2 rfl (by decide) _ O.length (O.map fun x => Value.int .i64 x) rfl (o2.out.alloc _) ⟨_, 0, none⟩ 1 1 [.int .i64 h] rfl rfl (World.news_of_block (heap_alloc_at rfl _)) (by simp [Value.oneCell']) (by unfold maxLen; omega) (by omega) (by simp; omega) ?_; intro v8 w8 hown8 hgrow8 hfr8; have s8 := hide_it (s5.out.put2 ((Below.refl _ _).alloc (Nat.le_refl _) _) hown8 hgrow8 hfr8)))
      go_roundw
      case rel => exact ⟨k + 1, by omega, by omega, by go_num, by unfold Hid; rw [HL.out.2, HL.out.1]; exact s8.out⟩
      case measure => simp [intOf]; omega
    · have hU0 : ∀ y ∈ (ys.take k).map lowF, 0 ≤ y ∧ y ≤ 1000 := fun y hy => by
        obtain ⟨z, _, rfl⟩ := List.mem_map.1 hy
        exact lowF_b z
      have hUl : ((ys.take k).map lowF).length = k := by rw [List.length_map, List.length_take, HN.out]; omega
      have hOl : (((ys.take k).map lowF).map (upI d)).length = k := by rw [List.length_map, hUl]
      obtain ⟨la, lc, rfl, hl⟩ := own_nin s4.out.o1
      obtain ⟨ha, hc, rfl, hh⟩ := own_nin s4.out.o2
      rw [hUl, hOl]
      have kx := ((((KX.start HT.out h0).step (B1.out.trans (s4.out.bel.mono B1.out.size))).argx HX.out).addx hl).addx hh
      clear s4 hl hh
      obtain ⟨⟨P, L⟩, hB1⟩ : ∃ r, bestA xs ((ys.take k).map lowF) = r := ⟨_, rfl⟩
      obtain ⟨⟨Q, M⟩, hB2⟩ : ∃ r, bestA xs (((ys.take k).map lowF).map (upI d)) = r := ⟨_, rfl⟩
      obtain ⟨rfl, hcase⟩ := bestA_up hdb.1 (fun y hy => (hU0 y hy).1) hB1 hB2
      have hBI := bestA_inv hB1
      have hll := hBI.rng
      have hll2 : L.length ≤ 60 := by
        have := bestK_len xs ((ys.take k).map lowF) (min xs.length ((ys.take k).map lowF).length)
        unfold bestA at hB1
        rw [hB1] at this
        simp only at this
        have := HXL.out
        omega
      obtain ⟨l, hl⟩ : ∃ l, L.length = l := ⟨_, rfl⟩
      have kb1 := kx.best sc lc (List.mem_cons_of_mem _ (List.mem_cons_of_mem _ (List.mem_cons_self ..))) (List.mem_cons_of_mem _ (List.mem_cons_self ..)) HXL.out hUl (by omega) (by omega) P L l hB1 hl
      generalize hOO : ((ys.take k).map lowF).map (upI d) = O at *
      generalize hUU : (ys.take k).map lowF = U at *
      have kb2 : ∀ w5 a5, KX W w5 [] [] [(a5, L), (ha, O), (la, U), (sa, xs)] [] → Calls Tryd.prog 13 #[.slice sa m sc, .slice ha k hc] w5 fun e w' => ∃ ao cap, e = .returned (.tuple #[.int .i64 Q, .slice ao l cap]) ∧ Hid (KX W w' [] [] [(ao, L), (a5, L), (ha, O), (la, U), (sa, xs)] []) := fun w5 a5 h =>
        h.best sc hc (List.mem_cons_of_mem _ (List.mem_cons_of_mem _ (List.mem_cons_of_mem _ (List.mem_cons_self ..)))) (List.mem_cons_of_mem _ (List.mem_cons_self ..)) HXL.out hOl (by omega) (by omega) Q L l hB2 hl
      have ke : ∀ w6 a5 a6 c5 c6, KX W w6 [] [] [(a6, L), (a5, L), (ha, O), (la, U), (sa, xs)] [] → Calls Tryd.prog 19 #[.slice a5 l c5, .slice a6 l c6] w6 fun e w' => e = .returned (.bool true) ∧ Hid (KX W w' [] [] [(a6, L), (a5, L), (ha, O), (la, U), (sa, xs)] []) := fun w6 a5 a6 c5 c6 h =>
        h.eqs c5 c6 (List.mem_cons_of_mem _ (List.mem_cons_self ..)) (List.mem_cons_self ..) hl hl (by omega) true (by simp)
      have HH : Hid ((L = [] ∧ P = -1 ∧ Q = -1) ∨ ∃ t0 P2 : Int, ∃ t : Nat, L ≠ [] ∧ 0 < l ∧ wrap64 (2 * P) = P2 ∧ IntKind.i64.wrap (2 * P) = P2 ∧ wrap64 (P2 + d) = Q ∧ IntKind.i64.wrap (P2 + d) = Q ∧ L[0]? = some (t : Int) ∧ t < m ∧ xs[t]? = some 1) := by
        rcases hcase with h | ⟨h1, h2, h3⟩
        · exact .inl h
        · right
          have hl0 : 0 < L.length := hBI.len.2 h2
          obtain ⟨x0, x1⟩ := hBI.rng L[0] (List.getElem_mem hl0)
          obtain ⟨t, ht⟩ : ∃ t : Nat, L[0] = t := ⟨L[0].toNat, by omega⟩
          have htx : t < xs.length := by omega
          have htU : t < U.length := by omega
          have hm := (hBI.mem t htx htU (by omega)).1 (by rw [← ht]; exact List.getElem_mem hl0)
          have hPb := (hU0 U[t] (List.getElem_mem htU)).2
          rw [hm.2.2] at hPb
          unfold upI at h3
          refine ⟨0, 2 * P, t, h1, by omega, by unfold wrap64; omega, by rw [IntKind.wrap_i64]; omega, by unfold wrap64; omega, by rw [IntKind.wrap_i64]; omega, by rw [List.getElem?_eq_getElem hl0, ht], by have := HXL.out; omega, by rw [List.getElem?_eq_getElem htx, hm.1]⟩
      have kx' := hide_it kx
      clear kx hcase hBI hll hB1 hB2 hU0 hUl hOl hOO hUU hdb HT HY HN HXL
      have hor : (k < n ∧ ¬ k < 60 ∧ decide ((k : Int) < n) = true ∧ decide ((k : Int) < 60) = false) ∨ (¬ k < n ∧ decide ((k : Int) < n) = false) := by
        by_cases h1 : k < n
        · exact .inl ⟨h1, by omega, by simp; omega, by simp; omega⟩
        · exact .inr ⟨h1, by simp; omega⟩
      clear hlt
      rcases hor with ⟨g1, g2, q1, q2⟩ | ⟨g1, q1⟩
      all_goals
        go_upto_region 13 with (go_at_call 13; refine kb1.mono ?_; rintro e w5 ⟨a5, c5, rfl, s5⟩; refine Hid.out ?_)
        refine hide_it ?_
        go_upto_region 14 with (go_at_call 13; refine (kb2 _ _ s5.out).mono ?_; rintro e w6 ⟨a6, c6, rfl, s6⟩; refine Hid.out ?_)
        refine hide_it ?_
        clear kb1 kb2 s5 q1
        rcases HH.out with ⟨rfl, rfl, rfl⟩ | ⟨t0, P2, t, hne, hl0, e1, e1', e2, e2', f1, ht, f2⟩
        · obtain rfl : 0 = l := hl
          · as_aux_lemma =>
            go_wp2_with (go_at_call 19; refine (ke _ _ _ _ _ s6.out).mono ?_; rintro e w7 ⟨rfl, s7⟩)
            go_ret
            exact ⟨rfl, s7.out.bel⟩
        · have hl1 : ((l : Int) == 0) = false := by rw [beq_eq_false_iff_ne]; omega
          have hl2 : ¬ (l = 0) := by omega
          have hl3 : decide ((0 : Int) < l) = true := by simp; omega
          have hQ : (Q == Q) = true := by simp
          obtain ⟨f1l, f1e⟩ := List.getElem?_eq_some_iff.1 f1
          obtain ⟨f2l, f2e⟩ := List.getElem?_eq_some_iff.1 f2
          clear hl
          · as_aux_lemma =>
            go_wp2_with (go_at_call 19; refine (ke _ _ _ _ _ s6.out).mono ?_; rintro e w7 ⟨rfl, s7⟩; refine Hid.out ?_)
            refine hide_it ?_
            obtain ⟨ab, ao, rfl, hab, cA⟩ := (s7.out.row (List.mem_cons_of_mem _ (List.mem_cons_self ..))) 0 f1l
            obtain ⟨xb, xo, rfl, hxb, cX⟩ := (s7.out.row (List.mem_cons_of_mem _ (List.mem_cons_of_mem _ (List.mem_cons_of_mem _ (List.mem_cons_of_mem _ (List.mem_cons_self ..)))))) t f2l
            rw [f1e] at cA
            rw [f2e] at cX
            rw [Nat.add_zero] at cA
            go_wp2
            go_ret
            exact ⟨rfl, s7.out.bel⟩
end Go.Proofs.YtipkgoghodkbfaaDoor
