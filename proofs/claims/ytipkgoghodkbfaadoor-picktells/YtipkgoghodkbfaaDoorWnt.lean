/- Wants. -/
import Derived.Test.YtipkgoghodkbfaaDoorIdx
import Derived.Test.YtipkgoghodkbfaaDoorTwo
import Derived.Deep.RegionHeld3
namespace Go.Proofs.YtipkgoghodkbfaaDoor
open Go.RowKit
open M
set_option linter.unusedVariables false
set_option linter.unusedSimpArgs false

theorem info46 : (Tryd.prog.info? 46).map (fun i => (i.zero, i.size, i.bytes)) = some (some (.agg #[.int .i64 0, .int .i64 0]), 2, 16) := by kernel_rfl

set_option maxRecDepth 1000000 in
set_option maxHeartbeats 4000000 in
theorem wants_any {w : World} {g eb N : Nat} {v : Value} {es : List E} (h : GM w g eb N v es) (hT : Tab w) (h0 : 0 < w.heap.size) {ta aa ia ra : Option Addr} {xs ids roots : List Int} {A : List (Int × Int)} {m tc n ac p ic q rc : Nat}
    (hx : NIn w ta xs) (hm : xs.length = m) (hm6 : m ≤ 1000000) (hA : LIn w aa A) (hn : A.length = n) (hi : NIn w ia ids) (hp : ids.length = p) (hp6 : p ≤ 1000000) (hr : NIn w ra roots) (hq : roots.length = q) (hq6 : q ≤ 1000000) :
    Calls Tryd.prog 17 #[ptr g, .slice ta m tc, .slice aa n ac, .slice ia p ic, .slice ra q rc] w fun e w' => ∃ u v, e = .returned (.tuple #[u, v]) ∧ Hid (R2 46 w.heap.size w w' u v (wantK N es xs A ids roots (min p q)).1 (wantK N es xs A ids roots (min p q)).2) := by
  have hmf : ∀ (fn : Fn) (first cap : Array Value) (w : World), (Instr.makeFunc fn first cap).run Tryd.prog w = .ok (.func fn first cap) w := fun _ _ _ _ => rfl
  have hN := h.hn
  obtain ⟨W2, hW2⟩ : ∃ W2, ((w.alloc (.cells #[ptr g] 26)).alloc (.cells #[.slice ra q rc] 22)).setCell ⟨w.heap.size, 0, none⟩ (ptr g) = W2 := ⟨_, rfl⟩
  have b2 : Below w.heap.size w W2 := by rw [← hW2]; exact ((((Below.refl _ _).alloc (Nat.le_refl _) _).alloc (by simp) _).setCell (Nat.le_refl _) _)
  have hs2 : W2.heap.size = w.heap.size + 2 := by rw [← hW2]; simp
  have e0 : ((w.alloc (.cells #[ptr g] 26)).alloc (.cells #[.slice ra q rc] 22)).heap[w.heap.size]? = some (.cells #[ptr g] 26) := by
    rw [Below.heap_alloc _ _ _ (by simp)]
    exact heap_alloc_at rfl _
  have z1 : W2.cell? ⟨w.heap.size, 0, none⟩ = some (ptr g) := by
    rw [cell_of_row W2 _ 0 _ _ _ (by rw [← hW2]; exact heap_setCell_at e0 _)]
    rfl
  have z2 : W2.cell? ⟨w.heap.size + 1, 0, none⟩ = some (.slice ra q rc) := by
    rw [World.cell?_of_block (w := (w.alloc (.cells #[ptr g] 26)).alloc (.cells #[.slice ra q rc] 22)) (by rw [← hW2]; exact Below.heap_setCell _ _ _ _ (by simp))]
    simp
  clear e0
  obtain ⟨nn, hnn⟩ : ∃ nn : Nat, min n N = nn := ⟨_, rfl⟩
  have hmin : min (n : Int) (N : Int) = (nn : Int) := by omega
  have kS := pick_some g
  have kN : ∀ W, Below w.heap.size w W → Calls Tryd.prog 32 #[ptr g] W fun e w' => e = .returned (.int .i64 N) ∧ w' = W := fun W hb => n_any g eb N W hN (h.below hb).c1
  have kF := firsts_any (tc := tc) nn (hx.below b2 (Nat.le_refl _)) hm hm6
  have kN2 := kN W2 b2
  go_enter Tryd.func17, Tryd.ntmps17
  go_upto_region 2 with (go_at_call 30; refine (kS _).mono ?_; rintro e w1 ⟨rfl, hw1⟩; rw [hw1]; clear hw1 w1)
  clear hW2
  go_upto_region 3 with (first | (go_at_call 32; refine kN2.mono ?_; rintro e w3 ⟨rfl, hw3⟩; rw [hw3]; clear hw3 w3) | (go_at_call 31; refine kF.mono ?_; rintro e w3 ⟨u3, rfl, t3⟩))
  obtain ⟨fa, fc, rfl, HFr⟩ := own_nin t3.out.1
  have B3 := hide_it (b2.trans (t3.out.2.mono b2.size))
  have y1 : w3.cell? ⟨w.heap.size, 0, none⟩ = some (ptr g) := by rw [t3.out.2.cell (p := ⟨w.heap.size, 0, none⟩) (show w.heap.size < W2.heap.size by omega)]; exact z1
  have y2 : w3.cell? ⟨w.heap.size + 1, 0, none⟩ = some (.slice ra q rc) := by rw [t3.out.2.cell (p := ⟨w.heap.size + 1, 0, none⟩) (show w.heap.size + 1 < W2.heap.size by omega)]; exact z2
  have hc3 : w.heap.size + 2 ≤ w3.heap.size := by have := t3.out.2.size; omega
  obtain ⟨c1, hc1⟩ : ∃ c, w.heap.size = c := ⟨_, rfl⟩
  obtain ⟨F, hF⟩ : ∃ F, onceK nn xs xs.length = F := ⟨_, rfl⟩
  rw [hF] at HFr
  rw [hF]
  obtain ⟨fl, hfl⟩ : ∃ fl, F.length = fl := ⟨_, rfl⟩
  have hfl6 : fl ≤ 1000000 := by rw [← hfl, ← hF]; exact Nat.le_trans (onceK_len nn xs _) (by omega)
  rw [hfl]
  have HFL := hide_it hfl
  have HRr := hide_it (hr.below B3.out (Nat.le_refl _))
  have HIr := hide_it (hi.below B3.out (Nat.le_refl _))
  have HAr := hide_it (hA.below B3.out (Nat.le_refl _))
  have HX : Hid (∀ (Wc : World) (k c3 : Nat) (hk : k < roots.length), Below w3.heap.size w3 Wc → Wc.cell? ⟨c3, 0, none⟩ = some (.int .i64 k) → Calls Tryd.prog 33 #[.slice fa fl fc, .func (.func 34) #[] #[ptr c1, ptr (c1 + 1), ptr c3]] Wc fun e w' => ∃ z : Int, e = .returned (.int .i64 z) ∧ Hid (((z = -1 ∧ fstK N es n xs roots[k] xs.length < 0) ∨ ∃ t fi : Nat, z = t ∧ fstK N es n xs roots[k] xs.length = fi ∧ fi < n ∧ ∃ h : t < F.length, F[t] = (fi : Int)) ∧ Below Wc.heap.size Wc w')) := by
    subst hc1
    intro Wc k c3 hk hb hc
    obtain ⟨rb, ro, rfl, hrb, cr⟩ := HRr.out k hk
    have hc3l := World.block_lt_of_cell? Wc _ hc
    have hof := once_fst N es n xs roots[k]
    rw [hnn, hF] at hof
    have hB3w : w.heap.size ≤ w3.heap.size := B3.out.size
    refine (idxw_any (p := fun x => reachB N es roots[k] x) hfl hfl6 (HFr.below hb (Nat.le_refl _)) (fun W x hxm hbW => ?_)).mono ?_
    · have hW3 := hb.trans (hbW.mono hb.size)
      refine reachw_any (ra := none) (rc := rc) (h.below (B3.out.trans (hW3.mono hB3w))) (tab_below hT h0 (B3.out.trans (hW3.mono hB3w))) (Nat.lt_of_lt_of_le h0 (B3.out.trans (hW3.mono hB3w)).size) x ?_ ?_ (by rw [hbW.cell (p := ⟨c3, 0, none⟩) hc3l]; exact hc) (show k < q by omega) (by rw [hW3.cell (p := ⟨rb, ro + k, none⟩) hrb]; exact cr)
      · rw [hW3.cell (p := ⟨w.heap.size, 0, none⟩) (show w.heap.size < w3.heap.size by omega)]; exact y1
      · rw [hW3.cell (p := ⟨w.heap.size + 1, 0, none⟩) (show w.heap.size + 1 < w3.heap.size by omega)]; exact y2
    · rintro e w' ⟨⟨z, rfl, HZ⟩, hbw⟩
      refine ⟨z, rfl, ?_, hbw.out⟩
      rcases HZ.out with ⟨rfl, hf⟩ | ⟨t, rfl, ht, hf⟩
      · rw [hf] at hof
        exact .inl ⟨rfl, by rw [← hof]; decide⟩
      · rw [hf] at hof
        simp only [Option.getD_some] at hof
        have hpl := plB_iff.1 (onceK_mem nn xs xs.length F[t] (by rw [hF]; exact List.getElem_mem ht))
        exact .inr ⟨t, F[t].toNat, rfl, by rw [← hof]; omega, by omega, ht, by omega⟩
  have HS : Hid (∀ k (h1 : k < ids.length) (h2 : k < roots.length) (f : Int), fstK N es n xs roots[k] xs.length = f → wantK N es xs A ids roots (k + 1) = if f < 0 then wantK N es xs A ids roots k else ((wantK N es xs A ids roots k).1 ++ [(ids[k], (A.getD f.toNat (0, 0)).2)], (wantK N es xs A ids roots k).2 ++ [f])) := fun k h1 h2 f hf => wantK_step N es xs A ids roots k h1 h2 f (by rw [hn]; exact hf)
  have HL := hide_it (wantK_len N es xs A ids roots)
  obtain ⟨WK, hWK⟩ : ∃ f, wantK N es xs A ids roots = f := ⟨_, rfl⟩
  have H0 : Hid (WK 0 = ([], [])) := by unfold Hid; rw [← hWK]; rfl
  have HWK := hide_it hWK
  rw [hWK] at HS HL
  have s0 := hide_it (R2.start w3 46)
  have HFh := hide_it HFr
  have HP := hide_it hp
  have HQ := hide_it hq
  have HNl := hide_it hn
  obtain ⟨z, hz⟩ : ∃ z : Nat, min p q = z := ⟨_, rfl⟩
  have hmin2 : min (p : Int) (q : Int) = (z : Int) := by omega
  have hzp : z ≤ p := by omega
  have hzq : z ≤ q := by omega
  have hend : Hid (∀ W u v U O, R2 46 w3.heap.size w3 W u v U O → R2 46 w.heap.size w W u v U O) := fun W u v U O r => by
    have := B3.out.size
    exact ⟨B3.out.trans (r.bel.mono this), Nat.le_trans this r.le, owns_base r.o1 (fun k hk => Nat.le_trans this (r.o1.lt k hk).1), owns_base r.o2 (fun k hk => Nat.le_trans this (r.o2.lt k hk).1), r.ap⟩
  have HZ := hide_it hz
  obtain ⟨i0, hi0, hz0, hz1', hz2'⟩ := info_parts info3
  obtain ⟨i4, hi4, hy0, hy1, hy2⟩ := info_parts info46
  rw [hc1] at y2 ⊢
  clear h hT h0 hx hm hA hi hp hr hq hn hF hWK hfl hz hc1 hc3 y1 z1 z2 b2 hs2 kF kN kN2 kS t3 HFr B3 hnn
  go_wp2
  go_loopw [12, 13, 31] (fun u v i W => ∃ k : Nat, k ≤ z ∧ i = .int .i64 k ∧ ∃ (U : List (Int × Int)) (O : List Int), Hid (WK k = (U, O)) ∧ Hid (R2 46 w3.heap.size w3 W u v U O)) (fun _ _ i _ => z - (intOf i).toNat)
  case atStart => exact ⟨0, Nat.zero_le _, rfl, [], [], H0, s0⟩
  case round =>
    obtain ⟨k, hk, rfl, U, O, HK, s4⟩ := hrel
    obtain ⟨w4, rfl⟩ : ∃ W, W = wr := ⟨_, rfl⟩
    by_cases hlt : k < z
    · have hkp : k < ids.length := by rw [HP.out]; omega
      have hkq : k < roots.length := by rw [HQ.out]; omega
      go_upto_region 8 with fail
      obtain ⟨w5, hw5⟩ : ∃ w5, w4.alloc (.cells #[.int .i64 k] 3) = w5 := ⟨_, rfl⟩
      obtain ⟨c3, hc3⟩ : ∃ c, w4.heap.size = c := ⟨_, rfl⟩
      have d3 : w5.cell? ⟨c3, 0, none⟩ = some (.int .i64 k) := by rw [← hw5, ← hc3]; simp
      have hcu : Hid (u12.ownBlock ≠ some c3) := fun e => by have := (s4.out.o1.lt c3 e).2; omega
      have s5 : Hid (R2 46 w3.heap.size w3 w5 u12 u13 U O) := by unfold Hid; rw [← hw5]; exact s4.out.step ((Below.refl _ _).alloc (Nat.le_refl _) _)
      rw [hw5, hc3]
      clear hw5 hc3 s4
      have kx := HX.out w5 k c3 hkq s5.out.bel d3
      have HT := hide_it (HS.out k hkp hkq _ rfl)
      rw [HK.out] at HT
      generalize fstK N es n xs roots[k] xs.length = f at *
      have HLk := HL.out k
      rw [HK.out] at HLk
      obtain ⟨hlU, hlO⟩ := HLk
      simp only at hlU hlO
      clear HX HS HL HK
      go_upto_region 9 with (go_at_call 33; refine kx.mono ?_; rintro e w6 ⟨zz, rfl, HZZ⟩)
      obtain ⟨HZ1, hb6⟩ := HZZ.out
      have s6 := hide_it (s5.out.step hb6)
      have d6 : w6.cell? ⟨c3, 0, none⟩ = some (.int .i64 k) := by rw [hb6.cell (p := ⟨c3, 0, none⟩) (World.block_lt_of_cell? w5 _ d3)]; exact d3
      clear HZZ s5 kx d3 hb6
      rcases HZ1 with ⟨rfl, hf⟩ | ⟨t, fi, rfl, rfl, hfi, ht, hFt⟩
      · have HT2 : Hid (WK (k + 1) = (U, O)) := by unfold Hid; rw [HT.out, if_pos hf]
        clear HT d6 hf
        · as_aux_lemma =>
          go_wp2
          go_roundw
          case rel => exact ⟨k + 1, by omega, by go_num, U, O, HT2, s6⟩
          case measure => simp [intOf]; omega
      · have hfiA : fi < A.length := by rw [HNl.out]; exact hfi
        have htl : t < fl := by rw [← HFL.out]; exact ht
        have hb3 := s6.out.bel
        have hb3s := s6.out.le
        obtain ⟨fb, fo, rfl, hfb, cF⟩ := (HFh.out.below hb3 (Nat.le_refl _)) t ht
        rw [hFt] at cF
        obtain ⟨ib, io, rfl, hib, cI⟩ := HIr.out k hkp
        obtain ⟨ab, ao, rfl, hab, -, cA⟩ := HAr.out fi hfiA
        have HT2 : Hid (WK (k + 1) = (U ++ [(ids[k], A[fi].2)], O ++ [(fi : Int)])) := by unfold Hid; rw [HT.out, if_neg (by omega), Int.toNat_natCast, getD_at hfiA]
        have hkpp : k < p := by omega
        clear HT hFt ht
        generalize ids[k] = d at *
        generalize A[fi].2 = cost at *
        have hib6 : ib < w6.heap.size := Nat.lt_of_lt_of_le hib hb3s
        have hab6 : ab < w6.heap.size := Nat.lt_of_lt_of_le hab hb3s
        have hc36 := World.block_lt_of_cell? w6 _ d6
        have e1 : w6.cell? ⟨ib, io + k, none⟩ = some (.int .i64 d) := by rw [hb3.cell (p := ⟨ib, io + k, none⟩) hib]; exact cI
        have e2 : w6.cell? ⟨ab, ao + fi * 2 + 1, none⟩ = some (.int .i64 cost) := by rw [hb3.cell (p := ⟨ab, ao + fi * 2 + 1, none⟩) hab]; exact cA
        have HC : Hid (∀ Wa w7, Below w6.heap.size w6 Wa → Wa.grownBy w7 u12.ownBlock → w7.cell? ⟨c3, 0, none⟩ = some (.int .i64 k) ∧ w7.cell? ⟨ib, io + k, none⟩ = some (.int .i64 d) ∧ w7.cell? ⟨ab, ao + fi * 2 + 1, none⟩ = some (.int .i64 cost)) := fun Wa w7 hWa hg => by
          have hs := hWa.size
          have key : ∀ b, b < w6.heap.size → u12.ownBlock ≠ some b → w7.heap[b]? = w6.heap[b]? := fun b hb hn => by
            rw [hg.block b (by omega) (fun e => hn e.symm), hWa.block b hb]
          have old : ∀ b, b < w3.heap.size → u12.ownBlock ≠ some b := fun b hb e => by have := (s6.out.o1.lt b e).1; omega
          exact ⟨by rw [World.cell?_of_block (w := w6) (key c3 hc36 hcu.out)]; exact d6, by rw [World.cell?_of_block (w := w6) (key ib hib6 (old ib hib))]; exact e1, by rw [World.cell?_of_block (w := w6) (key ab hab6 (old ab hab))]; exact e2⟩
        have HO3 : Hid (∀ V, Below w6.heap.size w6 V → V.ownsRow w3.heap.size 46 2 u12 U.length (icells U)) := fun V hb => owns_below s6.out.o1 hb
        clear cI cA hb3 hib hab hcu
        · as_aux_lemma =>
          go_upto_region 11 with fail
          clear cF
          (go_region_held3 (fun V => V.cell? ⟨c3, 0, none⟩ = some (.int .i64 k) ∧ V.cell? ⟨ib, io + k, none⟩ = some (.int .i64 d) ∧ V.cell? ⟨ab, ao + fi * 2 + 1, none⟩ = some (.int .i64 cost)) (first | go_keep | exact hS4) ((rw [if_pos (by rfl)]; refine wp_append_tell _ (.tmp 43) (.tmp 54) 38 rfl w3.heap.size 46 i4 _ 2 16 Tryd.underlying38 hi4 hy0 hy1 hy2 rfl (by decide) _ U.length (icells U) rfl (HO3.out _ (((Below.refl _ _).drew).alloc (by simp) _)) ⟨_, 0, none⟩ 1 1 [.int .i64 d, .int .i64 cost] rfl rfl (World.news_of_block (heap_alloc_at (by simp) _)) (by simp [Value.oneCell']) (by unfold maxLen; omega) (by omega) (by simp; omega) ?_; intro v' w7 hown' hgrow hfr; have hS4 := HC.out _ _ (((Below.refl _ _).drew).alloc (by simp) _) hgrow; have s7 := hide_it (s6.out.put1 (((Below.refl _ _).drew).alloc (by simp) _) hown' hgrow hfr))))
          all_goals
            have s7o := hide_it s7.out.o2
            have s7l := s7.out.le
            go_wp2_with (at_builtin; (refine wpList_append_tell _ rfl (.tmp 56) (.tmp 58) 22 rfl w3.heap.size 3 i0 _ 1 8 Tryd.underlying22 hi0 hz0 hz1' hz2' rfl (by decide) _ O.length (O.map fun x => Value.int .i64 x) rfl (s7o.out.alloc _) ⟨_, 0, none⟩ 1 1 [.int .i64 fi] rfl rfl (World.news_of_block (heap_alloc_at rfl _)) (by simp [Value.oneCell']) (by unfold maxLen; omega) (by omega) (by simp; omega) ?_; intro v8 w8 hown8 hgrow8 hfr8; have s8 := hide_it (s7.out.put2 ((Below.refl _ _).alloc (Nat.le_refl _) _) hown8 hgrow8 hfr8)))
            go_roundw
            case rel => exact ⟨k + 1, by omega, by go_num, U ++ [(d, cost)], O ++ [(fi : Int)], HT2, s8⟩
            case measure => simp [intOf]; omega
    · obtain rfl : k = z := by omega
      have hE := hide_it (hend.out _ _ _ _ _ s4.out)
      clear s4
      go_wp2
      go_ret2
      exact ⟨_, _, rfl, by rw [HZ.out, HWK.out, HK.out]; exact hE.out⟩
end Go.Proofs.YtipkgoghodkbfaaDoor
