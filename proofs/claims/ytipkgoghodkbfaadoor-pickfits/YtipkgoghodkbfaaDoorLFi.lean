/- PickFits: the walk. -/
import Derived.Test.YtipkgoghodkbfaaDoorSho
import Derived.Test.YtipkgoghodkbfaaDoorMth
namespace Go.Proofs.YtipkgoghodkbfaaDoor
open Go.RowKit
open M
set_option linter.unusedVariables false
set_option linter.unusedSimpArgs false

theorem fitsL_up (A : List (Int × Int)) (r : Int) (ts : List Int) (i : Nat) (h : i < ts.length) : (fitsL A r (ts.take (i + 1))).length = if fitB A r ts[i] = true then (fitsL A r (ts.take i)).length + 1 else (fitsL A r (ts.take i)).length := by
  rw [fitsL_step A r ts i h]
  split <;> simp

set_option maxRecDepth 1000000 in
set_option maxHeartbeats 8000000 in
theorem fitsl_core (ts0 : List Int) (A : List (Int × Int)) (ta aa : Option Addr) (tc ac : Nat) (ra rb : Int) (W : World) (hT : Tab W) (h0 : 0 < W.heap.size) (hx : NIn W ta ts0) (hxm : ts0.length ≤ maxLen) (hxc : ts0.length ≤ tc) (hA : LIn W aa A) (hAm : A.length ≤ maxLen) :
    Calls Tryd.prog 5 #[.slice ta ts0.length tc, .slice aa A.length ac, .int .i64 ra, .int .i64 rb] W fun e w' => e = .returned (.bool true) ∧ Below W.heap.size W w' := by
  unfold maxLen at hxm hAm
  have ks := shown_any W hT h0
  obtain ⟨m0, hm0⟩ : ∃ m, ts0.length = m := ⟨_, rfl⟩
  obtain ⟨n, hn⟩ : ∃ n, A.length = n := ⟨_, rfl⟩
  rw [hm0] at hxm hxc ⊢
  rw [hn] at hAm ⊢
  obtain ⟨m, hm⟩ : ∃ m : Nat, min m0 60 = m := ⟨_, rfl⟩
  have hmin : min (m0 : Int) 60 = (m : Int) := by omega
  have hmm : m ≤ m0 := by omega
  have hm60 : m ≤ 60 := by omega
  obtain ⟨ts, hts⟩ : ∃ ts, ts0.take 60 = ts := ⟨_, rfl⟩
  have hxl : ts.length = m := by rw [← hts, List.length_take]; omega
  have hx2 : NIn W ta ts := by rw [← hts]; exact hx.take 60
  obtain ⟨mn, hmn⟩ : ∃ r, min ra rb = r := ⟨_, rfl⟩
  obtain ⟨mx, hmx⟩ : ∃ r, max ra rb = r := ⟨_, rfl⟩
  have hle : mn ≤ mx := by omega
  have HX := hide_it hx2
  have HXL := hide_it hxl
  have HAr := hide_it hA
  have HN := hide_it hn
  have HS1 : Hid (∀ i (h : i < ts.length), (fitsL A mn (ts.take (i + 1))).length = if fitB A mn ts[i] = true then (fitsL A mn (ts.take i)).length + 1 else (fitsL A mn (ts.take i)).length) := fun i h => fitsL_up A mn ts i h
  have HS2 : Hid (∀ i (h : i < ts.length), (fitsL A mx (ts.take (i + 1))).length = if fitB A mx ts[i] = true then (fitsL A mx (ts.take i)).length + 1 else (fitsL A mx (ts.take i)).length) := fun i h => fitsL_up A mx ts i h
  have HP1 : Hid (∀ i (h : i < ts.length), fitB A mn ts[i] = true → ∃ hk : (fitsL A mn (ts.take i)).length < (fitsL A mn ts).length, (fitsL A mn ts)[(fitsL A mn (ts.take i)).length] = ts[i]) := fun i h hp => filter_at (fitB A mn) ts i h hp
  have HP2 : Hid (∀ i (h : i < ts.length), fitB A mx ts[i] = true → ∃ hk : (fitsL A mx (ts.take i)).length < (fitsL A mx ts).length, (fitsL A mx ts)[(fitsL A mx (ts.take i)).length] = ts[i]) := fun i h hp => filter_at (fitB A mx) ts i h hp
  have HE : Hid (∀ r, (fitsL A r (ts.take m)).length = (fitsL A r ts).length) := fun r => by rw [List.take_of_length_le (by omega)]
  have HZ : Hid (∀ r, (fitsL A r (ts.take 0)).length = 0) := fun r => rfl
  have hl1 : (fitsL A mn ts).length ≤ 60 := Nat.le_trans (fitsL_len _ _ _) (by omega)
  have hl2 : (fitsL A mx ts).length ≤ 60 := Nat.le_trans (fitsL_len _ _ _) (by omega)
  have hl12 : (fitsL A mn ts).length ≤ (fitsL A mx ts).length := filter_le _ _ (fits_more hle) ts
  have hb1 : Hid (∀ i, (fitsL A mn (ts.take i)).length ≤ 60) := fun i => Nat.le_trans (fitsL_len _ _ _) (by rw [List.length_take]; omega)
  have hb2 : Hid (∀ i, (fitsL A mx (ts.take i)).length ≤ 60) := fun i => Nat.le_trans (fitsL_len _ _ _) (by rw [List.length_take]; omega)
  obtain ⟨X1, hX1⟩ : ∃ X, fitsL A mn ts = X := ⟨_, rfl⟩
  obtain ⟨X2, hX2⟩ : ∃ X, fitsL A mx ts = X := ⟨_, rfl⟩
  have HE1 := hide_it (HE.out mn)
  have HE2 := hide_it (HE.out mx)
  rw [hX1] at HP1 hl1 hl12 HE1
  rw [hX2] at HP2 hl2 hl12 HE2
  obtain ⟨l1, hL1⟩ : ∃ l, X1.length = l := ⟨_, rfl⟩
  obtain ⟨l2, hL2⟩ : ∃ l, X2.length = l := ⟨_, rfl⟩
  rw [hL1] at hl1 hl12 HE1
  rw [hL2] at hl2 hl12 HE2
  have HL1 := hide_it hL1
  have HL2 := hide_it hL2
  have kx0 := hide_it (KX.start hT h0)
  have kf1 : ∀ w t1 t2 tc1, KX W w [] [] [(t2, ts), (t1, ts)] [(aa, A)] → Calls Tryd.prog 15 #[.slice t1 m tc1, .slice aa n ac, .int .i64 mn] w fun e w' => ∃ ao cap, e = .returned (.slice ao l1 cap) ∧ Hid (KX W w' [] [] [(ao, X1), (t2, ts), (t1, ts)] [(aa, A)]) := fun w t1 t2 tc1 h =>
    h.fits tc1 ac mn (List.mem_cons_of_mem _ (List.mem_cons_self ..)) (List.mem_singleton.2 rfl) hxl (by omega) hn X1 l1 hX1 hL1
  have kf2 : ∀ w a t1 t2 tc1, KX W w [] [] [(a, X1), (t2, ts), (t1, ts)] [(aa, A)] → Calls Tryd.prog 15 #[.slice t1 m tc1, .slice aa n ac, .int .i64 mx] w fun e w' => ∃ ao cap, e = .returned (.slice ao l2 cap) ∧ Hid (KX W w' [] [] [(ao, X2), (a, X1), (t2, ts), (t1, ts)] [(aa, A)]) := fun w a t1 t2 tc1 h =>
    h.fits tc1 ac mx (List.mem_cons_of_mem _ (List.mem_cons_of_mem _ (List.mem_cons_self ..))) (List.mem_singleton.2 rfl) hxl (by omega) hn X2 l2 hX2 hL2
  have ke : ∀ w a b t1 t2 c1 c2, KX W w [] [] [(b, X2), (a, X1), (t2, ts), (t1, ts)] [(aa, A)] → Calls Tryd.prog 19 #[.slice t1 m c1, .slice t2 m c2] w fun e w' => e = .returned (.bool true) ∧ Hid (KX W w' [] [] [(b, X2), (a, X1), (t2, ts), (t1, ts)] [(aa, A)]) := fun w a b t1 t2 c1 c2 h =>
    h.eqs c1 c2 (List.mem_cons_of_mem _ (List.mem_cons_of_mem _ (List.mem_cons_of_mem _ (List.mem_cons_self ..)))) (List.mem_cons_of_mem _ (List.mem_cons_of_mem _ (List.mem_cons_self ..))) hxl hxl (by omega) true (by simp)
  clear hx hx2 hA hT hm0 hn hm hts hxl hX1 hX2 hL1 hL2 HE hle
  go_enter Tryd.func5, Tryd.ntmps5
  go_upto_region 2 with (go_at_call 8; refine ks.mono ?_; rintro e w1 ⟨rfl, b1⟩)
  have B1 := hide_it b1
  clear b1 ks
  go_upto_region 3 with (at_builtin; (refine wpList_copyZ rfl (.tmp 21) (.tmp 26) rfl ta m _ ts (HX.out.below B1.out (Nat.le_refl _)) HXL.out (by omega) rfl rfl ?_; intro v2 w2 o2 b2))
  obtain ⟨t1, tc1, rfl, n1⟩ := own_nin o2
  rw [HXL.out]
  have kx2 := hide_it (((kx0.out.step (B1.out.trans (b2.mono B1.out.size))).argy HAr.out).addx n1)
  clear o2 b2 kx0 n1
  go_upto_region 4 with (at_builtin; (refine wpList_copyZ rfl (.tmp 28) (.tmp 29) rfl t1 m _ ts (kx2.out.row (List.mem_cons_self ..)) HXL.out (by omega) rfl rfl ?_; intro v3 w3 o3 b3))
  obtain ⟨t2, tc2, rfl, n2⟩ := own_nin o3
  rw [HXL.out]
  have kx3 := hide_it ((kx2.out.step b3).addx n2)
  clear o3 b3 kx2 n2
  go_upto_region 5 with (go_at_call 15; refine (kf1 _ _ _ _ kx3.out).mono ?_; rintro e w4 ⟨a1, c1, rfl, kx4⟩; refine Hid.out ?_)
  refine hide_it ?_
  go_upto_region 6 with (go_at_call 15; refine (kf2 _ _ _ _ _ kx4.out).mono ?_; rintro e w5 ⟨a2, c2, rfl, kx5⟩; refine Hid.out ?_)
  refine hide_it ?_
  clear kx3 kx4 kf1 kf2 B1
  go_wp2
  go_loop [13, 14, 15] (fun a b c => ∃ i : Nat, i ≤ m ∧ c = .int .i64 i ∧ ∃ k j : Nat, a = .int .i64 k ∧ b = .int .i64 j ∧ Hid ((fitsL A mn (ts.take i)).length = k ∧ (fitsL A mx (ts.take i)).length = j)) (fun _ _ c => m - (intOf c).toNat)
  case atStart => exact ⟨0, Nat.zero_le _, rfl, 0, 0, rfl, rfl, HZ.out mn, HZ.out mx⟩
  case round =>
    obtain ⟨i, hi, rfl, k, j, rfl, rfl, HK⟩ := hrel
    have hkb := hb1.out i
    have hjb := hb2.out i
    rw [HK.out.1] at hkb
    rw [HK.out.2] at hjb
    by_cases hlt : i < m
    · have hit : i < ts.length := by rw [HXL.out]; exact hlt
      obtain ⟨tb, tof, rfl, htb, cT⟩ := (kx5.out.row (List.mem_cons_of_mem _ (List.mem_cons_of_mem _ (List.mem_cons_self ..)))) i hit
      have HT1 := hide_it (HS1.out i hit)
      have HT2 := hide_it (HS2.out i hit)
      have HQ1 := hide_it (HP1.out i hit)
      have HQ2 := hide_it (HP2.out i hit)
      rw [HK.out.1] at HT1 HQ1
      rw [HK.out.2] at HT2 HQ2
      generalize ts[i] = t at *
      clear HS1 HS2 HP1 HP2 HE1 HE2 HZ HK hb1 hb2
      cases hp : plB n t with
      | false =>
        have HF : Hid ((fitsL A mn (ts.take (i + 1))).length = k ∧ (fitsL A mx (ts.take (i + 1))).length = j) := ⟨by rw [HT1.out, if_neg (by rw [fitB_off (by rw [HN.out]; exact hp)]; simp)], by rw [HT2.out, if_neg (by rw [fitB_off (by rw [HN.out]; exact hp)]; simp)]⟩
        clear HT1 HT2 HQ1 HQ2
        by_cases ht0 : 0 ≤ t
        · have q1 : decide (0 ≤ t) = true := by simpa using ht0
          have q2 : decide (t < n) = false := by unfold plB at hp; rw [q1] at hp; simpa using hp
          clear hp
          · as_aux_lemma =>
            go_wp2
            go_round
            case rel => exact ⟨i + 1, by omega, by go_num, k, j, rfl, rfl, HF⟩
            case measure => simp [intOf]; omega
        · have q1 : decide (0 ≤ t) = false := by simpa using ht0
          clear hp
          · as_aux_lemma =>
            go_wp2
            go_round
            case rel => exact ⟨i + 1, by omega, by go_num, k, j, rfl, rfl, HF⟩
            case measure => simp [intOf]; omega
      | true =>
        have hr := plB_iff.1 hp
        have q1 : decide (0 ≤ t) = true := by simpa using hr.1
        have q2 : decide (t < n) = true := by simpa using hr.2
        obtain ⟨u, rfl⟩ : ∃ u : Nat, t = u := ⟨t.toNat, by omega⟩
        have hun : u < n := by omega
        have huA : u < A.length := by rw [HN.out]; exact hun
        obtain ⟨ab, ao, rfl, hab, cA, -⟩ := (kx5.out.pair (List.mem_singleton.2 rfl)) u huA
        rw [fitB_at u huA] at HT1 HT2 HQ1 HQ2
        generalize A[u] = tk at *
        obtain ⟨mem, cost⟩ := tk
        simp only at cA HT1 HT2 HQ1 HQ2
        clear hp hr
        by_cases h1 : mem ≤ mn
        · have h2 : mem ≤ mx := by omega
          have e1 : decide (mem ≤ mn) = true := by simpa using h1
          have e2 : decide (mem ≤ mx) = true := by simpa using h2
          obtain ⟨hk1, hv1⟩ := HQ1.out e1
          obtain ⟨hk2, hv2⟩ := HQ2.out e2
          have hkl : k < l1 := by rw [← HL1.out]; exact hk1
          have hjl : j < l2 := by rw [← HL2.out]; exact hk2
          obtain ⟨xb, xo, rfl, hxb, cX⟩ := (kx5.out.row (List.mem_cons_of_mem _ (List.mem_cons_self ..))) k hk1
          obtain ⟨yb, yo, rfl, hyb, cY⟩ := (kx5.out.row (List.mem_cons_self ..)) j hk2
          rw [hv1] at cX
          rw [hv2] at cY
          have HF : Hid ((fitsL A mn (ts.take (i + 1))).length = k + 1 ∧ (fitsL A mx (ts.take (i + 1))).length = j + 1) := ⟨by rw [HT1.out, if_pos e1], by rw [HT2.out, if_pos e2]⟩
          clear HT1 HT2 HQ1 HQ2 hk1 hv1 hk2 hv2
          · as_aux_lemma =>
            go_wp2
            go_round
            case rel => exact ⟨i + 1, by omega, by go_num, k + 1, j + 1, by go_num, by go_num, HF⟩
            case measure => simp [intOf]; omega
        · have e1 : decide (mem ≤ mn) = false := by simpa using h1
          by_cases h2 : mem ≤ mx
          · have e2 : decide (mem ≤ mx) = true := by simpa using h2
            obtain ⟨hk2, hv2⟩ := HQ2.out e2
            have hjl : j < l2 := by rw [← HL2.out]; exact hk2
            obtain ⟨yb, yo, rfl, hyb, cY⟩ := (kx5.out.row (List.mem_cons_self ..)) j hk2
            rw [hv2] at cY
            have HF : Hid ((fitsL A mn (ts.take (i + 1))).length = k ∧ (fitsL A mx (ts.take (i + 1))).length = j + 1) := ⟨by rw [HT1.out, if_neg (by rw [e1]; simp)], by rw [HT2.out, if_pos e2]⟩
            clear HT1 HT2 HQ1 HQ2 hk2 hv2
            · as_aux_lemma =>
              go_wp2
              go_round
              case rel => exact ⟨i + 1, by omega, by go_num, k, j + 1, rfl, by go_num, HF⟩
              case measure => simp [intOf]; omega
          · have e2 : decide (mem ≤ mx) = false := by simpa using h2
            have HF : Hid ((fitsL A mn (ts.take (i + 1))).length = k ∧ (fitsL A mx (ts.take (i + 1))).length = j) := ⟨by rw [HT1.out, if_neg (by rw [e1]; simp)], by rw [HT2.out, if_neg (by rw [e2]; simp)]⟩
            clear HT1 HT2 HQ1 HQ2
            · as_aux_lemma =>
              go_wp2
              go_round
              case rel => exact ⟨i + 1, by omega, by go_num, k, j, rfl, rfl, HF⟩
              case measure => simp [intOf]; omega
    · obtain rfl : i = m := by omega
      have hk1 : k = l1 := by rw [← HE1.out, HK.out.1]
      have hj1 : j = l2 := by rw [← HE2.out, HK.out.2]
      subst hk1 hj1
      have q3 : decide ((k : Int) ≤ j) = true := by simp; omega
      clear HS1 HS2 HP1 HP2 HE1 HE2 HZ HK hb1 hb2
      go_wp2_with (go_at_call 19; refine (ke _ _ _ _ _ _ _ kx5.out).mono ?_; rintro e w7 ⟨rfl, s7⟩)
      go_ret
      exact ⟨rfl, s7.out.bel⟩
end Go.Proofs.YtipkgoghodkbfaaDoor
