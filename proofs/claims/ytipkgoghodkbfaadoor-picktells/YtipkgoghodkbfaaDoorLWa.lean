/- PickWants: the walk. -/
import Derived.Test.YtipkgoghodkbfaaDoorSho
import Derived.Test.YtipkgoghodkbfaaDoorMth
import Derived.BigQuiet
import Derived.Deep.CutBlock
import Derived.Deep.DeepCutAuto
namespace Go.Proofs.YtipkgoghodkbfaaDoor
open Go.RowKit
open M
set_option linter.unusedVariables false
set_option linter.unusedSimpArgs false

theorem GO.mono {w : World} {B B' g eb n : Nat} {es : List E} (h : GO w B g eb n es) (hb : B' ≤ B) : GO w B' g eb n es := by
  obtain ⟨v, hm, hv⟩ := h.ex
  exact ⟨⟨v, hm, fun k hk => Nat.le_trans hb (hv k hk)⟩, Nat.le_trans hb h.hg, Nat.le_trans hb h.he⟩
/-- A graph of the call's own, and what lay there before. -/
structure GB (w0 w : World) (g eb n : Nat) (es : List E) : Prop where
  go : GO w w0.heap.size g eb n es
  bel : Below w0.heap.size w0 w
theorem GB.step {w0 w w' : World} {g eb n : Nat} {es : List E} (h : GB w0 w g eb n es) (hb : Below w.heap.size w w') : GB w0 w' g eb n es := ⟨h.go.below hb, h.bel.trans (hb.mono h.bel.size)⟩
theorem GB.add {w0 w : World} {g eb n : Nat} {es : List E} (h : GB w0 w g eb n es) (hle : es.length ≤ 1000000) (a b : Int) (R : Bool) (er : Int) (es' : List E) (hR : newB n es a b = R) (he : errN n a b = er) (hf : addE n es a b = es') :
    Calls Tryd.prog 11 #[ptr g, .int .i64 a, .int .i64 b] w fun e w' => e = .returned (.tuple #[.bool R, .int .i64 er]) ∧ Hid (GB w0 w' g eb n es') := by
  subst hR he hf
  refine (add_go h.go a b hle h.bel.size).mono ?_
  rintro e w' ⟨rfl, h1, h2⟩
  exact ⟨rfl, h1.out, h.bel.trans h2.out⟩
theorem new_gb {W w1 : World} (hb : Below W.heap.size W w1) (n : Int) (N : Nat) (hN : sz n = N) :
    Calls Tryd.prog 9 #[.int .i64 n] w1 fun e w' => ∃ g eb, e = .returned (ptr g) ∧ Hid (GB W w' g eb N []) := by
  subst hN
  refine (new_go n w1).mono ?_
  rintro e w' ⟨rfl, h1, h2⟩
  exact ⟨_, _, rfl, h1.out.mono hb.size, hb.trans (h2.out.mono hb.size)⟩

set_option maxRecDepth 1000000 in
set_option maxHeartbeats 8000000 in
theorem wantsl_core (n : Int) (ls : List (Int × Int)) (ts0 : List Int) (A : List (Int × Int)) (ids0 rts0 : List Int) (la ta aa ia ra : Option Addr) (lc tc ac ic rc : Nat) (W : World) (hT : Tab W) (h0 : 0 < W.heap.size) (hl : LIn W la ls) (hlm : ls.length ≤ maxLen) (hx : NIn W ta ts0) (hxm : ts0.length ≤ maxLen) (hxc : ts0.length ≤ tc) (hA : LIn W aa A) (hAm : A.length ≤ maxLen) (hi : NIn W ia ids0) (him : ids0.length ≤ maxLen) (hic : ids0.length ≤ ic) (hr : NIn W ra rts0) (hrm : rts0.length ≤ maxLen) (hrc : rts0.length ≤ rc) :
    Calls Tryd.prog 6 #[.int .i64 n, .slice la ls.length lc, .slice ta ts0.length tc, .slice aa A.length ac, .slice ia ids0.length ic, .slice ra rts0.length rc] W fun e w' => e = .returned (.bool true) ∧ Below W.heap.size W w' := by
  unfold maxLen at hlm hxm hAm him hrm
  have ks := shown_q hT h0 (Below.refl _ W)
  obtain ⟨N, hN⟩ : ∃ N, sz30 n = N := ⟨_, rfl⟩
  obtain ⟨es, hes⟩ : ∃ es, foldE N (ls.take 100) [] = es := ⟨_, rfl⟩
  obtain ⟨m1, hm1⟩ : ∃ m, ls.length = m := ⟨_, rfl⟩
  obtain ⟨m0, hm0⟩ : ∃ m, ts0.length = m := ⟨_, rfl⟩
  obtain ⟨na, hna⟩ : ∃ m, A.length = m := ⟨_, rfl⟩
  obtain ⟨p0, hp0⟩ : ∃ m, ids0.length = m := ⟨_, rfl⟩
  obtain ⟨q0, hq0⟩ : ∃ m, rts0.length = m := ⟨_, rfl⟩
  rw [hm1] at hlm ⊢
  rw [hm0] at hxm hxc ⊢
  rw [hna] at hAm ⊢
  rw [hp0] at him hic ⊢
  rw [hq0] at hrm hrc ⊢
  obtain ⟨m, hm⟩ : ∃ m : Nat, min m0 60 = m := ⟨_, rfl⟩
  obtain ⟨p, hp⟩ : ∃ m : Nat, min p0 20 = m := ⟨_, rfl⟩
  obtain ⟨q, hq⟩ : ∃ m : Nat, min q0 20 = m := ⟨_, rfl⟩
  have hminm : min (m0 : Int) 60 = (m : Int) := by omega
  have hminp : min (p0 : Int) 20 = (p : Int) := by omega
  have hminq : min (q0 : Int) 20 = (q : Int) := by omega
  have hmm : m ≤ m0 := by omega
  have hm60 : m ≤ 60 := by omega
  have hpp : p ≤ p0 := by omega
  have hp20 : p ≤ 20 := by omega
  have hqq : q ≤ q0 := by omega
  have hq20 : q ≤ 20 := by omega
  obtain ⟨xs, hxs⟩ : ∃ xs, ts0.take 60 = xs := ⟨_, rfl⟩
  obtain ⟨ids, hids⟩ : ∃ xs, ids0.take 20 = xs := ⟨_, rfl⟩
  obtain ⟨rts, hrts⟩ : ∃ xs, rts0.take 20 = xs := ⟨_, rfl⟩
  have hxl : xs.length = m := by rw [← hxs, List.length_take]; omega
  have hil : ids.length = p := by rw [← hids, List.length_take]; omega
  have hrl : rts.length = q := by rw [← hrts, List.length_take]; omega
  have hx2 : NIn W ta xs := by rw [← hxs]; exact hx.take 60
  have hi2 : NIn W ia ids := by rw [← hids]; exact hi.take 20
  have hr2 : NIn W ra rts := by rw [← hrts]; exact hr.take 20
  have hmin3 := min30_run n
  have kn := fun w1 (hb : Below W.heap.size W w1) => new_gb hb (min n 30) N hN
  obtain ⟨⟨U, O⟩, hW⟩ : ∃ r, wantK N es xs A ids rts (min p q) = r := ⟨_, rfl⟩
  have hUO := wantK_len N es xs A ids rts (min p q)
  rw [hW] at hUO
  simp only at hUO
  obtain ⟨l, hUl⟩ : ∃ l, U.length = l := ⟨_, rfl⟩
  have hOl : O.length = l := by rw [← hUO.1, hUl]
  have hl20 : l ≤ 20 := by have := hUO.2; omega
  obtain ⟨F, hF⟩ : ∃ F : Int → Nat → Int, fstK N es na xs = F := ⟨_, rfl⟩
  obtain ⟨Lw, hLw⟩ : ∃ Lw : Nat → Nat, (fun i => (wantK N es xs A ids rts i).1.length) = Lw := ⟨_, rfl⟩
  have HSt : Hid (∀ i k r f (h1 : i < ids.length) (h2 : i < rts.length), rts[i] = r → F r m = f → Lw i = k → Lw (i + 1) = if f < 0 then k else k + 1) := by
    rintro i k r f h1 h2 rfl hf rfl
    rw [← hLw]
    simp only
    rw [wantK_step N es xs A ids rts i h1 h2 f (by rw [hna, hF, hxl]; exact hf)]
    split <;> simp
  have HAt : Hid (∀ i k r d f (h1 : i < ids.length) (h2 : i < rts.length), rts[i] = r → ids[i] = d → F r m = f → ¬ f < 0 → Lw i = k → ∃ hu : k < U.length, ∃ ho : k < O.length, U[k] = (d, (A.getD f.toNat (0, 0)).2) ∧ O[k] = f) := by
    rintro i k r d f h1 h2 rfl rfl hf hf0 rfl
    subst hLw
    exact wantK_at N es xs A ids rts i (min p q) (by omega) h1 h2 f (by rw [hna, hF, hxl]; exact hf) hf0 rfl hW
  have HEnd : Hid (Lw (min p q) = l) := by
    unfold Hid
    rw [← hLw, ← hUl]
    simp only
    rw [hW]
  have HZ : Hid (Lw 0 = 0) := by
    unfold Hid
    rw [← hLw]
    rfl
  have HLe : Hid (∀ i, Lw i ≤ i) := fun i => by
    rw [← hLw]
    have := wantK_len N es xs A ids rts i
    simp only
    omega
  have HFs : Hid (∀ r j (h : j < xs.length), F r (j + 1) = if F r j < 0 ∧ takB N es na r xs[j] = true then xs[j] else F r j) := by
    subst hF
    exact fun r j h => fstK_step N es na xs r j h
  have HFc : Hid (∀ r j, F r j = -1 ∨ (0 ≤ F r j ∧ F r j < na)) := by
    subst hF
    exact fun r j => fstK_cases N es na xs r j
  have HF0 : Hid (∀ r, F r 0 = -1) := by
    subst hF
    exact fun r => rfl
  have HEX : Hid (∀ w g eb, GB W w g eb N es → KX W w [(g, eb, N, es)] [] [(ra, rts), (ia, ids), (ta, xs)] [(aa, A)]) := fun w g eb h => (((((kx_go hT h0 h.bel h.go).argy hA).argx hx2).argx hi2).argx hr2)
  have kw : ∀ w g eb, KX W w [(g, eb, N, es)] [] [(ra, rts), (ia, ids), (ta, xs)] [(aa, A)] → Calls Tryd.prog 17 #[ptr g, .slice ta m tc, .slice aa na ac, .slice ia p ic, .slice ra q rc] w fun e w' => ∃ ua uc va vc, e = .returned (.tuple #[.slice ua l uc, .slice va l vc]) ∧ Hid (KX W w' [(g, eb, N, es)] [] [(va, O), (ra, rts), (ia, ids), (ta, xs)] [(ua, U), (aa, A)]) := fun w g eb h =>
    h.wants (List.mem_singleton.2 rfl) tc ac ic rc (List.mem_cons_of_mem _ (List.mem_cons_of_mem _ (List.mem_cons_self ..))) hxl (by omega) (List.mem_singleton.2 rfl) hna (List.mem_cons_of_mem _ (List.mem_cons_self ..)) hil (by omega) (List.mem_cons_self ..) hrl (by omega) U O l l hW hUl hOl
  have kr : ∀ w g eb va ua r x B, KX W w [(g, eb, N, es)] [] [(va, O), (ra, rts), (ia, ids), (ta, xs)] [(ua, U), (aa, A)] → reachB N es r x = B → Calls Tryd.prog 20 #[ptr g, .int .i64 r, .int .i64 x] w fun e w' => e = .returned (.bool B) ∧ Hid (KX W w' [(g, eb, N, es)] [] [(va, O), (ra, rts), (ia, ids), (ta, xs)] [(ua, U), (aa, A)]) := fun w g eb va ua r x B h hB => h.reaches (List.mem_singleton.2 rfl) r x B hB
  have HL := hide_it hl
  have HM1 := hide_it hm1
  have HXL := hide_it hxl
  have HIL := hide_it hil
  have HRL := hide_it hrl
  have HNA := hide_it hna
  have HUL := hide_it hUl
  have HEs : Hid (foldE N (ls.take 100) [] = es) := hes
  generalize min n 30 = n30 at *
  clear hT h0 hl hx hA hi hr hN hes hm1 hm0 hna hp0 hq0 hm hp hq hxs hids hrts hxl hil hrl hx2 hi2 hr2 hW hUO hUl hOl hF hLw
  go_enter Tryd.func6, Tryd.ntmps6
  go_upto_block 0 with (first | (go_at_call 8; refine ks.mono ?_; rintro e w1 ⟨rfl, s1⟩) | (go_at_call 9; refine (kn _ s1.out).mono ?_; rintro e w2 ⟨g, eb, rfl, s2⟩))
  clear ks kn s1 hmin3
  go_cut [] (fun wx => Hid (KX W wx [(g, eb, N, es)] [] [(ra, rts), (ia, ids), (ta, xs)] [(aa, A)]))
  case first =>
    clear kw kr
    go_wp2
    go_loopw [15] (fun i W' => ∃ k : Nat, k ≤ m1 ∧ k ≤ 100 ∧ i = .int .i64 k ∧ Hid (GB W W' g eb N (foldE N (ls.take k) []))) (fun i _ => m1 - (intOf i).toNat)
    case atStart => exact ⟨0, Nat.zero_le _, by omega, rfl, s2⟩
    case round =>
      obtain ⟨k, hk, hk2, rfl, s4⟩ := hrel
      clear s2
      obtain ⟨w4, rfl⟩ : ∃ w', w' = wr := ⟨_, rfl⟩
      by_cases hlt : k < m1 ∧ k < 100
      · obtain ⟨hlt, hlt2⟩ := hlt
        have hlx : k < ls.length := by rw [HM1.out]; exact hlt
        obtain ⟨bb, o, rfl, hbw, c1, c2⟩ := (HL.out.below s4.out.bel (Nat.le_refl _)) k hlx
        have HT := hide_it (foldE_take N ls k hlx)
        have hfl := foldE_len N ls k
        have ka := fun j => (s4.out.step (below_drewN (Below.refl _ _) j)).add (by omega) ls[k].1 ls[k].2 _ _ _ rfl rfl rfl
        generalize ls[k] = e at *
        obtain ⟨x, y⟩ := e
        simp only at c1 c2 HT ka
        go_wp2
        go_region_with ((go_at_call 11; refine (ka 1).mono ?_; rintro e w5 ⟨rfl, s5⟩))
        all_goals
          go_wp2
          go_roundw
          case rel => exact ⟨k + 1, by omega, by omega, by go_num, by unfold Hid; rw [HT.out]; exact s5.out⟩
          case measure => simp [intOf]; omega
      · have e1 : foldE N (ls.take k) [] = es := by
          rw [← HEs.out]
          by_cases h1 : k < m1
          · have : k = 100 := by omega
            rw [this]
          · rw [List.take_of_length_le (by rw [HM1.out]; omega), List.take_of_length_le (by rw [HM1.out]; omega)]
        rw [e1] at s4
        clear e1
        by_cases hkm : k < m1
        · have hkx : decide ((k : Int) < 100) = false := by simp; omega
          go_wp2
          go_meet
          exact HEX.out _ _ _ s4.out
        · have hkx : decide ((k : Int) < (m1 : Int)) = false := by simp; omega
          go_wp2
          go_meet
          exact HEX.out _ _ _ s4.out
  case rest =>
    have s4 := hcut
    obtain ⟨w4, rfl⟩ : ∃ w', w' = wc := ⟨_, rfl⟩
    clear hcut s2 HEX HEs HL HM1
    go_upto_region 13 with (go_at_call 17; refine (kw _ _ _ s4.out).mono ?_; rintro e w5 ⟨ua, uc, va, vc, rfl, s5⟩; refine Hid.out ?_)
    refine hide_it ?_
    clear kw s4
    have hll : ((l : Int) != l) = false := by simp
    go_wp2
    go_loopw [18, 19] (fun a b W' => ∃ i : Nat, i ≤ p ∧ i ≤ q ∧ b = .int .i64 i ∧ ∃ k : Nat, a = .int .i64 k ∧ Hid (Lw i = k) ∧ Hid (KX W W' [(g, eb, N, es)] [] [(va, O), (ra, rts), (ia, ids), (ta, xs)] [(ua, U), (aa, A)])) (fun _ b _ => p - (intOf b).toNat)
    case atStart => exact ⟨0, Nat.zero_le _, Nat.zero_le _, rfl, 0, rfl, HZ.out, s5⟩
    case round =>
      obtain ⟨i, hip, hiq, rfl, k, rfl, HK, s6⟩ := hrel
      obtain ⟨w6, rfl⟩ : ∃ w', w' = wr := ⟨_, rfl⟩
      clear s5 hll
      have hki : k ≤ i := by rw [← HK.out]; exact HLe.out i
      by_cases hlt : i < p ∧ i < q
      · obtain ⟨hlp, hlq⟩ := hlt
        have r1 : decide ((i : Int) < q) = true := by simp; omega
        have hix : i < ids.length := by rw [HIL.out]; exact hlp
        have hrx : i < rts.length := by rw [HRL.out]; exact hlq
        obtain ⟨r, hr⟩ : ∃ r, rts[i] = r := ⟨_, rfl⟩
        obtain ⟨d, hd⟩ : ∃ d, ids[i] = d := ⟨_, rfl⟩
        have HCr : Hid (∀ V, KX W V [(g, eb, N, es)] [] [(va, O), (ra, rts), (ia, ids), (ta, xs)] [(ua, U), (aa, A)] → ∃ b o, ra = some ⟨b, o, none⟩ ∧ b < V.heap.size ∧ V.cell? ⟨b, o + i, none⟩ = some (.int .i64 r)) := fun V h => by
          obtain ⟨b, o, h1, h2, h3⟩ := (h.row (a := ra) (L := rts) (List.mem_cons_of_mem _ (List.mem_cons_self ..))) i hrx
          rw [hr] at h3
          exact ⟨b, o, h1, h2, h3⟩
        have HCi : Hid (∀ V, KX W V [(g, eb, N, es)] [] [(va, O), (ra, rts), (ia, ids), (ta, xs)] [(ua, U), (aa, A)] → ∃ b o, ia = some ⟨b, o, none⟩ ∧ b < V.heap.size ∧ V.cell? ⟨b, o + i, none⟩ = some (.int .i64 d)) := fun V h => by
          obtain ⟨b, o, h1, h2, h3⟩ := (h.row (a := ia) (L := ids) (List.mem_cons_of_mem _ (List.mem_cons_of_mem _ (List.mem_cons_self ..)))) i hix
          rw [hd] at h3
          exact ⟨b, o, h1, h2, h3⟩
        have HS1 : Hid (∀ f, F r m = f → Lw (i + 1) = if f < 0 then k else k + 1) := fun f hf => HSt.out i k r f hix hrx hr hf HK.out
        have HA1 : Hid (∀ f, F r m = f → ¬ f < 0 → ∃ hu : k < U.length, ∃ ho : k < O.length, U[k] = (d, (A.getD f.toNat (0, 0)).2) ∧ O[k] = f) := fun f hf hf0 => HAt.out i k r d f hix hrx hr hd hf (by omega) HK.out
        clear hr hd hix hrx HSt HAt HK HZ HLe HIL HRL HEnd
        go_wp2
        go_loopw [20, 21] (fun a b W' => ∃ j : Nat, j ≤ m ∧ b = .int .i64 j ∧ ∃ f : Int, a = .int .i64 f ∧ Hid (F r j = f) ∧ Hid (KX W W' [(g, eb, N, es)] [] [(va, O), (ra, rts), (ia, ids), (ta, xs)] [(ua, U), (aa, A)])) (fun _ b _ => m - (intOf b).toNat)
        case atStart => exact ⟨0, Nat.zero_le _, rfl, -1, rfl, HF0.out r, s6⟩
        case round =>
          obtain ⟨j, hj, rfl, f, rfl, HFj, s7⟩ := hrel
          obtain ⟨w7, rfl⟩ : ∃ w', w' = wr := ⟨_, rfl⟩
          clear s6
          have hfc : f = -1 ∨ (0 ≤ f ∧ f < na) := by rw [← HFj.out]; exact HFc.out r j
          by_cases hjm : j < m
          · have hjx : j < xs.length := by rw [HXL.out]; exact hjm
            have HT := hide_it (HFs.out r j hjx)
            obtain ⟨rb, ro, rfl, hrb, cR⟩ := HCr.out _ s7.out
            obtain ⟨tb, tof, rfl, htb, cT⟩ := (s7.out.row (List.mem_cons_of_mem _ (List.mem_cons_of_mem _ (List.mem_cons_of_mem _ (List.mem_cons_self ..))))) j hjx
            rw [HFj.out] at HT
            generalize xs[j] = x at *
            clear HFs HFc HF0 hjx HCr HCi HS1 HA1 HFj
            rcases hfc with rfl | ⟨f0, f1⟩
            · cases hpl : plB na x with
              | false =>
                have HT2 : Hid (F r (j + 1) = -1) := by
                  unfold Hid
                  rw [HT.out, if_neg (by rintro ⟨_, h⟩; unfold takB at h; rw [hpl] at h; simp at h)]
                clear HT
                by_cases hx0 : 0 ≤ x
                · have q1 : decide (0 ≤ x) = true := by simpa using hx0
                  have q2 : decide (x < na) = false := by unfold plB at hpl; rw [q1] at hpl; simpa using hpl
                  clear hpl kr
                  · as_aux_lemma =>
                    go_wp2
                    go_roundw
                    case rel => exact ⟨j + 1, by omega, by go_num, -1, rfl, HT2, s7⟩
                    case measure => simp [intOf]; omega
                · have q1 : decide (0 ≤ x) = false := by simpa using hx0
                  clear hpl kr
                  · as_aux_lemma =>
                    go_wp2
                    go_roundw
                    case rel => exact ⟨j + 1, by omega, by go_num, -1, rfl, HT2, s7⟩
                    case measure => simp [intOf]; omega
              | true =>
                obtain ⟨g0, g1⟩ := plB_iff.1 hpl
                have q1 : decide (0 ≤ x) = true := by simpa using g0
                have q2 : decide (x < na) = true := by simpa using g1
                cases hB : reachB N es r x with
                | true =>
                  have HT2 : Hid (F r (j + 1) = x) := by
                    unfold Hid
                    rw [HT.out, if_pos ⟨by decide, by unfold takB; rw [hpl, hB]; rfl⟩]
                  clear HT hpl
                  · as_aux_lemma =>
                    go_wp2_with (go_at_call 20; refine (kr _ _ _ _ _ _ _ _ s7.out hB).mono ?_; rintro e w8 ⟨rfl, s8⟩)
                    go_roundw
                    case rel => exact ⟨j + 1, by omega, by go_num, x, rfl, HT2, s8⟩
                    case measure => simp [intOf]; omega
                | false =>
                  have HT2 : Hid (F r (j + 1) = -1) := by
                    unfold Hid
                    rw [HT.out, if_neg (by rintro ⟨_, h⟩; unfold takB at h; rw [hpl, hB] at h; simp at h)]
                  clear HT hpl
                  · as_aux_lemma =>
                    go_wp2_with (go_at_call 20; refine (kr _ _ _ _ _ _ _ _ s7.out hB).mono ?_; rintro e w8 ⟨rfl, s8⟩)
                    go_roundw
                    case rel => exact ⟨j + 1, by omega, by go_num, -1, rfl, HT2, s8⟩
                    case measure => simp [intOf]; omega
            · have q1 : decide (f < 0) = false := by simp; omega
              have HT2 : Hid (F r (j + 1) = f) := by
                unfold Hid
                rw [HT.out, if_neg (by rintro ⟨h, _⟩; omega)]
              clear HT kr
              · as_aux_lemma =>
                go_wp2
                go_roundw
                case rel => exact ⟨j + 1, by omega, by go_num, f, rfl, HT2, s7⟩
                case measure => simp [intOf]; omega
          · obtain rfl : j = m := by omega
            clear HFs HFc HF0 HCr kr
            rcases hfc with rfl | ⟨f0, f1⟩
            · have HK2 : Hid (Lw (i + 1) = k) := by
                unfold Hid
                rw [HS1.out _ HFj.out, if_pos (by decide)]
              clear HCi HS1 HA1 HFj
              · as_aux_lemma =>
                go_wp2
                go_roundw
                case rel => exact ⟨i + 1, by omega, by omega, by go_num, k, rfl, HK2, s7⟩
                case measure => simp [intOf]; omega
            · obtain ⟨u, rfl⟩ : ∃ u : Nat, f = u := ⟨f.toNat, by omega⟩
              have q1 : decide ((u : Int) < 0) = false := by simp
              have HK2 : Hid (Lw (i + 1) = k + 1) := by
                unfold Hid
                rw [HS1.out _ HFj.out, if_neg (by omega)]
              obtain ⟨hu, ho, e1, e2⟩ := HA1.out _ HFj.out (by omega)
              have hun : u < na := by omega
              have huA : u < A.length := by rw [HNA.out]; exact hun
              rw [Int.toNat_natCast, getD_at huA] at e1
              obtain ⟨ib, io, rfl, hib, cI⟩ := HCi.out _ s7.out
              obtain ⟨ub, uo, rfl, hub, cU1, cU2⟩ := (s7.out.pair (List.mem_cons_self ..)) k hu
              obtain ⟨ab, ao, rfl, hab, -, cA⟩ := (s7.out.pair (List.mem_cons_of_mem _ (List.mem_cons_self ..))) u huA
              obtain ⟨vb, vo, rfl, hvb, cV⟩ := (s7.out.row (List.mem_cons_self ..)) k ho
              rw [e1] at cU1 cU2
              rw [e2] at cV
              have hkl : k < l := by have := HUL.out; omega
              generalize A[u] = tk at *
              obtain ⟨mem, cost⟩ := tk
              simp only at cA cU1 cU2
              have q2 : decide ((l : Int) ≤ k) = false := by simp; omega
              have q2' : decide (l ≤ k) = false := by simp; omega
              have q3 : (d != d) = false := by simp
              have q4 : ((u : Int) != u) = false := by simp
              have q5 : (cost != cost) = false := by simp
              clear HCi HS1 HA1 HFj hu ho e1 e2 huA f1
              · as_aux_lemma =>
                go_wp2
                go_big_quiet (fail)
                go_wp2
                go_roundw
                case rel => exact ⟨i + 1, by omega, by omega, by go_num, k + 1, by go_num, HK2, s7.out.step (below_drewN (Below.refl _ _) _)⟩
                case measure => simp [intOf]; omega
      · have hkl : k = l := by
          rw [← HK.out, ← HEnd.out]
          congr 1
          omega
        subst hkl
        have hend := hide_it s6.out.bel
        have hor : (i < p ∧ ¬ i < q ∧ decide ((i : Int) < p) = true ∧ decide ((i : Int) < q) = false) ∨ (¬ i < p ∧ decide ((i : Int) < p) = false) := by
          by_cases h1 : i < p
          · exact .inl ⟨h1, by omega, by simp; omega, by simp; omega⟩
          · exact .inr ⟨h1, by simp; omega⟩
        clear hlt s6 HSt HAt HK HZ HLe HIL HRL HEnd HFs HFc HF0 kr
        rcases hor with ⟨a1, a2, a3, a4⟩ | ⟨a1, a3⟩
        all_goals
          go_wp2
          go_ret
          exact ⟨rfl, hend.out⟩
end Go.Proofs.YtipkgoghodkbfaaDoor
