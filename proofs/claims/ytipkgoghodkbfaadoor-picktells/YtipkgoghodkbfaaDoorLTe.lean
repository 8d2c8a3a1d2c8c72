/- PickTells: the walk. -/
import Derived.Test.YtipkgoghodkbfaaDoorLWa
namespace Go.Proofs.YtipkgoghodkbfaaDoor
open Go.RowKit
open M
set_option linter.unusedVariables false
set_option linter.unusedSimpArgs false

set_option maxRecDepth 1000000 in
set_option maxHeartbeats 8000000 in
theorem tells_core (sts0 prs0 : List Int) (room n : Int) (ls A0 : List (Int × Int)) (ids0 rts0 : List Int) (sa pa la aa ia ra : Option Addr) (sc pc lc ac ic rc : Nat) (W : World) (hT : Tab W) (h0 : 0 < W.heap.size) (hs : NIn W sa sts0) (hsm : sts0.length ≤ maxLen) (hsc : sts0.length ≤ sc) (hp : NIn W pa prs0) (hpm : prs0.length ≤ maxLen) (hpc : prs0.length ≤ pc) (hl : LIn W la ls) (hlm : ls.length ≤ maxLen) (hA : LIn W aa A0) (hAm : A0.length ≤ maxLen) (hAc : A0.length ≤ ac) (hi : NIn W ia ids0) (him : ids0.length ≤ maxLen) (hic : ids0.length ≤ ic) (hr : NIn W ra rts0) (hrm : rts0.length ≤ maxLen) (hrc : rts0.length ≤ rc) :
    Calls Tryd.prog 3 #[.slice sa sts0.length sc, .slice pa prs0.length pc, .int .i64 room, .int .i64 n, .slice la ls.length lc, .slice aa A0.length ac, .slice ia ids0.length ic, .slice ra rts0.length rc] W fun e w' => e = .returned (.bool true) ∧ Below W.heap.size W w' := by
  unfold maxLen at hsm hpm hlm hAm him hrm
  have ks := shown_q hT h0 (Below.refl _ W)
  obtain ⟨N, hN⟩ : ∃ N, sz30 n = N := ⟨_, rfl⟩
  obtain ⟨es, hes⟩ : ∃ es, foldE N (ls.take 100) [] = es := ⟨_, rfl⟩
  have hlen : es.length ≤ 100 := by rw [← hes]; exact foldE_len N ls 100
  obtain ⟨s0, hs0⟩ : ∃ m, sts0.length = m := ⟨_, rfl⟩
  obtain ⟨p0, hp0⟩ : ∃ m, prs0.length = m := ⟨_, rfl⟩
  obtain ⟨m1, hm1⟩ : ∃ m, ls.length = m := ⟨_, rfl⟩
  obtain ⟨n0, hn0⟩ : ∃ m, A0.length = m := ⟨_, rfl⟩
  obtain ⟨i0, hi0⟩ : ∃ m, ids0.length = m := ⟨_, rfl⟩
  obtain ⟨r0, hr0⟩ : ∃ m, rts0.length = m := ⟨_, rfl⟩
  rw [hs0] at hsm hsc ⊢
  rw [hp0] at hpm hpc ⊢
  rw [hm1] at hlm ⊢
  rw [hn0] at hAm hAc ⊢
  rw [hi0] at him hic ⊢
  rw [hr0] at hrm hrc ⊢
  obtain ⟨s, hss⟩ : ∃ m : Nat, min s0 60 = m := ⟨_, rfl⟩
  obtain ⟨p, hpp⟩ : ∃ m : Nat, min p0 60 = m := ⟨_, rfl⟩
  obtain ⟨na, hnn⟩ : ∃ m : Nat, min n0 60 = m := ⟨_, rfl⟩
  obtain ⟨i, hii⟩ : ∃ m : Nat, min i0 20 = m := ⟨_, rfl⟩
  obtain ⟨q, hqq⟩ : ∃ m : Nat, min r0 20 = m := ⟨_, rfl⟩
  have hmins : min (s0 : Int) 60 = (s : Int) := by omega
  have hminp : min (p0 : Int) 60 = (p : Int) := by omega
  have hminn : min (n0 : Int) 60 = (na : Int) := by omega
  have hmini : min (i0 : Int) 20 = (i : Int) := by omega
  have hminq : min (r0 : Int) 20 = (q : Int) := by omega
  have b1 : s ≤ s0 := by omega
  have b2 : s ≤ 60 := by omega
  have b3 : p ≤ p0 := by omega
  have b4 : p ≤ 60 := by omega
  have b5 : na ≤ n0 := by omega
  have b6 : na ≤ 60 := by omega
  have b7 : i ≤ i0 := by omega
  have b8 : i ≤ 20 := by omega
  have b9 : q ≤ r0 := by omega
  have b10 : q ≤ 20 := by omega
  obtain ⟨sts, hsts⟩ : ∃ xs, sts0.take 60 = xs := ⟨_, rfl⟩
  obtain ⟨prs, hprs⟩ : ∃ xs, prs0.take 60 = xs := ⟨_, rfl⟩
  obtain ⟨A, hAA⟩ : ∃ xs, A0.take 60 = xs := ⟨_, rfl⟩
  obtain ⟨ids, hids⟩ : ∃ xs, ids0.take 20 = xs := ⟨_, rfl⟩
  obtain ⟨rts, hrts⟩ : ∃ xs, rts0.take 20 = xs := ⟨_, rfl⟩
  have hsl : sts.length = s := by rw [← hsts, List.length_take]; omega
  have hpl : prs.length = p := by rw [← hprs, List.length_take]; omega
  have hAl : A.length = na := by rw [← hAA, List.length_take]; omega
  have hil : ids.length = i := by rw [← hids, List.length_take]; omega
  have hrl : rts.length = q := by rw [← hrts, List.length_take]; omega
  have hs2 : NIn W sa sts := by rw [← hsts]; exact hs.take 60
  have hp2 : NIn W pa prs := by rw [← hprs]; exact hp.take 60
  have hA2 : LIn W aa A := by rw [← hAA]; exact lin_take hA 60
  have hi2 : NIn W ia ids := by rw [← hids]; exact hi.take 20
  have hr2 : NIn W ra rts := by rw [← hrts]; exact hr.take 20
  have hmin3 := min30_run n
  have kn := fun w1 (hb : Below W.heap.size W w1) => new_gb hb (min n 30) N hN
  have kr := fun w1 g eb (h : GB W w1 g eb N []) => rnew_tx hT h0 h.bel h.go (min n 30) hN
  obtain ⟨⟨P, L⟩, hB⟩ : ∃ x, bestA sts prs = x := ⟨_, rfl⟩
  obtain ⟨b, hLl⟩ : ∃ b, L.length = b := ⟨_, rfl⟩
  have hb60 : b ≤ 60 := by
    have := bestK_len sts prs (min sts.length prs.length)
    unfold bestA at hB
    rw [hB] at this
    simp only at this
    omega
  obtain ⟨C, hC⟩ : ∃ C, fitsL A room L = C := ⟨_, rfl⟩
  obtain ⟨c, hCl⟩ : ∃ c, C.length = c := ⟨_, rfl⟩
  have hc60 : c ≤ 60 := by
    have := fitsL_len A room L
    rw [hC] at this
    omega
  obtain ⟨⟨U, O⟩, hW⟩ : ∃ x, wantK N es C A ids rts (min i q) = x := ⟨_, rfl⟩
  have hUO := wantK_len N es C A ids rts (min i q)
  rw [hW] at hUO
  simp only at hUO
  obtain ⟨l, hUl⟩ : ∃ l, U.length = l := ⟨_, rfl⟩
  have hOl : O.length = l := by rw [← hUO.1, hUl]
  have hl20 : l ≤ 20 := by have := hUO.2; omega
  have HEX : Hid (∀ w g eb r, TX W.heap.size W w g eb N es r es → KX W w [(g, eb, N, es)] [(r, N, es)] [(ra, rts), (ia, ids), (pa, prs), (sa, sts)] [(aa, A)]) := fun w g eb r h => (((((kx_tx h).argy hA2).argx hs2).argx hp2).argx hi2).argx hr2
  have k13 : ∀ w g eb r, KX W w [(g, eb, N, es)] [(r, N, es)] [(ra, rts), (ia, ids), (pa, prs), (sa, sts)] [(aa, A)] → Calls Tryd.prog 13 #[.slice sa s sc, .slice pa p pc] w fun e w' => ∃ a1 c1, e = .returned (.tuple #[.int .i64 P, .slice a1 b c1]) ∧ Hid (KX W w' [(g, eb, N, es)] [(r, N, es)] [(a1, L), (ra, rts), (ia, ids), (pa, prs), (sa, sts)] [(aa, A)]) := fun w g eb r h =>
    h.best sc pc (List.mem_cons_of_mem _ (List.mem_cons_of_mem _ (List.mem_cons_of_mem _ (List.mem_cons_self ..)))) (List.mem_cons_of_mem _ (List.mem_cons_of_mem _ (List.mem_cons_self ..))) hsl hpl (by omega) (by omega) P L b hB hLl
  have k14 : ∀ w g eb r a1, KX W w [(g, eb, N, es)] [(r, N, es)] [(a1, L), (ra, rts), (ia, ids), (pa, prs), (sa, sts)] [(aa, A)] → Calls Tryd.prog 14 #[.slice sa s sc, .slice pa p pc] w fun e w' => ∃ a2 c2, e = .returned (.tuple #[.int .i64 P, .slice a2 b c2]) ∧ Hid (KX W w' [(g, eb, N, es)] [(r, N, es)] [(a2, L), (a1, L), (ra, rts), (ia, ids), (pa, prs), (sa, sts)] [(aa, A)]) := fun w g eb r a1 h =>
    h.rbest sc pc (List.mem_cons_of_mem _ (List.mem_cons_of_mem _ (List.mem_cons_of_mem _ (List.mem_cons_of_mem _ (List.mem_cons_self ..))))) (List.mem_cons_of_mem _ (List.mem_cons_of_mem _ (List.mem_cons_of_mem _ (List.mem_cons_self ..)))) hsl hpl (by omega) (by omega) P L b hB hLl
  have k15 : ∀ w g eb r a1 a2 c1, KX W w [(g, eb, N, es)] [(r, N, es)] [(a2, L), (a1, L), (ra, rts), (ia, ids), (pa, prs), (sa, sts)] [(aa, A)] → Calls Tryd.prog 15 #[.slice a1 b c1, .slice aa na ac, .int .i64 room] w fun e w' => ∃ a3 c3, e = .returned (.slice a3 c c3) ∧ Hid (KX W w' [(g, eb, N, es)] [(r, N, es)] [(a3, C), (a2, L), (a1, L), (ra, rts), (ia, ids), (pa, prs), (sa, sts)] [(aa, A)]) := fun w g eb r a1 a2 c1 h =>
    h.fits c1 ac room (List.mem_cons_of_mem _ (List.mem_cons_self ..)) (List.mem_singleton.2 rfl) hLl (by omega) hAl C c hC hCl
  have k16 : ∀ w g eb r a1 a2 a3 c2, KX W w [(g, eb, N, es)] [(r, N, es)] [(a3, C), (a2, L), (a1, L), (ra, rts), (ia, ids), (pa, prs), (sa, sts)] [(aa, A)] → Calls Tryd.prog 16 #[.slice a2 b c2, .slice aa na ac, .int .i64 room] w fun e w' => ∃ a4 c4, e = .returned (.slice a4 c c4) ∧ Hid (KX W w' [(g, eb, N, es)] [(r, N, es)] [(a4, C), (a3, C), (a2, L), (a1, L), (ra, rts), (ia, ids), (pa, prs), (sa, sts)] [(aa, A)]) := fun w g eb r a1 a2 a3 c2 h =>
    h.rfits c2 ac room (List.mem_cons_of_mem _ (List.mem_cons_self ..)) (List.mem_singleton.2 rfl) hLl (by omega) hAl C c hC hCl
  have k17 : ∀ w g eb r a1 a2 a3 a4 c3, KX W w [(g, eb, N, es)] [(r, N, es)] [(a4, C), (a3, C), (a2, L), (a1, L), (ra, rts), (ia, ids), (pa, prs), (sa, sts)] [(aa, A)] → Calls Tryd.prog 17 #[ptr g, .slice a3 c c3, .slice aa na ac, .slice ia i ic, .slice ra q rc] w fun e w' => ∃ ua uc va vc, e = .returned (.tuple #[.slice ua l uc, .slice va l vc]) ∧ Hid (KX W w' [(g, eb, N, es)] [(r, N, es)] [(va, O), (a4, C), (a3, C), (a2, L), (a1, L), (ra, rts), (ia, ids), (pa, prs), (sa, sts)] [(ua, U), (aa, A)]) := fun w g eb r a1 a2 a3 a4 c3 h =>
    h.wants (List.mem_singleton.2 rfl) c3 ac ic rc (List.mem_cons_of_mem _ (List.mem_cons_self ..)) hCl (by omega) (List.mem_singleton.2 rfl) hAl (List.mem_cons_of_mem _ (List.mem_cons_of_mem _ (List.mem_cons_of_mem _ (List.mem_cons_of_mem _ (List.mem_cons_of_mem _ (List.mem_cons_self ..)))))) hil (by omega) (List.mem_cons_of_mem _ (List.mem_cons_of_mem _ (List.mem_cons_of_mem _ (List.mem_cons_of_mem _ (List.mem_cons_self ..))))) hrl (by omega) U O l l hW hUl hOl
  have k18 : ∀ w g eb r a1 a2 a3 a4 va ua c4, KX W w [(g, eb, N, es)] [(r, N, es)] [(va, O), (a4, C), (a3, C), (a2, L), (a1, L), (ra, rts), (ia, ids), (pa, prs), (sa, sts)] [(ua, U), (aa, A)] → Calls Tryd.prog 18 #[ptr r, .slice a4 c c4, .slice aa na ac, .slice ia i ic, .slice ra q rc] w fun e w' => ∃ ub uc vb vc, e = .returned (.tuple #[.slice ub l uc, .slice vb l vc]) ∧ Hid (KX W w' [(g, eb, N, es)] [(r, N, es)] [(vb, O), (va, O), (a4, C), (a3, C), (a2, L), (a1, L), (ra, rts), (ia, ids), (pa, prs), (sa, sts)] [(ub, U), (ua, U), (aa, A)]) := fun w g eb r a1 a2 a3 a4 va ua c4 h =>
    h.rwants (List.mem_singleton.2 rfl) (by omega) c4 ac ic rc (List.mem_cons_of_mem _ (List.mem_cons_self ..)) hCl (by omega) (List.mem_cons_of_mem _ (List.mem_cons_self ..)) hAl (List.mem_cons_of_mem _ (List.mem_cons_of_mem _ (List.mem_cons_of_mem _ (List.mem_cons_of_mem _ (List.mem_cons_of_mem _ (List.mem_cons_of_mem _ (List.mem_cons_self ..))))))) hil (by omega) (List.mem_cons_of_mem _ (List.mem_cons_of_mem _ (List.mem_cons_of_mem _ (List.mem_cons_of_mem _ (List.mem_cons_of_mem _ (List.mem_cons_self ..)))))) hrl (by omega) U O l l hW hUl hOl
  have ke1 : ∀ w g eb r a1 a2 a3 a4 va vb ua ub c1 c2, KX W w [(g, eb, N, es)] [(r, N, es)] [(vb, O), (va, O), (a4, C), (a3, C), (a2, L), (a1, L), (ra, rts), (ia, ids), (pa, prs), (sa, sts)] [(ub, U), (ua, U), (aa, A)] → Calls Tryd.prog 19 #[.slice a1 b c1, .slice a2 b c2] w fun e w' => e = .returned (.bool true) ∧ Hid (KX W w' [(g, eb, N, es)] [(r, N, es)] [(vb, O), (va, O), (a4, C), (a3, C), (a2, L), (a1, L), (ra, rts), (ia, ids), (pa, prs), (sa, sts)] [(ub, U), (ua, U), (aa, A)]) := fun w g eb r a1 a2 a3 a4 va vb ua ub c1 c2 h =>
    h.eqs c1 c2 (List.mem_cons_of_mem _ (List.mem_cons_of_mem _ (List.mem_cons_of_mem _ (List.mem_cons_of_mem _ (List.mem_cons_of_mem _ (List.mem_cons_self ..)))))) (List.mem_cons_of_mem _ (List.mem_cons_of_mem _ (List.mem_cons_of_mem _ (List.mem_cons_of_mem _ (List.mem_cons_self ..))))) hLl hLl (by omega) true (by simp)
  have ke2 : ∀ w g eb r a1 a2 a3 a4 va vb ua ub c1 c2, KX W w [(g, eb, N, es)] [(r, N, es)] [(vb, O), (va, O), (a4, C), (a3, C), (a2, L), (a1, L), (ra, rts), (ia, ids), (pa, prs), (sa, sts)] [(ub, U), (ua, U), (aa, A)] → Calls Tryd.prog 19 #[.slice a3 c c1, .slice a4 c c2] w fun e w' => e = .returned (.bool true) ∧ Hid (KX W w' [(g, eb, N, es)] [(r, N, es)] [(vb, O), (va, O), (a4, C), (a3, C), (a2, L), (a1, L), (ra, rts), (ia, ids), (pa, prs), (sa, sts)] [(ub, U), (ua, U), (aa, A)]) := fun w g eb r a1 a2 a3 a4 va vb ua ub c1 c2 h =>
    h.eqs c1 c2 (List.mem_cons_of_mem _ (List.mem_cons_of_mem _ (List.mem_cons_of_mem _ (List.mem_cons_self ..)))) (List.mem_cons_of_mem _ (List.mem_cons_of_mem _ (List.mem_cons_self ..))) hCl hCl (by omega) true (by simp)
  have ke3 : ∀ w g eb r a1 a2 a3 a4 va vb ua ub c1 c2, KX W w [(g, eb, N, es)] [(r, N, es)] [(vb, O), (va, O), (a4, C), (a3, C), (a2, L), (a1, L), (ra, rts), (ia, ids), (pa, prs), (sa, sts)] [(ub, U), (ua, U), (aa, A)] → Calls Tryd.prog 19 #[.slice va l c1, .slice vb l c2] w fun e w' => e = .returned (.bool true) ∧ Hid (KX W w' [(g, eb, N, es)] [(r, N, es)] [(vb, O), (va, O), (a4, C), (a3, C), (a2, L), (a1, L), (ra, rts), (ia, ids), (pa, prs), (sa, sts)] [(ub, U), (ua, U), (aa, A)]) := fun w g eb r a1 a2 a3 a4 va vb ua ub c1 c2 h =>
    h.eqs c1 c2 (List.mem_cons_of_mem _ (List.mem_cons_self ..)) (List.mem_cons_self ..) hOl hOl (by omega) true (by simp)
  have HL := hide_it hl
  have HM1 := hide_it hm1
  have HUL := hide_it hUl
  have HEs : Hid (foldE N (ls.take 100) [] = es) := hes
  generalize min n 30 = n30 at *
  clear hT h0 hs hp hl hA hi hr hN hes hs0 hp0 hm1 hn0 hi0 hr0 hss hpp hnn hii hqq hsts hprs hAA hids hrts hsl hpl hAl hil hrl hs2 hp2 hA2 hi2 hr2 hB hLl hC hCl hW hUO hUl hOl
  go_enter Tryd.func3, Tryd.ntmps3
  go_upto_block 0 with (first | (go_at_call 8; refine ks.mono ?_; rintro e w1 ⟨rfl, s1⟩) | (go_at_call 9; refine (kn _ s1.out).mono ?_; rintro e w2 ⟨g, eb, rfl, s2⟩) | (go_at_call 10; refine (kr _ _ _ s2.out).mono ?_; rintro e w3 ⟨r, rfl, s3⟩))
  clear ks kn kr s1 s2 hmin3
  go_cut [] (fun wx => Hid (KX W wx [(g, eb, N, es)] [(r, N, es)] [(ra, rts), (ia, ids), (pa, prs), (sa, sts)] [(aa, A)]))
  case first =>
    clear k13 k14 k15 k16 k17 k18 ke1 ke2 ke3
    go_wp2
    go_loopw [20] (fun i W' => ∃ k : Nat, k ≤ m1 ∧ k ≤ 100 ∧ i = .int .i64 k ∧ Hid (TX W.heap.size W W' g eb N (foldE N (ls.take k) []) r (foldE N (ls.take k) []))) (fun i _ => m1 - (intOf i).toNat)
    case atStart => exact ⟨0, Nat.zero_le _, by omega, rfl, s3⟩
    case round =>
      obtain ⟨k, hk, hk2, rfl, s4⟩ := hrel
      clear s3
      obtain ⟨w4, rfl⟩ : ∃ w', w' = wr := ⟨_, rfl⟩
      by_cases hlt : k < m1 ∧ k < 100
      · obtain ⟨hlt, hlt2⟩ := hlt
        have hlx : k < ls.length := by rw [HM1.out]; exact hlt
        obtain ⟨bb, o, rfl, hbw, c1, c2⟩ := HL.out k hlx
        have HT := hide_it (foldE_take N ls k hlx)
        have hfl := foldE_len N ls k
        generalize ls[k] = e at *
        obtain ⟨x, y⟩ := e
        simp only at c1 c2 HT
        generalize foldE N (ls.take k) [] = fs at *
        have HC : Hid (∀ V, Below W.heap.size W V → V.cell? ⟨bb, o + k * 2, none⟩ = some (.int .i64 x) ∧ V.cell? ⟨bb, o + k * 2 + 1, none⟩ = some (.int .i64 y)) := fun V h =>
          ⟨by rw [h.cell (p := ⟨bb, o + k * 2, none⟩) hbw]; exact c1, by rw [h.cell (p := ⟨bb, o + k * 2 + 1, none⟩) hbw]; exact c2⟩
        have ka := fun j => (s4.out.step (below_drewN (Below.refl _ _) j)).gadd (by omega) x y _ _ _ rfl rfl rfl
        clear c1 c2
        obtain ⟨c1, c2⟩ := HC.out _ s4.out.bel
        go_wp2
        go_region_with ((go_at_call 11; refine (ka 1).mono ?_; rintro e w5 ⟨rfl, s5⟩))
        all_goals
          have kb := fun j => (s5.out.1.step (below_drewN (Below.refl _ _) j)).radd (by omega) x y _ _ _ rfl rfl rfl
          clear c1 c2 ka
          obtain ⟨c1, c2⟩ := HC.out _ s5.out.1.bel
          go_wp2
          go_region_with ((go_at_call 12; refine (kb 1).mono ?_; rintro e w6 ⟨rfl, s6⟩))
          all_goals
            go_wp2
            go_roundw
            case rel => exact ⟨k + 1, by omega, by omega, by go_num, by unfold Hid; rw [HT.out]; exact s6.out.1⟩
            case measure => simp [intOf]; omega
      · have e1 : foldE N (ls.take k) [] = es := by
          rw [← HEs.out]
          by_cases h1 : k < m1
          · have : k = 100 := by omega
            rw [this]
          · rw [List.take_of_length_le (by rw [HM1.out]; omega), List.take_of_length_le (by rw [HM1.out]; omega)]
        rw [e1] at s4
        clear e1
        by_cases hkm : k < m1
        · have hkx : decide ((k : Int) < 100) = false := by simp; omega
          go_wp2
          go_meet
          exact HEX.out _ _ _ _ s4.out
        · have hkx : decide ((k : Int) < (m1 : Int)) = false := by simp; omega
          go_wp2
          go_meet
          exact HEX.out _ _ _ _ s4.out
  case rest =>
    have s4 := hcut
    obtain ⟨w4, rfl⟩ : ∃ w', w' = wc := ⟨_, rfl⟩
    clear hcut s3 HEX HEs HL HM1
    go_upto_region 17 with (go_at_call 13; refine (k13 _ _ _ _ s4.out).mono ?_; rintro e w5 ⟨a1, c1, rfl, s5⟩; refine Hid.out ?_)
    refine hide_it ?_
    clear k13 s4
    go_upto_region 18 with (go_at_call 14; refine (k14 _ _ _ _ _ s5.out).mono ?_; rintro e w6 ⟨a2, c2, rfl, s6⟩; refine Hid.out ?_)
    refine hide_it ?_
    clear k14 s5
    go_upto_region 19 with (go_at_call 15; refine (k15 _ _ _ _ _ _ _ s6.out).mono ?_; rintro e w7 ⟨a3, c3, rfl, s7⟩; refine Hid.out ?_)
    refine hide_it ?_
    clear k15 s6
    go_upto_region 20 with (go_at_call 16; refine (k16 _ _ _ _ _ _ _ _ s7.out).mono ?_; rintro e w8 ⟨a4, c4, rfl, s8⟩; refine Hid.out ?_)
    refine hide_it ?_
    clear k16 s7
    go_upto_region 21 with (go_at_call 17; refine (k17 _ _ _ _ _ _ _ _ _ s8.out).mono ?_; rintro e w9 ⟨ua, uc, va, vc, rfl, s9⟩; refine Hid.out ?_)
    refine hide_it ?_
    clear k17 s8
    go_upto_region 22 with (go_at_call 18; refine (k18 _ _ _ _ _ _ _ _ _ _ _ s9.out).mono ?_; rintro e w10 ⟨ub, ubc, vb, vbc, rfl, s10⟩; refine Hid.out ?_)
    refine hide_it ?_
    clear k18 s9
    have hPP : (P != P) = false := by simp
    have hll : ((l : Int) != l) = false := by simp
    go_wp2_with (go_at_call 19; refine (ke1 _ _ _ _ _ _ _ _ _ _ _ _ _ _ s10.out).mono ?_; rintro e w11 ⟨rfl, s11⟩; refine Hid.out ?_)
    refine hide_it ?_
    go_wp2_with (go_at_call 19; refine (ke2 _ _ _ _ _ _ _ _ _ _ _ _ _ _ s11.out).mono ?_; rintro e w12 ⟨rfl, s12⟩; refine Hid.out ?_)
    refine hide_it ?_
    go_wp2_with (go_at_call 19; refine (ke3 _ _ _ _ _ _ _ _ _ _ _ _ _ _ s12.out).mono ?_; rintro e w13 ⟨rfl, s13⟩; refine Hid.out ?_)
    refine hide_it ?_
    clear ke1 ke2 ke3 s10 s11 s12
    go_wp2
    go_loopw [31] (fun a W' => ∃ k : Nat, k ≤ l ∧ a = .int .i64 k ∧ Hid (KX W W' [(g, eb, N, es)] [(r, N, es)] [(vb, O), (va, O), (a4, C), (a3, C), (a2, L), (a1, L), (ra, rts), (ia, ids), (pa, prs), (sa, sts)] [(ub, U), (ua, U), (aa, A)])) (fun a _ => l - (intOf a).toNat)
    case atStart => exact ⟨0, Nat.zero_le _, rfl, s13⟩
    case round =>
      obtain ⟨k, hk, rfl, s14⟩ := hrel
      obtain ⟨w14, rfl⟩ : ∃ w', w' = wr := ⟨_, rfl⟩
      clear s13 hPP hll
      by_cases hkl : k < l
      · have hkx : k < U.length := by rw [HUL.out]; exact hkl
        obtain ⟨xb, xo, rfl, hxb, cX1, cX2⟩ := (s14.out.pair (List.mem_cons_of_mem _ (List.mem_cons_self ..))) k hkx
        obtain ⟨yb, yo, rfl, hyb, cY1, cY2⟩ := (s14.out.pair (List.mem_cons_self ..)) k hkx
        generalize U[k] = u at *
        obtain ⟨d, t⟩ := u
        simp only at cX1 cX2 cY1 cY2
        have q1 : (d != d) = false := by simp
        have q2 : (t != t) = false := by simp
        · as_aux_lemma =>
          go_wp2
          go_big_quiet (fail)
          go_wp2
          go_roundw
          case rel => exact ⟨k + 1, by omega, by go_num, s14.out.step (below_drewN (Below.refl _ _) _)⟩
          case measure => simp [intOf]; omega
      · go_wp2
        go_ret
        exact ⟨rfl, s14.out.bel⟩
end Go.Proofs.YtipkgoghodkbfaaDoor
