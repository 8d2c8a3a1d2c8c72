/- Each priority is nobody's, or that of one that reaches the task; one request more, or one edge, lowers none: the walk. -/
import Derived.Test.YtmeeimfjibcncaaDoorQow
import Derived.Test.YtmeeimfjibcncaaDoorLWa
import Derived.Test.YtmeeimfjibcncaaDoorAxb
namespace Go.Proofs.YtmeeimfjibcncaaDoor
open Go.RowKit
open M
set_option linter.unusedVariables false
set_option linter.unusedSimpArgs false

/-- Has one of the first k of these the priority? -/
def fnd (pt : Int) (G : Nat → Int) (L : List Nat) (k : Nat) : Bool := (pt == -1) || (L.take k).any fun i => G i == pt
theorem fnd_zero (pt : Int) (G : Nat → Int) (L : List Nat) : fnd pt G L 0 = (pt == -1) := by simp [fnd]
theorem fnd_step (pt : Int) (G : Nat → Int) (L : List Nat) (k : Nat) (h : k < L.length) : fnd pt G L (k + 1) = (fnd pt G L k || (G L[k] == pt)) := by
  unfold fnd
  rw [List.take_succ_eq_append_getElem h, List.any_append, Bool.or_assoc]
  simp only [List.any_cons, List.any_nil, Bool.or_false]
def prQ (Q : List Rq) (i : Nat) : Int := match Q[i]? with | some q => q.2.2 | none => 0
theorem prQ_at (Q : List Rq) (i : Nat) (h : i < Q.length) : prQ Q i = Q[i].2.2 := by unfold prQ; rw [List.getElem?_eq_getElem h]
/-- What the law says of the priorities. -/
structure OnW (n : Nat) (es es2 : List E) (Q : List Rq) (q : Rq) (P X Y : List Int) : Prop where
  pl : P.length = n
  xl : X.length = n
  yl : Y.length = n
  by_ : ∀ t (h : t < P.length), ∀ k (hk : k < (reachedL n es Q (t : Int) Q.length).length), (reachedL n es Q (t : Int) Q.length)[k] < Q.length ∧ prQ Q (reachedL n es Q (t : Int) Q.length)[k] ≤ P[t]
  fd : ∀ t (h : t < P.length), fnd P[t] (prQ Q) (reachedL n es Q (t : Int) Q.length) (reachedL n es Q (t : Int) Q.length).length = true
  xx : ∀ t (h : t < P.length) (h2 : t < X.length), P[t] ≤ X[t]
  yy : ∀ t (h : t < P.length) (h2 : t < Y.length), P[t] ≤ Y[t]
theorem onW {n : Nat} {es : List E} (Q : List Rq) (q : Rq) (a b : Int) : OnW n es (addE n es a b) Q q (ofL n es Q) (ofL n es (Q ++ [q])) (ofL n (addE n es a b) Q) := by
  refine ⟨by simp [ofL], by simp [ofL], by simp [ofL], fun t h k hk => ?_, fun t h => ?_, fun t h h2 => ?_, fun t h h2 => ?_⟩
  · obtain ⟨h1, h2⟩ := reachedL_mem n es Q t (List.getElem_mem hk)
    refine ⟨h1, ?_⟩
    rw [prQ_at Q _ h1]
    simp only [ofL, List.getElem_map, List.getElem_range]
    exact prio_ge h1 h2
  · simp only [ofL, List.getElem_map, List.getElem_range]
    unfold fnd
    rw [List.take_length, Bool.or_eq_true]
    rcases prio_found n es t Q with e | ⟨i, hi, h1, h2⟩
    · left; rw [e]; rfl
    · right
      rw [List.any_eq_true]
      exact ⟨i, reachedL_in n es Q t hi h1, by rw [prQ_at Q i hi, h2]; simp⟩
  · simp only [ofL, List.getElem_map, List.getElem_range]
    rw [prioOf_snoc]
    exact upB_le _ _ _
  · simp only [ofL, List.getElem_map, List.getElem_range]
    exact prio_add_le Q a b t

set_option maxRecDepth 1000000 in
set_option maxHeartbeats 8000000 in
theorem one_core (n : Int) (ls : List (Int × Int)) (la : Option Addr) (lc : Nat) (Q0 : List Rq) (qa0 : Option Addr) (qc : Nat) (rt wt mp ea eb0 : Int) (W0 : World) (hT : Tab W0) (h0 : 0 < W0.heap.size) (hl : LIn W0 la ls) (hm : ls.length ≤ maxLen) (hq : QIn W0 qa0 Q0) (hqm : Q0.length ≤ maxLen) (hqc : Q0.length ≤ qc) :
    Calls Tryd.prog 5 #[.int .i64 n, .slice la ls.length lc, .slice qa0 Q0.length qc, .agg #[.int .i64 rt, .int .i64 wt, .int .i64 mp], .agg #[.int .i64 ea, .int .i64 eb0]] W0 fun e w' => e = .returned (.bool true) ∧ Below W0.heap.size W0 w' := by
  obtain ⟨W1, hw1⟩ : ∃ w1, W0.alloc (.cells #[.int .i64 rt, .int .i64 wt, .int .i64 mp] 49) = w1 := ⟨_, rfl⟩
  obtain ⟨W, hw2⟩ : ∃ w1, W1.alloc (.cells #[.int .i64 ea, .int .i64 eb0] 33) = w1 := ⟨_, rfl⟩
  obtain ⟨c8, hc8⟩ : ∃ c, W0.heap.size = c := ⟨_, rfl⟩
  have hb0 : Below W0.heap.size W0 W1 := by rw [← hw1]; exact (Below.refl _ _).alloc (Nat.le_refl _) _
  have hs0 : W1.heap.size = c8 + 1 := by rw [← hw1, ← hc8]; simp
  have hb1 : Below W0.heap.size W0 W := by rw [← hw2]; exact hb0.alloc (by omega) _
  have hs1 : W.heap.size = c8 + 2 := by rw [← hw2]; simp [hs0]
  have hblk8 : W.heap[c8]? = some (.cells #[.int .i64 rt, .int .i64 wt, .int .i64 mp] 49) := by
    rw [← hw2, heap_alloc_old W1 _ (by omega), ← hw1]
    exact heap_alloc_at hc8 _
  have hblk9 : W.heap[c8 + 1]? = some (.cells #[.int .i64 ea, .int .i64 eb0] 33) := by rw [← hw2]; exact heap_alloc_at hs0 _
  have hT1 := tab_below hT h0 hb1
  have ks := shown_q hT1 (by omega) (Below.refl _ W)
  obtain ⟨m, hmm⟩ : ∃ m, ls.length = m := ⟨_, rfl⟩
  obtain ⟨N, hN⟩ : ∃ N, sz30 n = N := ⟨_, rfl⟩
  obtain ⟨es, hes⟩ : ∃ es, foldE N (ls.take 100) [] = es := ⟨_, rfl⟩
  have hlen : es.length ≤ 100 := by rw [← hes]; exact fold_len N ls
  have hN30 : N ≤ 30 := by rw [← hN]; exact sz30_le n
  obtain ⟨Q, hQ⟩ : ∃ Q, Q0.take 20 = Q := ⟨_, rfl⟩
  obtain ⟨M0, hM0⟩ : ∃ M0, Q0.length = M0 := ⟨_, rfl⟩
  obtain ⟨K, hK⟩ : ∃ K, min M0 20 = K := ⟨_, rfl⟩
  have hQK : Q.length = K := by rw [← hQ, List.length_take]; omega
  have hmin := min20_run M0 K hK
  have hmi := min20_is M0 K hK
  have hKc : K ≤ qc := by omega
  have hK20 : K ≤ 20 := by omega
  have hq' : QIn W qa0 Q := by rw [← hQ]; exact (hq.take 20).below hb1 (Nat.le_refl _)
  obtain ⟨B, hB⟩ : ∃ B, W.heap.size = B := ⟨_, rfl⟩
  have km : ∀ w2, Below B W w2 → Calls Tryd.prog 9 #[.int .i64 n, .slice la m lc] w2 fun e w' => ∃ g eb, e = .returned (ptr g) ∧ Hid (PX B W w' g eb N es [] [(qa0, Q)]) := fun w2 hb => by
    rw [← hB] at hb ⊢
    refine (made_q hT1 (by omega) hb n ls la lc (hl.below hb1 (Nat.le_refl _)) hm m N es hN hmm hes).mono ?_
    rintro e w' ⟨g, eb, rfl, s⟩
    exact ⟨g, eb, rfl, s.out.argQ (Nat.le_refl _) hq'⟩
  have HW := hide_it (onW (n := N) (es := es) Q (rt, wt, mp) ea eb0)
  obtain ⟨es2, hes2⟩ : ∃ es2, addE N es ea eb0 = es2 := ⟨_, rfl⟩
  have kO : ∀ w1 g eb qa cap, OX B W w1 g eb N es [] qa cap Q → Calls Tryd.prog 15 #[ptr g, .slice qa K cap] w1 fun e w' => ∃ b, e = .returned (.slice (some ⟨b, 0, none⟩) N N) ∧ Hid (OX B W w' g eb N es [(.slice (some ⟨b, 0, none⟩) N N, ofL N es Q)] qa cap Q) := fun w1 g eb qa cap h => h.of (by omega) cap K hQK _ rfl
  have kR : ∀ w1 g eb X qa cap (t : Nat), OX B W w1 g eb N es X qa cap Q → Calls Tryd.prog 13 #[ptr g, .slice qa K cap, .int .i64 t] w1 fun e w' => ∃ ao cap', e = .returned (.slice ao (reachedL N es Q (t : Int) Q.length).length cap') ∧ Hid (OX B W w' g eb N es ((.slice ao (reachedL N es Q (t : Int) Q.length).length cap', zs (reachedL N es Q (t : Int) Q.length)) :: X) qa cap Q) := fun w1 g eb X qa cap t h => h.reached (by omega) cap K hQK t _ rfl
  have kX : ∀ w1 g eb X Y qa2 cap, PX B W w1 g eb N es X ((qa2, Q ++ [(rt, wt, mp)]) :: Y) → Calls Tryd.prog 15 #[ptr g, .slice qa2 (K + 1) cap] w1 fun e w' => ∃ b, e = .returned (.slice (some ⟨b, 0, none⟩) N N) ∧ Hid (PX B W w' g eb N es ((.slice (some ⟨b, 0, none⟩) N N, ofL N es (Q ++ [(rt, wt, mp)])) :: X) ((qa2, Q ++ [(rt, wt, mp)]) :: Y)) := fun w1 g eb X Y qa2 cap h => h.of (List.mem_cons_self) (by simp; omega) cap (K + 1) (by simp; omega) _ rfl
  have kA : ∀ w1 g eb X Y, PX B W w1 g eb N es X Y → Calls Tryd.prog 21 #[ptr g, .int .i64 ea, .int .i64 eb0] w1 fun e w' => e = .returned (.tuple #[.bool (newB N es ea eb0), .int .i64 (errN N ea eb0)]) ∧ Hid (PX B W w' g eb N es2 X Y) := fun w1 g eb X Y h => h.add (by omega) ea eb0 _ _ es2 rfl rfl hes2
  have kY : ∀ w1 g eb X y qa cap, PX B W w1 g eb N es2 X [y, (qa, Q)] → Calls Tryd.prog 15 #[ptr g, .slice qa K cap] w1 fun e w' => ∃ b, e = .returned (.slice (some ⟨b, 0, none⟩) N N) ∧ Hid (PX B W w' g eb N es2 ((.slice (some ⟨b, 0, none⟩) N N, ofL N es2 Q) :: X) [y, (qa, Q)]) := fun w1 g eb X y qa cap h => h.of (by simp) (by omega) cap K hQK _ rfl
  rw [hes2] at HW
  have HCC : Hid (∀ w', Below B W w' → (w'.cell? ⟨c8, 0, none⟩ = some (.int .i64 rt) ∧ w'.cell? ⟨c8, 1, none⟩ = some (.int .i64 wt) ∧ w'.cell? ⟨c8, 2, none⟩ = some (.int .i64 mp)) ∧ w'.cell? ⟨c8 + 1, 0, none⟩ = some (.int .i64 ea) ∧ w'.cell? ⟨c8 + 1, 1, none⟩ = some (.int .i64 eb0)) := by
    intro w' hb
    have hk : w'.heap[c8]? = some (.cells #[.int .i64 rt, .int .i64 wt, .int .i64 mp] 49) := by rw [hb.block c8 (by omega)]; exact hblk8
    have hk9 : w'.heap[c8 + 1]? = some (.cells #[.int .i64 ea, .int .i64 eb0] 33) := by rw [hb.block (c8 + 1) (by omega)]; exact hblk9
    exact ⟨⟨by rw [cell_of_row w' c8 0 _ _ _ hk]; rfl, by rw [cell_of_row w' c8 1 _ _ _ hk]; rfl, by rw [cell_of_row w' c8 2 _ _ _ hk]; rfl⟩, by rw [cell_of_row w' (c8 + 1) 0 _ _ _ hk9]; rfl, by rw [cell_of_row w' (c8 + 1) 1 _ _ _ hk9]; rfl⟩
  have HBW : Hid (∀ w', Below B W w' → Below W0.heap.size W0 w') := fun w' hb => hb1.trans (hb.mono (by omega))
  have HW1 := hide_it hw1
  have HW2 := hide_it hw2
  have HC8 := hide_it hc8
  have HC9 := hide_it hs0
  have hqm2 : M0 ≤ maxLen := by omega
  have hqc2 : M0 ≤ qc := by omega
  have HQK := hide_it hQK
  rw [hB] at ks
  rw [hmm, hM0]
  generalize ofL N es Q = P at *
  generalize ofL N es (Q ++ [(rt, wt, mp)]) = X at *
  generalize ofL N es2 Q = Y at *
  generalize newB N es ea eb0 = nb at *
  generalize errN N ea eb0 = er at *
  have hc0 : 0 < c8 := by omega
  clear hT h0 hl hm hq hmm hes hN hQ hM0 hqm hqc hK hQK hq' hes2 hT1 hw1 hw2 hc8 hb0 hs0 hb1 hblk8 hblk9 hB hs1
  unfold maxLen at hqm2
  go_enter Tryd.func5, Tryd.ntmps5
  go_upto_region 5 with (first | (rw [HW1.out]) | (rw [HW2.out]) | (go_at_call 8; refine ks.mono ?_; rintro e w1 ⟨rfl, s1⟩) | (go_at_call 9; refine (km _ s1.out).mono ?_; rintro e w2 ⟨g, eb, rfl, s2⟩))
  clear s1 ks km
  first | rw [HC9.out] | skip
  first | rw [HC8.out] | skip
  go_upto_region 6 with (at_builtin; refine wpList_copyQ rfl (.tmp 27) (.tmp 32) rfl qa0 K qc Q (s2.out.q (List.mem_singleton.2 rfl)) HQK.out (by omega) rfl rfl ?_; intro v3 w3 ho3 hb3; refine Hid.out ?_)
  obtain ⟨qa, cap, rfl⟩ := own_form ho3
  have s3 := hide_it (OX.start (cap := cap) (Q := Q) s2.out.noQ hb3 (by rw [HQK.out]; exact ho3))
  clear ho3 hb3 s2
  refine hide_it ?_
  go_upto_region 7 with (go_at_call 15; refine (kO _ _ _ _ _ s3.out).mono ?_; rintro e w4 ⟨b1, rfl, s4⟩)
  clear s3 kO
  go_wp2
  go_loopw [14] (fun i w' => ∃ t : Nat, t ≤ N ∧ i = .int .i64 t ∧ Hid (OX B W w' g eb N es [(.slice (some ⟨b1, 0, none⟩) N N, P)] qa cap Q)) (fun i _ => N - (intOf i).toNat)
  case atStart => exact ⟨0, Nat.zero_le _, rfl, s4⟩
  case round =>
    obtain ⟨t, ht, rfl, s5⟩ := hrel
    obtain ⟨w5, rfl⟩ : ∃ w', w' = wr := ⟨_, rfl⟩
    clear s4
    by_cases htn : t < N
    · have kr := kR _ _ _ _ _ _ t s5.out
      have htp : t < P.length := by rw [HW.out.pl]; exact htn
      have HBY := hide_it (HW.out.by_ t htp)
      have HFE := hide_it (HW.out.fd t htp)
      have hLl : (reachedL N es Q (t : Int) Q.length).length ≤ K := Nat.le_trans (reachedL_len _ _ _ _ _) (Nat.le_of_eq HQK.out)
      generalize reachedL N es Q (t : Int) Q.length = L at *
      obtain ⟨l, hl⟩ : ∃ l, L.length = l := ⟨_, rfl⟩
      have HLl := hide_it hl
      rw [hl] at kr hLl
      clear hl
      have HP : Hid (∀ w' X', OX B W w' g eb N es X' qa cap Q → (.slice (some ⟨b1, 0, none⟩) N N, P) ∈ X' → w'.cell? ⟨b1, t, none⟩ = some (.int .i64 P[t])) := fun w' X' h hx => by
        obtain ⟨q1, e1, _, d1⟩ := (h.px.row hx).at t htp
        cases e1
        exact d1
      generalize P[t] = pt at *
      have HF0 := hide_it (fnd_zero pt (prQ Q) L)
      have HFS := hide_it (fnd_step pt (prQ Q) L)
      generalize fnd pt (prQ Q) L = F at *
      have hti : (t : Int) < N := by omega
      go_wp2_with (go_at_call 13; refine kr.mono ?_; rintro e w6 ⟨ao, uc, rfl, s6⟩; have c5 := HP.out _ _ s6.out (by simp))
      clear kr c5 s5
      go_loopw [16, 17] (fun f i w' => ∃ k : Nat, k ≤ l ∧ i = .int .i64 k ∧ f = .bool (F k) ∧ Hid (OX B W w' g eb N es [(.slice ao l uc, zs L), (.slice (some ⟨b1, 0, none⟩) N N, P)] qa cap Q)) (fun _ i _ => l - (intOf i).toNat)
      case atStart => exact ⟨0, Nat.zero_le _, rfl, by rw [HF0.out], s6⟩
      case round =>
        obtain ⟨k, hk, rfl, rfl, s7⟩ := hrel
        obtain ⟨w7, rfl⟩ : ∃ w', w' = wr := ⟨_, rfl⟩
        clear s6
        by_cases hkl : k < l
        · have hkx : k < L.length := by rw [HLl.out]; exact hkl
          obtain ⟨r, rfl, _, c1⟩ := (s7.out.px.row (u := .slice ao l uc) (L := zs L) (by simp)).at k (by rw [zs_len]; exact hkx)
          rw [zs_at] at c1
          obtain ⟨hy, hp⟩ := HBY.out k hkx
          have HS := HFS.out k hkx
          obtain ⟨rb, o, rfl, hrb, _, _, c2⟩ := (s7.out.px.q (a := qa) (Q := Q) (by simp)) _ hy
          rw [← prQ_at Q _ hy] at c2
          have c3 := HP.out _ _ s7.out (by simp)
          rw [HQK.out] at hy
          generalize L[k] = y at *
          generalize prQ Q y = pr at *
          have hd1 : decide ((y : Int) < 0) = false := by simp
          have hd2 : decide ((K : Int) ≤ y) = false := by simp; omega
          have hd2' : decide (K ≤ y) = false := by simp; omega
          have hd3 : decide (pt < pr) = false := by simp; omega
          have hyK : (y : Int) < K := by omega
          generalize F k = f at *
          cases f with
          | true =>
            have HS2 : Hid (F (k + 1) = true) := by rw [HS]; rfl
            clear HS
            go_wp2
            go_big_quiet (fail)
            go_wp2
            go_big_quiet (fail)
            go_wp2
            go_roundw
            case rel => exact ⟨k + 1, by omega, by go_num, by rw [HS2.out], s7.out.drewN _⟩
            case measure => simp [intOf]; omega
          | false =>
            have HS2 : Hid (F (k + 1) = (pr == pt)) := by rw [HS]; rfl
            clear HS
            go_wp2
            go_big_quiet (fail)
            go_wp2
            go_big_quiet (fail)
            go_wp2
            go_roundw
            case rel => exact ⟨k + 1, by omega, by go_num, by rw [HS2.out], s7.out.drewN _⟩
            case measure => simp [intOf]; omega
        · have ek : k = l := by omega
          subst ek
          rw [HLl.out] at HFE
          have hfe := HFE.out
          generalize F k = f at *
          subst hfe
          go_wp2
          go_roundw
          case rel => exact ⟨t + 1, by omega, by go_num, s7.out.fewer (by simp)⟩
          case measure => simp [intOf]; omega
    · have et : t = N := by omega
      subst et
      obtain ⟨⟨q0, q1, q2⟩, -⟩ := HCC.out _ s5.out.px.bel
      clear kR
      go_upto_region 21 with (at_builtin; refine wpList_oneQ s5.out rfl (.tmp 106) (.tmp 108) rfl rt wt mp K HQK.out (by omega) rfl rfl ?_; intro qa2 cap2 w6 s6; refine Hid.out ?_)
      refine hide_it ?_
      have s6' := hide_it s6
      clear q0 q1 q2 s5 s6
      go_upto_region 21 with (go_at_call 15; refine (kX _ _ _ _ _ _ _ s6'.out).mono ?_; rintro e w7 ⟨b2, rfl, s7⟩)
      obtain ⟨-, q3, q4⟩ := HCC.out _ s7.out.bel
      clear s6' kX
      go_upto_region 23 with (first | (go_at_call 21; refine (kA _ _ _ _ _ s7.out).mono ?_; rintro e w8 ⟨rfl, s8⟩) | (go_at_call 15; refine (kY _ _ _ _ _ _ _ s8.out).mono ?_; rintro e w9 ⟨b3, rfl, s9⟩))
      clear q3 q4 s7 s8 kA kY
      have htt : ((t : Int) != (t : Int)) = false := by simp
      go_wp2
      go_loopw [20] (fun i w' => ∃ j : Nat, j ≤ t ∧ i = .int .i64 j ∧ Hid (PX B W w' g eb t es2 [(.slice (some ⟨b3, 0, none⟩) t t, Y), (.slice (some ⟨b2, 0, none⟩) t t, X), (.slice (some ⟨b1, 0, none⟩) t t, P)] [(qa2, Q ++ [(rt, wt, mp)]), (qa, Q)])) (fun i _ => t - (intOf i).toNat)
      case atStart => exact ⟨0, Nat.zero_le _, rfl, s9⟩
      case round =>
        obtain ⟨j, hj, rfl, sA⟩ := hrel
        obtain ⟨wA, rfl⟩ : ∃ w', w' = wr := ⟨_, rfl⟩
        clear s9
        by_cases hjt : j < t
        · have h1 := HW.out.pl
          have h2 := HW.out.xl
          have h3 := HW.out.yl
          obtain ⟨r1, e1, _, c1⟩ := (sA.out.row (u := .slice (some ⟨b1, 0, none⟩) t t) (L := P) (by simp)).at j (by omega)
          obtain ⟨r2, e2, _, c2⟩ := (sA.out.row (u := .slice (some ⟨b2, 0, none⟩) t t) (L := X) (by simp)).at j (by omega)
          obtain ⟨r3, e3, _, c3⟩ := (sA.out.row (u := .slice (some ⟨b3, 0, none⟩) t t) (L := Y) (by simp)).at j (by omega)
          cases e1
          cases e2
          cases e3
          have hx := HW.out.xx j (by omega) (by omega)
          have hy := HW.out.yy j (by omega) (by omega)
          generalize P[j] = pv at *
          generalize X[j] = xv at *
          generalize Y[j] = yv at *
          have hd1 : decide (xv < pv) = false := by simp; omega
          have hd2 : decide (yv < pv) = false := by simp; omega
          have hjI : (j : Int) < t := by omega
          clear h1 h2 h3
          go_wp2
          go_big_quiet (fail)
          go_wp2
          go_roundw
          case rel => exact ⟨j + 1, by omega, by go_num, sA.out.drewN _⟩
          case measure => simp [intOf]; omega
        · go_wp2
          go_ret
          exact ⟨rfl, HBW.out _ sA.out.bel⟩
end Go.Proofs.YtmeeimfjibcncaaDoor
