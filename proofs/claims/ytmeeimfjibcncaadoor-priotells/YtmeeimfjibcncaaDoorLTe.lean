/- Priorities are what the document says: the walk. -/
import Derived.Test.YtmeeimfjibcncaaDoorRRs
import Derived.Test.YtmeeimfjibcncaaDoorLWa
import Derived.Test.YtmeeimfjibcncaaDoorLNo
namespace Go.Proofs.YtmeeimfjibcncaaDoor
open Go.RowKit
open M
set_option linter.unusedVariables false
set_option linter.unusedSimpArgs false

/-- Both graphs, rows, and requests that came in. -/
structure TZ (B : Nat) (w0 w : World) (g eb n : Nat) (es : List E) (r : Nat) (X : List (Value × List Int)) (qa : Option Addr) (Q : List Rq) : Prop where
  t : TX B w0 w g eb n es r es
  x : ∀ p ∈ X, ZAt w p.1 p.2
  q : QIn w qa Q
section
variable {B : Nat} {w0 w w' : World} {g eb n : Nat} {es : List E} {r : Nat} {X : List (Value × List Int)} {qa : Option Addr} {Q : List Rq}
theorem TZ.step (h : TZ B w0 w g eb n es r X qa Q) (hb : Below w.heap.size w w') : TZ B w0 w' g eb n es r X qa Q := ⟨h.t.step hb, fun p hp => (h.x p hp).below hb (Nat.le_refl _), h.q.below hb (Nat.le_refl _)⟩
theorem TZ.none (h : TZ B w0 w g eb n es r X qa Q) : TZ B w0 w g eb n es r [] qa Q := ⟨h.t, by simp, h.q⟩
theorem TZ.call (h : TZ B w0 w g eb n es r X qa Q) {f : Nat} {args : Array Value} {L : List Int} (hc : Calls Tryd.prog f args w fun e w' => ∃ u, e = .returned u ∧ ZAt w' u L ∧ Below w.heap.size w w') :
    Calls Tryd.prog f args w fun e w' => ∃ ao cap, e = .returned (.slice ao L.length cap) ∧ Hid (TZ B w0 w' g eb n es r ((.slice ao L.length cap, L) :: X) qa Q) := by
  refine hc.mono ?_
  rintro e w' ⟨u, rfl, ho, hb⟩
  obtain ⟨ao, cap, rfl⟩ := ho.form
  refine ⟨ao, cap, rfl, h.t.step hb, fun p hp => ?_, h.q.below hb (Nat.le_refl _)⟩
  rcases List.mem_cons.1 hp with rfl | hp
  · exact ho
  · exact (h.x p hp).below hb (Nat.le_refl _)
theorem TZ.eqs (h : TZ B w0 w g eb n es r X qa Q) {x y : Value} {L : List Int} (hx : (x, L) ∈ X) (hy : (y, L) ∈ X) (hl : L.length ≤ 1000000) : Calls Tryd.prog 12 #[x, y] w fun e w' => e = .returned (.bool true) ∧ Hid (TZ B w0 w' g eb n es r X qa Q) := by
  refine (zints_any (h.x _ hx) (h.x _ hy) hl).mono ?_
  rintro e w' ⟨rfl, hb⟩
  exact ⟨by simp, h.step hb⟩
theorem TZ.reached (h : TZ B w0 w g eb n es r X qa Q) (hm : Q.length ≤ 1000000) (t : Int) (qc m : Nat) (hmm : Q.length = m) (L : List Int) (hL : zs (reachedL n es Q t Q.length) = L) (l : Nat) (hl : L.length = l) :
    Calls Tryd.prog 13 #[ptr g, .slice qa m qc, .int .i64 t] w fun e w' => ∃ ao cap, e = .returned (.slice ao l cap) ∧ Hid (TZ B w0 w' g eb n es r ((.slice ao l cap, L) :: X) qa Q) := by
  have h' := h
  obtain ⟨⟨v, v2, k⟩, _, hq⟩ := h
  subst hmm hL hl
  refine h'.call ((reachedP_any k.gm k.tab (Nat.lt_of_lt_of_le k.pos k.le) hq hm qc t).mono ?_)
  rintro e w' ⟨u, rfl, ho, hb⟩
  exact ⟨u, rfl, own_zat (own_z ho), hb⟩
theorem TZ.rreached (h : TZ B w0 w g eb n es r X qa Q) (hle : es.length ≤ 1000000) (hm : Q.length ≤ 1000000) (t : Int) (ht : offB n t = false) (qc m : Nat) (hmm : Q.length = m) (L : List Int) (hL : zs (reachedL n es Q t Q.length) = L) (l : Nat) (hl : L.length = l) :
    Calls Tryd.prog 14 #[ptr r, .slice qa m qc, .int .i64 t] w fun e w' => ∃ ao cap, e = .returned (.slice ao l cap) ∧ Hid (TZ B w0 w' g eb n es r ((.slice ao l cap, L) :: X) qa Q) := by
  have h' := h
  obtain ⟨⟨v, v2, k⟩, _, hq⟩ := h
  subst hmm hL hl
  refine h'.call ((rreached_row k.rm k.gm.hn k.gm.good hle hq hm qc t ht).mono ?_)
  rintro e w' ⟨u, rfl, ho, hb⟩
  exact ⟨u, rfl, own_zat (own_z ho), hb⟩
theorem TZ.of (h : TZ B w0 w g eb n es r X qa Q) (hm : Q.length ≤ 1000000) (qc m : Nat) (hmm : Q.length = m) (L : List Int) (hL : ofL n es Q = L) (l : Nat) (hl : L.length = l) :
    Calls Tryd.prog 15 #[ptr g, .slice qa m qc] w fun e w' => ∃ ao cap, e = .returned (.slice ao l cap) ∧ Hid (TZ B w0 w' g eb n es r ((.slice ao l cap, L) :: X) qa Q) := by
  have h' := h
  obtain ⟨⟨v, v2, k⟩, _, hq⟩ := h
  subst hmm hL hl
  refine h'.call ((of_any k.gm k.tab (Nat.lt_of_lt_of_le k.pos k.le) hq hm qc).mono ?_)
  rintro e w' ⟨b, rfl, s, hb⟩
  exact ⟨_, rfl, s.out.2, hb⟩
theorem TZ.rof (h : TZ B w0 w g eb n es r X qa Q) (hle : es.length ≤ 1000000) (hm : Q.length ≤ 1000000) (qc m : Nat) (hmm : Q.length = m) (L : List Int) (hL : ofL n es Q = L) (l : Nat) (hl : L.length = l) :
    Calls Tryd.prog 16 #[ptr r, .slice qa m qc] w fun e w' => ∃ ao cap, e = .returned (.slice ao l cap) ∧ Hid (TZ B w0 w' g eb n es r ((.slice ao l cap, L) :: X) qa Q) := by
  have h' := h
  obtain ⟨⟨v, v2, k⟩, _, hq⟩ := h
  subst hmm hL hl
  refine h'.call ((rof_any k.rm k.gm.hn k.gm.good hle hq hm qc).mono ?_)
  rintro e w' ⟨u, rfl, ho, hb⟩
  exact ⟨u, rfl, own_zat ho, hb⟩
theorem TZ.raised (h : TZ B w0 w g eb n es r X qa Q) (hm : Q.length ≤ 1000000) (a b : Int) (qc m : Nat) (hmm : Q.length = m) (L : List Int) (hL : zs (raisedL n es Q a b) = L) (l : Nat) (hl : L.length = l) :
    Calls Tryd.prog 17 #[ptr g, .slice qa m qc, .int .i64 a, .int .i64 b] w fun e w' => ∃ ao cap, e = .returned (.slice ao l cap) ∧ Hid (TZ B w0 w' g eb n es r ((.slice ao l cap, L) :: X) qa Q) := by
  have h' := h
  obtain ⟨⟨v, v2, k⟩, _, hq⟩ := h
  subst hmm hL hl
  refine h'.call ((raisedP_any k.gm k.tab (Nat.lt_of_lt_of_le k.pos k.le) hq hm qc a b).mono ?_)
  rintro e w' ⟨u, rfl, ho, hb⟩
  exact ⟨u, rfl, own_zat (own_z ho), hb⟩
theorem TZ.rraised (h : TZ B w0 w g eb n es r X qa Q) (hle : es.length ≤ 1000) (hm : Q.length ≤ 1000000) (a b : Int) (qc m : Nat) (hmm : Q.length = m) (L : List Int) (hL : zs (raisedL n es Q a b) = L) (l : Nat) (hl : L.length = l) :
    Calls Tryd.prog 18 #[ptr r, .slice qa m qc, .int .i64 a, .int .i64 b] w fun e w' => ∃ ao cap, e = .returned (.slice ao l cap) ∧ Hid (TZ B w0 w' g eb n es r ((.slice ao l cap, L) :: X) qa Q) := by
  have h' := h
  obtain ⟨⟨v, v2, k⟩, _, hq⟩ := h
  subst hmm hL hl
  have hl2 := addE_len n es a b
  refine h'.call ((rraised_any k.rm k.gm.hn k.gm.good (addE_good k.gm.good a b) (by omega) (by omega) hq hm qc).mono ?_)
  rintro e w' ⟨u, rfl, ho, hb⟩
  rw [← raised_diff k.gm.hn k.gm.good] at ho
  exact ⟨u, rfl, own_zat (own_z ho), hb⟩
end
theorem rnew_tx {B : Nat} {w0 w : World} {g eb N : Nat} {es : List E} (h : PX B w0 w g eb N es [] []) (n : Int) (hN : sz n = N) :
    Calls Tryd.prog 10 #[.int .i64 n] w fun e w' => ∃ r, e = .returned (ptr r) ∧ Hid (TX B w0 w' g eb N es r []) := by
  obtain ⟨v, h⟩ := h
  subst hN
  refine (rnew_any n w).mono ?_
  rintro e w' ⟨rfl, hr, hb⟩
  have hs := h.step hb
  refine ⟨_, rfl, v, _, hs.bel, hs.gm, hr, h.gB, ?_, ?_, hs.tab, h.pos, hs.le⟩
  · rintro k (rfl | hk)
    · exact h.le
    · simp [Value.ownBlock] at hk
  · rintro k hF (rfl | hk)
    · have := h.gm.lt _ hF; omega
    · simp [Value.ownBlock] at hk

set_option maxRecDepth 1000000 in
set_option maxHeartbeats 8000000 in
theorem tells_core (n a b : Int) (ls : List (Int × Int)) (la : Option Addr) (lc : Nat) (Q0 : List Rq) (qa : Option Addr) (qc : Nat) (W : World) (hT : Tab W) (h0 : 0 < W.heap.size) (hl : LIn W la ls) (hm : ls.length ≤ maxLen) (hq : QIn W qa Q0) (hqm : Q0.length ≤ maxLen) (hqc : Q0.length ≤ qc) :
    Calls Tryd.prog 3 #[.int .i64 n, .slice la ls.length lc, .slice qa Q0.length qc, .int .i64 a, .int .i64 b] W fun e w' => e = .returned (.bool true) ∧ Below W.heap.size W w' := by
  have ks := shown_q hT h0 (Below.refl _ W)
  obtain ⟨m, hmm⟩ : ∃ m, ls.length = m := ⟨_, rfl⟩
  obtain ⟨N, hN⟩ : ∃ N, sz30 n = N := ⟨_, rfl⟩
  obtain ⟨es, hes⟩ : ∃ es, foldE N (ls.take 100) [] = es := ⟨_, rfl⟩
  have hlen : es.length ≤ 100 := by rw [← hes]; exact fold_len N ls
  have hN30 : N ≤ 30 := by rw [← hN]; exact sz30_le n
  obtain ⟨Q, hQ⟩ : ∃ Q, Q0.take 20 = Q := ⟨_, rfl⟩
  obtain ⟨M0, hM0⟩ : ∃ M0, Q0.length = M0 := ⟨_, rfl⟩
  obtain ⟨K, hK⟩ : ∃ K, min M0 20 = K := ⟨_, rfl⟩
  have hQK : Q.length = K := by rw [← hQ, List.length_take]; omega
  have hmin := min20_run M0 K hK
  have hmi := min20_is M0 K hK
  have hKc : K ≤ qc := by omega
  have hK20 : K ≤ 20 := by omega
  have HQI : Hid (∀ w1, Below W.heap.size W w1 → QIn w1 qa Q) := fun w1 hb => by rw [← hQ]; exact (hq.take 20).below hb (Nat.le_refl _)
  have km : ∀ w1, Below W.heap.size W w1 → Calls Tryd.prog 9 #[.int .i64 n, .slice la m lc] w1 fun e w' => ∃ g eb, e = .returned (ptr g) ∧ Hid (PX W.heap.size W w' g eb N es [] []) := fun w1 hb => made_q hT h0 hb n ls la lc hl hm m N es hN hmm hes
  have hmin3 := min30_run n
  have kr : ∀ w1 g eb, PX W.heap.size W w1 g eb N es [] [] → Calls Tryd.prog 10 #[.int .i64 (min n 30)] w1 fun e w' => ∃ r, e = .returned (ptr r) ∧ Hid (TX W.heap.size W w' g eb N es r []) := fun w1 g eb h => rnew_tx h (min n 30) hN
  have hrl : (reachedL N es Q a Q.length).length ≤ K := Nat.le_trans (reachedL_len _ _ _ _ _) (Nat.le_of_eq hQK)
  have hrl2 : (zs (reachedL N es Q a Q.length)).length ≤ 1000000 := by rw [zs_len]; omega
  have hul : (zs (raisedL N es Q a b)).length ≤ 1000000 := by rw [zs_len]; have := raised_len N es Q a b; omega
  have hol : (ofL N es Q).length ≤ 1000000 := by rw [ofL_len]; omega
  have HOFF : Hid (offB N a = true → (zs (reachedL N es Q a Q.length)).length = 0) := fun h => by rw [reachedL_off h]; rfl
  obtain ⟨RL, hRL⟩ : ∃ L, zs (reachedL N es Q a Q.length) = L := ⟨_, rfl⟩
  obtain ⟨UL, hUL⟩ : ∃ L, zs (raisedL N es Q a b) = L := ⟨_, rfl⟩
  obtain ⟨OL, hOL⟩ : ∃ L, ofL N es Q = L := ⟨_, rfl⟩
  rw [hRL] at hrl2 HOFF
  rw [hUL] at hul
  rw [hOL] at hol
  obtain ⟨rl, hrlen⟩ : ∃ l, RL.length = l := ⟨_, rfl⟩
  obtain ⟨ul, hulen⟩ : ∃ l, UL.length = l := ⟨_, rfl⟩
  obtain ⟨ol, holen⟩ : ∃ l, OL.length = l := ⟨_, rfl⟩
  rw [hrlen] at HOFF
  have k13 : ∀ w1 g eb r X, TZ W.heap.size W w1 g eb N es r X qa Q → Calls Tryd.prog 13 #[ptr g, .slice qa K qc, .int .i64 a] w1 fun e w' => ∃ ao cap, e = .returned (.slice ao rl cap) ∧ Hid (TZ W.heap.size W w' g eb N es r ((.slice ao rl cap, RL) :: X) qa Q) := fun w1 g eb r X h => h.reached (by omega) a qc K hQK RL hRL rl hrlen
  have k14 : ∀ w1 g eb r X, offB N a = false → TZ W.heap.size W w1 g eb N es r X qa Q → Calls Tryd.prog 14 #[ptr r, .slice qa K qc, .int .i64 a] w1 fun e w' => ∃ ao cap, e = .returned (.slice ao rl cap) ∧ Hid (TZ W.heap.size W w' g eb N es r ((.slice ao rl cap, RL) :: X) qa Q) := fun w1 g eb r X ho h => h.rreached (by omega) (by omega) a ho qc K hQK RL hRL rl hrlen
  have k15 : ∀ w1 g eb r X, TZ W.heap.size W w1 g eb N es r X qa Q → Calls Tryd.prog 15 #[ptr g, .slice qa K qc] w1 fun e w' => ∃ ao cap, e = .returned (.slice ao ol cap) ∧ Hid (TZ W.heap.size W w' g eb N es r ((.slice ao ol cap, OL) :: X) qa Q) := fun w1 g eb r X h => h.of (by omega) qc K hQK OL hOL ol holen
  have k16 : ∀ w1 g eb r X, TZ W.heap.size W w1 g eb N es r X qa Q → Calls Tryd.prog 16 #[ptr r, .slice qa K qc] w1 fun e w' => ∃ ao cap, e = .returned (.slice ao ol cap) ∧ Hid (TZ W.heap.size W w' g eb N es r ((.slice ao ol cap, OL) :: X) qa Q) := fun w1 g eb r X h => h.rof (by omega) (by omega) qc K hQK OL hOL ol holen
  have k17 : ∀ w1 g eb r X, TZ W.heap.size W w1 g eb N es r X qa Q → Calls Tryd.prog 17 #[ptr g, .slice qa K qc, .int .i64 a, .int .i64 b] w1 fun e w' => ∃ ao cap, e = .returned (.slice ao ul cap) ∧ Hid (TZ W.heap.size W w' g eb N es r ((.slice ao ul cap, UL) :: X) qa Q) := fun w1 g eb r X h => h.raised (by omega) a b qc K hQK UL hUL ul hulen
  have k18 : ∀ w1 g eb r X, TZ W.heap.size W w1 g eb N es r X qa Q → Calls Tryd.prog 18 #[ptr r, .slice qa K qc, .int .i64 a, .int .i64 b] w1 fun e w' => ∃ ao cap, e = .returned (.slice ao ul cap) ∧ Hid (TZ W.heap.size W w' g eb N es r ((.slice ao ul cap, UL) :: X) qa Q) := fun w1 g eb r X h => h.rraised (by omega) (by omega) a b qc K hQK UL hUL ul hulen
  have kE : ∀ (L : List Int) w1 g eb r X x y, TZ W.heap.size W w1 g eb N es r X qa Q → (x, L) ∈ X → (y, L) ∈ X → L.length ≤ 1000000 → Calls Tryd.prog 12 #[x, y] w1 fun e w' => e = .returned (.bool true) ∧ Hid (TZ W.heap.size W w' g eb N es r X qa Q) := fun L w1 g eb r X x y h hx hy hl => h.eqs hx hy hl
  have HLI := hide_it hl
  have HM := hide_it hmm
  have HF : Hid (foldE N (ls.take 100) [] = es) := hes
  have hqm2 : M0 ≤ maxLen := by omega
  have hqc2 : M0 ≤ qc := by omega
  rw [hM0]
  rw [hmm] at hm ⊢
  unfold maxLen at hm hqm2
  have HR2 := hide_it hrl2
  have HU2 := hide_it hul
  have HO2 := hide_it hol
  generalize min n 30 = n30 at *
  clear hT h0 hl hmm hes hN hQ hM0 hqm hqc hK hQK hq hRL hUL hOL hrlen hulen holen hrl hrl2 hul hol
  go_enter Tryd.func3, Tryd.ntmps3
  go_upto_block 0 with (first | (go_at_call 8; refine ks.mono ?_; rintro e w1 ⟨rfl, s1⟩) | (go_at_call 9; refine (km _ s1.out).mono ?_; rintro e w2 ⟨g, eb, rfl, s2⟩) | (go_at_call 10; refine (kr _ _ _ s2.out).mono ?_; rintro e w3 ⟨r, rfl, s3⟩))
  clear ks km kr s1 s2 hmin3
  go_cut [] (fun wx => Hid (TZ W.heap.size W wx g eb N es r [] qa Q))
  case first =>
    clear k13 k14 k15 k16 k17 k18 kE
    go_wp2
    go_loopw [14] (fun i W' => ∃ k : Nat, k ≤ m ∧ k ≤ 100 ∧ i = .int .i64 k ∧ Hid (TX W.heap.size W W' g eb N es r (foldE N (ls.take k) []))) (fun i _ => m - (intOf i).toNat)
    case atStart => exact ⟨0, Nat.zero_le _, by omega, rfl, s3⟩
    case round =>
      obtain ⟨k, hk, hk2, rfl, s4⟩ := hrel
      clear s3
      obtain ⟨w4, rfl⟩ : ∃ w', w' = wr := ⟨_, rfl⟩
      by_cases hlt : k < m ∧ k < 100
      · obtain ⟨hlt, hlt2⟩ := hlt
        have hlx : k < ls.length := by rw [HM.out]; exact hlt
        obtain ⟨bb, o, rfl, hbw, c1, c2⟩ := (HLI.out.below s4.out.bel (Nat.le_refl _)) k hlx
        have HT := hide_it (foldE_take N ls k hlx)
        have hfl := foldE_len N ls k
        have ka := fun j => (s4.out.step (below_drewN (Below.refl _ _) j)).radd (by omega) ls[k].1 ls[k].2 _ _ _ rfl rfl rfl
        generalize ls[k] = p at *
        obtain ⟨x, y⟩ := p
        simp only at c1 c2 HT ka
        go_wp2
        go_region_with ((go_at_call 11; refine (ka 1).mono ?_; rintro e w5 ⟨rfl, s5⟩))
        all_goals
          go_wp2
          go_roundw
          case rel => exact ⟨k + 1, by omega, by omega, by go_num, by unfold Hid; rw [HT.out]; exact s5.out.1⟩
          case measure => simp [intOf]; omega
      · have e1 : foldE N (ls.take k) [] = es := by
          rw [← HF.out]
          by_cases h1 : k < m
          · have : k = 100 := by omega
            rw [this]
          · rw [List.take_of_length_le (by rw [HM.out]; omega), List.take_of_length_le (by rw [HM.out]; omega)]
        rw [e1] at s4
        clear e1
        by_cases hkm : k < m
        · have hkx : decide ((k : Int) < 100) = false := by simp; omega
          go_wp2
          go_meet
          exact ⟨s4.out, by simp, HQI.out _ s4.out.bel⟩
        · have hkx : decide ((k : Int) < (m : Int)) = false := by simp; omega
          go_wp2
          go_meet
          exact ⟨s4.out, by simp, HQI.out _ s4.out.bel⟩
  case rest =>
    have s4 := hcut
    obtain ⟨w4, rfl⟩ : ∃ w', w' = wc := ⟨_, rfl⟩
    clear hcut s3
    go_upto_region 11 with fail
    go_cut [15] from 52 to 92 (fun s15 wx => s15 = .bool true ∧ Hid (TZ W.heap.size W wx g eb N es r [] qa Q))
    case first =>
      have c0 := s4.out.t.rn
      by_cases h1 : 0 ≤ a
      · have d1 : decide (0 ≤ a) = true := by simpa using h1
        by_cases h2 : a < N
        · as_aux_lemma =>
            have d2 : decide (a < (N : Int)) = true := by simpa using h2
            have ho : offB N a = false := by simp [offB]; omega
            go_wp2_with (first | (go_at_call 13; refine (k13 _ _ _ _ _ s4.out).mono ?_; rintro e w5 ⟨a5, p5, rfl, s5⟩) | (go_at_call 14; refine (k14 _ _ _ _ _ ho s5.out).mono ?_; rintro e w6 ⟨a6, p6, rfl, s6⟩) | (go_at_call 12; refine (kE RL _ _ _ _ _ _ _ s6.out (by simp) (by simp) HR2.out).mono ?_; rintro e w7 ⟨rfl, s7⟩))
            go_meet
            exact ⟨rfl, s7.out.none⟩
        · as_aux_lemma =>
            have d2 : decide (a < (N : Int)) = false := by simpa using h2
            have d3 : decide ((N : Int) ≤ a) = true := by simp; omega
            have d4 : decide (a < 0) = false := by simp; omega
            have hz := HOFF.out (by simp [offB]; omega)
            subst hz
            go_wp2_with (go_at_call 13; refine (k13 _ _ _ _ _ s4.out).mono ?_; rintro e w5 ⟨a5, p5, rfl, s5⟩)
            go_meet
            exact ⟨rfl, s5.out.none⟩
      · as_aux_lemma =>
          have d1 : decide (0 ≤ a) = false := by simpa using h1
          have d4 : decide (a < 0) = true := by simp; omega
          have hz := HOFF.out (by simp [offB]; omega)
          subst hz
          go_wp2_with (go_at_call 13; refine (k13 _ _ _ _ _ s4.out).mono ?_; rintro e w5 ⟨a5, p5, rfl, s5⟩)
          go_meet
          exact ⟨rfl, s5.out.none⟩
    case rest =>
      obtain ⟨hz, s5⟩ := hcut
      subst hz
      clear s4 k13 k14 HOFF
      go_wp2_with (first | (go_at_call 15; refine (k15 _ _ _ _ _ s5.out).mono ?_; rintro e w6 ⟨a6, p6, rfl, s6⟩) | (go_at_call 16; refine (k16 _ _ _ _ _ s6.out).mono ?_; rintro e w7 ⟨a7, p7, rfl, s7⟩; refine Hid.out ?_))
      refine hide_it ?_
      go_wp2_with (first | (go_at_call 12; refine (kE OL _ _ _ _ _ _ _ s7.out (by simp) (by simp) HO2.out).mono ?_; rintro e w8 ⟨rfl, s8⟩) | (go_at_call 17; refine (k17 _ _ _ _ _ s8.out).mono ?_; rintro e w9 ⟨a9, p9, rfl, s9⟩) | (go_at_call 18; refine (k18 _ _ _ _ _ s9.out).mono ?_; rintro e w10 ⟨a10, p10, rfl, s10⟩; refine Hid.out ?_))
      refine hide_it ?_
      go_wp2_with (go_at_call 12; refine (kE UL _ _ _ _ _ _ _ s10.out (by simp) (by simp) HU2.out).mono ?_; rintro e w11 ⟨rfl, s11⟩)
      go_ret
      exact ⟨rfl, s11.out.t.bel⟩
end Go.Proofs.YtmeeimfjibcncaaDoor
