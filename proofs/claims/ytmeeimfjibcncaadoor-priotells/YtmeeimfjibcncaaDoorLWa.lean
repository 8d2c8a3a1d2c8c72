/- Whom somebody waits for has at least their priority: the walk. -/
import Derived.Test.YtmeeimfjibcncaaDoorSho
import Derived.Deep.CutBlock
namespace Go.Proofs.YtmeeimfjibcncaaDoor
open Go.RowKit
open M
set_option linter.unusedVariables false
set_option linter.unusedSimpArgs false

theorem min20_run (m K : Nat) (h : min m 20 = K) (ts : Array TypeId) (t : TypeId) (W : World) : (Builtin.min_ ts t #[.int .i64 m, .int .i64 20]).run Tryd.prog W = .ok (.int .i64 (K : Nat)) W := by
  rw [run_min_int2]
  congr 2
  split <;> omega
theorem min20_is (m K : Nat) (h : min m 20 = K) : min (m : Int) 20 = (K : Nat) := by omega
/-- What the law says of the priorities. -/
structure WaW (n : Nat) (es : List E) (Q : List Rq) (P : List Int) : Prop where
  len : P.length = n
  edge : ∀ a y (ha : a < P.length) (hy : y < P.length), (a, y) ∈ es → P[a] ≤ P[y]
  root : ∀ i (hi : i < Q.length) (r : Nat) (hr : r < P.length), Q[i].1 = r → Q[i].2.2 ≤ P[r]
theorem waW {n : Nat} {es : List E} (hg : ∀ e ∈ es, e.1 < n ∧ e.2 < n) (Q : List Rq) : WaW n es Q (ofL n es Q) := by
  refine ⟨by simp [ofL], fun a y ha hy he => ?_, fun i hi r hr e => ?_⟩
  · simp only [ofL, List.getElem_map, List.getElem_range]
    exact prio_edge hg he Q
  · simp only [ofL, List.getElem_map, List.getElem_range]
    refine prio_ge hi ?_
    rw [e]
    exact reachB_self (by simp [ofL] at hr; simp [offB]; omega)
theorem mem_outsE {es : List E} {a y : Nat} (h : y ∈ outs es (a : Int)) : (a, y) ∈ es := by
  unfold outs at h
  obtain ⟨e, he, rfl⟩ := List.mem_map.1 h
  obtain ⟨h1, h2⟩ := List.mem_filter.1 he
  have : (e.1 : Int) = a := of_decide_eq_true h2
  have : e.1 = a := by omega
  subst this
  exact h1
theorem outs_lenE (es : List E) (a : Int) : (outs es a).length ≤ es.length := by
  unfold outs
  rw [List.length_map]
  exact List.length_filter_le _ _

set_option maxRecDepth 1000000 in
set_option maxHeartbeats 8000000 in
theorem waits_core (n : Int) (ls : List (Int × Int)) (la : Option Addr) (lc : Nat) (Q0 : List Rq) (qa : Option Addr) (qc : Nat) (W : World) (hT : Tab W) (h0 : 0 < W.heap.size) (hl : LIn W la ls) (hm : ls.length ≤ maxLen) (hq : QIn W qa Q0) (hqm : Q0.length ≤ maxLen) (hqc : Q0.length ≤ qc) :
    Calls Tryd.prog 4 #[.int .i64 n, .slice la ls.length lc, .slice qa Q0.length qc] W fun e w' => e = .returned (.bool true) ∧ Below W.heap.size W w' := by
  have ks := shown_q hT h0 (Below.refl _ W)
  obtain ⟨m, hmm⟩ : ∃ m, ls.length = m := ⟨_, rfl⟩
  obtain ⟨N, hN⟩ : ∃ N, sz30 n = N := ⟨_, rfl⟩
  obtain ⟨es, hes⟩ : ∃ es, foldE N (ls.take 100) [] = es := ⟨_, rfl⟩
  have hlen : es.length ≤ 100 := by rw [← hes]; exact fold_len N ls
  have hN30 : N ≤ 30 := by rw [← hN]; exact sz30_le n
  obtain ⟨Q, hQ⟩ : ∃ Q, Q0.take 20 = Q := ⟨_, rfl⟩
  obtain ⟨M0, hM0⟩ : ∃ M0, Q0.length = M0 := ⟨_, rfl⟩
  obtain ⟨K, hK⟩ : ∃ K, min M0 20 = K := ⟨_, rfl⟩
  have hQK : Q.length = K := by rw [← hQ, List.length_take]; omega
  have hmin := min20_run M0 K hK
  have hmi := min20_is M0 K hK
  have hKc : K ≤ qc := by omega
  have hK20 : K ≤ 20 := by omega
  have hq' : QIn W qa Q := by rw [← hQ]; exact hq.take 20
  have km : ∀ w1, Below W.heap.size W w1 → Calls Tryd.prog 9 #[.int .i64 n, .slice la m lc] w1 fun e w' => ∃ g eb, e = .returned (ptr g) ∧ Hid (PX W.heap.size W w' g eb N es [] [(qa, Q)]) := fun w1 hb => by
    refine (made_q hT h0 hb n ls la lc hl hm m N es hN hmm hes).mono ?_
    rintro e w' ⟨g, eb, rfl, s⟩
    exact ⟨g, eb, rfl, s.out.argQ (Nat.le_refl _) hq'⟩
  have kO : ∀ w1 g eb, PX W.heap.size W w1 g eb N es [] [(qa, Q)] → Calls Tryd.prog 15 #[ptr g, .slice qa K qc] w1 fun e w' => ∃ b, e = .returned (.slice (some ⟨b, 0, none⟩) N N) ∧ Hid (PX W.heap.size W w' g eb N es [(.slice (some ⟨b, 0, none⟩) N N, ofL N es Q)] [(qa, Q)]) := fun w1 g eb h => h.of (List.mem_singleton.2 rfl) (by omega) qc K hQK _ rfl
  have HW := hide_it (waW (n := N) (es := es) (by rw [← hes]; exact foldE_good N _ [] (by simp)) Q)
  have HGD : Hid (∀ e ∈ es, e.1 < N ∧ e.2 < N) := by rw [← hes]; exact foldE_good N _ [] (by simp)
  have HQK := hide_it hQK
  have hqm2 : M0 ≤ maxLen := by omega
  have hqc2 : M0 ≤ qc := by omega
  rw [hmm, hM0]
  generalize ofL N es Q = P at *
  clear hT h0 hl hm hq hmm hes hN hQ hM0 hqm hqc hK hQK hq'
  unfold maxLen at hqm2
  go_enter Tryd.func4, Tryd.ntmps4
  go_upto_region 9 with (first | (go_at_call 8; refine ks.mono ?_; rintro e w1 ⟨rfl, s1⟩) | (go_at_call 9; refine (km _ s1.out).mono ?_; rintro e w2 ⟨g, eb, rfl, s2⟩) | (go_at_call 15; refine (kO _ _ _ s2.out).mono ?_; rintro e w3 ⟨b, rfl, s3⟩; have kn := s3.out.num) | (go_at_call 19; refine kn.mono ?_; rintro e w4 ⟨rfl, hw4⟩; rw [hw4]; clear hw4 w4))
  clear s1 s2 kn kO km ks
  go_wp2
  go_loopw [10] (fun i w' => ∃ a : Nat, a ≤ N ∧ i = .int .i64 a ∧ Hid (PX W.heap.size W w' g eb N es [(.slice (some ⟨b, 0, none⟩) N N, P)] [(qa, Q)])) (fun i _ => N - (intOf i).toNat)
  case atStart => exact ⟨0, Nat.zero_le _, rfl, s3⟩
  case round =>
    obtain ⟨a, ha, rfl, s4⟩ := hrel
    clear s3
    obtain ⟨w5, rfl⟩ : ∃ w', w' = wr := ⟨_, rfl⟩
    have kn := s4.out.num
    by_cases haN : a < N
    · obtain ⟨L, hL⟩ : ∃ L, outs es (a : Int) = L := ⟨_, rfl⟩
      have HLm : Hid (∀ y ∈ L, y < N ∧ ∀ (ha : a < P.length) (hy : y < P.length), P[a] ≤ P[y]) := by
        intro y hy
        rw [← hL] at hy
        have he := mem_outsE hy
        exact ⟨(HGD.out _ he).2, fun ha hy => HW.out.edge a y ha hy he⟩
      have hLl : L.length ≤ 100 := by rw [← hL]; have := outs_lenE es (a : Int); omega
      have ko := s4.out.out (by omega) (a : Int) L hL
      obtain ⟨l, hl⟩ : ∃ l, L.length = l := ⟨_, rfl⟩
      have HLl := hide_it hl
      rw [hl] at ko hLl
      clear hL hl
      have ha64d : decide ((a : Int) < 64) = true := by simp; omega
      have hlt0 : (a : Int) < N := by omega
      go_wp2_with (first | (go_at_call 19; refine kn.mono ?_; rintro e w6 ⟨rfl, hw6⟩; rw [hw6]; clear hw6 w6) | (go_at_call 20; refine ko.mono ?_; rintro e w7 ⟨ao, cap, rfl, s5⟩))
      clear kn ko
      go_loopw [12] (fun i w' => ∃ k : Nat, k ≤ l ∧ i = .int .i64 k ∧ Hid (PX W.heap.size W w' g eb N es [(.slice ao l cap, zs L), (.slice (some ⟨b, 0, none⟩) N N, P)] [(qa, Q)])) (fun i _ => l - (intOf i).toNat)
      case atStart => exact ⟨0, Nat.zero_le _, rfl, s5⟩
      case round =>
        obtain ⟨k, hk, rfl, s6⟩ := hrel
        obtain ⟨w8, rfl⟩ : ∃ w', w' = wr := ⟨_, rfl⟩
        clear s5
        by_cases hkl : k < l
        · have hkx : k < L.length := by rw [HLl.out]; exact hkl
          obtain ⟨r, rfl, _, c1⟩ := (s6.out.row (u := .slice ao l cap) (L := zs L) (by simp)).at k (by rw [zs_len]; exact hkx)
          rw [zs_at] at c1
          obtain ⟨hy, hp⟩ := HLm.out _ (List.getElem_mem hkx)
          generalize L[k] = y at *
          have hpl := HW.out.len
          obtain ⟨q1, e1, _, c2⟩ := (s6.out.row (u := .slice (some ⟨b, 0, none⟩) N N) (L := P) (by simp)).at y (by omega)
          obtain ⟨q2, e2, _, c3⟩ := (s6.out.row (u := .slice (some ⟨b, 0, none⟩) N N) (L := P) (by simp)).at a (by omega)
          cases e1
          cases e2
          have hpp := hp (by omega) (by omega)
          generalize P[y] = py at *
          generalize P[a] = pa at *
          have hd1 : decide ((y : Int) < 0) = false := by simp
          have hd2 : decide ((N : Int) ≤ y) = false := by simp; omega
          have hd2' : decide (N ≤ y) = false := by simp; omega
          have hd3 : decide (py < pa) = false := by simp; omega
          have hyN : (y : Int) < N := by omega
          clear hp hpl
          go_wp2
          go_big_quiet (fail)
          go_wp2
          go_roundw
          case rel => exact ⟨k + 1, by omega, by go_num, s6.out.drewN _⟩
          case measure => simp [intOf]; omega
        · go_wp2
          go_roundw
          case rel => exact ⟨a + 1, by omega, by go_num, s6.out.fewer (by simp)⟩
          case measure => simp [intOf]; omega
    · have haNd : decide ((a : Int) < N) = false := by simp; omega
      go_wp2_with (first | (go_at_call 19; refine kn.mono ?_; rintro e w6 ⟨rfl, hw6⟩; rw [hw6]; clear hw6 w6))
      clear kn
      go_loopw [13] (fun i w' => ∃ k : Nat, k ≤ K ∧ i = .int .i64 k ∧ Hid (PX W.heap.size W w' g eb N es [(.slice (some ⟨b, 0, none⟩) N N, P)] [(qa, Q)])) (fun i _ => K - (intOf i).toNat)
      case atStart => exact ⟨0, Nat.zero_le _, rfl, s4⟩
      case round =>
        obtain ⟨k, hk, rfl, s6⟩ := hrel
        obtain ⟨w8, rfl⟩ : ∃ w', w' = wr := ⟨_, rfl⟩
        clear s4
        by_cases hkl : k < K
        · have hkx : k < Q.length := by rw [HQK.out]; exact hkl
          obtain ⟨rb, o, rfl, hrb, c0, _, c2⟩ := (s6.out.q (a := qa) (Q := Q) (by simp)) k hkx
          have HR : Hid (∀ (r : Nat) (hr : r < P.length), Q[k].1 = r → Q[k].2.2 ≤ P[r]) := HW.out.root k hkx
          generalize Q[k] = q at *
          obtain ⟨rt, wt, pr⟩ := q
          simp only at c0 c2 HR
          have hpl := HW.out.len
          by_cases hr0 : 0 ≤ rt
          · have hd0 : decide (0 ≤ rt) = true := by simpa using hr0
            obtain ⟨r, rfl⟩ : ∃ r : Nat, rt = r := ⟨rt.toNat, by omega⟩
            by_cases hrN : r < N
            · have hd1 : decide ((r : Int) < N) = true := by simp; omega
              have hd1' : decide (r < N) = true := by simp; omega
              have hrN2 : (r : Int) < N := by omega
              obtain ⟨q1, e1, _, c3⟩ := (s6.out.row (u := .slice (some ⟨b, 0, none⟩) N N) (L := P) (by simp)).at r (by omega)
              cases e1
              have hle := HR.out r (by omega) rfl
              generalize P[r] = pv at *
              have hd3 : decide (pv < pr) = false := by simp; omega
              clear hpl HR
              go_wp2
              go_big_quiet (fail)
              go_wp2
              go_roundw
              case rel => exact ⟨k + 1, by omega, by go_num, s6.out.drewN _⟩
              case measure => simp [intOf]; omega
            · have hd1 : decide ((r : Int) < N) = false := by simp; omega
              have hd1' : decide (r < N) = false := by simp; omega
              clear hpl HR
              go_wp2
              go_big_quiet (fail)
              go_wp2
              go_roundw
              case rel => exact ⟨k + 1, by omega, by go_num, s6.out.drewN _⟩
              case measure => simp [intOf]; omega
          · have hd0 : decide (0 ≤ rt) = false := by simpa using hr0
            clear hpl HR
            go_wp2
            go_big_quiet (fail)
            go_wp2
            go_roundw
            case rel => exact ⟨k + 1, by omega, by go_num, s6.out.drewN _⟩
            case measure => simp [intOf]; omega
        · go_wp2
          go_ret
          exact ⟨rfl, s6.out.bel⟩
end Go.Proofs.YtmeeimfjibcncaaDoor
