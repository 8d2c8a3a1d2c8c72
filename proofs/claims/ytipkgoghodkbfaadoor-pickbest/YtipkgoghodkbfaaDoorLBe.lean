/- PickBest: the walk. -/
import Derived.Test.YtipkgoghodkbfaaDoorArr
import Derived.BigQuiet
import Derived.Deep.DeepCutAuto
namespace Go.Proofs.YtipkgoghodkbfaaDoor
open Go.RowKit
open M
set_option linter.unusedVariables false
set_option linter.unusedSimpArgs false

theorem srt_at {L : List Int} (h : L.Pairwise (· < ·)) (k : Nat) (hk : k + 1 < L.length) : L[k] < L[k + 1] := List.pairwise_iff_getElem.1 h k (k + 1) (by omega) hk (by omega)

set_option maxRecDepth 1000000 in
set_option maxHeartbeats 8000000 in
theorem bestl_core (xs0 ys0 : List Int) (sa pa : Option Addr) (sc pc : Nat) (W : World) (hT : Tab W) (h0 : 0 < W.heap.size) (hx : NIn W sa xs0) (hxm : xs0.length ≤ maxLen) (hxc : xs0.length ≤ sc) (hy : NIn W pa ys0) (hym : ys0.length ≤ maxLen) (hyc : ys0.length ≤ pc) :
    Calls Tryd.prog 4 #[.slice sa xs0.length sc, .slice pa ys0.length pc] W fun e w' => e = .returned (.bool true) ∧ Below W.heap.size W w' := by
  unfold maxLen at hxm hym
  have ks := shown_any W hT h0
  obtain ⟨m0, hm0⟩ : ∃ m, xs0.length = m := ⟨_, rfl⟩
  obtain ⟨n0, hn0⟩ : ∃ n, ys0.length = n := ⟨_, rfl⟩
  rw [hm0] at hxm hxc ⊢
  rw [hn0] at hym hyc ⊢
  obtain ⟨m, hm⟩ : ∃ m : Nat, min m0 60 = m := ⟨_, rfl⟩
  obtain ⟨n, hn⟩ : ∃ n : Nat, min n0 60 = n := ⟨_, rfl⟩
  have hminm : min (m0 : Int) 60 = (m : Int) := by omega
  have hminn : min (n0 : Int) 60 = (n : Int) := by omega
  have hmm : m ≤ m0 := by omega
  have hm60 : m ≤ 60 := by omega
  have hnn : n ≤ n0 := by omega
  have hn60 : n ≤ 60 := by omega
  obtain ⟨xs, hxs⟩ : ∃ xs, xs0.take 60 = xs := ⟨_, rfl⟩
  obtain ⟨ys, hys⟩ : ∃ ys, ys0.take 60 = ys := ⟨_, rfl⟩
  have hxl : xs.length = m := by rw [← hxs, List.length_take]; omega
  have hyl : ys.length = n := by rw [← hys, List.length_take]; omega
  have hx2 : NIn W sa xs := by rw [← hxs]; exact hx.take 60
  have hy2 : NIn W pa ys := by rw [← hys]; exact hy.take 60
  obtain ⟨⟨P, L⟩, hB⟩ : ∃ r, bestA xs ys = r := ⟨_, rfl⟩
  have HBI := hide_it (bestA_inv hB)
  obtain ⟨l, hl⟩ : ∃ l, L.length = l := ⟨_, rfl⟩
  have hl60 : l ≤ 60 := by
    have := bestK_len xs ys (min xs.length ys.length)
    unfold bestA at hB
    rw [hB] at this
    simp only at this
    omega
  have kx0 := hide_it (((KX.start hT h0).argx hx2).argx hy2)
  have kb : ∀ w, KX W w [] [] [(pa, ys), (sa, xs)] [] → ∀ c1 c2, Calls Tryd.prog 13 #[.slice sa m c1, .slice pa n c2] w fun e w' => ∃ ao cap, e = .returned (.tuple #[.int .i64 P, .slice ao l cap]) ∧ Hid (KX W w' [] [] [(ao, L), (pa, ys), (sa, xs)] []) := fun w h c1 c2 =>
    h.best c1 c2 (List.mem_cons_of_mem _ (List.mem_cons_self ..)) (List.mem_cons_self ..) hxl hyl (by omega) (by omega) P L l hB hl
  have HL := hide_it hl
  have HM := hide_it hxl
  have HN := hide_it hyl
  clear hx hy hx2 hy2 hT hm0 hn0 hm hn hxs hys hxl hyl hB hl h0
  go_enter Tryd.func4, Tryd.ntmps4
  go_upto_region 4 with (go_at_call 8; refine ks.mono ?_; rintro e w1 ⟨rfl, b1⟩)
  have kx1 := hide_it (kx0.out.step b1)
  clear kx0 b1 ks
  go_upto_region 5 with (go_at_call 13; refine (kb _ kx1.out _ _).mono ?_; rintro e w2 ⟨la, lc, rfl, kx2⟩; refine Hid.out ?_)
  refine hide_it ?_
  clear kx1 kb
  go_upto_region 5 with fail
  apply wp_region_lit
  refine wpList_build49 rfl rfl ?_
  refine wpList_alloc49 rfl rfl ?_
  refine wpList_store49 rfl (.tmp 8) (.tmp 29) rfl rfl rfl rfl ?_
  have s3 := hide_it (AB.start w2)
  obtain ⟨w3, hw3⟩ : ∃ w3, w2.alloc (.cells falses60 49) = w3 := ⟨_, rfl⟩
  obtain ⟨sb, hsb⟩ : ∃ s, w2.heap.size = s := ⟨_, rfl⟩
  rw [hw3, hsb] at s3 ⊢
  clear hw3 hsb
  have s4 : Hid (AB w2 w3 sb (fun i => decide ((i : Int) ∈ L.take 0))) := s3.out.congr _ (fun i => by simp)
  clear s3
  go_wp2
  go_loopw [9] (fun i W' => ∃ k : Nat, k ≤ l ∧ i = .int .i64 k ∧ Hid (AB w2 W' sb (fun i => decide ((i : Int) ∈ L.take k)))) (fun i _ => l - (intOf i).toNat)
  case atStart => exact ⟨0, Nat.zero_le _, rfl, s4⟩
  case round =>
    obtain ⟨k, hk, rfl, sA⟩ := hrel
    obtain ⟨w8, rfl⟩ : ∃ w', w' = wr := ⟨_, rfl⟩
    clear s4
    by_cases hkl : k < l
    · have hkx : k < L.length := by rw [HL.out]; exact hkl
      obtain ⟨x0, x1⟩ := HBI.out.rng L[k] (List.getElem_mem hkx)
      have hM := HM.out
      have hN := HN.out
      obtain ⟨xn, hxn⟩ : ∃ xn : Nat, L[k] = xn := ⟨L[k].toNat, by omega⟩
      have hxm2 : xn < m := by omega
      have hxn2 : xn < n := by omega
      obtain ⟨lb, lo, rfl, hlb, c1⟩ := (kx2.out.row (List.mem_cons_self ..)) k hkx
      rw [hxn] at c1
      have HC : Hid (∀ V p, AB w2 V sb p → V.cell? ⟨lb, lo + k, none⟩ = some (.int .i64 xn) ∧ V.cell? ⟨sb, xn, none⟩ = some (.bool (p xn)) ∧ V.frozen? ⟨sb, xn, none⟩ = false) := fun V p h =>
        ⟨by rw [h.bel.cell (p := ⟨lb, lo + k, none⟩) hlb]; exact c1, h.cell xn (by omega), h.fro xn⟩
      have HSt : Hid (∀ V, AB w2 V sb (fun i => decide ((i : Int) ∈ L.take k)) → AB w2 (V.setCell ⟨sb, xn, none⟩ (.bool true)) sb (fun i => decide ((i : Int) ∈ L.take (k + 1)))) := fun V h => h.set xn _ (fun i => by
        rw [List.take_succ_eq_append_getElem hkx, hxn, Bool.eq_iff_iff]
        simp only [Bool.or_eq_true, decide_eq_true_eq, List.mem_append, List.mem_singleton]
        exact ⟨fun h => h.elim .inl (fun e => .inr (by omega)), fun h => h.elim .inl (fun e => .inr (by omega))⟩)
      have HPr : Hid (∀ k1, k = k1 + 1 → ∃ y1 : Int, y1 < xn ∧ ∀ V p, AB w2 V sb p → V.cell? ⟨lb, lo + k1, none⟩ = some (.int .i64 y1)) := fun k1 e => by
        subst e
        obtain ⟨lb2, lo2, e2, hlb2, c2⟩ := (kx2.out.row (List.mem_cons_self ..)) k1 (by omega)
        injection e2 with e2
        injection e2 with e2 e3
        subst e2 e3
        exact ⟨L[k1], by rw [← hxn]; exact srt_at HBI.out.srt k1 hkx, fun V p h => by rw [h.bel.cell (p := ⟨lb, lo + k1, none⟩) hlb]; exact c2⟩
      obtain ⟨d1, d2, d3⟩ := HC.out _ _ sA.out
      have q1 : decide ((xn : Int) < 0) = false := by simp
      have q2 : decide ((m : Int) ≤ xn) = false := by simp; omega
      have q3 : decide ((n : Int) ≤ xn) = false := by simp; omega
      have q2' : decide (m ≤ xn) = false := by simp; omega
      have q3' : decide (n ≤ xn) = false := by simp; omega
      have g1 : (xn : Int) < 60 := by omega
      have g2 : ¬ ((60 : Int) ≤ (xn : Int)) := by omega
      have g3 : xn < 60 := by omega
      clear x0 x1 hxn c1 hkx hM hN HBI
      rcases Nat.eq_zero_or_pos k with rfl | hkp
      · clear HPr
        rw [Nat.add_zero] at d1
        · as_aux_lemma =>
          go_wp2
          go_big_quiet (fail)
          have sB := hide_it (sA.out.drewN nq)
          clear d1 d2 d3 sA
          generalize w8.drewN nq = w9 at *
          obtain ⟨d1, d2, d3⟩ := HC.out _ _ sB.out
          rw [Nat.add_zero] at d1
          go_wp2
          go_roundw
          case rel => exact ⟨0 + 1, by omega, by go_num, HSt.out _ sB.out⟩
          case measure => simp [intOf]; omega
      · obtain ⟨k1, hk1⟩ : ∃ k1, k = k1 + 1 := ⟨k - 1, by omega⟩
        obtain ⟨y1, hy1, HY⟩ := HPr.out k1 hk1
        have d4 := HY _ _ sA.out
        have q4 : decide ((0 : Int) < k) = true := by simp; omega
        have q4' : decide (0 < k) = true := by simp; omega
        have q5 : (k : Int) - 1 = (k1 : Int) := by omega
        have q6 : decide ((xn : Int) ≤ y1) = false := by simp; omega
        clear HPr HY hk1
        · as_aux_lemma =>
          go_wp2
          go_big_quiet (fail)
          have sB := hide_it (sA.out.drewN nq)
          clear d1 d2 d3 d4 sA q5
          generalize w8.drewN nq = w9 at *
          obtain ⟨d1, d2, d3⟩ := HC.out _ _ sB.out
          go_wp2
          go_roundw
          case rel => exact ⟨k + 1, by omega, by go_num, HSt.out _ sB.out⟩
          case measure => simp [intOf]; omega
    · obtain rfl : k = l := by omega
      have s5 : Hid (AB w2 w8 sb (fun i => decide ((i : Int) ∈ L))) := by
        have := sA.out
        rw [List.take_of_length_le (by rw [HL.out]; exact Nat.le_refl _)] at this
        exact this
      clear sA
      go_wp2
      go_loopw [10] (fun i W' => ∃ t : Nat, t ≤ m ∧ t ≤ n ∧ i = .int .i64 t ∧ Hid (AB w2 W' sb (fun i => decide ((i : Int) ∈ L)))) (fun i _ => m - (intOf i).toNat)
      case atStart => exact ⟨0, Nat.zero_le _, Nat.zero_le _, rfl, s5⟩
      case round =>
        obtain ⟨t, ht, ht2, rfl, sB⟩ := hrel
        obtain ⟨w9, rfl⟩ : ∃ w', w' = wr := ⟨_, rfl⟩
        clear s5
        by_cases htm : t < m ∧ t < n
        · obtain ⟨htm, htn⟩ := htm
          have r1 : decide ((t : Int) < m) = true := by simp; omega
          have r2 : decide ((t : Int) < n) = true := by simp; omega
          have htx : t < xs.length := by rw [HM.out]; exact htm
          have hty : t < ys.length := by rw [HN.out]; exact htn
          have hmem := HBI.out.mem t htx hty (by omega)
          have htop := HBI.out.top t htx hty (by omega)
          obtain ⟨xb, xo, rfl, hxb, cX0⟩ := (kx2.out.row (List.mem_cons_of_mem _ (List.mem_cons_of_mem _ (List.mem_cons_self ..)))) t htx
          obtain ⟨yb, yo, rfl, hyb, cY0⟩ := (kx2.out.row (List.mem_cons_of_mem _ (List.mem_cons_self ..))) t hty
          have cX : w9.cell? ⟨xb, xo + t, none⟩ = some (.int .i64 xs[t]) := by rw [sB.out.bel.cell (p := ⟨xb, xo + t, none⟩) hxb]; exact cX0
          have cY : w9.cell? ⟨yb, yo + t, none⟩ = some (.int .i64 ys[t]) := by rw [sB.out.bel.cell (p := ⟨yb, yo + t, none⟩) hyb]; exact cY0
          have cI : w9.cell? ⟨sb, t, none⟩ = some (.bool (decide ((t : Int) ∈ L))) := sB.out.cell t (by omega)
          generalize xs[t] = x at *
          generalize ys[t] = y at *
          have g1 : (t : Int) < 60 := by omega
          have g2 : ¬ ((60 : Int) ≤ (t : Int)) := by omega
          have g3 : t < 60 := by omega
          clear cX0 cY0 HBI htx hty
          by_cases hx1 : x = 1
          · by_cases hy0 : 0 ≤ y
            · have e1 : (x == 1) = true := by simpa using hx1
              have e2 : decide (0 ≤ y) = true := by simpa using hy0
              have hle := htop hx1 hy0
              have e3 : decide (P < y) = false := by simp; omega
              by_cases hyP : y = P
              · have e4 : (y == P) = true := by simpa using hyP
                have e5 : decide ((t : Int) ∈ L) = true := by simpa using hmem.2 ⟨hx1, hy0, hyP⟩
                rw [e5] at cI
                clear hmem htop e5 hle
                subst hx1 hyP
                · as_aux_lemma =>
                  go_wp2
                  go_big_quiet (fail)
                  go_wp2
                  go_roundw
                  case rel => exact ⟨t + 1, by omega, by omega, by go_num, sB.out.drewN _⟩
                  case measure => simp [intOf]; omega
              · have e4 : (y == P) = false := by simpa using hyP
                have e5 : decide ((t : Int) ∈ L) = false := by simp; exact fun h => hyP (hmem.1 h).2.2
                rw [e5] at cI
                clear hmem htop e5
                subst hx1
                · as_aux_lemma =>
                  go_wp2
                  go_big_quiet (fail)
                  go_wp2
                  go_roundw
                  case rel => exact ⟨t + 1, by omega, by omega, by go_num, sB.out.drewN _⟩
                  case measure => simp [intOf]; omega
            · have e2 : decide (0 ≤ y) = false := by simpa using hy0
              have e5 : decide ((t : Int) ∈ L) = false := by simp; exact fun h => hy0 (hmem.1 h).2.1
              rw [e5] at cI
              clear hmem htop e5
              subst hx1
              · as_aux_lemma =>
                go_wp2
                go_big_quiet (fail)
                go_wp2
                go_roundw
                case rel => exact ⟨t + 1, by omega, by omega, by go_num, sB.out.drewN _⟩
                case measure => simp [intOf]; omega
          · have e1 : (x == 1) = false := by simpa using hx1
            have e5 : decide ((t : Int) ∈ L) = false := by simp; exact fun h => hx1 (hmem.1 h).1
            rw [e5] at cI
            clear hmem htop e5
            · as_aux_lemma =>
              go_wp2
              go_big_quiet (fail)
              go_wp2
              go_roundw
              case rel => exact ⟨t + 1, by omega, by omega, by go_num, sB.out.drewN _⟩
              case measure => simp [intOf]; omega
        · have hend := hide_it (kx2.out.step sB.out.bel).bel
          have hor : (t < m ∧ ¬ t < n ∧ decide ((t : Int) < m) = true ∧ decide ((t : Int) < n) = false) ∨ (¬ t < m ∧ decide ((t : Int) < m) = false) := by
            by_cases h1 : t < m
            · exact .inl ⟨h1, by omega, by simp; omega, by simp; omega⟩
            · exact .inr ⟨h1, by simp; omega⟩
          have hlo := HBI.out.lo
          have hle := HBI.out.len
          rw [HL.out] at hle
          clear htm sB kx2 HBI HL HM HN
          have hPl : (0 ≤ P ∧ 0 < k) ∨ (P = -1 ∧ k = 0) := by
            by_cases h : 0 ≤ P
            · exact .inl ⟨h, hle.2 h⟩
            · exact .inr ⟨by omega, by by_cases hk : k = 0; exact hk; exact absurd (hle.1 (by omega)) h⟩
          clear hle
          rcases hor with ⟨a1, a2, a3, a4⟩ | ⟨a1, a3⟩
          all_goals
            rcases hPl with ⟨p1, p2⟩ | ⟨rfl, rfl⟩
            · have f1 : decide (0 ≤ P) = true := by simpa using p1
              have f2 : decide ((0 : Int) < k) = true := by simp; omega
              have f3 : decide (-1 ≤ P) = true := by simpa using hlo
              · as_aux_lemma =>
                go_wp2
                go_ret
                exact ⟨rfl, hend.out⟩
            · · as_aux_lemma =>
                go_wp2
                go_ret
                exact ⟨rfl, hend.out⟩
end Go.Proofs.YtipkgoghodkbfaaDoor
