/- A path has edges alone, no task twice: the walk. -/
import Derived.Test.YtpbncoaonminoaaDoorCyT
namespace Go.Proofs.YtpbncoaonminoaaDoor
open Go.RowKit
open M
set_option linter.unusedVariables false
set_option linter.unusedSimpArgs false

/-- What the law takes of the path. -/
structure Way (es : List E) (n : Nat) (a b : Int) (L : List Nat) : Prop where
  len : L.length ≤ n
  lt : ∀ i (h : i < L.length), L[i] < n
  edge : ∀ i (h : i + 1 < L.length), (L[i], L[i + 1]) ∈ es
  inj : ∀ i k (hi : i < L.length) (hk : k < i), L[k] ≠ L[i]
  head : ∀ h : 0 < L.length, (L[0] : Int) = a
  last : ∀ h : L.length - 1 < L.length, (L[L.length - 1] : Int) = b
  one : a = b → 0 < L.length → L.length = 1
theorem way {es : List E} {n : Nat} (hg : ∀ e ∈ es, e.1 < n ∧ e.2 < n) (a b : Int) : Way es n a b (pathG es n a b) ∧ reachB n es a b = decide (0 < (pathG es n a b).length) := by
  rcases path_cases hg a b with ⟨h, h2⟩ | ⟨h2, x, y, rfl, rfl, hx, hy, h⟩
  · rw [h, h2]
    exact ⟨⟨by simp, fun i h => by simp at h, fun i h => by simp at h, fun i k h => by simp at h, fun h => by simp at h, fun h => by simp at h, fun _ h => by simp at h⟩, rfl⟩
  · rw [h2]
    refine ⟨⟨h.len hg, fun i hi => (h.at hi).1, fun i hi => h.edges hi, fun i k hi hk => h.inj hi hk, fun _ => by rw [h.head], fun hh => by rw [h.last hh], fun e _ => ?_⟩, by simp [h.ne]⟩
    have e2 : x = y := by omega
    generalize pathG es n (x : Int) (y : Int) = L at *
    subst e2
    exact h.one

set_option maxRecDepth 1000000 in
set_option maxHeartbeats 4000000 in
theorem paths_core (n a b : Int) (ls : List (Int × Int)) (la : Option Addr) (lc : Nat) (W : World) (hT : Tab W) (h0 : 0 < W.heap.size) (hl : LIn W la ls) (hm : ls.length ≤ maxLen) :
    Calls Tryd.prog 4 #[.int .i64 n, .slice la ls.length lc, .int .i64 a, .int .i64 b] W fun e w' => e = .returned (.bool true) ∧ Below W.heap.size W w' := by
  have ks := shown_q hT h0 (Below.refl _ W)
  obtain ⟨m, hmm⟩ : ∃ m, ls.length = m := ⟨_, rfl⟩
  obtain ⟨N, hN⟩ : ∃ N, sz30 n = N := ⟨_, rfl⟩
  obtain ⟨es, hes⟩ : ∃ es, foldE N (ls.take 100) [] = es := ⟨_, rfl⟩
  have hlen : es.length ≤ 100 := by rw [← hes]; exact fold_len N ls
  have km : ∀ w1, Below W.heap.size W w1 → Calls Tryd.prog 10 #[.int .i64 n, .slice la m lc] w1 fun e w' => ∃ g eb, e = .returned (ptr g) ∧ Hid (RX W.heap.size W w' g eb N es []) := fun w1 hb => made_q hT h0 hb n ls la lc hl hm m N es hN hmm hes
  have kp : ∀ w1 g eb, RX W.heap.size W w1 g eb N es [] → Calls Tryd.prog 16 #[ptr g, .int .i64 a, .int .i64 b] w1 fun e w' => ∃ ao cap, e = .returned (.slice ao (pathG es N a b).length cap) ∧ Hid (RX W.heap.size W w' g eb N es [(.slice ao (pathG es N a b).length cap, pathG es N a b)]) ∧ Hid (Way es N a b (pathG es N a b)) := fun w1 g eb h => by
    have hg := h.good
    refine (h.path (by omega) a b _ rfl).mono ?_
    rintro e w' ⟨u, rfl, s⟩
    obtain ⟨ao, cap, rfl, _⟩ := own_iat (s.out.row (L := pathG es N a b) (u := u) (by simp))
    exact ⟨ao, cap, rfl, s, (way hg a b).1⟩
  have kr : ∀ w1 g eb ao cap, RX W.heap.size W w1 g eb N es [(.slice ao (pathG es N a b).length cap, pathG es N a b)] → Calls Tryd.prog 21 #[ptr g, .int .i64 a, .int .i64 b] w1 fun e w' => e = .returned (.bool (decide (0 < (pathG es N a b).length))) ∧ Hid (RX W.heap.size W w' g eb N es [(.slice ao (pathG es N a b).length cap, pathG es N a b)]) := fun w1 g eb ao cap h => h.reaches a b _ (way h.good a b).2
  rw [hmm]
  obtain ⟨L, hL⟩ : ∃ L, pathG es N a b = L := ⟨_, rfl⟩
  simp only [hL] at kp kr
  clear hT hl hm hmm hes hN hL
  by_cases hz : L.length = 0
  · have hz' : decide (0 < L.length) = false := decide_eq_false (by omega)
    rw [hz'] at kr
    obtain rfl : L = [] := List.eq_nil_of_length_eq_zero hz
    simp only [List.length_nil] at kp kr
    clear hz hz'
    go_enter Tryd.func4, Tryd.ntmps4
    go_wp2_with (first | (go_at_call 9; refine ks.mono ?_; rintro e w1 ⟨rfl, s1⟩) | (go_at_call 10; refine (km _ s1.out).mono ?_; rintro e w2 ⟨g, eb, rfl, s2⟩) | (go_at_call 16; refine (kp _ _ _ s2.out).mono ?_; rintro e w3 ⟨ao, cap, rfl, s3, HW⟩) | (go_at_call 21; refine (kr _ _ _ _ _ s3.out).mono ?_; rintro e w4 ⟨rfl, s4⟩))
    go_ret
    exact ⟨rfl, s4.out.bel⟩
  · have hz' : decide (0 < L.length) = true := decide_eq_true (by omega)
    rw [hz'] at kr
    have hp0 : 0 < L.length := by omega
    have hz1 : ((L.length : Int) == 0) = false := by rw [beq_eq_false_iff_ne]; omega
    have hz2 : ¬ ((L.length : Int) = 0) := by omega
    clear hz hz'
    go_enter Tryd.func4, Tryd.ntmps4
    go_wp2_with (first | (go_at_call 9; refine ks.mono ?_; rintro e w1 ⟨rfl, s1⟩) | (go_at_call 10; refine (km _ s1.out).mono ?_; rintro e w2 ⟨g, eb, rfl, s2⟩) | (go_at_call 16; refine (kp _ _ _ s2.out).mono ?_; rintro e w3 ⟨ao, cap, rfl, s3, HW⟩; have hLn := HW.out.len; have hNn := s3.out.hn) | (go_at_call 21; refine (kr _ _ _ _ _ s3.out).mono ?_; rintro e w4 ⟨rfl, s4⟩))
    go_loopw [12] (fun i W' => ∃ j : Nat, j ≤ L.length ∧ i = .int .i64 j ∧ Hid (RX W.heap.size W W' g eb N es [(.slice ao L.length cap, L)])) (fun i _ => L.length - (intOf i).toNat)
    case atStart => exact ⟨0, Nat.zero_le _, rfl, s4⟩
    case round =>
      obtain ⟨j, hj, rfl, s5⟩ := hrel
      clear ks km kp kr s1 s2 s3 s4
      have hra := s5.out.at (ao := ao) (m := L.length) (cap := cap) (L := L) (by simp)
      by_cases hjl : j < L.length
      · obtain ⟨r, rfl, hr, c1⟩ := hra j hjl
        by_cases hj0 : j = 0
        · subst hj0
          clear hra c1
          go_wp2
          go_big_quiet (fail)
          go_wp2
          go_loopw [13] (fun i W' => ∃ k : Nat, k ≤ 0 ∧ i = .int .i64 k ∧ Hid (RX W.heap.size W W' g eb N es [(.slice (some ⟨r, 0, none⟩) L.length cap, L)])) (fun i _ => 0 - (intOf i).toNat)
          case atStart => exact ⟨0, Nat.zero_le _, rfl, s5.out.drewN _⟩
          case round =>
            obtain ⟨k, hk, rfl, s7⟩ := hrel
            by_cases hkj : k < 0
            · exact absurd hkj (by omega)
            · go_wp2
              go_roundw
              case rel => exact ⟨0 + 1, by omega, by go_num, s7⟩
              case measure => simp [intOf]; omega
        · obtain ⟨j1, hj1⟩ : ∃ j1 : Nat, j = j1 + 1 := ⟨j - 1, by omega⟩
          obtain ⟨r4, e4, hr4, c0⟩ := hra j1 (by omega)
          injection e4 with e4
          injection e4 with e4
          subst e4
          have hx1 := HW.out.lt j1 (by omega)
          have hx2 := HW.out.lt j hjl
          have hed : (L[j1], L[j]) ∈ es := by
            have := HW.out.edge j1 (by omega)
            simpa [hj1] using this
          have kh := fun i => (s5.out.drewN i).has L[j1] L[j] true (by rw [hasB_in _ _ hx1 hx2]; simpa using hed)
          have hw3 : IntKind.i64.wrap ((j : Int) - 1) = (j1 : Int) := by rw [IntKind.wrap_i64]; omega
          have hw4 : wrap64 ((j : Int) - 1) = (j1 : Int) := by unfold wrap64; omega
          have hjp3 : decide (0 < j) = true := by simp; omega
          have hjp4 : 0 < j := by omega
          have hj1L : j1 < L.length := by omega
          have HSc : Hid (∀ w6, RX W.heap.size W w6 g eb N es [(.slice (some ⟨r, 0, none⟩) L.length cap, L)] → w6.cell? ⟨r, j1, none⟩ = some (.int .i64 (L[j1] : Nat)) ∧ w6.cell? ⟨r, j, none⟩ = some (.int .i64 (L[j] : Nat))) := fun w6 h => by
            have hrb := h.at (ao := some ⟨r, 0, none⟩) (m := L.length) (cap := cap) (L := L) (by simp)
            obtain ⟨r2, e2, hr2, d1⟩ := hrb j1 (by omega)
            injection e2 with e2
            injection e2 with e2
            subst e2
            obtain ⟨r3, e3, hr3, d2⟩ := hrb j hjl
            injection e3 with e3
            injection e3 with e3
            subst e3
            exact ⟨d1, d2⟩
          clear hra hx1 hx2 hed
          generalize L[j1] = x at *
          generalize hzz : L[j] = z at *
          have HZ := hide_it hzz
          clear hzz hj1
          go_wp2
          (go_region_held3 (fun W => W.cell? ⟨r, j1, none⟩ = some (.int .i64 x) ∧ W.cell? ⟨r, j, none⟩ = some (.int .i64 z)) (first | go_keep | exact HSc.out _ s6.out) ((go_at_call 22; refine (kh 1).mono ?_; rintro e w6 ⟨rfl, s6⟩)))
          clear hw3 hw4
          go_wp2
          go_loopw [13] (fun i W' => ∃ k : Nat, k ≤ j ∧ i = .int .i64 k ∧ Hid (RX W.heap.size W W' g eb N es [(.slice (some ⟨r, 0, none⟩) L.length cap, L)])) (fun i _ => j - (intOf i).toNat)
          case atStart => exact ⟨0, Nat.zero_le _, rfl, s6⟩
          case round =>
            obtain ⟨k, hk, rfl, s7⟩ := hrel
            by_cases hkj : k < j
            · have hrb := s7.out.at (ao := some ⟨r, 0, none⟩) (m := L.length) (cap := cap) (L := L) (by simp)
              obtain ⟨r2, e2, hr2, d1⟩ := hrb k (by omega)
              injection e2 with e2
              injection e2 with e2
              subst e2
              obtain ⟨r3, e3, hr3, d2⟩ := hrb (j) (by omega)
              injection e3 with e3
              injection e3 with e3
              subst e3
              have hne := HW.out.inj (j) k (by omega) hkj
              have hn1 : ((L[k] : Int) == (L[j] : Int)) = false := by simp; exact fun e => hne (by omega)
              have hn2 : ¬ ((L[k] : Int) = (L[j] : Int)) := fun e => hne (by omega)
              clear hne hrb
              generalize L[k] = y at *
              generalize L[j] = z at *
              go_wp2
              go_big_quiet (fail)
              go_wp2
              go_roundw
              case rel => exact ⟨k + 1, by omega, by go_num, s7.out.drewN _⟩
              case measure => simp [intOf]; omega
            · go_wp2
              go_roundw
              case rel => exact ⟨j + 1, by omega, by go_num, s7⟩
              case measure => simp [intOf]; omega
      · obtain ⟨r, rfl, hr, c0⟩ := hra 0 hp0
        obtain ⟨r4, e4, hr4, c1⟩ := hra (L.length - 1) (by omega)
        injection e4 with e4
        injection e4 with e4
        subst e4
        have h1 := HW.out.head hp0
        have h2 := HW.out.last (by omega)
        rw [h1] at c0
        rw [h2] at c1
        have hlm : (L.length : Int) - 1 = ((L.length - 1 : Nat) : Int) := by omega
        by_cases hab : a = b
        · subst hab
          have h3 := HW.out.one rfl hp0
          clear hra h1 h2
          rw [h3] at hlm c1 ⊢
          go_wp2
          go_ret
          exact ⟨rfl, s5.out.bel⟩
        · have hab1 : (a == b) = false := by simpa using hab
          have hab2 : (a != b) = true := by simpa using hab
          have hl2 : L.length - 1 < L.length := by omega
          clear hra h1 h2
          generalize L.length - 1 = l2 at *
          go_wp2
          go_ret
          exact ⟨rfl, s5.out.bel⟩
end Go.Proofs.YtpbncoaonminoaaDoor
