/- A path takes no way round: the walk. -/
import Derived.Test.YtpbncoaonminoaaDoorCyT
namespace Go.Proofs.YtpbncoaonminoaaDoor
open Go.RowKit
open M
set_option linter.unusedVariables false
set_option linter.unusedSimpArgs false

theorem max0_run (n : Nat) (ts : Array TypeId) (t : TypeId) (W : World) : (Builtin.max_ ts t #[.int .i64 n, .int .i64 0]).run Tryd.prog W = .ok (.int .i64 n) W := by
  rw [run_max_int2]
  congr 2
/-- What the law's loops take of the path. -/
def NoWay (es : List E) (n : Nat) (L : List Nat) : Prop := L.length ≤ n ∧ (∀ i (h : i < L.length), L[i] < n) ∧ ∀ i k (hk : k < L.length) (hik : i + 2 ≤ k), (L[i], L[k]) ∉ es
theorem noway {es : List E} {n : Nat} (hg : ∀ e ∈ es, e.1 < n ∧ e.2 < n) (a b : Int) : NoWay es n (pathG es n a b) := by
  rcases path_cases hg a b with ⟨h, _⟩ | ⟨_, x, y, rfl, rfl, hx, hy, h⟩
  · rw [h]; exact ⟨by simp, fun i h => by simp at h, fun i k hk => by simp at hk⟩
  · exact ⟨h.len hg, fun i hi => (h.at hi).1, fun i k hk hik => h.short hk hik⟩

set_option maxRecDepth 1000000 in
set_option maxHeartbeats 4000000 in
theorem short_core (n a b : Int) (ls : List (Int × Int)) (la : Option Addr) (lc : Nat) (W : World) (hT : Tab W) (h0 : 0 < W.heap.size) (hl : LIn W la ls) (hm : ls.length ≤ maxLen) :
    Calls Tryd.prog 7 #[.int .i64 n, .slice la ls.length lc, .int .i64 a, .int .i64 b] W fun e w' => e = .returned (.bool true) ∧ Below W.heap.size W w' := by
  have ks := shown_q hT h0 (Below.refl _ W)
  obtain ⟨m, hmm⟩ : ∃ m, ls.length = m := ⟨_, rfl⟩
  obtain ⟨N, hN⟩ : ∃ N, sz30 n = N := ⟨_, rfl⟩
  obtain ⟨es, hes⟩ : ∃ es, foldE N (ls.take 100) [] = es := ⟨_, rfl⟩
  have hlen : es.length ≤ 100 := by rw [← hes]; exact fold_len N ls
  have km : ∀ w1, Below W.heap.size W w1 → Calls Tryd.prog 10 #[.int .i64 n, .slice la m lc] w1 fun e w' => ∃ g eb, e = .returned (ptr g) ∧ Hid (RX W.heap.size W w' g eb N es []) := fun w1 hb => made_q hT h0 hb n ls la lc hl hm m N es hN hmm hes
  have kp : ∀ w1 g eb, RX W.heap.size W w1 g eb N es [] → Calls Tryd.prog 16 #[ptr g, .int .i64 a, .int .i64 b] w1 fun e w' => ∃ ao cap, e = .returned (.slice ao (pathG es N a b).length cap) ∧ Hid (RX W.heap.size W w' g eb N es [(.slice ao (pathG es N a b).length cap, pathG es N a b)]) ∧ Hid (NoWay es N (pathG es N a b)) := fun w1 g eb h => by
    have hg := h.good
    refine (h.path (by omega) a b _ rfl).mono ?_
    rintro e w' ⟨u, rfl, s⟩
    obtain ⟨ao, cap, rfl, _⟩ := own_iat (s.out.row (L := pathG es N a b) (u := u) (by simp))
    exact ⟨ao, cap, rfl, s, noway hg a b⟩
  rw [hmm]
  obtain ⟨L, hL⟩ : ∃ L, pathG es N a b = L := ⟨_, rfl⟩
  simp only [hL] at kp
  have hmx := max0_run N
  clear hT hl hm hmm hes hN hL
  go_enter Tryd.func7, Tryd.ntmps7
  go_wp2_with (first | (go_at_call 9; refine ks.mono ?_; rintro e w1 ⟨rfl, s1⟩) | (go_at_call 10; refine (km _ s1.out).mono ?_; rintro e w2 ⟨g, eb, rfl, s2⟩) | (go_at_call 16; refine (kp _ _ _ s2.out).mono ?_; rintro e w3 ⟨ao, cap, rfl, s3, HW⟩; have hLn := HW.out.1; have hNn := s3.out.hn))
  go_loopw [12] (fun i W' => ∃ j : Nat, j ≤ L.length ∧ i = .int .i64 j ∧ Hid (RX W.heap.size W W' g eb N es [(.slice ao L.length cap, L)])) (fun i _ => L.length - (intOf i).toNat)
  case atStart => exact ⟨0, Nat.zero_le _, rfl, s3⟩
  case round =>
    obtain ⟨j, hj, rfl, s4⟩ := hrel
    clear ks km kp s1 s2 s3
    by_cases hjl : j < L.length
    · go_wp2
      go_loopw [13] (fun i W' => ∃ k : Nat, j + 2 ≤ k ∧ k ≤ j + 2 + L.length ∧ i = .int .i64 k ∧ Hid (RX W.heap.size W W' g eb N es [(.slice ao L.length cap, L)])) (fun i _ => j + 2 + L.length - (intOf i).toNat)
      case atStart => exact ⟨j + 2, Nat.le_refl _, by omega, by go_num, s4⟩
      case round =>
        obtain ⟨k, hk1, hk2, rfl, s5⟩ := hrel
        by_cases hkl : k < L.length
        · have hra := s5.out.at (ao := ao) (m := L.length) (cap := cap) (L := L) (by simp)
          obtain ⟨r, rfl, hr, c1⟩ := hra j (by omega)
          obtain ⟨r2, e2, hr2, c2⟩ := hra k hkl
          injection e2 with e2
          injection e2 with e2
          subst e2
          have hx1 := HW.out.2.1 j (by omega)
          have hx2 := HW.out.2.1 k hkl
          have hno := HW.out.2.2 j k hkl hk1
          have kh := fun i => (s5.out.drewN i).has L[j] L[k] false (by rw [hasB_in _ _ hx1 hx2]; simpa using hno)
          clear hno hx1 hx2 hra
          generalize L[j] = x at *
          generalize L[k] = y at *
          go_wp2
          go_region_with ((go_at_call 22; refine (kh 1).mono ?_; rintro e w5 ⟨rfl, s6⟩))
          all_goals
            go_wp2
            go_roundw
            case rel => exact ⟨k + 1, by omega, by omega, by go_num, s6⟩
            case measure => simp [intOf]; omega
        · go_wp2
          go_roundw
          case rel => exact ⟨j + 1, by omega, by go_num, s5⟩
          case measure => simp [intOf]; omega
    · have kn := s4.out.num
      have hle : (L.length : Int) ≤ (N : Int) := by omega
      go_wp2_with (go_at_call 23; refine kn.mono ?_; rintro e w' ⟨rfl, rfl⟩)
      go_ret
      exact ⟨rfl, s4.out.bel⟩
end Go.Proofs.YtpbncoaonminoaaDoor
