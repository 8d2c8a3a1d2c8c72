/- An edge makes circles just if it closes one: the walk. -/
import Derived.Test.YtpbncoaonminoaaDoorClM
import Derived.Test.YtpbncoaonminoaaDoorCyZ
import Derived.Deep.CutBlock
import Derived.Deep.DeepCutAuto
import Derived.Deep.RegionHeld3
namespace Go.Proofs.YtpbncoaonminoaaDoor
open Go.RowKit
open M
set_option linter.unusedVariables false
set_option linter.unusedSimpArgs false

theorem foldE_good2 (n : Nat) : ∀ (ls : List (Int × Int)) (es : List E), (∀ e ∈ es, e.1 < n ∧ e.2 < n) → ∀ e ∈ foldE n ls es, e.1 < n ∧ e.2 < n
  | [], es, h => h
  | p :: r, es, h => by
    refine foldE_good2 n r (addE n es p.1 p.2) ?_
    unfold addE
    split
    · rename_i hc
      have hr : 0 ≤ p.1 ∧ p.1 < n ∧ 0 ≤ p.2 ∧ p.2 < n := by simp [offB] at hc; omega
      split
      · exact h
      · intro e he
        rcases List.mem_append.1 he with q | q
        · exact h e q
        · simp at q
          subst q
          exact ⟨by show p.1.toNat < n; omega, by show p.2.toNat < n; omega⟩
    · exact h

set_option maxRecDepth 1000000 in
set_option maxHeartbeats 4000000 in
theorem close_off (n a b : Int) (ls : List (Int × Int)) (la : Option Addr) (lc : Nat) (W : World) (hT : Tab W) (h0 : 0 < W.heap.size) (hl : LIn W la ls) (hm : ls.length ≤ maxLen) (hoff : (offB (sz30 n) a || offB (sz30 n) b) = true) :
    Calls Tryd.prog 6 #[.int .i64 n, .slice la ls.length lc, .int .i64 a, .int .i64 b] W fun e w' => e = .returned (.bool true) ∧ Below W.heap.size W w' := by
  have ks := shown_q hT h0 (Below.refl _ W)
  obtain ⟨m, hmm⟩ : ∃ m, ls.length = m := ⟨_, rfl⟩
  obtain ⟨N, hN⟩ : ∃ N, sz30 n = N := ⟨_, rfl⟩
  obtain ⟨es, hes⟩ : ∃ es, foldE N (ls.take 100) [] = es := ⟨_, rfl⟩
  have hlen : es.length ≤ 100 := by rw [← hes]; exact fold_len N ls
  have hN30 : N ≤ 30 := by rw [← hN]; exact sz30_le n
  have km : ∀ w1, Below W.heap.size W w1 → Calls Tryd.prog 10 #[.int .i64 n, .slice la m lc] w1 fun e w' => ∃ g eb, e = .returned (ptr g) ∧ Hid (RX W.heap.size W w' g eb N es []) := fun w1 hb => made_q hT h0 hb n ls la lc hl hm m N es hN hmm hes
  rw [hN] at hoff
  rw [hmm]
  clear hT hl hm hmm hes hN
  have qP : ∀ (W : World) (g : Nat), (binOp .neq 24 (ptr g) (.pointer none)).run Tryd.prog W = .ok (.bool true) W := fun W g => by kernel_rfl
  by_cases ha : a < 0
  · have ha1 : decide (a < 0) = true := by simpa using ha
    go_enter Tryd.func6, Tryd.ntmps6
    go_wp2_with (first | (go_at_call 9; refine ks.mono ?_; rintro e w1 ⟨rfl, s1⟩) | (go_at_call 10; refine (km _ s1.out).mono ?_; rintro e w2 ⟨g, eb, rfl, s2⟩; have kn := s2.out.num) | (go_at_call 23; refine kn.mono ?_; rintro e w3 ⟨rfl, rfl⟩))
    go_ret
    exact ⟨rfl, s2.out.bel⟩
  · have ha1 : decide (a < 0) = false := by simpa using ha
    by_cases hb : b < 0
    · have hb1 : decide (b < 0) = true := by simpa using hb
      go_enter Tryd.func6, Tryd.ntmps6
      go_wp2_with (first | (go_at_call 9; refine ks.mono ?_; rintro e w1 ⟨rfl, s1⟩) | (go_at_call 10; refine (km _ s1.out).mono ?_; rintro e w2 ⟨g, eb, rfl, s2⟩; have kn := s2.out.num) | (go_at_call 23; refine kn.mono ?_; rintro e w3 ⟨rfl, rfl⟩))
      go_ret
      exact ⟨rfl, s2.out.bel⟩
    · have hb1 : decide (b < 0) = false := by simpa using hb
      by_cases haN : (N : Int) ≤ a
      · have haN1 : decide ((N : Int) ≤ a) = true := by simpa using haN
        go_enter Tryd.func6, Tryd.ntmps6
        go_wp2_with (first | (go_at_call 9; refine ks.mono ?_; rintro e w1 ⟨rfl, s1⟩) | (go_at_call 10; refine (km _ s1.out).mono ?_; rintro e w2 ⟨g, eb, rfl, s2⟩; have kn := s2.out.num) | (go_at_call 23; refine kn.mono ?_; rintro e w3 ⟨rfl, rfl⟩))
        go_ret
        exact ⟨rfl, s2.out.bel⟩
      · have haN1 : decide ((N : Int) ≤ a) = false := by simpa using haN
        have hbN : (N : Int) ≤ b := by simp [offB] at hoff; omega
        have hbN1 : decide ((N : Int) ≤ b) = true := by simpa using hbN
        go_enter Tryd.func6, Tryd.ntmps6
        go_wp2_with (first | (go_at_call 9; refine ks.mono ?_; rintro e w1 ⟨rfl, s1⟩) | (go_at_call 10; refine (km _ s1.out).mono ?_; rintro e w2 ⟨g, eb, rfl, s2⟩; have kn := s2.out.num) | (go_at_call 23; refine kn.mono ?_; rintro e w3 ⟨rfl, rfl⟩))
        go_ret
        exact ⟨rfl, s2.out.bel⟩

set_option maxRecDepth 1000000 in
set_option maxHeartbeats 8000000 in
theorem close_in (n : Int) (A B : Nat) (ls : List (Int × Int)) (la : Option Addr) (lc : Nat) (W : World) (hT : Tab W) (h0 : 0 < W.heap.size) (hl : LIn W la ls) (hm : ls.length ≤ maxLen) (hA : A < sz30 n) (hB : B < sz30 n) :
    Calls Tryd.prog 6 #[.int .i64 n, .slice la ls.length lc, .int .i64 A, .int .i64 B] W fun e w' => e = .returned (.bool true) ∧ Below W.heap.size W w' := by
  have ks := shown_q hT h0 (Below.refl _ W)
  obtain ⟨m, hmm⟩ : ∃ m, ls.length = m := ⟨_, rfl⟩
  obtain ⟨N, hN⟩ : ∃ N, sz30 n = N := ⟨_, rfl⟩
  obtain ⟨es, hes⟩ : ∃ es, foldE N (ls.take 100) [] = es := ⟨_, rfl⟩
  have hlen : es.length ≤ 100 := by rw [← hes]; exact fold_len N ls
  have hN30 : N ≤ 30 := by rw [← hN]; exact sz30_le n
  have km : ∀ w1, Below W.heap.size W w1 → Calls Tryd.prog 10 #[.int .i64 n, .slice la m lc] w1 fun e w' => ∃ g eb, e = .returned (ptr g) ∧ Hid (RX W.heap.size W w' g eb N es []) := fun w1 hb => made_q hT h0 hb n ls la lc hl hm m N es hN hmm hes
  rw [hN] at hA hB
  have hgood : ∀ e ∈ es, e.1 < N ∧ e.2 < N := by rw [← hes]; exact foldE_good2 N _ [] (by simp)
  have HW := hide_it (clW hgood hA hB)
  have hfl := addE_len N es (A : Int) (B : Int)
  have kW : ∀ w1 g eb X, RX W.heap.size W w1 g eb N es X → Calls Tryd.prog 19 #[ptr g] w1 fun e w' => ∃ ao cap, e = .returned (.slice ao (onL es N).length cap) ∧ Hid (RX W.heap.size W w' g eb N es ((.slice ao (onL es N).length cap, onL es N) :: X)) := fun w1 g eb X h => by
    refine (h.on (by omega) _ rfl).mono ?_
    rintro e w' ⟨u, rfl, s⟩
    obtain ⟨ao, cap, rfl, _⟩ := own_iat (s.out.row (L := onL es N) (u := u) (by simp))
    exact ⟨ao, cap, rfl, s⟩
  have kP : ∀ w1 g eb X, RX W.heap.size W w1 g eb N es X → Calls Tryd.prog 18 #[ptr g, .int .i64 A, .int .i64 B] w1 fun e w' => ∃ ao cap, e = .returned (.slice ao (pathG es N (B : Int) (A : Int)).length cap) ∧ Hid (RX W.heap.size W w' g eb N es ((.slice ao (pathG es N (B : Int) (A : Int)).length cap, pathG es N (B : Int) (A : Int)) :: X)) := fun w1 g eb X h => by
    refine (h.closes (by omega) (A : Int) (B : Int) _ rfl).mono ?_
    rintro e w' ⟨u, rfl, s⟩
    obtain ⟨ao, cap, rfl, _⟩ := own_iat (s.out.row (L := pathG es N (B : Int) (A : Int)) (u := u) (by simp))
    exact ⟨ao, cap, rfl, s⟩
  have kA : ∀ w1 g eb X, RX W.heap.size W w1 g eb N es X → Calls Tryd.prog 25 #[ptr g, .int .i64 A, .int .i64 B] w1 fun e w' => ∃ b er, e = .returned (.tuple #[.bool b, .int .i64 er]) ∧ Hid (RX W.heap.size W w' g eb N (addE N es (A : Int) (B : Int)) X) := fun w1 g eb X h => by
    refine (h.add (by omega) (A : Int) (B : Int) _ _ _ rfl rfl rfl).mono ?_
    rintro e w' ⟨rfl, s⟩
    exact ⟨_, _, rfl, s⟩
  have kI : ∀ w1 g eb X, RX W.heap.size W w1 g eb N (addE N es (A : Int) (B : Int)) X → Calls Tryd.prog 19 #[ptr g] w1 fun e w' => ∃ ao cap, e = .returned (.slice ao (onL (addE N es (A : Int) (B : Int)) N).length cap) ∧ Hid (RX W.heap.size W w' g eb N (addE N es (A : Int) (B : Int)) ((.slice ao (onL (addE N es (A : Int) (B : Int)) N).length cap, onL (addE N es (A : Int) (B : Int)) N) :: X)) := fun w1 g eb X h => by
    refine (h.on (by omega) _ rfl).mono ?_
    rintro e w' ⟨u, rfl, s⟩
    obtain ⟨ao, cap, rfl, _⟩ := own_iat (s.out.row (L := onL (addE N es (A : Int) (B : Int)) N) (u := u) (by simp))
    exact ⟨ao, cap, rfl, s⟩
  rw [hmm]
  generalize onL (addE N es (A : Int) (B : Int)) N = is at *
  generalize pathG es N (B : Int) (A : Int) = p at *
  generalize onL es N = was at *
  generalize addE N es (A : Int) (B : Int) = fs at *
  have hil := HW.out.il
  have hpl := HW.out.pl
  have hwl := HW.out.wl
  have hA1 : decide ((A : Int) < 0) = false := by simp
  have hB1 : decide ((B : Int) < 0) = false := by simp
  have hA2 : decide ((N : Int) ≤ (A : Int)) = false := by simp; omega
  have hB2 : decide ((N : Int) ≤ (B : Int)) = false := by simp; omega
  have hA3 : decide (N ≤ A) = false := by simp; omega
  have hB3 : decide (N ≤ B) = false := by simp; omega
  clear hT hl hm hmm hes hN hgood
  go_enter Tryd.func6, Tryd.ntmps6
  go_upto_region 9 with (first | (go_at_call 9; refine ks.mono ?_; rintro e w1 ⟨rfl, s1⟩) | (go_at_call 10; refine (km _ s1.out).mono ?_; rintro e w2 ⟨g, eb, rfl, s2⟩; have kn := s2.out.num) | (go_at_call 23; refine kn.mono ?_; rintro e w3 ⟨rfl, rfl⟩) | (go_at_call 18; refine (kP _ _ _ _ s4.out).mono ?_; rintro e w5 ⟨ao2, cap2, rfl, s5⟩) | (go_at_call 25; refine (kA _ _ _ _ s5.out).mono ?_; rintro e w6 ⟨b6, er6, rfl, s6⟩) | (go_at_call 19; first | (refine (kI _ _ _ _ s6.out).mono ?_; rintro e w7 ⟨ao3, cap3, rfl, s7⟩) | (refine (kW _ _ _ _ s2.out).mono ?_; rintro e w4 ⟨ao1, cap1, rfl, s4⟩)))
  apply wp_region_lit
  refine wpList_build48 rfl rfl ?_
  refine wpList_alloc48 rfl rfl ?_
  refine wpList_store48 rfl (.tmp 14) (.tmp 61) rfl rfl rfl rfl ?_
  have s8 := hide_it (AX.start s7.out falses64 48)
  obtain ⟨w8, hw8⟩ : ∃ w8, w7.alloc (.cells falses64 48) = w8 := ⟨_, rfl⟩
  generalize hsb : w7.heap.size = sb at *
  rw [hw8] at s8 ⊢
  clear hw8 hsb s1 s2 s4 s5 s6 s7 kn kW kP kA kI km ks hA1 hB1 hA2 hB2 hA3 hB3
  obtain ⟨X, hX⟩ : ∃ X, [(Value.slice ao3 is.length cap3, is), (.slice ao2 p.length cap2, p), (.slice ao1 was.length cap1, was)] = X := ⟨_, rfl⟩
  have X1 : Hid ((Value.slice ao3 is.length cap3, is) ∈ X) := by rw [← hX]; unfold Hid; simp
  have X2 : Hid ((Value.slice ao2 p.length cap2, p) ∈ X) := by rw [← hX]; unfold Hid; simp
  have X3 : Hid ((Value.slice ao1 was.length cap1, was) ∈ X) := by rw [← hX]; unfold Hid; simp
  rw [hX] at s8
  clear hX
  have s9 : Hid (AX W.heap.size W w8 g eb N fs X sb (bRow (seenB is 0)) 48) := by
    have e : seenB is 0 = fun _ => false := by funext t; simp [seenB]
    unfold Hid
    rw [e]
    exact s8.out
  clear s8
  go_wp2
  go_loopw [15] (fun i W' => ∃ j : Nat, j ≤ is.length ∧ i = .int .i64 j ∧ Hid (AX W.heap.size W W' g eb N fs X sb (bRow (seenB is j)) 48)) (fun i _ => is.length - (intOf i).toNat)
  case atStart => exact ⟨0, Nat.zero_le _, rfl, s9⟩
  case round =>
    obtain ⟨j, hj, rfl, t1⟩ := hrel
    clear s9
    by_cases hjl : j < is.length
    · obtain ⟨r, rfl, hr, c1⟩ := t1.out.at X1.out j hjl
      have hx := HW.out.ilt j hjl
      have c2 := t1.out.cell is[j] _ (bRow_at _ _ (by omega))
      have f2 := t1.out.fro is[j]
      have t2 := hide_it (t1.out.set is[j] (.bool true) (bRow (seenB is (j + 1))) (by rw [bRow_set]; congr 1; funext t; exact (seenB_step hjl t).symm))
      have hx64 : (is[j] : Int) < 64 := by omega
      have hx64b : ¬ ((64 : Int) ≤ (is[j] : Int)) := by omega
      have hx64c : decide ((64 : Int) ≤ (is[j] : Int)) = false := by simp; omega
      have hx0 : decide ((is[j] : Int) < 0) = false := by simp
      have hx64n : is[j] < 64 := by omega
      have hx64m : decide (64 ≤ is[j]) = false := by simp; omega
      generalize is[j] = x at *
      generalize seenB is j x = bx at *
      go_wp2
      go_roundw
      case rel => exact ⟨j + 1, by omega, by go_num, t2⟩
      case measure => simp [intOf]; omega
    · obtain ⟨F, hF⟩ : ∃ F, seenB is j = F := ⟨_, rfl⟩
      have HF : Hid (∀ t ∈ is, F t = true) := fun t ht => by rw [← hF]; exact seenB_all (by omega) ht
      rw [hF] at t1
      clear hF
      go_wp2
      go_loopw [16] (fun i W' => ∃ j : Nat, j ≤ p.length ∧ i = .int .i64 j ∧ Hid (AX W.heap.size W W' g eb N fs X sb (bRow F) 48)) (fun i _ => p.length - (intOf i).toNat)
      case atStart => exact ⟨0, Nat.zero_le _, rfl, t1⟩
      case round =>
        obtain ⟨i, hi, rfl, t3⟩ := hrel
        clear t1
        by_cases hil2 : i < p.length
        · have hra := t3.out.at X2.out
          obtain ⟨r, rfl, hr, c1⟩ := hra i hil2
          have hkl := nxt_lt hil2
          obtain ⟨r2, e2, hr2, c2⟩ := hra (nxt p i) hkl
          injection e2 with e2
          injection e2 with e2
          subst e2
          have hx := HW.out.plt i hil2
          have hy := HW.out.plt (nxt p i) hkl
          have c3 := t3.out.cell p[i] _ (bRow_at _ _ (by omega))
          rw [HF.out _ (HW.out.pin i hil2)] at c3
          have hpe := HW.out.pe i hil2
          have kh := fun q => (t3.out.drewN q).has p[i] (p[nxt p i]) true (by rw [hasB_in _ _ hx hy]; simpa using hpe)
          have hmod : (i + 1) % p.length = nxt p i := by
            unfold nxt
            split
            · exact Nat.mod_eq_of_lt (by omega)
            · have : i + 1 = p.length := by omega
              rw [this, Nat.mod_self]
          have HSc : Hid (∀ w6, AX W.heap.size W w6 g eb N fs X sb (bRow F) 48 → w6.cell? ⟨r, i, none⟩ = some (.int .i64 (p[i] : Nat)) ∧ w6.cell? ⟨r, nxt p i, none⟩ = some (.int .i64 (p[nxt p i] : Nat)) ∧ w6.cell? ⟨sb, p[i], none⟩ = some (.bool true)) := fun w6 h => by
            have hrb := h.at X2.out
            obtain ⟨r3, e3, hr3, d1⟩ := hrb i hil2
            injection e3 with e3
            injection e3 with e3
            subst e3
            obtain ⟨r4, e4, hr4, d2⟩ := hrb (nxt p i) hkl
            injection e4 with e4
            injection e4 with e4
            subst e4
            have d3 := h.cell p[i] _ (bRow_at _ _ (by omega))
            rw [HF.out _ (HW.out.pin i hil2)] at d3
            exact ⟨d1, d2, d3⟩
          have hx64 : (p[i] : Int) < 64 := by omega
          have hx64b : ¬ ((64 : Int) ≤ (p[i] : Int)) := by omega
          have hx64c : decide ((64 : Int) ≤ (p[i] : Int)) = false := by simp; omega
          have hx0 : decide ((p[i] : Int) < 0) = false := by simp
          have hx64n : p[i] < 64 := by omega
          have hx64m : decide (64 ≤ p[i]) = false := by simp; omega
          obtain ⟨i1, hi1⟩ : ∃ i1 : Nat, i + 1 = i1 := ⟨_, rfl⟩
          have hwa : IntKind.i64.wrap ((i : Int) + 1) = (i1 : Int) := by rw [IntKind.wrap_i64]; omega
          have hwb : wrap64 ((i : Int) + 1) = (i1 : Int) := by unfold wrap64; omega
          have hP0 : ¬ ((p.length : Int) = 0) := by omega
          have hma : (i1 : Int).tmod (p.length : Int) = (nxt p i : Nat) := by rw [← hi1, ← hmod]; exact Int.ofNat_tmod (i + 1) p.length
          have hmb : i1 % p.length = nxt p i := by rw [← hi1]; exact hmod
          have hmc : ((i : Int) + 1).tmod (p.length : Int) = (nxt p i : Nat) := by rw [← hma, ← hi1]; rfl
          have hPn : ¬ (p = []) := fun e => by rw [e] at hil2; simp at hil2
          clear hra hpe hx hy hmod hi1
          generalize p[nxt p i] = y at *
          generalize p[i] = x at *
          generalize nxt p i = k1 at *
          go_wp2
          (go_region_held3 (fun W => W.cell? ⟨r, i, none⟩ = some (.int .i64 x) ∧ W.cell? ⟨r, k1, none⟩ = some (.int .i64 y) ∧ W.cell? ⟨sb, x, none⟩ = some (.bool true)) (first | go_keep | exact HSc.out _ t4.out) ((go_at_call 22; refine (kh 1).mono ?_; rintro e w6 ⟨rfl, t4⟩)))
          clear hwa hwb hma hmb hmc
          go_wp2
          go_roundw
          case rel => exact ⟨i + 1, by omega, by go_num, t4⟩
          case measure => simp [intOf]; omega
        · go_wp2
          go_loopw [17] (fun i W' => ∃ j : Nat, j ≤ was.length ∧ i = .int .i64 j ∧ Hid (AX W.heap.size W W' g eb N fs X sb (bRow F) 48)) (fun i _ => was.length - (intOf i).toNat)
          case atStart => exact ⟨0, Nat.zero_le _, rfl, t3⟩
          case round =>
            obtain ⟨k, hk, rfl, t4⟩ := hrel
            clear t3
            by_cases hkl : k < was.length
            · obtain ⟨r, rfl, hr, c1⟩ := t4.out.at X3.out k hkl
              have hx := HW.out.wlt k hkl
              have c2 := t4.out.cell was[k] _ (bRow_at _ _ (by omega))
              rw [HF.out _ (HW.out.win k hkl)] at c2
              have hx64 : (was[k] : Int) < 64 := by omega
              have hx64b : ¬ ((64 : Int) ≤ (was[k] : Int)) := by omega
              have hx64c : decide ((64 : Int) ≤ (was[k] : Int)) = false := by simp; omega
              have hx0 : decide ((was[k] : Int) < 0) = false := by simp
              have hx64n : was[k] < 64 := by omega
              have hx64m : decide (64 ≤ was[k]) = false := by simp; omega
              generalize was[k] = x at *
              go_wp2
              go_roundw
              case rel => exact ⟨k + 1, by omega, by go_num, t4⟩
              case measure => simp [intOf]; omega
            · by_cases hp0 : p.length = 0
              · have heq := HW.out.eq hp0
                have kE := t4.out.eqs (own_iat (t4.out.rx.row X3.out)) (own_iat (t4.out.rx.row X1.out)) (by omega) true (by rw [heq]; simp)
                have hpd : decide ((0 : Int) < (p.length : Int)) = false := by rw [hp0]; rfl
                have hpd2 : decide (0 < p.length) = false := by rw [hp0]; rfl
                clear heq
                rw [hp0]
                go_wp2_with (go_at_call 15; refine kE.mono ?_; rintro e w9 ⟨rfl, t5⟩)
                go_ret
                exact ⟨rfl, t5.out.rx.bel⟩
              · have hpd : decide ((0 : Int) < (p.length : Int)) = true := by rw [decide_eq_true_eq]; omega
                have hpd2 : decide (0 < p.length) = true := by rw [decide_eq_true_eq]; omega
                have hpd3 : 0 < p.length := by omega
                go_wp2
                go_ret
                exact ⟨rfl, t4.out.rx.bel⟩
theorem close_core (n a b : Int) (ls : List (Int × Int)) (la : Option Addr) (lc : Nat) (W : World) (hT : Tab W) (h0 : 0 < W.heap.size) (hl : LIn W la ls) (hm : ls.length ≤ maxLen) :
    Calls Tryd.prog 6 #[.int .i64 n, .slice la ls.length lc, .int .i64 a, .int .i64 b] W fun e w' => e = .returned (.bool true) ∧ Below W.heap.size W w' := by
  cases ho : (offB (sz30 n) a || offB (sz30 n) b) with
  | true => exact close_off n a b ls la lc W hT h0 hl hm ho
  | false =>
    simp [offB] at ho
    obtain ⟨x, rfl⟩ : ∃ x : Nat, a = x := ⟨a.toNat, by omega⟩
    obtain ⟨y, rfl⟩ : ∃ y : Nat, b = y := ⟨b.toNat, by omega⟩
    exact close_in n x y ls la lc W hT h0 hl hm (by omega) (by omega)
end Go.Proofs.YtpbncoaonminoaaDoor
