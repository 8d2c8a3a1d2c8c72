/- HeapFirst, walked. -/
import Derived.Test.YtpcjaleogeoabaaArg
import Derived.Deep.CutRange
import Derived.Deep.CutBlock
namespace Go.Proofs.Ytpcjaleogeoabaa
open Go.RowKit
open M
set_option linter.unusedVariables false
set_option linter.unusedSimpArgs false

theorem kinds (k : Int) : k = 1 ∨ k = 2 ∨ k = 3 ∨ k = 4 ∨ k = 5 ∨ ((k == 1) = false ∧ (k == 2) = false ∧ (k == 3) = false ∧ (k == 4) = false ∧ (k == 5) = false) := by
  simp only [beq_eq_false_iff_ne]
  omega
theorem StepsIn.at {w W : World} {a : Option Addr} {l : List (Int × Int × Int)} (h : StepsIn w a l) (hb : Below w.heap.size w W) {i : Nat} (hi : i < l.length) {x y z : Int} (e : l[i] = (x, y, z)) : ∃ b o, a = some ⟨b, o, none⟩ ∧ W.cell? ⟨b, o + i * 3, none⟩ = some (.int .i64 x) ∧ W.cell? ⟨b, o + i * 3 + 1, none⟩ = some (.int .i64 y) ∧ W.cell? ⟨b, o + i * 3 + 2, none⟩ = some (.int .i64 z) := by
  obtain ⟨b, o, h1, h2, h3, h4, h5⟩ := h i hi
  rw [e] at h3 h4 h5
  exact ⟨b, o, h1, by rw [hb.cell (p := ⟨b, _, none⟩) h2]; exact h3, by rw [hb.cell (p := ⟨b, _, none⟩) h2]; exact h4, by rw [hb.cell (p := ⟨b, _, none⟩) h2]; exact h5⟩

set_option maxRecDepth 1000000 in
set_option maxHeartbeats 8000000 in
theorem heapFirst_walk (n : Int) (l : List (Int × Int × Int)) (a : Option Addr) (cap : Nat) (w : World) (hI : StepsIn w a l) (hl : l.length ≤ cap) (hc : cap ≤ maxLen) :
    Calls Try.prog 7 #[.int .i64 n, .slice a l.length cap] w fun e w' => e = .returned (.bool true) ∧ Below w.heap.size w w' := by
  obtain ⟨B, hB⟩ : ∃ B, w.heap.size = B := ⟨_, rfl⟩
  have ks : Calls Try.prog 11 #[] w fun e w' => e = .returned (.bool true) ∧ Hid (Below B w w') := by
    have := shown_any w
    rw [hB] at this
    exact this
  have hle : B ≤ w.heap.size := by omega
  obtain ⟨u, hu, hu2⟩ := and16 n
  obtain ⟨N, hN⟩ : ∃ N, u % 30 = N := ⟨_, rfl⟩
  have hN1 : N < 30 := by omega
  have q1 : (u : Int).tmod 30 = (N : Int) := by rw [Int.tmod_eq_emod_of_nonneg (by omega)]; omega
  have q2 : (u : Int) % 30 = (N : Int) := by omega
  have kn : ∀ W, Below B w W → Calls Try.prog 12 #[.int .i64 N] W fun e w' => ∃ g, e = .returned (ptr g) ∧ Hid (One B w w' g N (fun _ => none)) := fun W hb => by
    have := one_new hb hle (N : Int)
    rw [hsz_in N (by omega)] at this
    exact this
  have hcm : cap ≤ 9223372036854775807 := by unfold maxLen at hc; omega
  obtain ⟨m, hm⟩ : ∃ m, l.length = m := ⟨_, rfl⟩
  rw [hm] at hl ⊢
  have HM := hide_it hm
  have HI : Hid (∀ (W : World) (i : Nat), Below B w W → i < m → ∃ x y z b o, a = some ⟨b, o, none⟩ ∧ W.cell? ⟨b, o + i * 3, none⟩ = some (.int .i64 x) ∧ W.cell? ⟨b, o + i * 3 + 1, none⟩ = some (.int .i64 y) ∧ W.cell? ⟨b, o + i * 3 + 2, none⟩ = some (.int .i64 z)) := fun W i hb hi => by
    obtain ⟨b, o, h1, h2⟩ := hI.at (hB ▸ hb) (i := i) (by omega) rfl
    exact ⟨_, _, _, b, o, h1, h2⟩
  rw [hB]
  clear hI hc hB hm hN
  go_enter Try.func7, Try.ntmps7
  go_wp2_with (first | (go_at_call 11; refine ks.mono ?_; rintro e w1 ⟨rfl, s1⟩; clear ks) | (go_at_call 12; refine (kn _ s1.out).mono ?_; rintro e w2 ⟨g, rfl, s⟩; clear kn s1))
  go_loopw [7] (fun iv W => ∃ (k : Nat) (S : Nat → Option Int), iv = .int .i64 k ∧ k ≤ m ∧ k ≤ 100 ∧ Hid (One B w W g N S)) (fun iv _ => m - (intOf iv).toNat)
  case atStart => exact ⟨0, _, rfl, by omega, by omega, s⟩
  case round =>
    clear s
    obtain ⟨k, S, rfl, hk, hk2, s⟩ := hrel
    by_cases hlt : k < m
    · by_cases hlt2 : k < 100
      · obtain ⟨x, y, z, b, o, rfl, c0, c1, c2⟩ := HI.out _ k s.out.bel hlt
        go_upto_block 2 with fail
        go_cut [9, 10, 11, 12, 13, 14] from 32 to 175 (fun _ _ _ _ _ _ wx => Hid (∃ S, One B w wx g N S))
        case first =>
          have sA := hide_it (s.out.below (w' := wr.alloc (.cells #[.int .i64 x, .int .i64 y, .int .i64 z] 31)) ((Below.refl _ _).alloc (Nat.le_refl _) _))
          clear c0 c1 c2
          rcases kinds x with rfl | rfl | rfl | rfl | rfl | ⟨e1, e2, e3, e4, e5⟩
          · have kk := sA.out.push y z
            generalize pushE N S y = E1 at kk
            generalize pushS N S y z = S1 at kk
            go_wp2_with (go_at_call 13; refine kk.mono ?_; rintro e w3 ⟨rfl, t⟩)
            go_meet
            exact ⟨_, t.out⟩
          · have kk := sA.out.push y z
            generalize pushE N S y = E1 at kk
            generalize pushS N S y z = S1 at kk
            go_wp2_with (go_at_call 13; refine kk.mono ?_; rintro e w3 ⟨rfl, t⟩)
            go_meet
            exact ⟨_, t.out⟩
          · have kk := sA.out.lower y z
            generalize lowE N S y z = E1 at kk
            generalize lowS N S y z = S1 at kk
            go_wp2_with (go_at_call 15; refine kk.mono ?_; rintro e w3 ⟨rfl, t⟩)
            go_meet
            exact ⟨_, t.out⟩
          · have kk := sA.out.remove y
            generalize remE N S y = E1 at kk
            generalize keyV N S y = E2 at kk
            generalize remS N S y = S1 at kk
            go_wp2_with (go_at_call 17; refine kk.mono ?_; rintro e w3 ⟨rfl, t⟩)
            go_meet
            exact ⟨_, t.out⟩
          · rcases sA.out.ho.cases with he | ⟨x0, y0, hf⟩
            · have kf := sA.out.first0 he
              have kp : ∀ W, One B w W g N S → Calls Try.prog 19 #[ptr g] W fun e w' => e = .returned (.tuple #[.int .i64 0, .int .i64 0, .bool false]) ∧ Hid (One B w w' g N S) := fun W h => h.pop0 he
              clear he
              go_wp2_with (first | (go_at_call 21; refine kf.mono ?_; rintro e w3 ⟨rfl, t3⟩) | (go_at_call 19; refine (kp _ t3.out).mono ?_; rintro e w4 ⟨rfl, t⟩))
              go_meet
              exact ⟨_, t.out⟩
            · have kf := sA.out.first hf
              have kp : ∀ W, One B w W g N S → Calls Try.prog 19 #[ptr g] W fun e w' => e = .returned (.tuple #[.int .i64 x0, .int .i64 y0, .bool true]) ∧ Hid (One B w w' g N (upS S x0 none)) := fun W h => h.pop hf
              have kh : ∀ W, One B w W g N (upS S x0 none) → Calls Try.prog 25 #[ptr g, .int .i64 x0] W fun e w' => e = .returned (.bool false) ∧ Hid (One B w w' g N (upS S x0 none)) := fun W h => by
                have := h.has x0
                rw [show hasB N (upS S x0 none) x0 = false by simp [hasB, upS_is]] at this
                exact this
              generalize upS S x0 none = S1 at *
              clear hf
              go_wp2_with (first | (go_at_call 21; refine kf.mono ?_; rintro e w3 ⟨rfl, t3⟩) | (go_at_call 19; refine (kp _ t3.out).mono ?_; rintro e w4 ⟨rfl, t4⟩) | (go_at_call 25; refine (kh _ t4.out).mono ?_; rintro e w5 ⟨rfl, t⟩))
              go_meet
              exact ⟨_, t.out⟩
          · go_wp2
            go_meet
            exact ⟨_, sA.out⟩
        case rest =>
          clear s c0 c1 c2
          obtain ⟨S2, s2⟩ := hcut.out
          have s := hide_it s2
          clear s2 hcut
          rcases s.out.ho.cases with he | ⟨x0, y0, hf⟩
          · have kf : ∀ W, One B w W g N S2 → Calls Try.prog 21 #[ptr g] W fun e w' => e = .returned (.tuple #[.int .i64 0, .int .i64 0, .bool false]) ∧ Hid (One B w w' g N S2) := fun W h => h.first0 he
            have kl : ∀ W, One B w W g N S2 → Calls Try.prog 26 #[ptr g] W fun e w' => e = .returned (.int .i64 0) ∧ Hid (One B w w' g N S2) := fun W h => h.len0 he
            have hno : ∀ j : Nat, j < N → keyV N S2 j = 0 ∧ hasB N S2 j = false := fun j hj => by
              simp [keyV, hasB, he j hj]
            have HK : Hid (∀ W (j : Nat), j < N → One B w W g N S2 → Calls Try.prog 23 #[ptr g, .int .i64 j] W fun e w' => e = .returned (.tuple #[.int .i64 0, .bool false]) ∧ Hid (One B w w' g N S2)) := fun W j hj h => by
              have := h.key j
              rw [(hno j hj).1, (hno j hj).2] at this
              exact this
            have HH : Hid (∀ W (j : Nat), j < N → One B w W g N S2 → Calls Try.prog 25 #[ptr g, .int .i64 j] W fun e w' => e = .returned (.bool false) ∧ Hid (One B w w' g N S2)) := fun W j hj h => by
              have := h.has j
              rw [(hno j hj).2] at this
              exact this
            clear hno he
            go_wp2_with (first | (go_at_call 21; refine (kf _ s.out).mono ?_; rintro e wA ⟨rfl, t⟩; clear s; have s := t; clear t) | (go_at_call 26; refine (kl _ s.out).mono ?_; rintro e wA ⟨rfl, t⟩; clear s; have s := t; clear t))
            go_loopw [21] (fun xv W => ∃ j : Nat, xv = .int .i64 j ∧ j ≤ N ∧ Hid (One B w W g N S2)) (fun xv _ => N - (intOf xv).toNat)
            case atStart => exact ⟨0, rfl, Nat.zero_le _, s⟩
            case round =>
              clear s
              obtain ⟨j, rfl, hj, s⟩ := hrel
              by_cases hjl : j < N
              · have kk := fun W h => HK.out W j hjl h
                have kh := fun W h => HH.out W j hjl h
                go_wp2_with (first | (go_at_call 23; refine (kk _ s.out).mono ?_; rintro e wA ⟨rfl, t⟩; clear s; have s := t; clear t) | (go_at_call 25; refine (kh _ s.out).mono ?_; rintro e wA ⟨rfl, t⟩; clear s; have s := t; clear t))
                go_roundw
                case rel => exact ⟨j + 1, by go_num, by omega, s⟩
                case measure => simp [intOf]; omega
              · have h2 : decide ((j : Int) < N) = false := by simp; omega
                have h3 : decide (j < N) = false := by simp; omega
                go_wp2
                go_roundw
                case rel => exact ⟨k + 1, S2, by go_num, by omega, by omega, s⟩
                case measure => simp [intOf]; omega
          · have kf : ∀ W, One B w W g N S2 → Calls Try.prog 21 #[ptr g] W fun e w' => e = .returned (.tuple #[.int .i64 x0, .int .i64 y0, .bool true]) ∧ Hid (One B w w' g N S2) := fun W h => h.first hf
            obtain ⟨c, hc⟩ : ∃ c, M.cnt (fun x => (S2 x).isSome) N = c := ⟨_, rfl⟩
            have hcN : c ≤ N := by rw [← hc]; exact cnt_le _ _
            have hc0 : 0 < c := by
              rcases Nat.eq_zero_or_pos c with q | q
              · rw [q] at hc
                have := cnt_zero.1 hc x0 hf.lt
                rw [hf.is] at this
                cases this
              · exact q
            have kl : ∀ W, One B w W g N S2 → Calls Try.prog 26 #[ptr g] W fun e w' => e = .returned (.int .i64 c) ∧ Hid (One B w w' g N S2) := fun W h => by
              have := h.len
              rw [hc] at this
              exact this
            have hcd : decide (0 < (c : Int)) = true := decide_eq_true (by omega)
            have hcd2 : decide (0 < c) = true := decide_eq_true (by omega)
            have HK : Hid (∀ W (j : Nat), j < N → One B w W g N S2 → Calls Try.prog 23 #[ptr g, .int .i64 j] W fun e w' => e = .returned (.tuple #[.int .i64 (keyV N S2 j), .bool (hasB N S2 j)]) ∧ Hid (One B w w' g N S2)) := fun W j hj h => h.key j
            have HH : Hid (∀ W (j : Nat), j < N → One B w W g N S2 → Calls Try.prog 25 #[ptr g, .int .i64 j] W fun e w' => e = .returned (.bool (hasB N S2 j)) ∧ Hid (One B w w' g N S2)) := fun W j hj h => h.has j
            have HF := hide_it hf
            clear hf hc
            go_wp2_with (first | (go_at_call 21; refine (kf _ s.out).mono ?_; rintro e wA ⟨rfl, t⟩; clear s; have s := t; clear t) | (go_at_call 26; refine (kl _ s.out).mono ?_; rintro e wA ⟨rfl, t⟩; clear s; have s := t; clear t))
            go_loopw [21] (fun xv W => ∃ j : Nat, xv = .int .i64 j ∧ j ≤ N ∧ Hid (One B w W g N S2)) (fun xv _ => N - (intOf xv).toNat)
            case atStart => exact ⟨0, rfl, Nat.zero_le _, s⟩
            case round =>
              clear s kf kl
              obtain ⟨j, rfl, hj, s⟩ := hrel
              by_cases hjl : j < N
              · have kk := fun W h => HK.out W j hjl h
                have kh := fun W h => HH.out W j hjl h
                cases hb : hasB N S2 j with
                | false =>
                  simp only [hb] at kk kh
                  clear hb
                  generalize keyV N S2 j = yj at *
                  go_wp2_with (first | (go_at_call 23; refine (kk _ s.out).mono ?_; rintro e wA ⟨rfl, t⟩; clear s; have s := t; clear t) | (go_at_call 25; refine (kh _ s.out).mono ?_; rintro e wA ⟨rfl, t⟩; clear s; have s := t; clear t))
                  go_roundw
                  case rel => exact ⟨j + 1, by go_num, by omega, s⟩
                  case measure => simp [intOf]; omega
                | true =>
                  obtain ⟨x', yj, hx', _, hs', hk'⟩ := hasB_true hb
                  have hx2 : j = x' := by omega
                  subst hx2
                  have hle2 := HF.out.le j yj hjl hs'
                  simp only [hb, hk'] at kk kh
                  have t1 : decide (yj < y0) = false := decide_eq_false (by omega)
                  have HT : Hid (decide (yj = y0) = true → decide ((j : Int) < (x0 : Int)) = false ∧ decide (j < x0) = false) := fun q => by
                    have := of_decide_eq_true q
                    exact ⟨decide_eq_false (by omega), decide_eq_false (by omega)⟩
                  clear hb hk' hs' hle2
                  by_cases hq : yj = y0
                  · obtain ⟨t2, t3⟩ := HT.out (decide_eq_true hq)
                    have t4 : (yj == y0) = true := by simp [hq]
                    go_wp2_with (first | (go_at_call 23; refine (kk _ s.out).mono ?_; rintro e wA ⟨rfl, t⟩; clear s; have s := t; clear t) | (go_at_call 25; refine (kh _ s.out).mono ?_; rintro e wA ⟨rfl, t⟩; clear s; have s := t; clear t))
                    go_roundw
                    case rel => exact ⟨j + 1, by go_num, by omega, s⟩
                    case measure => simp [intOf]; omega
                  · have t4 : (yj == y0) = false := by simp [hq]
                    go_wp2_with (first | (go_at_call 23; refine (kk _ s.out).mono ?_; rintro e wA ⟨rfl, t⟩; clear s; have s := t; clear t) | (go_at_call 25; refine (kh _ s.out).mono ?_; rintro e wA ⟨rfl, t⟩; clear s; have s := t; clear t))
                    go_roundw
                    case rel => exact ⟨j + 1, by go_num, by omega, s⟩
                    case measure => simp [intOf]; omega
              · have h2 : decide ((j : Int) < N) = false := by simp; omega
                have h3 : decide (j < N) = false := by simp; omega
                go_wp2
                go_roundw
                case rel => exact ⟨k + 1, S2, by go_num, by omega, by omega, s⟩
                case measure => simp [intOf]; omega
      · have h2 : decide ((k : Int) < 100) = false := by simp; omega
        have h3 : decide (k < 100) = false := by simp; omega
        go_wp2
        go_ret
        exact ⟨rfl, s.out.bel⟩
    · have h2 : decide ((k : Int) < m) = false := by simp; omega
      have h3 : decide (k < m) = false := by simp; omega
      go_wp2
      go_ret
      exact ⟨rfl, s.out.bel⟩
end Go.Proofs.Ytpcjaleogeoabaa
