/- GraphReaches, walked. -/
import Derived.Test.YtcbgjdlkihepcaaDoorArr
import Derived.Test.YtcbgjdlkihepcaaDoorOwn
import Derived.Deep.DeepCutAuto
namespace Go.Proofs.YtcbgjdlkihepcaaDoor
open Go.RowKit
open M
set_option linter.unusedVariables false
set_option linter.unusedSimpArgs false

theorem sorted_step (R : List Nat) (h : R.Pairwise (· < ·)) (k : Nat) (hk : k + 1 < R.length) : R[k] < R[k + 1] := List.pairwise_iff_getElem.1 h k (k + 1) (by omega) hk (by omega)

theorem from_start (p : Nat → Bool) (A x : Nat) (L : List Nat) : ((x : Int) == (A : Int)) = fromB p A x (L.take 0) := by
  unfold fromB
  by_cases h : x = A
  · subst h; simp
  · have h2 : ¬ ((x : Int) = (A : Int)) := by omega
    simp [h, h2]

set_option maxRecDepth 1000000 in
set_option maxHeartbeats 4000000 in
theorem reaches_in (n : Int) (A : Nat) (ls : List (Int × Int)) (la : Option Addr) (lc : Nat) (w : World) (hT : Tab w) (h0 : 0 < w.heap.size) (hl : LIn w la ls) (hm : ls.length ≤ maxLen) (hA : A < sz n) :
    Calls Tryd.prog 4 #[.int .i64 n, .slice la ls.length lc, .int .i64 A] w fun e w' => e = .returned (.bool true) ∧ Below w.heap.size w w' := by
  have kS := shown_q hT h0 (Below.refl _ w)
  have kM := fun w1 (hb : Below w.heap.size w w1) => made_q hT h0 hb n ls la lc hl hm ls.length (sz n) _ rfl rfl rfl
  have hfl := foldE_len (sz n) ls 200
  have hN := sz_le n
  generalize foldE (sz n) (ls.take 200) [] = es at *
  generalize sz n = N at *
  generalize ls.length = m at *
  have hA1 : decide ((A : Int) < 0) = false := by simp
  have hA2 : ¬ (N : Int) ≤ A := by omega
  have kn : ∀ S W g eb v l, QR w.heap.size S w W g eb N v es l → Calls Tryd.prog 16 #[ptr g] W fun e w' => e = .returned (.int .i64 N) ∧ w' = W := fun S W g eb v l h => n_any g eb N W h.1.gm.hn h.1.gm.c1
  have hRoff : Hid (reachL N es A = rise (rset es A)) := by unfold Hid reachL; rw [if_neg (by simp [offB]; omega)]; simp
  clear hl hT hm
  go_enter Tryd.func4, Tryd.ntmps4
  go_upto_region 7 with (first | (go_at_call 10; refine kS.mono ?_; rintro e w1 ⟨rfl, hb1⟩) | (go_at_call 28; refine (kM _ hb1.out).mono ?_; rintro e w2 ⟨g, eb, v, rfl, s⟩) | (go_at_call 16; refine (kn _ _ _ _ _ _ s.out).mono ?_; rintro e w3 ⟨rfl, rfl⟩))
  apply wp_region_lit
  refine wpList_build43 rfl rfl ?_
  refine wpList_alloc43 rfl rfl ?_
  refine wpList_store43 rfl (.tmp 9) (.tmp 40) rfl rfl rfl rfl ?_
  have hg := s.out.1.gm.good
  obtain ⟨hr1, hr2, hr3, hr4⟩ := reach_row hA hN hg
  have HG := hide_it hg
  clear hg
  have s1 : Hid (RB 43 w.heap.size w3.heap.size w (w3.alloc (.cells noneSeen 43)) g eb N v es w3.heap.size (fun _ => false)) :=
    ⟨(s.out.step ((Below.refl _ _).alloc (Nat.le_refl _) _)).1, Nat.le_refl _, heap_alloc_new _ _⟩
  obtain ⟨R, hR⟩ : ∃ R, rise (rset es A) = R := ⟨_, rfl⟩
  obtain ⟨q, hq⟩ : ∃ q, R.length = q := ⟨_, rfl⟩
  rw [hR] at hr1 hr3 hr4
  rw [hR] at hRoff
  have kR : ∀ S W g eb v sb p, RB 43 w.heap.size S w W g eb N v es sb p → Calls Tryd.prog 24 #[ptr g, .int .i64 A] W fun e w' => ∃ ao cap, e = .returned (.slice ao q cap) ∧ Hid (RB 43 w.heap.size S w w' g eb N v es sb p ∧ OwnI w' (sb + 1) (.slice ao q cap) R) := fun S W g eb v sb p h => h.reach A R q hRoff.out hq
  have H1 := hide_it hr1
  have H2 := hide_it hr2
  have H3 := hide_it hr3
  have HQ := hide_it hq
  rw [hq] at hr4
  generalize w3.heap.size = S at *
  clear hr1 hr2 hr3 hR hq s kS kM kn hb1 hRoff hA1 hA2
  obtain ⟨w4, hw4⟩ : ∃ w4, w3.alloc (.cells noneSeen 43) = w4 := ⟨_, rfl⟩
  rw [hw4] at s1
  rw [hw4]
  clear hw4
  generalize noneSeen = ns
  go_wp2_with (go_at_call 24; refine (kR _ _ _ _ _ _ _ s1.out).mono ?_; rintro e w5 ⟨ao, cap, rfl, s2⟩)
  clear s1 kR
  go_loopw [11] (fun i W => ∃ k : Nat, k ≤ q ∧ i = .int .i64 k ∧ Hid (RB 43 w.heap.size S w W g eb N v es S (fun i => decide (i ∈ R.take k)) ∧ OwnI W (S + 1) (.slice ao q cap) R)) (fun i _ => q - (intOf i).toNat)
  case atStart => exact ⟨0, Nat.zero_le _, rfl, by simpa using s2⟩
  case round =>
    obtain ⟨k, hk, rfl, s⟩ := hrel
    obtain ⟨w6, rfl⟩ : ∃ W, W = wr := ⟨_, rfl⟩
    by_cases hkq : k < q
    · have hkx : k < R.length := by rw [HQ.out]; exact hkq
      obtain ⟨ao', cap', e1, hc⟩ := own_iat s.out.2
      obtain ⟨r, hao, hrr, cr⟩ := hc k hkx
      have hyN : R[k] < N := H2.out _ ((H1.out _).1 (List.getElem_mem hkx))
      have e2 : ao = ao' := by injection e1
      subst e2
      subst hao
      have kn : ∀ j, Calls Tryd.prog 16 #[ptr g] (w6.drewN j) fun e w' => e = .returned (.int .i64 N) ∧ w' = (w6.drewN j) := fun j => (s.out.1.step (below_drewN (Below.refl _ _) j)).num
      have hset := hide_it (s.out.1.set R[k] (by omega))
      have hmem := hide_it (mem_take_succ R k hkx)
      have hcs := s.out.1.cell R[k] (by omega)
      have hfs := s.out.1.fro R[k]
      have hOS := hide_it (own_set (i := R[k]) (a := .bool true) s.out.2 (Nat.lt_succ_self S))
      have hprev : 0 < k → ∃ y, w6.cell? ⟨r, k - 1, none⟩ = some (.int .i64 (y : Nat)) ∧ y < R[k] := fun h => by
        obtain ⟨r', hao', _, cr'⟩ := hc (k - 1) (by omega)
        cases hao'
        refine ⟨R[k - 1], cr', ?_⟩
        have := sorted_step R H3.out (k - 1) (by omega)
        simpa [show k - 1 + 1 = k by omega] using this
      generalize R[k] = y at *
      clear hc e1
      have hy0 : decide ((y : Int) < 0) = false := by simp
      have hy1 : decide ((N : Int) ≤ y) = false := by simp; omega
      have hy2 : decide ((64 : Int) ≤ y) = false := by simp; omega
      generalize decide (y ∈ R.take k) = oldb at hcs
      by_cases hk0 : 0 < k
      · obtain ⟨z, cz, hz⟩ := hprev hk0
        obtain ⟨k1, hk1⟩ : ∃ k1 : Nat, (k : Int) - 1 = (k1 : Int) := ⟨k - 1, by omega⟩
        have hk2 : k - 1 = k1 := by omega
        rw [hk2] at cz
        have hk1q : k1 < q := by omega
        have hzy : decide ((y : Int) ≤ z) = false := by simp; omega
        have dn3 : decide (y ≤ z) = false := by simp; omega
        have pzy : ¬ ((y : Int) ≤ z) := by omega
        have hkp : decide ((0 : Int) < (k : Int)) = true := by simp; omega
        have pkp : (0 : Int) < (k : Int) := by omega
        have dn4 : decide (0 < k) = true := by simp; omega
        have dn1 : decide (N ≤ y) = false := by simp; omega
        have dn2 : decide (64 ≤ y) = false := by simp; omega
        have py0 : ¬ ((y : Int) < 0) := by omega
        have py1 : ¬ ((N : Int) ≤ y) := by omega
        have py2 : ¬ ((64 : Int) ≤ y) := by omega
        clear hprev hk2
        go_wp2
        go_big_quiet ((go_at_call 16; exact Calls.quiet_of_same (kn _)))
        go_wp2
        go_roundw
        case rel => exact ⟨k + 1, by omega, by go_num, by rw [funext hmem.out]; exact hset.out.step (below_drewN (Below.refl _ _) _), owns_below hOS.out (below_drewN (Below.refl _ _) _)⟩
        case measure => simp [intOf]; omega
      · have hkp : decide ((0 : Int) < (k : Int)) = false := by simp; omega
        have pkp : ¬ ((0 : Int) < (k : Int)) := by omega
        have dn4 : decide (0 < k) = false := by simp; omega
        have dn1 : decide (N ≤ y) = false := by simp; omega
        have dn2 : decide (64 ≤ y) = false := by simp; omega
        have py0 : ¬ ((y : Int) < 0) := by omega
        have py1 : ¬ ((N : Int) ≤ y) := by omega
        have py2 : ¬ ((64 : Int) ≤ y) := by omega
        clear hprev
        go_wp2
        go_big_quiet ((go_at_call 16; exact Calls.quiet_of_same (kn _)))
        go_wp2
        go_roundw
        case rel => exact ⟨k + 1, by omega, by go_num, by rw [funext hmem.out]; exact hset.out.step (below_drewN (Below.refl _ _) _), owns_below hOS.out (below_drewN (Below.refl _ _) _)⟩
        case measure => simp [intOf]; omega
    · have hkq2 : R.take k = R := List.take_of_length_le (by rw [HQ.out]; omega)
      have s3 := hide_it s.out.1
      rw [hkq2] at s3
      have HP : Hid (∀ y, decide (y ∈ R) = true ↔ Rch es A y) := fun y => by rw [decide_eq_true_eq]; exact H1.out y
      have s4 : ∃ p : Nat → Bool, Hid (∀ y, p y = true ↔ Rch es A y) ∧ Hid (RB 43 w.heap.size S w w6 g eb N v es S p) := ⟨_, HP, s3⟩
      clear s s3 HP hkq2 H1 H3 s2
      obtain ⟨p, HP, s⟩ := s4
      have hpA : Hid (p A = true) := (HP.out A).2 (Rch.refl _ _)
      have kO : ∀ W (x : Nat) (L : List Nat) (q : Nat), outs es x = L → L.length = q → RB 43 w.heap.size S w W g eb N v es S p → Calls Tryd.prog 20 #[ptr g, .int .i64 x] W fun e w' => ∃ ao cap, e = .returned (.slice ao q cap) ∧ Hid (RB 43 w.heap.size S w w' g eb N v es S p ∧ IC w' ao L) := fun W x L q hL hq h => h.out (by omega) x L q hL hq
      have kI : ∀ W (x : Nat) (L : List Nat) (q : Nat), ins es x = L → L.length = q → RB 43 w.heap.size S w W g eb N v es S p → Calls Tryd.prog 22 #[ptr g, .int .i64 x] W fun e w' => ∃ ao cap, e = .returned (.slice ao q cap) ∧ Hid (RB 43 w.heap.size S w w' g eb N v es S p ∧ IC w' ao L) := fun W x L q hL hq h => h.ins (by omega) x L q hL hq
      have kn : ∀ W, RB 43 w.heap.size S w W g eb N v es S p → Calls Tryd.prog 16 #[ptr g] W fun e w' => e = .returned (.int .i64 N) ∧ w' = W := fun W h => h.num
      have kQ : ∀ W (x : Nat) (b : Bool), x < N → p x = b → RB 43 w.heap.size S w W g eb N v es S p → Calls Tryd.prog 26 #[ptr g, .int .i64 A, .int .i64 x] W fun e w' => e = .returned (.bool b) ∧ Hid (RB 43 w.heap.size S w w' g eb N v es S p) := fun W x b hx hb h => by
        refine h.reaches A x b ?_
        subst hb
        rw [Bool.eq_iff_iff, reachB_iff, HP.out]
        exact ⟨fun h => by simpa using h.2.2, fun h => ⟨by simp [offB]; omega, by simp [offB]; omega, by simpa using h⟩⟩
      have HCl : Hid (∀ x y, p x = true → (x, y) ∈ es → p y = true) := fun x y h he => (HP.out y).2 (((HP.out x).1 h).tail he)
      have HFr : Hid (∀ x, p x = true → fromB p A x (ins es x) = true) := fun x h => fromB_ok HP.out h
      clear HQ H2 HP
      go_wp2
      go_loopw [12] (fun i W => ∃ x : Nat, x ≤ N ∧ i = .int .i64 x ∧ Hid (RB 43 w.heap.size S w W g eb N v es S p)) (fun i _ => N - (intOf i).toNat)
      case atStart => exact ⟨0, Nat.zero_le _, rfl, s⟩
      case round =>
        obtain ⟨x, hx, rfl, s⟩ := hrel
        obtain ⟨w7, rfl⟩ : ∃ W, W = wr := ⟨_, rfl⟩
        by_cases hxN : x < N
        · have hx64 : x < 64 := by omega
          have hom := hide_it (fun b => (outs_mem es x b).1)
          have him := hide_it (fun b => (ins_mem es b x).1)
          have HFx := hide_it (HFr.out x)
          obtain ⟨L3, hL3⟩ : ∃ L, outs es x = L := ⟨_, rfl⟩
          obtain ⟨q3, hq3⟩ : ∃ q, L3.length = q := ⟨_, rfl⟩
          obtain ⟨L4, hL4⟩ : ∃ L, ins es x = L := ⟨_, rfl⟩
          obtain ⟨q4, hq4⟩ : ∃ q, L4.length = q := ⟨_, rfl⟩
          have hq3l : q3 ≤ 200 := by rw [← hq3, ← hL3]; have := outs_len es x; omega
          have hq4l : q4 ≤ 200 := by rw [← hq4, ← hL4]; have := ins_len es x; omega
          have kO' := fun W => kO W x L3 q3 hL3 hq3
          have kI' := fun W => kI W x L4 q4 hL4 hq4
          rw [hL3] at hom
          rw [hL4] at him HFx
          have HQ3 := hide_it hq3
          have HQ4 := hide_it hq4
          clear hL3 hL4 hq3 hq4 kO kI
          go_wp2_with (first | (go_at_call 16; refine (kn _ s.out).mono ?_; rintro e w8 ⟨rfl, rfl⟩) | (go_at_call 20; refine (kO' _ s.out).mono ?_; rintro e w9 ⟨a3, c3, rfl, s9⟩))
          clear s kO'
          have cx := s9.out.1.cell x hx64
          go_loop [14] (fun i => ∃ j : Nat, j ≤ q3 ∧ i = .int .i64 j) (fun i => q3 - (intOf i).toNat)
          case atStart => exact ⟨0, Nat.zero_le _, rfl⟩
          case round =>
            obtain ⟨j, hj, rfl⟩ := hrel
            by_cases hjq : j < q3
            · have hjx : j < L3.length := by rw [HQ3.out]; exact hjq
              obtain ⟨r3, rfl, hr3, cr3⟩ := s9.out.2 j hjx
              have hxy := hide_it (hom.out _ (List.getElem_mem hjx))
              generalize L3[j] = y at *
              have hyN : y < N := (HG.out _ hxy.out).2
              have cy := s9.out.1.cell y (by omega)
              have dn1 : decide ((y : Int) < 0) = false := by simp
              have dn2 : decide (64 ≤ y) = false := by simp; omega
              have dn3 : decide ((64 : Int) ≤ y) = false := by simp; omega
              have pn1 : ¬ ((y : Int) < 0) := by omega
              have pn2 : ¬ ((64 : Int) ≤ y) := by omega
              cases hpx : p x with
              | true =>
                have hpy := HCl.out x y hpx hxy.out
                rw [hpx] at cx
                rw [hpy] at cy
                clear hpx hpy
                go_wp2
                go_round
                case rel => exact ⟨j + 1, by omega, by go_num⟩
                case measure => simp [intOf]; omega
              | false =>
                rw [hpx] at cx
                clear hpx
                go_wp2
                go_round
                case rel => exact ⟨j + 1, by omega, by go_num⟩
                case measure => simp [intOf]; omega
            · go_wp2_with (go_at_call 22; refine (kI' _ s9.out.1).mono ?_; rintro e w10 ⟨a4, c4, rfl, s10⟩)
              clear s9 kI' cx hj hjq
              have cx := s10.out.1.cell x hx64
              go_loop [16, 17] (fun f i => ∃ j : Nat, j ≤ q4 ∧ i = .int .i64 j ∧ f = .bool (fromB p A x (L4.take j))) (fun _ i => q4 - (intOf i).toNat)
              case atStart => exact ⟨0, Nat.zero_le _, rfl, by rw [from_start p A x L4]⟩
              case round =>
                obtain ⟨j, hj, rfl, rfl⟩ := hrel
                by_cases hjq : j < q4
                · have hjx : j < L4.length := by rw [HQ4.out]; exact hjq
                  obtain ⟨r4, rfl, hr4, cr4⟩ := s10.out.2 j hjx
                  have hyx := hide_it (him.out _ (List.getElem_mem hjx))
                  have HT := hide_it (fromB_take p A x L4 j hjx)
                  generalize L4[j] = y at *
                  have hyN : y < N := (HG.out _ hyx.out).1
                  have cy := s10.out.1.cell y (by omega)
                  have dn1 : decide ((y : Int) < 0) = false := by simp
                  have dn2 : decide (64 ≤ y) = false := by simp; omega
                  have dn3 : decide ((64 : Int) ≤ y) = false := by simp; omega
                  have pn1 : ¬ ((y : Int) < 0) := by omega
                  have pn2 : ¬ ((64 : Int) ≤ y) := by omega
                  cases hF : fromB p A x (L4.take j) with
                  | true =>
                    rw [hF] at HT
                    clear hF
                    go_wp2
                    go_round
                    case rel => exact ⟨j + 1, by omega, by go_num, by rw [HT.out]; rfl⟩
                    case measure => simp [intOf]; omega
                  | false =>
                    rw [hF] at HT
                    clear hF
                    cases hpy : p y with
                    | false =>
                      rw [hpy] at cy HT
                      clear hpy
                      go_wp2
                      go_round
                      case rel => exact ⟨j + 1, by omega, by go_num, by rw [HT.out]; rfl⟩
                      case measure => simp [intOf]; omega
                    | true =>
                      rw [hpy] at cy HT
                      clear hpy
                      by_cases hyxe : y = x
                      · subst hyxe
                        go_wp2
                        go_round
                        case rel => exact ⟨j + 1, by omega, by go_num, by rw [HT.out]; simp⟩
                        case measure => simp [intOf]; omega
                      · have hne1 : ((y : Int) != (x : Int)) = true := by simp; omega
                        have hne2 : ¬ ((y : Int) = (x : Int)) := by omega
                        have hne3 : (y != x) = true := by simp [hyxe]
                        go_wp2
                        go_round
                        case rel => exact ⟨j + 1, by omega, by go_num, by rw [HT.out]; simp [hyxe]⟩
                        case measure => simp [intOf]; omega
                · have hL4e : L4.take j = L4 := List.take_of_length_le (by rw [HQ4.out]; omega)
                  rw [hL4e]
                  clear hL4e
                  obtain ⟨F, hF⟩ : ∃ F, fromB p A x L4 = F := ⟨_, rfl⟩
                  rw [hF] at HFx ⊢
                  clear hF
                  have kq := fun W b hb => kQ W x b hxN hb
                  cases hpx : p x with
                  | true =>
                    have hFt : F = true := HFx.out hpx
                    subst hFt
                    rw [hpx] at cx
                    have kq' := kq (w10.drewN 1) true hpx (s10.out.1.step (below_drewN (Below.refl _ _) 1))
                    have HPX := hide_it hpx
                    clear kq kQ HFx hpx HFr HCl hpA him hom kn
                    go_wp2
                    first | (go_region_held3 (fun W => W.cell? ⟨S, x, none⟩ = some (.bool true)) (first | go_keep | exact cx11) ((go_at_call 26; refine kq'.mono ?_; rintro e w11 ⟨rfl, s11⟩; have cx11 := (s11.out.cell x hx64).trans (by rw [HPX.out])))) | fail
                    all_goals
                      go_wp2
                      go_roundw
                      case rel => exact ⟨x + 1, by omega, by go_num, s11⟩
                      case measure => simp [intOf]; omega
                  | false =>
                    rw [hpx] at cx
                    have kq' := kq (w10.drewN 1) false hpx (s10.out.1.step (below_drewN (Below.refl _ _) 1))
                    have HPX := hide_it hpx
                    clear kq kQ HFx hpx HFr HCl hpA him hom kn
                    go_wp2
                    first | (go_region_held (fun W => W.cell? ⟨S, x, none⟩ = some (.bool false)) (first | go_keep | exact cx11) ((go_at_call 26; refine kq'.mono ?_; rintro e w11 ⟨rfl, s11⟩; have cx11 := (s11.out.cell x hx64).trans (by rw [HPX.out])))) | fail
                    all_goals
                      go_wp2
                      go_roundw
                      case rel => exact ⟨x + 1, by omega, by go_num, s11⟩
                      case measure => simp [intOf]; omega
        · have dn1 : decide (x < N) = false := by simp; omega
          have dn2 : decide ((x : Int) < N) = false := by simp; omega
          have cA := s.out.cell A (by omega)
          rw [hpA.out] at cA
          go_wp2_with (go_at_call 16; refine (kn _ s.out).mono ?_; rintro e w8 ⟨rfl, rfl⟩)
          go_ret
          exact ⟨rfl, s.out.q1.bel⟩
theorem reaches_core (n a : Int) (ls : List (Int × Int)) (la : Option Addr) (lc : Nat) (w : World) (hT : Tab w) (h0 : 0 < w.heap.size) (hl : LIn w la ls) (hm : ls.length ≤ maxLen) :
    Calls Tryd.prog 4 #[.int .i64 n, .slice la ls.length lc, .int .i64 a] w fun e w' => e = .returned (.bool true) ∧ Below w.heap.size w w' := by
  cases h : offB (sz n) a with
  | true => exact reaches_off n a ls la lc w hT h0 hl hm h
  | false =>
    have hr : 0 ≤ a ∧ a < sz n := by simp [offB] at h; omega
    obtain ⟨A, rfl⟩ : ∃ A : Nat, a = A := ⟨a.toNat, by omega⟩
    exact reaches_in n A ls la lc w hT h0 hl hm (by omega)
end Go.Proofs.YtcbgjdlkihepcaaDoor
