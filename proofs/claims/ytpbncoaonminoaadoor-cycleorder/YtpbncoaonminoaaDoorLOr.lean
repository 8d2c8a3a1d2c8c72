/- In the order each stands behind all that it has an edge to: the walk. -/
import Derived.Test.YtpbncoaonminoaaDoorOrM
import Derived.Test.YtpbncoaonminoaaDoorCyZ
import Derived.Deep.CutBlock
import Derived.Deep.DeepCutAuto
namespace Go.Proofs.YtpbncoaonminoaaDoor
open Go.RowKit
open M
set_option linter.unusedVariables false
set_option linter.unusedSimpArgs false

/-- What the law takes of the graph. -/
structure OrdW (es : List E) (n : Nat) (o on : List Nat) (ok : Bool) : Prop where
  yes : ok = true → o.length = n ∧ on.length = 0
  no : ok = false → o.length = 0 ∧ 0 < on.length
  lt : ∀ i (h : i < o.length), o[i] < n
  nd : o.Nodup
  ol : o.length ≤ n
  nl : on.length ≤ n
  pl : ok = true → ∀ x y, x < n → (x, y) ∈ es → plF o o.length y < plF o o.length x
theorem ordW {es : List E} {n : Nat} (hn : n ≤ 64) (hg : ∀ e ∈ es, e.1 < n ∧ e.2 < n) : OrdW es n (orderL es n) (onL es n) (orderB es n) := by
  have h1 := order_on hn hg
  obtain ⟨p1, p2, p3⟩ := orderL_lt es n
  refine ⟨fun h => ⟨(order_yes h).2, ?_⟩, fun h => ⟨by rw [order_no h]; rfl, ?_⟩, fun i hi => p1 _ (List.getElem_mem hi), p2, p3, onL_len es n, fun h x y hx he => ?_⟩
  · rw [h1] at h; exact of_decide_eq_true h
  · rw [h1] at h; have := of_decide_eq_false h; omega
  · obtain ⟨e1, e2⟩ := order_yes h
    have hy : y < n := (hg _ he).2
    rw [plF_all (Nat.le_refl _) (all_in p1 p2 (by omega) hy), plF_all (Nat.le_refl _) (all_in p1 p2 (by omega) hx)]
    have ht := (ordS_oi es n).2.2
    rw [← e1] at ht
    have := topo_idx ht p2 (all_in p1 p2 (by omega) hx) he
    omega

theorem addE_good {n : Nat} {es : List E} (h : ∀ e ∈ es, e.1 < n ∧ e.2 < n) (a b : Int) : ∀ e ∈ addE n es a b, e.1 < n ∧ e.2 < n := by
  unfold addE
  split
  · rename_i hc
    have hr : 0 ≤ a ∧ a < n ∧ 0 ≤ b ∧ b < n := by simp [offB] at hc; omega
    split
    · exact h
    · intro e he
      rcases List.mem_append.1 he with q | q
      · exact h e q
      · simp at q
        subst q
        exact ⟨by show a.toNat < n; omega, by show b.toNat < n; omega⟩
  · exact h
theorem foldE_good (n : Nat) : ∀ (ls : List (Int × Int)) (es : List E), (∀ e ∈ es, e.1 < n ∧ e.2 < n) → ∀ e ∈ foldE n ls es, e.1 < n ∧ e.2 < n
  | [], es, h => h
  | p :: r, es, h => foldE_good n r (addE n es p.1 p.2) (addE_good h p.1 p.2)

set_option maxRecDepth 1000000 in
set_option maxHeartbeats 8000000 in
theorem order_core (n : Int) (ls : List (Int × Int)) (la : Option Addr) (lc : Nat) (W : World) (hT : Tab W) (h0 : 0 < W.heap.size) (hl : LIn W la ls) (hm : ls.length ≤ maxLen) :
    Calls Tryd.prog 5 #[.int .i64 n, .slice la ls.length lc] W fun e w' => e = .returned (.bool true) ∧ Below W.heap.size W w' := by
  have ks := shown_q hT h0 (Below.refl _ W)
  obtain ⟨m, hmm⟩ : ∃ m, ls.length = m := ⟨_, rfl⟩
  obtain ⟨N, hN⟩ : ∃ N, sz30 n = N := ⟨_, rfl⟩
  obtain ⟨es, hes⟩ : ∃ es, foldE N (ls.take 100) [] = es := ⟨_, rfl⟩
  have hlen : es.length ≤ 100 := by rw [← hes]; exact fold_len N ls
  have hN30 : N ≤ 30 := by rw [← hN]; exact sz30_le n
  have km : ∀ w1, Below W.heap.size W w1 → Calls Tryd.prog 10 #[.int .i64 n, .slice la m lc] w1 fun e w' => ∃ g eb, e = .returned (ptr g) ∧ Hid (RX W.heap.size W w' g eb N es []) := fun w1 hb => made_q hT h0 hb n ls la lc hl hm m N es hN hmm hes
  have kO : ∀ w1 g eb, RX W.heap.size W w1 g eb N es [] → Calls Tryd.prog 13 #[ptr g] w1 fun e w' => ∃ ao cap, e = .returned (.tuple #[.slice ao (orderL es N).length cap, .bool (orderB es N)]) ∧ Hid (RX W.heap.size W w' g eb N es [(.slice ao (orderL es N).length cap, orderL es N)]) := fun w1 g eb h => by
    refine (h.order (by omega) _ _ rfl rfl).mono ?_
    rintro e w' ⟨u, rfl, s⟩
    obtain ⟨ao, cap, rfl, _⟩ := own_iat (s.out.row (L := orderL es N) (u := u) (by simp))
    exact ⟨ao, cap, rfl, s⟩
  have kOn : ∀ w1 g eb X, RX W.heap.size W w1 g eb N es X → Calls Tryd.prog 19 #[ptr g] w1 fun e w' => ∃ ao cap, e = .returned (.slice ao (onL es N).length cap) ∧ Hid (RX W.heap.size W w' g eb N es ((.slice ao (onL es N).length cap, onL es N) :: X)) := fun w1 g eb X h => by
    refine (h.on (by omega) _ rfl).mono ?_
    rintro e w' ⟨u, rfl, s⟩
    obtain ⟨ao, cap, rfl, _⟩ := own_iat (s.out.row (L := onL es N) (u := u) (by simp))
    exact ⟨ao, cap, rfl, s⟩
  have hgood : ∀ e ∈ es, e.1 < N ∧ e.2 < N := by rw [← hes]; exact foldE_good N _ [] (by simp)
  have HW := hide_it (ordW (by omega) hgood)
  rw [hmm]
  generalize orderL es N = o at *
  generalize onL es N = on at *
  clear hT hl hm hmm hes hN
  have HGD := hide_it hgood
  clear hgood
  cases hok : orderB es N with
  | true =>
    rw [hok] at kO HW
    obtain ⟨hoN, hon0⟩ := HW.out.yes rfl
    rw [hoN] at kO
    rw [hon0] at kOn
    have HOL := hide_it hoN
    clear hok hoN hon0
    go_enter Tryd.func5, Tryd.ntmps5
    go_upto_region 9 with (first | (go_at_call 9; refine ks.mono ?_; rintro e w1 ⟨rfl, s1⟩) | (go_at_call 10; refine (km _ s1.out).mono ?_; rintro e w2 ⟨g, eb, rfl, s2⟩) | (go_at_call 13; refine (kO _ _ _ s2.out).mono ?_; rintro e w3 ⟨ao, cap, rfl, s3⟩) | (go_at_call 19; refine (kOn _ _ _ _ s3.out).mono ?_; rintro e w4 ⟨ao2, cap2, rfl, s4⟩; have kn := s4.out.num) | (go_at_call 23; refine kn.mono ?_; rintro e w5 ⟨rfl, rfl⟩))
    apply wp_region_lit
    refine wpList_build45 rfl rfl ?_
    refine wpList_alloc45 rfl rfl ?_
    refine wpList_store45 rfl (.tmp 10) (.tmp 52) rfl rfl rfl rfl ?_
    have s6 := hide_it (AX.start s4.out zeros64 45)
    obtain ⟨w6, hw6⟩ : ∃ w6, w5.alloc (.cells zeros64 45) = w6 := ⟨_, rfl⟩
    generalize hsb : w5.heap.size = sb at *
    rw [hw6] at s6 ⊢
    clear hw6 hsb s1 s2 s3 s4 kn kO kOn km ks
    have s7 : Hid (AX W.heap.size W w6 g eb N es [(.slice ao2 0 cap2, on), (.slice ao N cap, o)] sb (iRow (plF o 0) 64) 45) := by
      have e : iRow (plF o 0) 64 = zeros64 := iRow_congr (fun i _ => by simp [plF])
      unfold Hid
      rw [e]
      exact s6.out
    clear s6
    go_wp2
    go_loopw [11] (fun i W' => ∃ j : Nat, j ≤ N ∧ i = .int .i64 j ∧ Hid (AX W.heap.size W W' g eb N es [(.slice ao2 0 cap2, on), (.slice ao N cap, o)] sb (iRow (plF o j) 64) 45)) (fun i _ => N - (intOf i).toNat)
    case atStart => exact ⟨0, Nat.zero_le _, rfl, s7⟩
    case round =>
      obtain ⟨j, hj, rfl, s8⟩ := hrel
      clear s7
      by_cases hjl : j < N
      · have hjo : j < o.length := by rw [HOL.out]; exact hjl
        obtain ⟨r, rfl, hr, c1⟩ := s8.out.at (ao := ao) (m := N) (cap := cap) (L := o) (by simp) j hjo
        have hx := HW.out.lt j hjo
        have c2 := s8.out.cell o[j] _ (iRow_at _ _ _ (by omega))
        rw [plF_zero HW.out.nd hjo] at c2
        have f2 := s8.out.fro o[j]
        have s9 := hide_it (s8.out.set o[j] (.int .i64 ((j : Int) + 1)) (iRow (plF o (j + 1)) 64) (by rw [iRow_set]; exact iRow_congr (fun i _ => (plF_step HW.out.nd hjo i).symm)))
        have hx64 : (o[j] : Int) < 64 := by omega
        have hx64b : ¬ ((64 : Int) ≤ (o[j] : Int)) := by omega
        have hx64c : decide ((64 : Int) ≤ (o[j] : Int)) = false := by simp; omega
        have hx0 : decide ((o[j] : Int) < 0) = false := by simp
        generalize o[j] = x at *
        go_wp2
        go_roundw
        case rel => exact ⟨j + 1, by omega, by go_num, s9⟩
        case measure => simp [intOf]; omega
      · have ej : j = N := by omega
        subst ej
        go_wp2
        go_loopw [12] (fun i W' => ∃ x : Nat, x ≤ j ∧ i = .int .i64 x ∧ Hid (AX W.heap.size W W' g eb j es [(.slice ao2 0 cap2, on), (.slice ao j cap, o)] sb (iRow (plF o j) 64) 45)) (fun i _ => j - (intOf i).toNat)
        case atStart => exact ⟨0, Nat.zero_le _, rfl, s8⟩
        case round =>
          obtain ⟨x, hx, rfl, s9⟩ := hrel
          clear s8
          have kn := s9.out.num
          by_cases hxl : x < j
          · obtain ⟨L, hL⟩ : ∃ L, outs es (x : Int) = L := ⟨_, rfl⟩
            have HLm : Hid (∀ y ∈ L, y < j ∧ plF o j y < plF o j x) := by
              intro y hy
              rw [← hL] at hy
              have he := mem_outs.1 hy
              have h1 := HW.out.pl rfl x y hxl he
              rw [HOL.out] at h1
              exact ⟨(HGD.out _ he).2, h1⟩
            have hLl : L.length ≤ 100 := by rw [← hL]; have := outs_len es (x : Int); omega
            have ko : Calls Tryd.prog 24 #[ptr g, .int .i64 x] wr fun e w' => ∃ ao3 cap3, e = .returned (.slice ao3 L.length cap3) ∧ Hid (AX W.heap.size W w' g eb j es ((.slice ao3 L.length cap3, L) :: [(.slice ao2 0 cap2, on), (.slice ao j cap, o)]) sb (iRow (plF o j) 64) 45) := by
              refine (s9.out.out (by omega) (x : Int) L hL).mono ?_
              rintro e w' ⟨u, rfl, s⟩
              obtain ⟨ao3, cap3, rfl, _⟩ := own_iat (s.out.rx.row (L := L) (u := u) (by simp))
              exact ⟨ao3, cap3, rfl, s⟩
            have hb1 := plF_bound o j x
            have hol : o.length ≤ 64 := by rw [HOL.out]; omega
            clear hL
            have hx64 : (x : Int) < 64 := by omega
            have hx64d : decide ((x : Int) < 64) = true := by simp; omega
            have hx64n : x < 64 := by omega
            go_wp2_with (first | (go_at_call 23; refine kn.mono ?_; rintro e w7 ⟨rfl, rfl⟩) | (go_at_call 24; refine ko.mono ?_; rintro e w8 ⟨ao3, cap3, rfl, s10⟩))
            go_loopw [14] (fun i W' => ∃ k : Nat, k ≤ L.length ∧ i = .int .i64 k ∧ Hid (AX W.heap.size W W' g eb j es ((.slice ao3 L.length cap3, L) :: [(.slice ao2 0 cap2, on), (.slice ao j cap, o)]) sb (iRow (plF o j) 64) 45)) (fun i _ => L.length - (intOf i).toNat)
            case atStart => exact ⟨0, Nat.zero_le _, rfl, s10⟩
            case round =>
              obtain ⟨k, hk, rfl, s11⟩ := hrel
              by_cases hkl : k < L.length
              · obtain ⟨r, rfl, hr, c1⟩ := s11.out.at (ao := ao3) (m := L.length) (cap := cap3) (L := L) (by simp) k hkl
                obtain ⟨hy, hp⟩ := HLm.out _ (List.getElem_mem hkl)
                have c2 := s11.out.cell L[k] _ (iRow_at _ _ _ (by omega))
                have c3 := s11.out.cell x _ (iRow_at _ _ _ (by omega))
                have hy64 : (L[k] : Int) < 64 := by omega
                have hy64b : ¬ ((64 : Int) ≤ (L[k] : Int)) := by omega
                have hy64c : decide ((64 : Int) ≤ (L[k] : Int)) = false := by simp; omega
                have hy0 : decide ((L[k] : Int) < 0) = false := by simp
                have hy64n : L[k] < 64 := by omega
                have hy64m : decide (64 ≤ L[k]) = false := by simp; omega
                generalize L[k] = y at *
                generalize plF o j y = py at *
                generalize plF o j x = px at *
                have hpp : decide (px ≤ py) = false := by simp; omega
                have hpp2 : ¬ (px ≤ py) := by omega
                clear ko hb1
                go_wp2
                go_big_quiet (fail)
                go_wp2
                go_roundw
                case rel => exact ⟨k + 1, by omega, by go_num, s11.out.drewN _⟩
                case measure => simp [intOf]; omega
              · go_wp2
                go_roundw
                case rel => exact ⟨x + 1, by omega, by go_num, s11.out.fewer (by simp)⟩
                case measure => simp [intOf]; omega
          · have hxd : decide ((x : Int) < (j : Int)) = false := by simp; omega
            go_wp2_with (go_at_call 23; refine kn.mono ?_; rintro e w7 ⟨rfl, rfl⟩)
            go_ret
            exact ⟨rfl, s9.out.rx.bel⟩
  | false =>
    rw [hok] at kO HW
    obtain ⟨hoN, hon0⟩ := HW.out.no rfl
    rw [hoN] at kO
    have hnl := HW.out.nl
    have hz1 : ((on.length : Int) == 0) = false := by rw [beq_eq_false_iff_ne]; omega
    have hz2 : ¬ ((on.length : Int) = 0) := by omega
    clear hok hoN
    go_enter Tryd.func5, Tryd.ntmps5
    go_upto_region 9 with (first | (go_at_call 9; refine ks.mono ?_; rintro e w1 ⟨rfl, s1⟩) | (go_at_call 10; refine (km _ s1.out).mono ?_; rintro e w2 ⟨g, eb, rfl, s2⟩) | (go_at_call 13; refine (kO _ _ _ s2.out).mono ?_; rintro e w3 ⟨ao, cap, rfl, s3⟩) | (go_at_call 19; refine (kOn _ _ _ _ s3.out).mono ?_; rintro e w4 ⟨ao2, cap2, rfl, s4⟩))
    apply wp_region_lit
    refine wpList_build45 rfl rfl ?_
    refine wpList_alloc45 rfl rfl ?_
    refine wpList_store45 rfl (.tmp 10) (.tmp 52) rfl rfl rfl rfl ?_
    have s6 := hide_it (AX.start s4.out zeros64 45)
    obtain ⟨w6, hw6⟩ : ∃ w6, w4.alloc (.cells zeros64 45) = w6 := ⟨_, rfl⟩
    generalize hsb : w4.heap.size = sb at *
    rw [hw6] at s6 ⊢
    have kn := s6.out.num
    clear hw6 hsb s1 s2 s3 s4 kO kOn km ks
    go_wp2
    go_loopw [11] (fun i W' => i = .int .i64 0 ∧ W' = w6) (fun i _ => 0)
    case atStart => exact ⟨rfl, rfl⟩
    case round =>
      obtain ⟨rfl, rfl⟩ := hrel
      go_wp2
      go_loopw [12] (fun i W' => i = .int .i64 0 ∧ W' = wr) (fun i _ => 0)
      case atStart => exact ⟨rfl, rfl⟩
      case round =>
        obtain ⟨rfl, rfl⟩ := hrel
        go_wp2_with (go_at_call 23; refine kn.mono ?_; rintro e w7 ⟨rfl, rfl⟩)
        all_goals
          go_ret
          exact ⟨rfl, s6.out.rx.bel⟩
end Go.Proofs.YtpbncoaonminoaaDoor
