/- slices.Index, Contains; firsts; the function that Wants hands over; slices.IndexFunc with it. -/
import Derived.Test.YtipkgoghodkbfaaDoorFit
import Derived.Deep.RegionLaw
namespace Go.Proofs.YtipkgoghodkbfaaDoor
open Go.RowKit
open M
set_option linter.unusedVariables false
set_option linter.unusedSimpArgs false

theorem mem_take_succ (xs : List Int) (k : Nat) (h : k < xs.length) (y : Int) (h0 : y ∉ xs.take k) (h1 : xs[k] ≠ y) : y ∉ xs.take (k + 1) := by
  rw [List.take_succ_eq_append_getElem h]
  simp only [List.mem_append, List.mem_singleton]
  rintro (q | q)
  · exact h0 q
  · exact h1 q.symm

set_option maxRecDepth 1000000 in
set_option maxHeartbeats 2000000 in
theorem indexz_any {w : World} {ao : Option Addr} {xs : List Int} {m c : Nat} (hx : NIn w ao xs) (hm : xs.length = m) (hm6 : m ≤ 1000000) (y : Int) :
    Calls Tryd.prog 43 #[.slice ao m c, .int .i64 y] w fun e w' => ∃ z : Int, e = .returned (.int .i64 z) ∧ Hid (0 ≤ z ↔ y ∈ xs) ∧ w' = w := by
  have HX := hide_it hx
  have HM := hide_it hm
  clear hx hm
  go_enter Tryd.func43, Tryd.ntmps43
  go_wp2
  go_loop [8] (fun i => ∃ k : Nat, k ≤ m ∧ i = .int .i64 k ∧ Hid (y ∉ xs.take k)) (fun i => m - (intOf i).toNat)
  case atStart => exact ⟨0, Nat.zero_le _, rfl, by simp [Hid]⟩
  case round =>
    obtain ⟨k, hk, rfl, HK⟩ := hrel
    by_cases hlt : k < m
    · have hlx : k < xs.length := by rw [HM.out]; exact hlt
      obtain ⟨r, o, rfl, hr, c1⟩ := HX.out k hlx
      have HI : Hid (xs[k] ∈ xs) := List.getElem_mem hlx
      have HT := hide_it (mem_take_succ xs k hlx y HK.out)
      generalize xs[k] = x at *
      by_cases hy : x = y
      · subst hy
        have HE : Hid ((0 : Int) ≤ (k : Int) ↔ x ∈ xs) := by unfold Hid; simp [HI.out]
        clear HT HI
        go_wp2
        go_ret
        exact ⟨_, rfl, HE, rfl⟩
      · have hy2 : (y == x) = false := by simpa using fun e => hy e.symm
        have HT2 := hide_it (HT.out hy)
        clear HT HI
        go_wp2
        go_round
        case rel => exact ⟨k + 1, by omega, by go_num, HT2⟩
        case measure => simp [intOf]; omega
    · have e := HK.out
      rw [List.take_of_length_le (by rw [HM.out]; omega)] at e
      have HE : Hid ((0 : Int) ≤ -1 ↔ y ∈ xs) := by unfold Hid; simp [e]
      clear e
      go_wp2
      go_ret
      exact ⟨_, rfl, HE, rfl⟩

set_option maxRecDepth 1000000 in
set_option maxHeartbeats 2000000 in
theorem contains_any {w : World} {ao : Option Addr} {xs : List Int} {m c : Nat} (hx : NIn w ao xs) (hm : xs.length = m) (hm6 : m ≤ 1000000) (y : Int) :
    Calls Tryd.prog 39 #[.slice ao m c, .int .i64 y] w fun e w' => e = .returned (.bool (decide (y ∈ xs))) ∧ w' = w := by
  have k := indexz_any (c := c) hx hm hm6 y
  obtain ⟨R, hR⟩ : ∃ R, decide (y ∈ xs) = R := ⟨_, rfl⟩
  have HR := hide_it hR
  rw [hR]
  clear hx hm hR
  go_enter Tryd.func39, Tryd.ntmps39
  go_wp2_with (go_at_call 43; refine k.mono ?_; rintro e w1 ⟨z, rfl, HZ, rfl⟩)
  go_ret
  exact ⟨ret_bool (by rw [← HR.out]; exact decide_eq_decide.2 HZ.out), rfl⟩

set_option maxRecDepth 1000000 in
set_option maxHeartbeats 4000000 in
theorem firsts_any {w : World} {ta : Option Addr} {xs : List Int} {m tc : Nat} (n : Nat) (hx : NIn w ta xs) (hm : xs.length = m) (hm6 : m ≤ 1000000) :
    Calls Tryd.prog 31 #[.slice ta m tc, .int .i64 n] w fun e w' => ∃ u, e = .returned u ∧ Hid (OwnZ w' w.heap.size u (onceK n xs xs.length) ∧ Below w.heap.size w w') := by
  have HX := hide_it hx
  have HM := hide_it hm
  have HS : Hid (∀ k (h : k < xs.length), onceK n xs (k + 1) = if plB n xs[k] && !decide (xs[k] ∈ onceK n xs k) then onceK n xs k ++ [xs[k]] else onceK n xs k) := fun k h => onceK_step h
  have HL := hide_it (onceK_len n xs)
  obtain ⟨i0, hi, hz0, hz1, hz2⟩ := info_parts info3
  obtain ⟨F, hF⟩ : ∃ F, onceK n xs = F := ⟨_, rfl⟩
  have H0 : Hid (F 0 = []) := by unfold Hid; rw [← hF]; rfl
  rw [hF] at HS HL ⊢
  rw [hm]
  clear hx hm hF
  go_enter Tryd.func31, Tryd.ntmps31
  go_wp2
  go_loopw [5, 10] (fun u i W => Hid (Below w.heap.size w W) ∧ ∃ k : Nat, k ≤ m ∧ i = .int .i64 k ∧ Hid (OwnZ W w.heap.size u (F k))) (fun _ i _ => m - (intOf i).toNat)
  case atStart => exact ⟨Below.refl _ _, 0, Nat.zero_le _, rfl, by unfold Hid; rw [H0.out]; exact ownz_nil _ _⟩
  case round =>
    obtain ⟨hBr, k, hk, rfl, HO⟩ := hrel
    obtain ⟨w4, rfl⟩ : ∃ W, W = wr := ⟨_, rfl⟩
    by_cases hlt : k < m
    · have hxk : k < xs.length := by rw [HM.out]; exact hlt
      obtain ⟨r1, o1, rfl, hr1, c1⟩ := (HX.out.below hBr.out (Nat.le_refl _)) k hxk
      have HT := hide_it (HS.out k hxk)
      have hl := HL.out k
      have hsz := hBr.out.size
      generalize xs[k] = x at *
      obtain ⟨L, hL⟩ : ∃ L, F k = L := ⟨_, rfl⟩
      rw [hL] at HO HT hl
      have kp := place_any n x w4
      obtain ⟨ao, cap, rfl, hni⟩ := own_nin HO.out
      clear HS HL
      cases hp : plB n x with
      | false =>
        rw [hp] at kp HT
        simp only [Bool.false_and, Bool.false_eq_true, if_false] at HT
        clear hp hni
        · as_aux_lemma =>
          go_wp2_with (go_at_call 29; refine kp.mono ?_; rintro e w6 ⟨rfl, rfl⟩)
          go_roundw
          case rel => exact ⟨hBr, k + 1, by omega, by go_num, by rw [HT.out]; exact HO⟩
          case measure => simp [intOf]; omega
      | true =>
        rw [hp] at kp HT
        simp only [Bool.true_and] at HT
        have kc := contains_any (c := cap) hni rfl (by omega) x
        clear hp hni
        cases hc : decide (x ∈ L) with
        | true =>
          rw [hc] at kc HT
          simp only [Bool.not_true, Bool.false_eq_true, if_false] at HT
          clear hc
          · as_aux_lemma =>
            go_wp2_with (first | (go_at_call 29; refine kp.mono ?_; rintro e w6 ⟨rfl, rfl⟩) | (go_at_call 39; refine kc.mono ?_; rintro e w6 ⟨rfl, rfl⟩))
            go_roundw
            case rel => exact ⟨hBr, k + 1, by omega, by go_num, by rw [HT.out]; exact HO⟩
            case measure => simp [intOf]; omega
        | false =>
          rw [hc] at kc HT
          simp only [Bool.not_false, if_true] at HT
          have HO6 := hide_it HO.out
          have B6 := hide_it hBr.out
          clear hc HO hBr
          · as_aux_lemma =>
            go_wp2_with (first | (go_at_call 29; refine kp.mono ?_; rintro e w6 ⟨rfl, rfl⟩) | (go_at_call 39; refine kc.mono ?_; rintro e w6 ⟨rfl, rfl⟩) | (at_builtin; (refine wpList_append_tell _ rfl (.tmp 23) (.tmp 25) 22 rfl w.heap.size 3 i0 _ 1 8 Tryd.underlying22 hi hz0 hz1 hz2 rfl (by decide) _ L.length (L.map fun x => Value.int .i64 x) rfl (HO6.out.alloc _) ⟨_, 0, none⟩ 1 1 [.int .i64 x] rfl rfl (World.news_of_block (heap_alloc_at rfl _)) (by simp [Value.oneCell']) (by unfold maxLen; omega) (by omega) (by simp; omega) ?_; intro v' w2 hown' hgrow hfr; have hB2 := hide_it ((B6.out.alloc (by omega) _).grown hgrow (by simp; omega) (fun k hk => (HO6.out.lt k hk).1)))))
            go_roundw
            case rel => exact ⟨hB2, k + 1, by omega, by go_num, by rw [HT.out]; exact ownz_snoc hown'⟩
            case measure => simp [intOf]; omega
    · obtain rfl : k = m := by omega
      go_wp2
      go_ret
      exact ⟨_, rfl, HO.out, hBr.out⟩

set_option maxRecDepth 1000000 in
set_option maxHeartbeats 2000000 in
theorem reachw_any {w : World} {g eb N : Nat} {v : Value} {es : List E} (h : GM w g eb N v es) (hT : Tab w) (h0 : 0 < w.heap.size) {c1 c2 c3 k n rc : Nat} {ra : Option Addr} {r : Int} {b o : Nat} (x : Int)
    (h1 : w.cell? ⟨c1, 0, none⟩ = some (ptr g)) (h2 : w.cell? ⟨c2, 0, none⟩ = some (.slice (some ⟨b, o, none⟩) n rc)) (h3 : w.cell? ⟨c3, 0, none⟩ = some (.int .i64 k)) (hk : k < n) (c : w.cell? ⟨b, o + k, none⟩ = some (.int .i64 r)) :
    Calls Tryd.prog 34 #[.int .i64 x, ptr c1, ptr c2, ptr c3] w fun e w' => e = .returned (.bool (reachB N es r x)) ∧ Hid (Below w.heap.size w w') := by
  have kr : ∀ j, Calls Tryd.prog 20 #[ptr g, .int .i64 r, .int .i64 x] (w.drewN j) fun e w' => e = .returned (.bool (reachB N es r x)) ∧ Hid (Below w.heap.size w w') := fun j => by
    have b : Below w.heap.size w (w.drewN j) := below_drewN (Below.refl _ _) j
    refine (reaches_any (h.below b) (tab_below hT h0 b) (Nat.lt_of_lt_of_le h0 b.size) r x).mono ?_
    rintro e w' ⟨rfl, hb⟩
    exact ⟨rfl, b.trans (hb.mono b.size)⟩
  generalize reachB N es r x = R at *
  clear h hT
  go_enter Tryd.func34, Tryd.ntmps34
  go_wp2
  go_region_with ((go_at_call 20; refine (kr 1).mono ?_; rintro e w5 ⟨rfl, hB5⟩))
  all_goals
    go_wp2
    go_ret
    exact ⟨rfl, hB5⟩

set_option maxRecDepth 1000000 in
set_option maxHeartbeats 2000000 in
theorem idxw_any {w : World} {ao : Option Addr} {cap m c1 c2 c3 : Nat} {xs : List Int} (p : Int → Bool) (hm : xs.length = m) (hm6 : m ≤ 1000000)
    (hx : NIn w ao xs)
    (kf : ∀ (W : World) (x : Int), x ∈ xs → Below w.heap.size w W → Calls Tryd.prog 34 #[.int .i64 x, ptr c1, ptr c2, ptr c3] W fun e w' => e = .returned (.bool (p x)) ∧ Hid (Below W.heap.size W w')) :
    Calls Tryd.prog 33 #[.slice ao m cap, .func (.func 34) #[] #[ptr c1, ptr c2, ptr c3]] w fun e w' => (∃ z : Int, e = .returned (.int .i64 z) ∧ Hid ((z = -1 ∧ xs.find? p = none) ∨ ∃ k : Nat, z = k ∧ ∃ h : k < xs.length, xs.find? p = some xs[k])) ∧ Hid (Below w.heap.size w w') := by
  have HX := hide_it hm
  have HC := hide_it hx
  have HF : Hid (∀ k (h : k < xs.length), (xs.take k).find? p = none → p xs[k] = true → xs.find? p = some xs[k]) := fun k h h1 h2 => by
    have e : xs = xs.take k ++ xs.drop k := (List.take_append_drop k xs).symm
    have e2 : xs.drop k = xs[k] :: xs.drop (k + 1) := List.drop_eq_getElem_cons h
    have : (xs.take k ++ xs.drop k).find? p = some xs[k] := by rw [List.find?_append, h1, e2, List.find?_cons, h2]; rfl
    rw [← e] at this
    exact this
  have HG : Hid (∀ k (h : k < xs.length), (xs.take k).find? p = none → p xs[k] = false → (xs.take (k + 1)).find? p = none) := fun k h h1 h2 => by
    rw [List.take_succ_eq_append_getElem h, find_snoc, h1, h2]; rfl
  clear hm hx
  go_enter Tryd.func33, Tryd.ntmps33
  go_wp2
  go_loopw [8] (fun i W => Hid (Below w.heap.size w W) ∧ ∃ k : Nat, k ≤ m ∧ i = .int .i64 k ∧ Hid ((xs.take k).find? p = none)) (fun i _ => m - (intOf i).toNat)
  case atStart => exact ⟨Below.refl _ _, 0, Nat.zero_le _, rfl, rfl⟩
  case round =>
    obtain ⟨hBr, k, hk, rfl, HR⟩ := hrel
    obtain ⟨w4, rfl⟩ : ∃ W, W = wr := ⟨_, rfl⟩
    by_cases hlt : k < m
    · have hlx : k < xs.length := by rw [HX.out]; exact hlt
      obtain ⟨r, o, rfl, hr, hcx⟩ := (HC.out.below hBr.out (Nat.le_refl _)) k hlx
      have kk := kf w4 xs[k] (List.getElem_mem hlx) hBr.out
      have HFk := hide_it (HF.out k hlx HR.out)
      have HGk := hide_it (HG.out k hlx HR.out)
      have HI : Hid (k < xs.length ∧ xs[k]? = some xs[k]) := ⟨hlx, List.getElem?_eq_getElem hlx⟩
      cases hp : p xs[k] with
      | true =>
        rw [hp] at kk
        have HE : Hid (∃ h : k < xs.length, xs.find? p = some xs[k]) := ⟨hlx, HFk.out hp⟩
        clear hp kf HFk HGk HF HG HI
        generalize xs[k] = x at *
        · as_aux_lemma =>
          go_wp2_with (go_at_call 34; refine kk.mono ?_; rintro e w' ⟨rfl, q2⟩)
          go_ret
          exact ⟨⟨_, rfl, .inr ⟨k, rfl, HE.out⟩⟩, hBr.out.trans (q2.out.mono hBr.out.size)⟩
      | false =>
        rw [hp] at kk
        have HE := hide_it (HGk.out hp)
        clear hp kf HFk HGk HF HG HI
        generalize xs[k] = x at *
        · as_aux_lemma =>
          go_wp2_with (go_at_call 34; refine kk.mono ?_; rintro e w' ⟨rfl, q2⟩)
          go_roundw
          case rel => exact ⟨hBr.out.trans (q2.out.mono hBr.out.size), k + 1, by omega, by go_num, HE⟩
          case measure => simp [intOf]; omega
    · have e := HR.out
      rw [List.take_of_length_le (by rw [HX.out]; omega)] at e
      have HE := hide_it e
      clear e
      go_wp2
      go_ret
      exact ⟨⟨_, rfl, .inl ⟨rfl, HE.out⟩⟩, hBr.out⟩
end Go.Proofs.YtipkgoghodkbfaaDoor
