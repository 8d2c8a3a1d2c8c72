/- isPlace, some; Best, and the document's own. -/
import Derived.Test.YtipkgoghodkbfaaDoorZro
import Derived.Test.YtipkgoghodkbfaaDoorPik
import Derived.Deep.OwnRows
namespace Go.Proofs.YtipkgoghodkbfaaDoor
open Go.RowKit
open M
set_option linter.unusedVariables false
set_option linter.unusedSimpArgs false

theorem pick_some (g : Nat) (w : World) : Calls Tryd.prog 30 #[ptr g] w fun e w' => e = .returned (ptr g) ∧ w' = w := by
  go_enter Tryd.func30, Tryd.ntmps30
  go_wp2
  go_ret
  exact ⟨rfl, rfl⟩

set_option maxRecDepth 1000000 in
set_option maxHeartbeats 2000000 in
theorem place_any (n : Nat) (x : Int) (w : World) : Calls Tryd.prog 29 #[.int .i64 x, .int .i64 n] w fun e w' => e = .returned (.bool (plB n x)) ∧ w' = w := by
  unfold plB
  by_cases h0 : 0 ≤ x
  · have h2 : decide (0 ≤ x) = true := by simpa using h0
    go_enter Tryd.func29, Tryd.ntmps29
    go_wp2
    go_ret
    exact ⟨ret_bool (by rw [h2]; simp), rfl⟩
  · have h2 : decide (0 ≤ x) = false := by simpa using h0
    go_enter Tryd.func29, Tryd.ntmps29
    go_wp2
    go_ret
    exact ⟨rfl, rfl⟩

set_option maxRecDepth 1000000 in
set_option maxHeartbeats 4000000 in
theorem best_any {w : World} {sa pa : Option Addr} {xs ys : List Int} {m n sc pc : Nat} (hx : NIn w sa xs) (hy : NIn w pa ys) (hm : xs.length = m) (hn : ys.length = n) (hm6 : m ≤ 1000000) (hn6 : n ≤ 1000000) :
    Calls Tryd.prog 13 #[.slice sa m sc, .slice pa n pc] w fun e w' => ∃ u, e = .returned (.tuple #[.int .i64 (bestA xs ys).1, u]) ∧ Hid (OwnZ w' w.heap.size u (bestA xs ys).2 ∧ Below w.heap.size w w') := by
  have HX := hide_it hx
  have HY := hide_it hy
  have HM := hide_it hm
  have HN := hide_it hn
  have HS : Hid (∀ k (h1 : k < xs.length) (h2 : k < ys.length), bestK xs ys (k + 1) = stepB xs[k] ys[k] k (bestK xs ys k)) := fun k h1 h2 => bestK_step h1 h2
  have HL := hide_it (bestK_len xs ys)
  obtain ⟨i0, hi, hz0, hz1, hz2⟩ := info_parts info3
  obtain ⟨BK, hBK⟩ : ∃ f, bestK xs ys = f := ⟨_, rfl⟩
  have HA : Hid (bestA xs ys = BK (min m n)) := by unfold Hid bestA; rw [hBK, hm, hn]
  have H0 : Hid (BK 0 = (-1, [])) := by unfold Hid; rw [← hBK]; rfl
  rw [hBK] at HS HL
  obtain ⟨z, hz⟩ : ∃ z : Nat, min m n = z := ⟨_, rfl⟩
  have hmin : min (m : Int) (n : Int) = (z : Int) := by omega
  have hzm : z ≤ m := by omega
  have hzn : z ≤ n := by omega
  rw [hz] at HA
  clear hz
  clear hx hy hm hn hBK
  go_enter Tryd.func13, Tryd.ntmps13
  go_wp2
  go_loopw [6, 7, 15] (fun p u i W => Hid (Below w.heap.size w W) ∧ ∃ k : Nat, k ≤ z ∧ i = .int .i64 k ∧ ∃ (P : Int) (L : List Int), p = .int .i64 P ∧ Hid (BK k = (P, L) ∧ OwnZ W w.heap.size u L)) (fun _ _ i _ => z - (intOf i).toNat)
  case atStart => exact ⟨Below.refl _ _, 0, Nat.zero_le _, rfl, -1, [], rfl, H0.out, ownz_nil _ _⟩
  case round =>
    obtain ⟨hBr, k, hk, rfl, P, L, rfl, HK⟩ := hrel
    obtain ⟨w4, rfl⟩ : ∃ W, W = wr := ⟨_, rfl⟩
    by_cases hlt : k < z
    · have hx : k < xs.length := by rw [HM.out]; omega
      have hy : k < ys.length := by rw [HN.out]; omega
      obtain ⟨r1, o1, rfl, hr1, c1⟩ := (HX.out.below hBr.out (Nat.le_refl _)) k hx
      obtain ⟨r2, o2, rfl, hr2, c2⟩ := (HY.out.below hBr.out (Nat.le_refl _)) k hy
      have HT := hide_it (HS.out k hx hy)
      have HLk : Hid (L.length ≤ k) := by unfold Hid; have := HL.out k; rw [HK.out.1] at this; exact this
      have hlk := HLk.out
      have HO := hide_it HK.out.2
      rw [HK.out.1] at HT
      generalize xs[k] = s at *
      generalize ys[k] = p at *
      have hsz := hBr.out.size
      clear HK HS HL
      by_cases hs : s = 1
      · subst hs
        by_cases hp : p < 0
        · have hp2 : decide (p < 0) = true := by simpa using hp
          have HT2 : Hid (BK (k + 1) = (P, L)) := by unfold Hid; rw [HT.out]; unfold stepB; rw [if_pos (.inr hp)]
          clear HT
          · as_aux_lemma =>
            go_wp2
            go_roundw
            case rel => exact ⟨hBr, k + 1, by omega, by go_num, P, L, rfl, HT2.out, HO.out⟩
            case measure => simp [intOf]; omega
        · have hp2 : decide (p < 0) = false := by simpa using hp
          by_cases hg : P < p
          · have hg2 : decide (P < p) = true := by simpa using hg
            have HT2 : Hid (BK (k + 1) = (p, [(k : Int)])) := by unfold Hid; rw [HT.out]; unfold stepB; rw [if_neg (by simp; omega), if_pos hg]
            clear HT HO
            · as_aux_lemma =>
              go_wp2_with (at_builtin; (refine wpList_append_tell _ rfl (.tmp 41) (.tmp 43) 22 rfl w.heap.size 3 i0 _ 1 8 Tryd.underlying22 hi hz0 hz1 hz2 rfl (by decide) _ 0 [] rfl (ownz_nil _ _) ⟨_, 0, none⟩ 1 1 [.int .i64 k] rfl rfl (World.news_of_block (heap_alloc_at rfl _)) (by simp [Value.oneCell']) (by unfold maxLen; omega) (by omega) (by simp; omega) ?_; intro v' w2 hown' hgrow hfr; have hB2 := hide_it ((hBr.out.alloc (by omega) _).grown hgrow (by simp; omega) (fun k hk => ((ownz_nil w4 w.heap.size).lt k hk).1))))
              go_roundw
              case rel => exact ⟨hB2, k + 1, by omega, by go_num, p, [(k : Int)], rfl, HT2.out, ownz_snoc (xs := []) hown'⟩
              case measure => simp [intOf]; omega
          · have hg2 : decide (P < p) = false := by simpa using hg
            by_cases he : p = P
            · subst he
              have HT2 : Hid (BK (k + 1) = (p, L ++ [(k : Int)])) := by unfold Hid; rw [HT.out]; unfold stepB; rw [if_neg (by simp; omega), if_neg hg, if_pos rfl]
              clear HT
              · as_aux_lemma =>
                go_wp2_with (at_builtin; (refine wpList_append_tell _ rfl (.tmp 41) (.tmp 43) 22 rfl w.heap.size 3 i0 _ 1 8 Tryd.underlying22 hi hz0 hz1 hz2 rfl (by decide) _ L.length (L.map fun x => Value.int .i64 x) rfl (HO.out.alloc _) ⟨_, 0, none⟩ 1 1 [.int .i64 k] rfl rfl (World.news_of_block (heap_alloc_at rfl _)) (by simp [Value.oneCell']) (by unfold maxLen; omega) (by omega) (by simp; omega) ?_; intro v' w2 hown' hgrow hfr; have hB2 := hide_it ((hBr.out.alloc (by omega) _).grown hgrow (by simp; omega) (fun k hk => (HO.out.lt k hk).1))))
                go_roundw
                case rel => exact ⟨hB2, k + 1, by omega, by go_num, p, L ++ [(k : Int)], rfl, HT2.out, ownz_snoc hown'⟩
                case measure => simp [intOf]; omega
            · have he2 : (p == P) = false := by simpa using he
              have HT2 : Hid (BK (k + 1) = (P, L)) := by unfold Hid; rw [HT.out]; unfold stepB; rw [if_neg (by simp; omega), if_neg hg, if_neg he]
              clear HT
              · as_aux_lemma =>
                go_wp2
                go_roundw
                case rel => exact ⟨hBr, k + 1, by omega, by go_num, P, L, rfl, HT2.out, HO.out⟩
                case measure => simp [intOf]; omega
      · have hs2 : (s != 1) = true := by simpa using hs
        have HT2 : Hid (BK (k + 1) = (P, L)) := by unfold Hid; rw [HT.out]; unfold stepB; rw [if_pos (.inl hs)]
        clear HT
        · as_aux_lemma =>
          go_wp2
          go_roundw
          case rel => exact ⟨hBr, k + 1, by omega, by go_num, P, L, rfl, HT2.out, HO.out⟩
          case measure => simp [intOf]; omega
    · obtain rfl : k = z := by omega
      go_wp2
      go_ret2
      have e := HK.out.1
      have e1 : bestA xs ys = (P, L) := by rw [HA.out, e]
      rw [e1]
      exact ⟨_, rfl, HK.out.2, hBr.out⟩

set_option maxRecDepth 1000000 in
set_option maxHeartbeats 4000000 in
theorem rbest_any {w : World} {sa pa : Option Addr} {xs ys : List Int} {m n sc pc : Nat} (hx : NIn w sa xs) (hy : NIn w pa ys) (hm : xs.length = m) (hn : ys.length = n) (hm6 : m ≤ 1000000) (hn6 : n ≤ 1000000) :
    Calls Tryd.prog 14 #[.slice sa m sc, .slice pa n pc] w fun e w' => ∃ u, e = .returned (.tuple #[.int .i64 (bestA xs ys).1, u]) ∧ Hid (OwnZ w' w.heap.size u (bestA xs ys).2 ∧ Below w.heap.size w w') := by
  have HX := hide_it hx
  have HY := hide_it hy
  have HM := hide_it hm
  have HN := hide_it hn
  have HS : Hid (∀ k (h1 : k < xs.length) (h2 : k < ys.length), bestK xs ys (k + 1) = stepB xs[k] ys[k] k (bestK xs ys k)) := fun k h1 h2 => bestK_step h1 h2
  have HL := hide_it (bestK_len xs ys)
  obtain ⟨i0, hi, hz0, hz1, hz2⟩ := info_parts info3
  obtain ⟨BK, hBK⟩ : ∃ f, bestK xs ys = f := ⟨_, rfl⟩
  have HA : Hid (bestA xs ys = BK (min m n)) := by unfold Hid bestA; rw [hBK, hm, hn]
  have H0 : Hid (BK 0 = (-1, [])) := by unfold Hid; rw [← hBK]; rfl
  rw [hBK] at HS HL
  have hb0 : Hid (Below w.heap.size w (w.alloc (.cells #[] 3))) := (Below.refl _ _).alloc (Nat.le_refl _) _
  have ho0 := hide_it (ownz_new w)
  clear hx hy hm hn hBK
  go_enter Tryd.func14, Tryd.ntmps14
  go_wp2
  go_loopw [6, 7, 8] (fun p u i W => Hid (Below w.heap.size w W) ∧ ∃ k : Nat, k ≤ m ∧ k ≤ n ∧ i = .int .i64 k ∧ ∃ (P : Int) (L : List Int), p = .int .i64 P ∧ Hid (BK k = (P, L) ∧ OwnZ W w.heap.size u L)) (fun _ _ i _ => m - (intOf i).toNat)
  case atStart => exact ⟨hb0, 0, Nat.zero_le _, Nat.zero_le _, rfl, -1, [], rfl, H0.out, ho0.out⟩
  case round =>
    obtain ⟨hBr, k, hkm, hkn, rfl, P, L, rfl, HK⟩ := hrel
    obtain ⟨w4, rfl⟩ : ∃ W, W = wr := ⟨_, rfl⟩
    by_cases hlm : k < m
    · by_cases hln : k < n
      · have hx : k < xs.length := by rw [HM.out]; omega
        have hy : k < ys.length := by rw [HN.out]; omega
        obtain ⟨r1, o1, rfl, hr1, c1⟩ := (HX.out.below hBr.out (Nat.le_refl _)) k hx
        obtain ⟨r2, o2, rfl, hr2, c2⟩ := (HY.out.below hBr.out (Nat.le_refl _)) k hy
        have HT := hide_it (HS.out k hx hy)
        have HLk : Hid (L.length ≤ k) := by unfold Hid; have := HL.out k; rw [HK.out.1] at this; exact this
        have hlk := HLk.out
        have HO := hide_it HK.out.2
        rw [HK.out.1] at HT
        generalize xs[k] = s at *
        generalize ys[k] = p at *
        have hsz := hBr.out.size
        clear HK HS HL
        by_cases hs : s = 1
        · subst hs
          by_cases hp : p < 0
          · have hp2 : decide (p < 0) = true := by simpa using hp
            have HT2 : Hid (BK (k + 1) = (P, L)) := by unfold Hid; rw [HT.out]; unfold stepB; rw [if_pos (.inr hp)]
            clear HT
            · as_aux_lemma =>
              go_wp2
              go_roundw
              case rel => exact ⟨hBr, k + 1, by omega, by omega, by go_num, P, L, rfl, HT2.out, HO.out⟩
              case measure => simp [intOf]; omega
          · have hp2 : decide (p < 0) = false := by simpa using hp
            by_cases hg : P < p
            · have hg2 : decide (P < p) = true := by simpa using hg
              have HT2 : Hid (BK (k + 1) = (p, [(k : Int)])) := by unfold Hid; rw [HT.out]; unfold stepB; rw [if_neg (by simp; omega), if_pos hg]
              clear HT HO
              · as_aux_lemma =>
                go_wp2_with (at_builtin; (refine wpList_append_tell _ rfl (.tmp 51) (.tmp 53) 22 rfl w.heap.size 3 i0 _ 1 8 Tryd.underlying22 hi hz0 hz1 hz2 rfl (by decide) _ 0 [] rfl (((owns_base (ownz_new w4) (fun k hk => by have : w4.heap.size = k := Option.some.inj hk; omega)).alloc _)) ⟨_, 0, none⟩ 1 1 [.int .i64 k] rfl rfl (World.news_of_block (heap_alloc_at (by simp) _)) (by simp [Value.oneCell']) (by unfold maxLen; omega) (by omega) (by simp; omega) ?_; intro v' w2 hown' hgrow hfr; have hB2 := hide_it (((hBr.out.alloc (by omega) _).alloc (by simp; omega) _).grown hgrow (by simp; omega) (fun k hk => by have : w4.heap.size = k := Option.some.inj hk; omega))))
                go_roundw
                case rel => exact ⟨hB2, k + 1, by omega, by omega, by go_num, p, [(k : Int)], rfl, HT2.out, ownz_snoc (xs := []) hown'⟩
                case measure => simp [intOf]; omega
            · have hg2 : decide (P < p) = false := by simpa using hg
              by_cases he : p = P
              · subst he
                have HT2 : Hid (BK (k + 1) = (p, L ++ [(k : Int)])) := by unfold Hid; rw [HT.out]; unfold stepB; rw [if_neg (by simp; omega), if_neg hg, if_pos rfl]
                clear HT
                · as_aux_lemma =>
                  go_wp2_with (at_builtin; (refine wpList_append_tell _ rfl (.tmp 51) (.tmp 53) 22 rfl w.heap.size 3 i0 _ 1 8 Tryd.underlying22 hi hz0 hz1 hz2 rfl (by decide) _ L.length (L.map fun x => Value.int .i64 x) rfl (HO.out.alloc _) ⟨_, 0, none⟩ 1 1 [.int .i64 k] rfl rfl (World.news_of_block (heap_alloc_at rfl _)) (by simp [Value.oneCell']) (by unfold maxLen; omega) (by omega) (by simp; omega) ?_; intro v' w2 hown' hgrow hfr; have hB2 := hide_it ((hBr.out.alloc (by omega) _).grown hgrow (by simp; omega) (fun k hk => (HO.out.lt k hk).1))))
                  go_roundw
                  case rel => exact ⟨hB2, k + 1, by omega, by omega, by go_num, p, L ++ [(k : Int)], rfl, HT2.out, ownz_snoc hown'⟩
                  case measure => simp [intOf]; omega
              · have he2 : (p == P) = false := by simpa using he
                have HT2 : Hid (BK (k + 1) = (P, L)) := by unfold Hid; rw [HT.out]; unfold stepB; rw [if_neg (by simp; omega), if_neg hg, if_neg he]
                clear HT
                · as_aux_lemma =>
                  go_wp2
                  go_roundw
                  case rel => exact ⟨hBr, k + 1, by omega, by omega, by go_num, P, L, rfl, HT2.out, HO.out⟩
                  case measure => simp [intOf]; omega
        · have hs2 : (s != 1) = true := by simpa using hs
          have HT2 : Hid (BK (k + 1) = (P, L)) := by unfold Hid; rw [HT.out]; unfold stepB; rw [if_pos (.inl hs)]
          clear HT
          · as_aux_lemma =>
            go_wp2
            go_roundw
            case rel => exact ⟨hBr, k + 1, by omega, by omega, by go_num, P, L, rfl, HT2.out, HO.out⟩
            case measure => simp [intOf]; omega
      · have h2 : decide ((k : Int) < n) = false := by simp; omega
        go_wp2
        go_ret2
        have e := HK.out.1
        have e1 : bestA xs ys = (P, L) := by rw [HA.out, show min m n = k by omega, e]
        rw [e1]
        exact ⟨_, rfl, HK.out.2, hBr.out⟩
    · have h2 : decide ((k : Int) < m) = false := by simp; omega
      go_wp2
      go_ret2
      have e := HK.out.1
      have e1 : bestA xs ys = (P, L) := by rw [HA.out, show min m n = k by omega, e]
      rw [e1]
      exact ⟨_, rfl, HK.out.2, hBr.out⟩

end Go.Proofs.YtipkgoghodkbfaaDoor
