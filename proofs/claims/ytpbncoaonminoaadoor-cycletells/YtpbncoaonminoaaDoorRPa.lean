/- The document's Path. -/
import Derived.Test.YtpbncoaonminoaaDoorRFa
import Derived.Test.YtpbncoaonminoaaDoorCyT
namespace Go.Proofs.YtpbncoaonminoaaDoor
open Go.RowKit
open M
set_option linter.unusedVariables false
set_option linter.unusedSimpArgs false

theorem own_new (W : World) : OwnI (W.alloc (.cells #[] 3)) W.heap.size (.slice (some ⟨W.heap.size, 0, none⟩) 0 0) [] := World.ownsRow_made W #[] 0 (Nat.le_refl _) (by simp [maxLen]) (by simp)
theorem far_cases {es : List E} {n : Nat} (hg : ∀ e ∈ es, e.1 < n ∧ e.2 < n) (a b : Int) : (farI es n a b = -1 ∧ pathG es n a b = []) ∨ ∃ x t d : Nat, a = x ∧ b = t ∧ x < n ∧ t < n ∧ Dst es t x d ∧ farI es n a b = d ∧ pathG es n a b = gp es n t d x := by
  unfold farI pathG
  cases ho : (offB n a || offB n b) with
  | true => exact .inl ⟨rfl, rfl⟩
  | false =>
    simp [offB] at ho
    obtain ⟨x, rfl⟩ : ∃ x : Nat, a = x := ⟨a.toNat, by omega⟩
    obtain ⟨t, rfl⟩ : ∃ t : Nat, b = t := ⟨b.toNat, by omega⟩
    have hx : x < n := by omega
    simp only [Int.toNat_natCast, if_neg Bool.false_ne_true]
    unfold pathN
    cases hd : dist es n t x with
    | none => exact .inl ⟨rfl, rfl⟩
    | some d => exact .inr ⟨x, t, d, rfl, rfl, hx, by omega, (dist_some hg hx).1 hd, rfl, rfl⟩
theorem far_eq {es : List E} {n : Nat} (hg : ∀ e ∈ es, e.1 < n ∧ e.2 < n) {y t d : Nat} (hy : y < n) (ht : t < n) : farI es n (y : Int) (t : Int) = (d : Int) ↔ Dst es t y d := by
  unfold farI
  have ho : (offB n (y : Int) || offB n (t : Int)) = false := by simp [offB]; omega
  rw [ho]
  simp only [Int.toNat_natCast, if_neg Bool.false_ne_true]
  rw [← dist_some hg hy]
  cases hd : dist es n t y with
  | none => simp
  | some e => simp; omega
theorem far_bound {es : List E} {n : Nat} (hg : ∀ e ∈ es, e.1 < n ∧ e.2 < n) (a b : Int) : -1 ≤ farI es n a b ∧ farI es n a b ≤ n := by
  rcases far_cases hg a b with ⟨h, _⟩ | ⟨x, t, d, rfl, rfl, hx, ht, hd, h, _⟩
  · rw [h]; omega
  · rw [h]
    have := hd.lt hg hx
    omega
/-- The first task of a row that is at the end's distance. -/
def nxI (es : List E) (n t d : Nat) (L : List Nat) : Int := match L.find? (fun y => dist es n t y == some d) with
  | some y => (y : Int)
  | none => -1
theorem nxI_step {es : List E} {n t d : Nat} {L : List Nat} {k : Nat} (hk : k < L.length) : nxI es n t d (L.take (k + 1)) = if nxI es n t d (L.take k) < 0 ∧ dist es n t L[k] = some d then (L[k] : Int) else nxI es n t d (L.take k) := by
  unfold nxI
  rw [List.take_succ_eq_append_getElem hk, List.find?_append]
  cases h : (L.take k).find? (fun y => dist es n t y == some d) with
  | some y =>
    have : ¬ ((y : Int) < 0) := by omega
    simp [this]
  | none =>
    by_cases hd : dist es n t L[k] = some d
    · simp [hd]
    · have : (dist es n t L[k] == some d) = false := by simpa using hd
      simp [this, hd]

set_option maxRecDepth 1000000 in
set_option maxHeartbeats 8000000 in
theorem rpath_any {w : World} {r n : Nat} {v : Value} {es : List E} (h : RM w r n v es) (hn : n ≤ 64) (hg : ∀ e ∈ es, e.1 < n ∧ e.2 < n) (hle : es.length ≤ 1000000) (a b : Int) :
    Calls Tryd.prog 17 #[ptr r, .int .i64 a, .int .i64 b] w fun e w' => ∃ u, e = .returned u ∧ OwnI w' w.heap.size u (pathG es n a b) ∧ Below w.heap.size w w' := by
  have kf := far_any h hn hg hle a b
  obtain ⟨i0, hi, hz0, hz1, hz2⟩ := info_parts info3
  rcases far_cases hg a b with ⟨h1, h2⟩ | ⟨x, t, d, rfl, rfl, hx, ht, hd, h1, h2⟩
  · rw [h1] at kf
    rw [h2]
    clear h h1 h2 hg
    go_enter Tryd.func17, Tryd.ntmps17
    go_wp2_with (go_at_call 34; refine kf.mono ?_; rintro e w1 ⟨rfl, hb1⟩)
    go_ret
    exact ⟨_, rfl, owns_base (own_new w1) (fun k hk => by have := ((own_new w1).lt k hk).1; have := hb1.size; omega), hb1.trans (((Below.refl _ _).alloc (Nat.le_refl _) _).mono hb1.size)⟩
  · rw [h1] at kf
    rw [h2]
    have HG := hide_it hg
    have HR := hide_it h
    obtain ⟨PA, hPA⟩ : ∃ PA, gp es n t d x = PA := ⟨_, rfl⟩
    have HPA := hide_it hPA
    have hPl : PA.length ≤ 64 := by
      have := (ps_gp hg d x hx hd).1.len hg
      rw [hPA] at this
      omega
    have HDX := hide_it hd
    rw [hPA]
    clear h h1 h2 hg hPA hd
    go_enter Tryd.func17, Tryd.ntmps17
    go_wp2_with (first | (go_at_call 34; refine kf.mono ?_; rintro e w1 ⟨rfl, hb1⟩; have hs1 := hb1.size) | (at_builtin; (refine wpList_append_tell _ rfl (.tmp 21) (.tmp 23) 33 rfl w1.heap.size 3 i0 _ 1 8 Tryd.underlying33 hi hz0 hz1 hz2 rfl (by decide) _ 0 [] rfl ((own_new w1).alloc _) ⟨_, 0, none⟩ 1 1 [.int .i64 x] rfl rfl (World.news_of_block (heap_alloc_at (by simp) _)) (by simp [Value.oneCell']) (by unfold maxLen; omega) (by omega) (by simp; omega) ?_; intro v' w2 hown' hgrow hfr)))
    have HB2 : Hid (Below w.heap.size w w2) := hb1.trans ((((((Below.refl w1.heap.size w1).alloc (Nat.le_refl _) _).alloc (by simp) _).grown hgrow (by first | omega | (simp; done) | (simp; omega)) (fun q hq => ((own_new w1).lt q hq).1))).mono hs1)
    have HO2 : Hid (OwnI w2 w.heap.size v' ([] ++ [x])) := owns_base (own_snoc (xs := []) hown') (fun q hq => by have := ((own_snoc (xs := []) hown').lt q hq).1; omega)
    clear hown' hgrow hfr kf hb1
    go_loopw [7, 8, 9] (fun nv u av W => ∃ (d x : Nat) (q : List Nat), nv = .int .i64 d ∧ av = .int .i64 x ∧ x < n ∧ d ≤ 64 ∧ q.length ≤ 64 ∧ Hid (Dst es t x d) ∧ Hid (OwnI W w.heap.size u (q ++ [x])) ∧ Hid (q ++ gp es n t d x = PA) ∧ Hid (Below w.heap.size w W)) (fun nv _ _ _ => (intOf nv).toNat)
    case atStart => exact ⟨d, x, [], rfl, rfl, hx, by have := HDX.out.lt HG.out hx; omega, by simp, HDX, HO2, HPA, HB2⟩
    case round =>
      obtain ⟨d1, x1, q, rfl, rfl, hx1, hd64, hq64, HD, HO, HP, HB⟩ := hrel
      clear HO2 HB2 HDX HPA
      cases d1 with
      | zero =>
        go_wp2
        go_ret
        refine ⟨_, rfl, ?_, HB.out⟩
        have e := HP.out
        rw [show gp es n t 0 x1 = [x1] from rfl] at e
        rw [← e]
        exact HO.out
      | succ d2 =>
        obtain ⟨l1, y1, l2, o1, o2, o3, o4, o5⟩ := gp_step (n := n) HG.out HD.out
        have hy1 : y1 < n := (HG.out _ o4).2
        have HY : Hid (Dst es t y1 d2) := o3
        have HP2 : Hid ((q ++ [x1]) ++ gp es n t d2 y1 = PA) := by
          have e := HP.out
          rw [o5] at e
          unfold Hid
          rw [← e]
          simp
        have hql : (q ++ [x1]).length ≤ 64 := by
          have e := congrArg List.length HP2.out
          have := (ps_gp HG.out d2 y1 hy1 HY.out).2
          simp at e ⊢
          omega
        have ko := rout_any (HR.out.below HB.out) (x1 : Int) hle
        obtain ⟨L, hL⟩ : ∃ L, outs es (x1 : Int) = L := ⟨_, rfl⟩
        have HNX : Hid (nxI es n t d2 L = (y1 : Int)) := by
          unfold Hid nxI
          have e : L.find? (fun y => dist es n t y == some d2) = some y1 := by
            rw [← hL, o1, List.find?_eq_some_iff_append]
            refine ⟨by simpa using (dist_some HG.out hy1).2 o3, l1, l2, rfl, fun z hz => ?_⟩
            have hzm : (x1, z) ∈ es := mem_outs.1 (by rw [o1]; simp [hz])
            have : dist es n t z ≠ some d2 := fun q => o2 z hz ((dist_some HG.out (HG.out _ hzm).2).1 q)
            simpa using this
          rw [e]
        have HLm : Hid (∀ y ∈ L, y < n) := fun y hy => by
          rw [← hL] at hy
          exact (HG.out _ (mem_outs.1 hy)).2
        have hLl : L.length ≤ 1000000 := by rw [← hL]; exact Nat.le_trans (outs_len es (x1 : Int)) hle
        rw [hL] at ko
        clear hL o1 o2 o3 o4 o5 HP HD
        have hs2 := HB.out.size
        go_wp2_with (go_at_call 35; refine ko.mono ?_; rintro e w3 ⟨u3, rfl, ho3, hb3⟩; have HO3 := hide_it (owns_base (base' := w.heap.size) ho3 (fun q hq => by have := (ho3.lt q hq).1; omega)); obtain ⟨ao3, cap3, rfl, _⟩ := own_iat ho3; clear ho3)
        have HO4 := hide_it (owns_below HO.out hb3)
        have HB4 := hide_it (HB.out.trans (hb3.mono hs2))
        clear ko HO HB hb3
        go_loopw [11, 12] (fun nx i W => ∃ k : Nat, k ≤ L.length ∧ i = .int .i64 k ∧ nx = .int .i64 (nxI es n t d2 (L.take k)) ∧ Hid (OwnI W w.heap.size u8 (q ++ [x1])) ∧ Hid (OwnI W w.heap.size (.slice ao3 L.length cap3) L) ∧ Hid (Below w.heap.size w W)) (fun _ i _ => L.length - (intOf i).toNat)
        case atStart => exact ⟨0, Nat.zero_le _, rfl, rfl, HO4, HO3, HB4⟩
        case round =>
          obtain ⟨k, hk, rfl, rfl, HO5, HL5, HB5⟩ := hrel
          clear HO4 HO3 HB4
          by_cases hkl : k < L.length
          · obtain ⟨rb, rfl, hrb, c1⟩ := (own_at HL5.out).2 k hkl
            have hy := HLm.out _ (List.getElem_mem hkl)
            have HST := hide_it (nxI_step (es := es) (n := n) (t := t) (d := d2) hkl)
            have kf := far_any (HR.out.below HB5.out) hn HG.out hle (L[k] : Int) (t : Int)
            have HFE := hide_it (far_eq HG.out (d := d2) hy ht)
            have hfb := far_bound HG.out (L[k] : Int) (t : Int)
            have HDS := hide_it (dist_some (t := t) (d := d2) HG.out hy)
            have hs5 := HB5.out.size
            generalize L[k] = z at *
            by_cases hneg : nxI es n t d2 (L.take k) < 0
            · have hneg1 : decide (nxI es n t d2 (L.take k) < 0) = true := by simpa using hneg
              by_cases hq : farI es n (z : Int) (t : Int) = (d2 : Int)
              · rw [if_pos ⟨hneg, HDS.out.2 (HFE.out.1 hq)⟩] at HST
                rw [hq] at kf
                clear HFE HDS hfb
                generalize nxI es n t d2 (L.take k) = nv at *
                go_wp2_with (go_at_call 34; refine kf.mono ?_; rintro e w6 ⟨rfl, hb6⟩; have c2 : w6.cell? ⟨rb, k, none⟩ = some (.int .i64 z) := (by rw [hb6.cell (p := ⟨rb, k, none⟩) hrb]; exact c1))
                go_roundw
                case rel => exact ⟨k + 1, by omega, by go_num, by rw [HST.out], owns_below HO5.out hb6, owns_below HL5.out hb6, HB5.out.trans (hb6.mono hs5)⟩
                case measure => simp [intOf]; omega
              · rw [if_neg (fun z => hq (HFE.out.2 (HDS.out.1 z.2)))] at HST
                have hq1 : (farI es n (z : Int) (t : Int) == (d2 : Int)) = false := by simpa using hq
                clear HFE HDS
                generalize farI es n (z : Int) (t : Int) = fz at *
                generalize nxI es n t d2 (L.take k) = nv at *
                go_wp2_with (go_at_call 34; refine kf.mono ?_; rintro e w6 ⟨rfl, hb6⟩)
                go_roundw
                case rel => exact ⟨k + 1, by omega, by go_num, by rw [HST.out], owns_below HO5.out hb6, owns_below HL5.out hb6, HB5.out.trans (hb6.mono hs5)⟩
                case measure => simp [intOf]; omega
            · have hneg1 : decide (nxI es n t d2 (L.take k) < 0) = false := by simpa using hneg
              rw [if_neg (fun z => hneg z.1)] at HST
              clear HFE HDS hfb kf
              generalize nxI es n t d2 (L.take k) = nv at *
              go_wp2
              go_roundw
              case rel => exact ⟨k + 1, by omega, by go_num, by rw [HST.out], HO5, HL5, HB5⟩
              case measure => simp [intOf]; omega
          · have e1 : nxI es n t d2 (L.take k) = (y1 : Int) := by rw [List.take_of_length_le (by omega)]; exact HNX.out
            rw [e1]
            clear e1
            have hs5 := HB5.out.size
            go_wp2_with (at_builtin; (refine wpList_append_tell _ rfl (.tmp 58) (.tmp 60) 33 rfl w.heap.size 3 i0 _ 1 8 Tryd.underlying33 hi hz0 hz1 hz2 rfl (by decide) _ (q ++ [x1]).length ((q ++ [x1]).map fun x => Value.int .i64 (x : Nat)) rfl (HO5.out.alloc _) ⟨_, 0, none⟩ 1 1 [.int .i64 y1] rfl rfl (World.news_of_block (heap_alloc_at rfl _)) (by simp [Value.oneCell']) (by unfold maxLen; omega) (by omega) (by simp; omega) ?_; intro v' w2 hown' hgrow hfr))
            go_roundw
            case rel => exact ⟨d2, y1, q ++ [x1], by go_num, rfl, hy1, by omega, hql, HY, own_snoc hown', HP2, (HB5.out.alloc (by omega) _).grown hgrow (by simp; omega) (fun q hq => (HO5.out.lt q hq).1)⟩
            case measure => simp [intOf]
end Go.Proofs.YtpbncoaonminoaaDoor
