/- LexLines: lines have nothing to do with each other. -/
import Derived.Test.YtlbiiffjodllnaaRowsC
import Derived.Test.YtlbiiffjodllnaaMathC
namespace Go.Proofs.Ytlbiiffjodllnaa
open Go.RowKit
open M
set_option linter.unusedVariables false

theorem not10 {c : UInt8} (h : c ≠ 10) : ((c.toNat : Nat) : Int) ≠ 10 := fun e => by
  have h' : c.toNat = 10 := by omega
  exact h (UInt8.toNat_inj.1 h')


set_option maxRecDepth 1000000 in
set_option maxHeartbeats 4000000 in
theorem lexLines_walk (a0 : Option Addr) (b0 : List UInt8) (cap0 : Nat) (a1 : Option Addr) (b1 : List UInt8) (cap1 : Nat) (w : World)
    (hl0 : b0.length ≤ cap0) (hm0 : cap0 ≤ maxLen) (hb0 : Bytes w a0 b0) (hl1 : b1.length ≤ cap1) (hm1 : cap1 ≤ maxLen) (hb1' : Bytes w a1 b1) (hn0 : a0 = none → cap0 = 0) (hn1 : a1 = none → cap1 = 0) :
    Calls Try.prog 5 #[.slice a0 b0.length cap0, .slice a1 b1.length cap1] w fun e w' => e = .returned (.bool true) ∧ Below w.heap.size w w' := by
  have hmin : ∀ ts t W, (Builtin.min_ ts t #[.int .i64 (b0.length : Int), .int .i64 1000]).run Try.prog W = .ok (.int .i64 ((min 1000 b0.length : Nat) : Int)) W := min_is b0.length 1000
  have hmin1 : ∀ ts t W, (Builtin.min_ ts t #[.int .i64 (b1.length : Int), .int .i64 1000]).run Try.prog W = .ok (.int .i64 ((min 1000 b1.length : Nat) : Int)) W := min_is b1.length 1000
  obtain ⟨bs, hbs⟩ : ∃ bs, bs = b0.take 1000 := ⟨_, rfl⟩
  obtain ⟨ms, hms⟩ : ∃ ms, ms = b1.take 1000 := ⟨_, rfl⟩
  have hlen : bs.length = min 1000 b0.length := by rw [hbs]; simp
  have hlen1 : ms.length = min 1000 b1.length := by rw [hms]; simp
  have hbb : Bytes w a0 bs := by rw [hbs]; exact hb0.take 1000
  have hbm : Bytes w a1 ms := by rw [hms]; exact hb1'.take 1000
  have hlc : bs.length ≤ cap0 := by omega
  have hle : bs.length ≤ 1000 := by omega
  have hlc1 : ms.length ≤ cap1 := by omega
  have hle1 : ms.length ≤ 1000 := by omega
  rw [← hlen] at hmin
  rw [← hlen1] at hmin1
  have HBB : Hid (Bytes w a0 bs) := hbb
  have HBM : Hid (Bytes w a1 ms) := hbm
  have HN0 : Hid (a0 = none → cap0 = 0) := hn0
  have HN1 : Hid (a1 = none → cap1 = 0) := hn1
  have k1 : ∀ W, Below w.heap.size w W → Calls Try.prog 11 #[.slice a0 bs.length cap0] W fun e w' => ∃ v', e = .returned (.tuple #[v', .int .i64 (lexF bs).2.1, .int .i64 (lexF bs).2.2]) ∧ Own w' W.heap.size v' (lexF bs).1 ∧ Below W.heap.size W w' := fun W hW => lex_any a0 cap0 bs W hlc hm0 (hbb.below hW)
  have k2 : ∀ W, Below w.heap.size w W → Calls Try.prog 11 #[.slice a1 ms.length cap1] W fun e w' => ∃ v', e = .returned (.tuple #[v', .int .i64 (lexF ms).2.1, .int .i64 (lexF ms).2.2]) ∧ Own w' W.heap.size v' (lexF ms).1 ∧ Below W.heap.size W w' := fun W hW => lex_any a1 cap1 ms W hlc1 hm1 (hbm.below hW)
  have hT := lex_two bs ms (by simp; omega)
  obtain ⟨ZZ, hZZ⟩ : ∃ Z, lexF (bs ++ [10] ++ ms) = Z := ⟨_, rfl⟩
  obtain ⟨zt, zn, ze⟩ := ZZ
  have HZZ : Hid (lexF (bs ++ [10] ++ ms) = (zt, zn, ze)) := hZZ
  rw [hZZ] at hT
  have HT : Hid _ := hT
  clear hZZ hT
  unfold maxLen at hm0 hm1
  obtain ⟨i0, hi, hz0, hz1, hz2⟩ := info_parts Try.info5b
  clear hlen hbs hb0 hlen1 hms hb1' hbb hbm hn0 hn1
  obtain ⟨L1, hL1⟩ : ∃ L, lexF bs = L := ⟨_, rfl⟩
  obtain ⟨L2, hL2⟩ : ∃ L, lexF ms = L := ⟨_, rfl⟩
  obtain ⟨X, n1, e1⟩ := L1
  obtain ⟨Y, n2, e2⟩ := L2
  have HL1 : Hid (lexF bs = (X, n1, e1)) := hL1
  have HL2 : Hid (lexF ms = (Y, n2, e2)) := hL2
  rw [hL1] at k1
  rw [hL2] at k2
  simp only at k1 k2
  have hBD1 : e1 ≠ 0 → e1 = 2 ∧ X = [] ∧ 1 ≤ n1 ∧ n1 ≤ bs.length + 1 := fun h => by have := lex_bad (bs := bs) (by omega) (by rw [hL1]; exact h); rw [hL1] at this; exact this
  have hBD2 : e2 ≠ 0 → e2 = 2 ∧ Y = [] ∧ 1 ≤ n2 ∧ n2 ≤ ms.length + 1 := fun h => by have := lex_bad (bs := ms) (by omega) (by rw [hL2]; exact h); rw [hL2] at this; exact this
  have HBD1 : Hid _ := hBD1
  have HBD2 : Hid _ := hBD2
  clear hL1 hL2 hBD1 hBD2
  go_enter Try.func5, Try.ntmps5
  go_wp2_with (go_at_call 10; refine (shown_any _).mono ?_; rintro e w1 ⟨rfl, hb1⟩)
  go_loop [6, 7] (fun lv iv => ∃ k l : Nat, k ≤ bs.length ∧ l ≤ k ∧ iv = .int .i64 k ∧ lv = .int .i64 ((l : Int) + 1) ∧ l = lines (bs.take k)) (fun _ iv => bs.length - (intOf iv).toNat)
  case atStart => exact ⟨0, 0, Nat.zero_le _, Nat.le_refl _, rfl, rfl, rfl⟩
  case round =>
    obtain ⟨k, l, hk, hlk, rfl, rfl, hlines⟩ := hrel
    have HLI : Hid (l = lines (bs.take k)) := hlines
    clear hlines
    by_cases hlt : k < bs.length
    · obtain ⟨b, of, rfl, hcw⟩ := HBB.out k hlt
      have hc : w1.cell? ⟨b, of + k, none⟩ = some (.int .u8 ((bs[k].toNat : Nat) : Int)) := (hb1.cell (p := ⟨b, of + k, none⟩) (World.block_lt_of_cell? w _ hcw)).trans hcw
      have HTT : Hid (lines (bs.take (k + 1)) = lines (bs.take k) + if bs[k] = 10 then 1 else 0) := by rw [take_snoc hlt, lines_snoc]; exact hide_it rfl
      clear hcw
      by_cases hten : bs[k] = 10
      · have d : (((bs[k].toNat : Nat) : Int) == 10) = true := by rw [hten]; rfl
        have H10 : Hid (bs[k] = 10) := hten
        clear hten
        go_wp2
        go_round
        case rel => exact ⟨k + 1, l + 1, by omega, by omega, by go_num, by go_num, by rw [HTT.out, if_pos H10.out, ← HLI.out]⟩
        case measure => simp [intOf]; omega
      · have d : (((bs[k].toNat : Nat) : Int) == 10) = false := beq_eq_false_iff_ne.2 (not10 hten)
        have H10 : Hid (bs[k] ≠ 10) := hten
        clear hten
        go_wp2
        go_round
        case rel => exact ⟨k + 1, l, by omega, by omega, by go_num, rfl, by rw [HTT.out, if_neg H10.out, ← HLI.out]; rfl⟩
        case measure => simp [intOf]; omega
    · obtain rfl : k = bs.length := by omega
      have HLL : Hid (l = lines bs) := by have := HLI.out; rw [List.take_length] at this; exact this
      clear HLI
      go_wp2_with (go_at_call 11; refine (k1 _ hb1).mono ?_; rintro e w3 ⟨v1, rfl, ho1, hb3⟩; refine Hid.out ?_)
      have hB3 : Below w.heap.size w w3 := hb1.trans (hb3.mono hb1.size)
      have HO1 : Hid (Own w3 w1.heap.size v1 X) := ho1
      clear ho1 hb3 k1
      refine hide_it ?_
      go_wp2_with (go_at_call 11; refine (k2 _ hB3).mono ?_; rintro e w4 ⟨v2, rfl, ho2, hb4⟩; refine Hid.out ?_)
      have HB4 : Hid (Below w.heap.size w w4) := hB3.trans (hb4.mono hB3.size)
      have hsz4 := HB4.out.size
      have HO1' : Hid (Own w4 0 v1 X) := Own.low (ownsRow_later HO1.out hb4)
      have HO2 : Hid (Own w4 0 v2 Y) := Own.low ho2
      have HBS4 : Hid (Bytes w4 a0 bs) := HBB.out.below HB4.out
      have HMS4 : Hid (Bytes w4 a1 ms) := HBM.out.below HB4.out
      have HNW : Hid (OwnB (w4.alloc (.cells #[] 5)) w4.heap.size (.slice (some ⟨w4.heap.size, 0, none⟩) 0 0) []) := ownB_new w4 _ (Nat.le_refl _)
      have HBN : Hid (Below w4.heap.size w4 (w4.alloc (.cells #[] 5))) := (Below.refl _ _).alloc (Nat.le_refl _) _
      clear ho2 hb4 k2 hB3 HO1 hmin hmin1
      refine hide_it ?_
      go_wp2_with (first | (at_builtin; refine wpList_append_src _ rfl (.tmp 56) (.tmp 57) rfl w4.heap.size _ [] rfl HNW.out _ _ _ bs rfl rfl (HBS4.out.below HBN.out) HN0.out (by first | omega | (simp; omega)) (by first | omega | simp) ?_; intro v5 w5 hown5 hgrow5; have hbel5 : Below w4.heap.size w4 w5 := below_app2 HBN.out (Nat.le_refl _) HNW.out hgrow5; simp only [List.nil_append] at hown5; have hs5 := hbel5.size) | (at_builtin; refine wpList_append_own _ rfl (.tmp 58) (.tmp 59) 22 rfl w4.heap.size 5 i0 _ 1 1 Try.underlying22 hi hz0 hz1 hz2 rfl (by decide) _ bs.length (bcells bs) rfl (hown5.alloc _) ⟨w5.heap.size, 0, none⟩ 1 1 (bcells [10]) rfl rfl (World.news_of_block (heap_alloc_new w5 _)) (bcells_one _) (by unfold maxLen; omega) (by omega) (by simp; omega) ?_; intro v6 w6 hown6' hgrow6 hjunk; clear hjunk; have hown6 : OwnB w6 w4.heap.size v6 (bs ++ [10]) := ownB_app hown6'; clear hown6'; have hbel6 : Below w4.heap.size w4 w6 := (hbel5.alloc hs5 _).grown hgrow6 (by simp; omega) (fun q hq => (hown5.lt q hq).1); have hs6 := hbel6.size) | (at_builtin; refine wpList_append_src _ rfl (.tmp 60) (.tmp 61) rfl w4.heap.size _ (bs ++ [10]) rfl hown6 _ _ _ ms rfl rfl (HMS4.out.below hbel6) HN1.out (by first | omega | (simp; omega)) (by first | omega | simp) ?_; intro v7 w7 hown7 hgrow7; have hbel7 : Below w4.heap.size w4 w7 := below_app2 hbel6 (Nat.le_refl _) hown6 hgrow7; have kz := lex_own hown7; rw [HZZ.out] at kz) | (go_at_call 11; refine kz.mono ?_; rintro e w8 ⟨v8, rfl, ho8, hb8⟩; refine Hid.out ?_))
      have HX : Hid (Own w8 0 v1 X) := ownsRow_later (ownsRow_later HO1'.out hbel7) hb8
      have HY : Hid (Own w8 0 v2 Y) := ownsRow_later (ownsRow_later HO2.out hbel7) hb8
      have HZ : Hid (Own w8 0 v8 zt) := Own.low ho8
      have HB8 : Hid (Below w.heap.size w w8) := HB4.out.trans ((hbel7.mono hsz4).trans (hb8.mono (by have := hbel7.size; omega)))
      have T := HT.out
      rw [HL1.out, HL2.out] at T
      clear HT ho8 hb8 hbel7 hbel6 hbel5 hown7 hown6 hown5 hgrow7 hgrow6 hgrow5 HNW HBN HO1' HO2 HBS4 HMS4 kz
      clear HZZ
      simp only at T
      obtain ⟨T1, T2, T3⟩ := T
      by_cases he1 : e1 = 0
      · subst he1
        by_cases he2 : e2 = 0
        · subst he2
          have HY1 : Hid (∀ t ∈ Y, t.line ≤ ms.length + 1) := (lex_good HL2.out).2.1
          have HZE : Hid (zt = X ++ Y.map (shift (lines bs + 1))) := by have := T3 rfl rfl; cases this; exact hide_it rfl
          obtain ⟨rfl, rfl⟩ : zn = 0 ∧ ze = 0 := by have := T3 rfl rfl; cases this; exact ⟨rfl, rfl⟩
          clear T1 T2 T3 HL1 HL2 HBD1 HBD2
          have HZL : Hid (zt.length = X.length + Y.length) := by rw [HZE.out]; simp [Hid]
          obtain ⟨ax, cx, rfl, hx1, hx2⟩ := own_slice HX.out
          obtain ⟨ay, cy, rfl, hy1, hy2⟩ := own_slice HY.out
          obtain ⟨az, cz, hvz, hz1', hz2'⟩ := own_slice HZ.out
          rw [HZL.out] at hvz hz1'
          subst hvz
          unfold maxLen at hx2 hy2 hz2'
          refine hide_it ?_
          go_wp2
          go_loopw [17] (fun iv wx => ∃ i : Nat, i ≤ X.length + Y.length ∧ iv = .int .i64 i ∧ Own wx 0 (.slice ax X.length cx) X ∧ Own wx 0 (.slice ay Y.length cy) Y ∧ Own wx 0 (.slice az (X.length + Y.length) cz) zt ∧ Below w.heap.size w wx) (fun iv _ => X.length + Y.length - (intOf iv).toNat)
          case atStart => exact ⟨0, Nat.zero_le _, rfl, HX.out, HY.out, HZ.out, HB8.out⟩
          case round =>
            obtain ⟨i, hin, rfl, hx, hy, hz, hbw⟩ := hrel
            have H1 : Hid (Own wr 0 (.slice ax X.length cx) X) := hx
            have H2 : Hid (Own wr 0 (.slice ay Y.length cy) Y) := hy
            have H3 : Hid (Own wr 0 (.slice az (X.length + Y.length) cz) zt) := hz
            have hszr := hbw.size
            by_cases hit : i < X.length + Y.length
            · rw [← HZL.out] at hz
              have hiz : i < zt.length := by rw [HZL.out]; exact hit
              obtain ⟨gz, xz, ez, _, hgz⟩ := hz.form (by omega)
              cases ez
              obtain ⟨q0, q1, q2⟩ := Own.cellsAt hz i hiz
              by_cases hix : i < X.length
              · obtain ⟨gx, xx, ex, _, hgx⟩ := hx.form (by omega)
                cases ex
                obtain ⟨p0, p1, p2⟩ := Own.cellsAt hx i hix
                have hzi : zt[i] = X[i] := by simp only [HZE.out, List.getElem_append_left hix]
                rw [hzi] at q0 q1 q2
                clear hzi hx hy hz hiz
                go_wp2
                go_region
                go_wp2
                go_roundw
                case rel => exact ⟨i + 1, by omega, by go_num, H1.out.alloc _, H2.out.alloc _, H3.out.alloc _, (hbw.alloc hszr _).drew⟩
                case measure => simp [intOf]; omega
              · have hjy : i - X.length < Y.length := by omega
                obtain ⟨gy, xy, ey, _, hgy⟩ := hy.form (by omega)
                cases ey
                obtain ⟨p0, p1, p2⟩ := Own.cellsAt hy (i - X.length) hjy
                have hzi : zt[i] = shift (lines bs + 1) Y[i - X.length] := by simp only [HZE.out, List.getElem_append_right (by omega : X.length ≤ i), List.getElem_map]
                have hyl := HY1.out _ (List.getElem_mem hjy)
                rw [hzi] at q0 q1 q2
                have q2' : wr.cell? ⟨gz, i * 3 + 2, none⟩ = some (.int .i64 (((Y[i - X.length].line : Nat) : Int) + ((l : Int) + 1))) := by rw [q2, HLL.out]; simp [shift]
                have q0' : wr.cell? ⟨gz, i * 3, none⟩ = some (.int .i64 ((Y[i - X.length].kind : Nat) : Int)) := q0
                have q1' : wr.cell? ⟨gz, i * 3 + 1, none⟩ = some (.string ⟨Y[i - X.length].text.toArray⟩) := q1
                clear hzi hx hy hz hiz q0 q1 q2
                go_wp2
                go_region
                go_wp2
                go_roundw
                case rel => exact ⟨i + 1, by omega, by go_num, H1.out.alloc _, H2.out.alloc _, H3.out.alloc _, (hbw.alloc hszr _).drew⟩
                case measure => simp [intOf]; omega
            · go_wp2
              go_ret
              exact ⟨rfl, hbw⟩
        · obtain ⟨rfl, rfl, hn2, hn3⟩ := HBD2.out he2
          have HE := T2 rfl he2
          cases HE
          obtain ⟨a8, c8, rfl, _, _⟩ := own_slice HZ.out
          have hll : lines bs = l := HLL.out.symm
          clear T1 T2 T3 HL1 HL2 HBD1 HBD2
          refine hide_it ?_
          go_wp2
          go_ret
          exact ⟨rfl, HB8.out⟩
      · obtain ⟨rfl, rfl, hn2, hn3⟩ := HBD1.out he1
        have HE := T1 he1
        cases HE
        obtain ⟨a8, c8, rfl, _, _⟩ := own_slice HZ.out
        clear T1 T2 T3 HL1 HL2 HBD1 HBD2
        refine hide_it ?_
        go_wp2
        go_ret
        exact ⟨rfl, HB8.out⟩

end Go.Proofs.Ytlbiiffjodllnaa
