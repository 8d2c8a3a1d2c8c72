/- The document's own Wants. -/
import Derived.Test.YtipkgoghodkbfaaDoorWnt
import Derived.Test.YtipkgoghodkbfaaDoorTlB
namespace Go.Proofs.YtipkgoghodkbfaaDoor
open Go.RowKit
open M
set_option linter.unusedVariables false
set_option linter.unusedSimpArgs false

theorem info47 : (Tryd.prog.info? 47).map (fun i => (i.zero, i.size, i.bytes)) = some (some (.agg #[.int .i64 0, .int .i64 0]), 2, 16) := by kernel_rfl
theorem mem_reachL {n : Nat} {es : List E} (hn : n ≤ 64) (hg : ∀ e ∈ es, e.1 < n ∧ e.2 < n) (a : Int) (t : Nat) : t ∈ reachL n es a ↔ reachB n es a (t : Int) = true := by
  unfold reachL reachB
  cases ho : offB n a with
  | true => simp [ho]
  | false =>
    simp only [Bool.false_eq_true, if_false]
    rw [rise_mem _ _ (rset_lt _ _)]
    have ha : 0 ≤ a ∧ a < n := by simp [offB] at ho; omega
    constructor
    · intro h
      have h64 := bit_lt (rset_lt _ _) h
      rw [rset_bit _ _ _ h64] at h
      have hr := (rB_iff _ _ _).1 h
      have ht : t < n := by
        rcases hr.last with e | ⟨c, _, _, he⟩
        · omega
        · exact (hg _ he).2
      have : offB n (t : Int) = false := by simp [offB]; omega
      simp [ho, this, h]
    · intro h
      have h' := Bool.and_eq_true_iff.1 h
      have : offB n (t : Int) = false := by
        cases q : offB n (t : Int) with
        | false => rfl
        | true => simp [ho, q] at h
      have ht : t < n := by simp [offB] at this; omega
      rw [rset_bit _ _ _ (by omega)]
      simpa using h'.2
theorem anyI_all {n : Nat} {es : List E} (hn : n ≤ 64) (hg : ∀ e ∈ es, e.1 < n ∧ e.2 < n) (a b : Int) : anyI (reachL n es a) b = reachB n es a b := by
  rw [Bool.eq_iff_iff]
  unfold anyI
  rw [List.any_eq_true]
  constructor
  · rintro ⟨x, hx, e⟩
    have e : (x : Int) = b := by simpa using e
    rw [← e]
    exact (mem_reachL hn hg a x).1 hx
  · intro h
    have hb : offB n b = false := by
      unfold reachB at h
      cases q : offB n b with
      | false => rfl
      | true => simp [q] at h
    have hr : 0 ≤ b ∧ b < n := by simp [offB] at hb; omega
    obtain ⟨y, rfl⟩ : ∃ y : Nat, b = y := ⟨b.toNat, by omega⟩
    exact ⟨y, (mem_reachL hn hg a y).2 h, by simp⟩

set_option maxRecDepth 1000000 in
set_option maxHeartbeats 8000000 in
theorem rwants_any {w : World} {g N : Nat} {v : Value} {es : List E} (h : RM w g N v es) (hN : N ≤ 64) (hg : ∀ e ∈ es, e.1 < N ∧ e.2 < N) (hle : es.length ≤ 1000000) {ta aa ia ra : Option Addr} {xs ids roots : List Int} {A : List (Int × Int)} {m tc n ac p ic q rc : Nat}
    (hx : NIn w ta xs) (hm : xs.length = m) (hm6 : m ≤ 1000000) (hA : LIn w aa A) (hn : A.length = n) (hi : NIn w ia ids) (hp : ids.length = p) (hp6 : p ≤ 1000000) (hr : NIn w ra roots) (hq : roots.length = q) (hq6 : q ≤ 1000000) :
    Calls Tryd.prog 18 #[ptr g, .slice ta m tc, .slice aa n ac, .slice ia p ic, .slice ra q rc] w fun e w' => ∃ u v, e = .returned (.tuple #[u, v]) ∧ Hid (R2 47 w.heap.size w w' u v (wantK N es xs A ids roots (min p q)).1 (wantK N es xs A ids roots (min p q)).2) := by
  have kr : ∀ (W : World) (a b : Int), Below w.heap.size w W → Calls Tryd.prog 35 #[ptr g, .int .i64 a, .int .i64 b] W fun e w' => e = .returned (.bool (reachB N es a b)) ∧ Hid (Below W.heap.size W w') := fun W a b hb => by
    refine (rreaches_any (h.below hb) hN a b hg hle).mono ?_
    rintro e w' ⟨rfl, hb2⟩
    exact ⟨by rw [anyI_all hN hg], hb2⟩
  have s0 : Hid (R2 47 w.heap.size w ((w.alloc (.cells #[] 47)).alloc (.cells #[] 3)) (.slice (some ⟨w.heap.size, 0, none⟩) 0 0) (.slice (some ⟨w.heap.size + 1, 0, none⟩) 0 0) [] []) := by
    have b1 : Below w.heap.size w (w.alloc (.cells #[] 47)) := (Below.refl _ _).alloc (Nat.le_refl _) _
    have o1 : (w.alloc (.cells #[] 47)).ownsRow w.heap.size 47 2 (.slice (some ⟨w.heap.size, 0, none⟩) 0 0) 0 [] := World.ownsRow_made w #[] 0 (Nat.le_refl _) (by simp [maxLen]) (by simp)
    have o2 := ownz_new (w.alloc (.cells #[] 47))
    rw [show (w.alloc (.cells #[] 47)).heap.size = w.heap.size + 1 by simp] at o2
    refine ⟨b1.alloc (by simp) _, by simp; omega, owns_below o1 ((Below.refl _ _).alloc (Nat.le_refl _) _), owns_base o2 (fun k hk => ?_), fun k hk hk2 => ?_⟩
    · have : w.heap.size + 1 = k := Option.some.inj hk
      omega
    · have e1 : w.heap.size = k := Option.some.inj hk
      have e2 : w.heap.size + 1 = k := Option.some.inj hk2
      omega
  have HS : Hid (∀ k (h1 : k < ids.length) (h2 : k < roots.length) (f : Int), fstK N es n xs roots[k] xs.length = f → wantK N es xs A ids roots (k + 1) = if f < 0 then wantK N es xs A ids roots k else ((wantK N es xs A ids roots k).1 ++ [(ids[k], (A.getD f.toNat (0, 0)).2)], (wantK N es xs A ids roots k).2 ++ [f])) := fun k h1 h2 f hf => wantK_step N es xs A ids roots k h1 h2 f (by rw [hn]; exact hf)
  have HFS : Hid (∀ (r : Int) (k : Nat) (h : k < xs.length), fstK N es n xs r (k + 1) = if fstK N es n xs r k < 0 ∧ takB N es n r xs[k] = true then xs[k] else fstK N es n xs r k) := fun r k h => fstK_step N es n xs r k h
  have HF0 : Hid (∀ r, fstK N es n xs r 0 = -1) := fun r => rfl
  have HFC := hide_it (fstK_cases N es n xs)
  have HL := hide_it (wantK_len N es xs A ids roots)
  obtain ⟨FK, hFK⟩ : ∃ f, fstK N es n xs = f := ⟨_, rfl⟩
  rw [hFK] at HS HFS HF0 HFC
  obtain ⟨WK, hWK⟩ : ∃ f, wantK N es xs A ids roots = f := ⟨_, rfl⟩
  have H0 : Hid (WK 0 = ([], [])) := by unfold Hid; rw [← hWK]; rfl
  have HWK := hide_it hWK
  rw [hWK] at HS HL
  have HXr := hide_it hx
  have HRr := hide_it hr
  have HIr := hide_it hi
  have HAr := hide_it hA
  have HM := hide_it hm
  have HP := hide_it hp
  have HQ := hide_it hq
  have HNl := hide_it hn
  obtain ⟨i0, hi0, hz0, hz1', hz2'⟩ := info_parts info3
  obtain ⟨i4, hi4, hy0, hy1, hy2⟩ := info_parts info47
  clear h hN hg hle hx hm hA hi hp hr hq hn hWK hFK
  go_enter Tryd.func18, Tryd.ntmps18
  go_wp2
  go_loopw [12, 13, 14] (fun u v i W => ∃ k : Nat, k ≤ p ∧ k ≤ q ∧ i = .int .i64 k ∧ ∃ (U : List (Int × Int)) (O : List Int), Hid (WK k = (U, O)) ∧ Hid (R2 47 w.heap.size w W u v U O)) (fun _ _ i _ => p - (intOf i).toNat)
  case atStart => exact ⟨0, Nat.zero_le _, Nat.zero_le _, rfl, [], [], H0, s0⟩
  case round =>
    obtain ⟨k, hk, hk2, rfl, U, O, HK, s4⟩ := hrel
    obtain ⟨w4, rfl⟩ : ∃ W, W = wr := ⟨_, rfl⟩
    by_cases hlt : k < p
    · by_cases hlt2 : k < q
      · have hkp : k < ids.length := by rw [HP.out]; omega
        have hkq : k < roots.length := by rw [HQ.out]; omega
        have HT := hide_it (HS.out k hkp hkq _ rfl)
        rw [HK.out] at HT
        have HLk := HL.out k
        rw [HK.out] at HLk
        obtain ⟨hlU, hlO⟩ := HLk
        simp only at hlU hlO
        obtain ⟨rb, ro, rfl, hrb, cR⟩ := (HRr.out.below s4.out.bel (Nat.le_refl _)) k hkq
        generalize roots[k] = r at *
        clear HS HL HK
        go_wp2
        go_loopw [15, 16] (fun a i W => ∃ j : Nat, j ≤ m ∧ i = .int .i64 j ∧ ∃ f : Int, a = .int .i64 f ∧ Hid (FK r j = f) ∧ Hid (Below w4.heap.size w4 W)) (fun _ i _ => m - (intOf i).toNat)
        case atStart => exact ⟨0, Nat.zero_le _, rfl, -1, rfl, HF0.out r, Below.refl _ _⟩
        case round =>
          obtain ⟨j, hj, rfl, f, rfl, HFj, b5⟩ := hrel
          obtain ⟨w5, rfl⟩ : ∃ W, W = wr := ⟨_, rfl⟩
          by_cases hjm : j < m
          · have hjx : j < xs.length := by rw [HM.out]; exact hjm
            have hW5 := s4.out.bel.trans (b5.out.mono s4.out.le)
            obtain ⟨xb, xo, rfl, hxb, cX⟩ := (HXr.out.below hW5 (Nat.le_refl _)) j hjx
            have HT5 := hide_it (HFS.out r j hjx)
            rw [HFj.out] at HT5
            generalize xs[j] = x at *
            have cR5 : w5.cell? ⟨rb, ro + k, none⟩ = some (.int .i64 r) := by rw [b5.out.cell (p := ⟨rb, ro + k, none⟩) hrb]; exact cR
            have kr' := kr w5 r x hW5
            clear HT HFS HF0 HFC HFj hW5
            cases hpl : plB n x with
            | false =>
              have HT6 : Hid (FK r (j + 1) = f) := by unfold Hid; rw [HT5.out, if_neg (by unfold takB; rw [hpl]; simp)]
              clear HT5 kr'
              by_cases hx0 : 0 ≤ x
              · have q1 : decide (0 ≤ x) = true := by simpa using hx0
                have q2 : decide (x < n) = false := by unfold plB at hpl; rw [q1] at hpl; simpa using hpl
                clear hpl
                · as_aux_lemma =>
                  go_wp2
                  go_roundw
                  case rel => exact ⟨j + 1, by omega, by go_num, f, rfl, HT6, b5⟩
                  case measure => simp [intOf]; omega
              · have q1 : decide (0 ≤ x) = false := by simpa using hx0
                clear hpl
                · as_aux_lemma =>
                  go_wp2
                  go_roundw
                  case rel => exact ⟨j + 1, by omega, by go_num, f, rfl, HT6, b5⟩
                  case measure => simp [intOf]; omega
            | true =>
              have hr2 := plB_iff.1 hpl
              have q1 : decide (0 ≤ x) = true := by simpa using hr2.1
              have q2 : decide (x < n) = true := by simpa using hr2.2
              cases hR : reachB N es r x with
              | false =>
                rw [hR] at kr'
                have HT6 : Hid (FK r (j + 1) = f) := by unfold Hid; rw [HT5.out, if_neg (by unfold takB; rw [hpl, hR]; simp)]
                clear HT5 hpl hR hr2
                · as_aux_lemma =>
                  go_wp2_with (go_at_call 35; refine kr'.mono ?_; rintro e w6 ⟨rfl, b6⟩)
                  go_roundw
                  case rel => exact ⟨j + 1, by omega, by go_num, f, rfl, HT6, b5.out.trans (b6.out.mono b5.out.size)⟩
                  case measure => simp [intOf]; omega
              | true =>
                rw [hR] at kr'
                by_cases hf : f < 0
                · have q3 : decide (f < 0) = true := by simpa using hf
                  have HT6 : Hid (FK r (j + 1) = x) := by unfold Hid; rw [HT5.out, if_pos ⟨hf, by unfold takB; rw [hpl, hR]; rfl⟩]
                  clear HT5 hpl hR hr2
                  · as_aux_lemma =>
                    go_wp2_with (go_at_call 35; refine kr'.mono ?_; rintro e w6 ⟨rfl, b6⟩)
                    go_roundw
                    case rel => exact ⟨j + 1, by omega, by go_num, x, rfl, HT6, b5.out.trans (b6.out.mono b5.out.size)⟩
                    case measure => simp [intOf]; omega
                · have q3 : decide (f < 0) = false := by simpa using hf
                  have HT6 : Hid (FK r (j + 1) = f) := by unfold Hid; rw [HT5.out, if_neg (fun q => hf q.1)]
                  clear HT5 hpl hR hr2
                  · as_aux_lemma =>
                    go_wp2_with (go_at_call 35; refine kr'.mono ?_; rintro e w6 ⟨rfl, b6⟩)
                    go_roundw
                    case rel => exact ⟨j + 1, by omega, by go_num, f, rfl, HT6, b5.out.trans (b6.out.mono b5.out.size)⟩
                    case measure => simp [intOf]; omega
          · obtain rfl : j = m := by omega
            rw [HM.out, HFj.out] at HT
            have hfc := HFC.out r j
            rw [HFj.out] at hfc
            have s6 := hide_it (s4.out.step b5.out)
            clear b5 s4 HFj cR HFS HF0 HFC kr
            by_cases hf : f < 0
            · have q3 : decide (0 ≤ f) = false := by simpa using hf
              have HT2 : Hid (WK (k + 1) = (U, O)) := by unfold Hid; rw [HT.out, if_pos hf]
              clear HT
              · as_aux_lemma =>
                go_wp2
                go_roundw
                case rel => exact ⟨k + 1, by omega, by omega, by go_num, U, O, HT2, s6⟩
                case measure => simp [intOf]; omega
            · obtain ⟨fi, rfl⟩ : ∃ fi : Nat, f = fi := ⟨f.toNat, by omega⟩
              have hfi : fi < n := by omega
              have hfiA : fi < A.length := by rw [HNl.out]; exact hfi
              have hb3 := s6.out.bel
              have hb3s := s6.out.le
              obtain ⟨ib, io, rfl, hib, cI⟩ := HIr.out k hkp
              obtain ⟨ab, ao, rfl, hab, -, cA⟩ := HAr.out fi hfiA
              have HT2 : Hid (WK (k + 1) = (U ++ [(ids[k], A[fi].2)], O ++ [(fi : Int)])) := by unfold Hid; rw [HT.out, if_neg (by omega), Int.toNat_natCast, getD_at hfiA]
              have hkpp : k < p := by omega
              clear HT hfc hf
              generalize ids[k] = d at *
              generalize A[fi].2 = cost at *
              generalize hw6 : w5 = w6 at *
              clear hw6
              have hib6 : ib < w6.heap.size := Nat.lt_of_lt_of_le hib hb3s
              have hab6 : ab < w6.heap.size := Nat.lt_of_lt_of_le hab hb3s
              have e1 : w6.cell? ⟨ib, io + k, none⟩ = some (.int .i64 d) := by rw [hb3.cell (p := ⟨ib, io + k, none⟩) hib]; exact cI
              have e2 : w6.cell? ⟨ab, ao + fi * 2 + 1, none⟩ = some (.int .i64 cost) := by rw [hb3.cell (p := ⟨ab, ao + fi * 2 + 1, none⟩) hab]; exact cA
              have HC : Hid (∀ Wa w7, Below w6.heap.size w6 Wa → Wa.grownBy w7 u12.ownBlock → w7.cell? ⟨ib, io + k, none⟩ = some (.int .i64 d) ∧ w7.cell? ⟨ab, ao + fi * 2 + 1, none⟩ = some (.int .i64 cost)) := fun Wa w7 hWa hg => by
                have hs := hWa.size
                have key : ∀ b, b < w6.heap.size → u12.ownBlock ≠ some b → w7.heap[b]? = w6.heap[b]? := fun b hb hn => by
                  rw [hg.block b (by omega) (fun e => hn e.symm), hWa.block b hb]
                have old : ∀ b, b < w.heap.size → u12.ownBlock ≠ some b := fun b hb e => by have := (s6.out.o1.lt b e).1; omega
                exact ⟨by rw [World.cell?_of_block (w := w6) (key ib hib6 (old ib hib))]; exact e1, by rw [World.cell?_of_block (w := w6) (key ab hab6 (old ab hab))]; exact e2⟩
              have HO3 : Hid (∀ V, Below w6.heap.size w6 V → V.ownsRow w.heap.size 47 2 u12 U.length (icells U)) := fun V hb => owns_below s6.out.o1 hb
              clear cI cA hb3 hib hab
              · as_aux_lemma =>
                go_upto_region 15 with fail
                (go_region_held3 (fun V => V.cell? ⟨ib, io + k, none⟩ = some (.int .i64 d) ∧ V.cell? ⟨ab, ao + fi * 2 + 1, none⟩ = some (.int .i64 cost)) (first | go_keep | exact hS4) ((rw [if_pos (by rfl)]; refine wp_append_tell _ (.tmp 68) (.tmp 79) 41 rfl w.heap.size 47 i4 _ 2 16 Tryd.underlying41 hi4 hy0 hy1 hy2 rfl (by decide) _ U.length (icells U) rfl (HO3.out _ (((Below.refl _ _).drew).alloc (by simp) _)) ⟨_, 0, none⟩ 1 1 [.int .i64 d, .int .i64 cost] rfl rfl (World.news_of_block (heap_alloc_at (by simp) _)) (by simp [Value.oneCell']) (by unfold maxLen; omega) (by omega) (by simp; omega) ?_; intro v' w7 hown' hgrow hfr; have hS4 := HC.out _ _ (((Below.refl _ _).drew).alloc (by simp) _) hgrow; have s7 := hide_it (s6.out.put1 (((Below.refl _ _).drew).alloc (by simp) _) hown' hgrow hfr))))
                all_goals
                  have s7o := hide_it s7.out.o2
                  have s7l := s7.out.le
                  go_wp2_with (at_builtin; (refine wpList_append_tell _ rfl (.tmp 81) (.tmp 83) 22 rfl w.heap.size 3 i0 _ 1 8 Tryd.underlying22 hi0 hz0 hz1' hz2' rfl (by decide) _ O.length (O.map fun x => Value.int .i64 x) rfl (s7o.out.alloc _) ⟨_, 0, none⟩ 1 1 [.int .i64 fi] rfl rfl (World.news_of_block (heap_alloc_at rfl _)) (by simp [Value.oneCell']) (by unfold maxLen; omega) (by omega) (by simp; omega) ?_; intro v8 w8 hown8 hgrow8 hfr8; have s8 := hide_it (s7.out.put2 ((Below.refl _ _).alloc (Nat.le_refl _) _) hown8 hgrow8 hfr8)))
                  go_roundw
                  case rel => exact ⟨k + 1, by omega, by omega, by go_num, U ++ [(d, cost)], O ++ [(fi : Int)], HT2, s8⟩
                  case measure => simp [intOf]; omega
      · have q2 : decide ((k : Int) < q) = false := by simp; omega
        have HE : Hid (min p q = k) := by unfold Hid; omega
        go_wp2
        go_ret2
        exact ⟨_, _, rfl, by rw [HE.out, HWK.out, HK.out]; exact s4.out⟩
    · have q2 : decide ((k : Int) < p) = false := by simp; omega
      have HE : Hid (min p q = k) := by unfold Hid; omega
      go_wp2
      go_ret2
      exact ⟨_, _, rfl, by rw [HE.out, HWK.out, HK.out]; exact s4.out⟩
end Go.Proofs.YtipkgoghodkbfaaDoor
