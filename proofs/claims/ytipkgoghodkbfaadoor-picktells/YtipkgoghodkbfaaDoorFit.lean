/- Fits, and the document's own. -/
import Derived.Test.YtipkgoghodkbfaaDoorDlg
import Derived.Test.YtipkgoghodkbfaaDoorCln
namespace Go.Proofs.YtipkgoghodkbfaaDoor
open Go.RowKit
open M
set_option linter.unusedVariables false
set_option linter.unusedSimpArgs false

theorem keep_fits (A : List (Int × Int)) (room : Int) (xs : List Int) : keepL (fun x => !fitB A room x) xs xs.length = fitsL A room xs := by
  unfold keepL fitsL
  rw [List.take_length]
  congr 1
  funext x
  simp
theorem fitB_off {A : List (Int × Int)} {room x : Int} (h : plB A.length x = false) : fitB A room x = false := by unfold fitB; rw [h]; rfl
theorem fitB_at {A : List (Int × Int)} {room : Int} (i : Nat) (h : i < A.length) : fitB A room (i : Int) = decide (A[i].1 ≤ room) := by
  unfold fitB
  rw [show plB A.length (i : Int) = true from plB_iff.2 ⟨by omega, by omega⟩, Int.toNat_natCast, getD_at h]
  rfl

set_option maxRecDepth 1000000 in
set_option maxHeartbeats 2000000 in
theorem over_any {W : World} {c1 c2 n ac : Nat} {aa : Option Addr} {A : List (Int × Int)} {room : Int} (x : Int) (h1 : W.cell? ⟨c1, 0, none⟩ = some (.slice aa n ac)) (h2 : W.cell? ⟨c2, 0, none⟩ = some (.int .i64 room)) (hA : LIn W aa A) (hn : A.length = n) :
    Calls Tryd.prog 28 #[.int .i64 x, ptr c1, ptr c2] W fun e w' => e = .returned (.bool (!fitB A room x)) ∧ ∃ q, w' = W.drewN q := by
  have kp := fun j => place_any n x (W.drewN j)
  cases hp : plB n x with
  | false =>
    rw [hp] at kp
    rw [fitB_off (by rw [hn]; exact hp)]
    clear hA hp
    go_enter Tryd.func28, Tryd.ntmps28
    go_wp2
    go_big_quiet ((go_at_call 29; exact Calls.quiet_of_same (kp _)))
    go_wp2
    go_ret
    exact ⟨rfl, _, rfl⟩
  | true =>
    rw [hp] at kp
    have hr := plB_iff.1 hp
    obtain ⟨i, rfl⟩ : ∃ i : Nat, x = i := ⟨x.toNat, by omega⟩
    have hi : i < A.length := by omega
    have hin : i < n := by omega
    rw [fitB_at i hi]
    obtain ⟨b, o, rfl, hb, e1, e2⟩ := hA i hi
    generalize A[i] = t at *
    obtain ⟨mem, cost⟩ := t
    simp only at e1 e2 ⊢
    clear hA hp hr hi hn e2
    by_cases hm : mem ≤ room
    · have hd : decide (room < mem) = false := by simp; omega
      have hd2 : decide (mem ≤ room) = true := by simpa using hm
      rw [hd2]
      go_enter Tryd.func28, Tryd.ntmps28
      go_wp2
      go_big_quiet ((go_at_call 29; exact Calls.quiet_of_same (kp _)))
      go_wp2
      go_ret
      exact ⟨rfl, _, rfl⟩
    · have hd : decide (room < mem) = true := by simp; omega
      have hd2 : decide (mem ≤ room) = false := by simpa using hm
      rw [hd2]
      go_enter Tryd.func28, Tryd.ntmps28
      go_wp2
      go_big_quiet ((go_at_call 29; exact Calls.quiet_of_same (kp _)))
      go_wp2
      go_ret
      exact ⟨rfl, _, rfl⟩

set_option maxRecDepth 1000000 in
set_option maxHeartbeats 2000000 in
theorem delf_nil {w : World} {c1 c2 : Nat} (kf : ∀ (k : Nat) (x : Int), x ∈ ([] : List Int) → Calls Tryd.prog 28 #[.int .i64 x, ptr c1, ptr c2] (w.drewN k) fun e w' => e = .returned (.bool true) ∧ ∃ q, w' = w.drewN q) :
    Calls Tryd.prog 26 #[.slice none 0 0, .func (.func 28) #[] #[ptr c1, ptr c2]] w fun e w' => e = .returned (.slice none 0 0) ∧ ∃ q, w' = w.drewN q := by
  have ki := idxf_any (c1 := c1) (c2 := c2) (ao := none) (xs := []) (cap := 0) (m := 0) (fun _ => true) rfl (by omega) (NIn.nil w none) kf
  clear kf
  go_enter Tryd.func26, Tryd.ntmps26
  go_upto_region 2 with (go_at_call 33; refine ki.mono ?_; rintro e w2 ⟨⟨z, rfl, HZ⟩, q, rfl⟩)
  obtain rfl : z = -1 := by
    rcases HZ.out with ⟨h, _⟩ | ⟨k, _, h, _⟩
    · exact h
    · simp at h
  clear HZ ki
  go_wp2
  go_ret
  exact ⟨rfl, q, rfl⟩

set_option maxRecDepth 1000000 in
set_option maxHeartbeats 2000000 in
theorem fits_any {w : World} {ta aa : Option Addr} {xs : List Int} {A : List (Int × Int)} {m tc n ac : Nat} (room : Int) (hx : NIn w ta xs) (hm : xs.length = m) (hm6 : m ≤ 1000000) (hA : LIn w aa A) (hn : A.length = n) :
    Calls Tryd.prog 15 #[.slice ta m tc, .slice aa n ac, .int .i64 room] w fun e w' => ∃ u, e = .returned u ∧ Hid (OwnZ w' w.heap.size u (fitsL A room xs) ∧ Below w.heap.size w w') := by
  have hmf : ∀ (fn : Fn) (first cap : Array Value) (w : World), (Instr.makeFunc fn first cap).run Tryd.prog w = .ok (.func fn first cap) w := fun _ _ _ _ => rfl
  obtain ⟨W2, hW2⟩ : ∃ W2, (w.alloc (.cells #[.slice aa n ac] 24)).alloc (.cells #[.int .i64 room] 3) = W2 := ⟨_, rfl⟩
  have b2 : Below w.heap.size w W2 := by rw [← hW2]; exact ((Below.refl _ _).alloc (Nat.le_refl _) _).alloc (by simp) _
  have z1 : W2.cell? ⟨w.heap.size, 0, none⟩ = some (.slice aa n ac) := by
    have b1 : Below (w.alloc (.cells #[.slice aa n ac] 24)).heap.size (w.alloc (.cells #[.slice aa n ac] 24)) W2 := by rw [← hW2]; exact (Below.refl _ _).alloc (Nat.le_refl _) _
    rw [b1.cell (p := ⟨w.heap.size, 0, none⟩) (by simp)]
    simp
  have z2 : W2.cell? ⟨w.heap.size + 1, 0, none⟩ = some (.int .i64 room) := by rw [← hW2]; simp
  have hs2 : W2.heap.size = w.heap.size + 2 := by rw [← hW2]; simp
  have hA2 := hA.below b2 (Nat.le_refl _)
  have kc := clone_any (c := tc) (hx.below b2 (Nat.le_refl _)) hm hm6
  have kd : ∀ w5 u, OwnZ w5 W2.heap.size u xs ∧ Below W2.heap.size W2 w5 → Calls Tryd.prog 26 #[u, .func (.func 28) #[] #[ptr w.heap.size, ptr (w.heap.size + 1)]] w5 fun e w' => ∃ v, e = .returned v ∧ Hid (OwnZ w' w.heap.size v (fitsL A room xs) ∧ Below w.heap.size w w') := by
    rintro w5 u ⟨o5, b5⟩
    have b5' := b2.trans (b5.mono b2.size)
    rcases o5.2 with ⟨rfl, hz⟩ | ⟨r, cap, cur, rfl, hbr, hg, _⟩
    · have e : xs = [] := List.eq_nil_of_length_eq_zero hz
      subst e
      refine (delf_nil (fun k x hx => by cases hx)).mono ?_
      rintro e w' ⟨rfl, q, rfl⟩
      exact ⟨_, rfl, ownz_nil _ _, below_drewN b5' q⟩
    · have hrb : W2.heap.size ≤ r := hbr
      rw [hm] at o5 ⊢
      refine (delf_any (base := w.heap.size) (c1 := w.heap.size) (c2 := w.heap.size + 1) (fun x => !fitB A room x) hm hm6 ⟨o5.1, (owns_base o5 (fun k hk => by have : r = k := Option.some.inj hk; omega) : OwnZ w5 w.heap.size _ xs).2⟩ (fun W x hxm ht => ?_)).mono ?_
      · have hbW : Below W2.heap.size W2 W := b5.trans (ht.below b5.size (fun k hk => by subst hk; exact hrb))
        refine over_any (ac := ac) x ?_ ?_ (hA2.below hbW (Nat.le_refl _)) hn
        · rw [hbW.cell (p := ⟨w.heap.size, 0, none⟩) (show w.heap.size < W2.heap.size by omega)]; exact z1
        · rw [hbW.cell (p := ⟨w.heap.size + 1, 0, none⟩) (show w.heap.size + 1 < W2.heap.size by omega)]; exact z2
      · rintro e w' ⟨v, rfl, s⟩
        obtain ⟨t1, t2⟩ := s.out
        rw [keep_fits] at t1
        exact ⟨v, rfl, t1, b5'.trans (t2.below b5'.size (fun k hk => by subst hk; omega))⟩
  have HD := hide_it kd
  clear kd hx hA hA2 z1 z2 hs2 b2
  go_enter Tryd.func15, Tryd.ntmps15
  go_upto_region 1 with fail
  clear hW2
  go_wp2_with (first | (go_at_call 27; refine kc.mono ?_; rintro e w5 ⟨u, rfl, t5⟩; have kd := HD.out w5 u t5.out) | (go_at_call 26; refine kd.mono ?_; rintro e w6 ⟨v, rfl, t6⟩))
  go_ret
  exact ⟨_, rfl, t6.out⟩

set_option maxRecDepth 1000000 in
set_option maxHeartbeats 2000000 in
theorem rfits_any {w : World} {ta aa : Option Addr} {xs : List Int} {A : List (Int × Int)} {m tc n ac : Nat} (room : Int) (hx : NIn w ta xs) (hm : xs.length = m) (hm6 : m ≤ 1000000) (hA : LIn w aa A) (hn : A.length = n) :
    Calls Tryd.prog 16 #[.slice ta m tc, .slice aa n ac, .int .i64 room] w fun e w' => ∃ u, e = .returned u ∧ Hid (OwnZ w' w.heap.size u (fitsL A room xs) ∧ Below w.heap.size w w') := by
  have HX := hide_it hx
  have HA := hide_it hA
  have HM := hide_it hm
  have HN := hide_it hn
  have HS : Hid (∀ k (h : k < xs.length), fitsL A room (xs.take (k + 1)) = if fitB A room xs[k] = true then fitsL A room (xs.take k) ++ [xs[k]] else fitsL A room (xs.take k)) := fun k h => fitsL_step A room xs k h
  have HL : Hid (∀ k, (fitsL A room (xs.take k)).length ≤ k) := fun k => Nat.le_trans (fitsL_len _ _ _) (List.length_take_le _ _)
  have HE : Hid (∀ k, m ≤ k → xs.take k = xs) := fun k h => List.take_of_length_le (by omega)
  obtain ⟨i0, hi, hz0, hz1, hz2⟩ := info_parts info3
  have hb0 : Hid (Below w.heap.size w (w.alloc (.cells #[] 3))) := (Below.refl _ _).alloc (Nat.le_refl _) _
  have ho0 := hide_it (ownz_new w)
  clear hx hA hm hn
  go_enter Tryd.func16, Tryd.ntmps16
  go_wp2
  go_loopw [7, 8] (fun u i W => Hid (Below w.heap.size w W) ∧ ∃ k : Nat, k ≤ m ∧ i = .int .i64 k ∧ Hid (OwnZ W w.heap.size u (fitsL A room (xs.take k)))) (fun _ i _ => m - (intOf i).toNat)
  case atStart => exact ⟨hb0, 0, Nat.zero_le _, rfl, ho0⟩
  case round =>
    obtain ⟨hBr, k, hk, rfl, HO⟩ := hrel
    obtain ⟨w4, rfl⟩ : ∃ W, W = wr := ⟨_, rfl⟩
    by_cases hlt : k < m
    · have hxk : k < xs.length := by rw [HM.out]; exact hlt
      obtain ⟨r1, o1, rfl, hr1, c1⟩ := (HX.out.below hBr.out (Nat.le_refl _)) k hxk
      have HT := hide_it (HS.out k hxk)
      have hl := HL.out k
      have hsz := hBr.out.size
      generalize xs[k] = x at *
      generalize fitsL A room (xs.take k) = L at *
      clear HS HL HE
      cases hp : plB n x with
      | false =>
        rw [fitB_off (by rw [HN.out]; exact hp), if_neg (by simp)] at HT
        by_cases h0 : 0 ≤ x
        · have h1 : decide (0 ≤ x) = true := by simpa using h0
          have h2 : decide (x < n) = false := by unfold plB at hp; rw [h1] at hp; simpa using hp
          clear hp
          · as_aux_lemma =>
            go_wp2
            go_roundw
            case rel => exact ⟨hBr, k + 1, by omega, by go_num, by rw [HT.out]; exact HO⟩
            case measure => simp [intOf]; omega
        · have h1 : decide (0 ≤ x) = false := by simpa using h0
          clear hp
          · as_aux_lemma =>
            go_wp2
            go_roundw
            case rel => exact ⟨hBr, k + 1, by omega, by go_num, by rw [HT.out]; exact HO⟩
            case measure => simp [intOf]; omega
      | true =>
        have hr := plB_iff.1 hp
        obtain ⟨i, rfl⟩ : ∃ i : Nat, x = i := ⟨x.toNat, by omega⟩
        have hiA : i < A.length := by rw [HN.out]; omega
        have hin : i < n := by omega
        rw [fitB_at i hiA] at HT
        obtain ⟨b, o, rfl, hb, e1, e2⟩ := (HA.out.below hBr.out (Nat.le_refl _)) i hiA
        generalize A[i] = t at *
        obtain ⟨mem, cost⟩ := t
        simp only at e1 e2 HT
        clear hp hr e2
        by_cases hmr : mem ≤ room
        · have hd : decide (mem ≤ room) = true := by simpa using hmr
          rw [if_pos hd] at HT
          · as_aux_lemma =>
            go_wp2_with (at_builtin; (refine wpList_append_tell _ rfl (.tmp 38) (.tmp 40) 22 rfl w.heap.size 3 i0 _ 1 8 Tryd.underlying22 hi hz0 hz1 hz2 rfl (by decide) _ L.length (L.map fun x => Value.int .i64 x) rfl (HO.out.alloc _) ⟨_, 0, none⟩ 1 1 [.int .i64 i] rfl rfl (World.news_of_block (heap_alloc_at rfl _)) (by simp [Value.oneCell']) (by unfold maxLen; omega) (by omega) (by simp; omega) ?_; intro v' w2 hown' hgrow hfr; have hB2 := hide_it ((hBr.out.alloc (by omega) _).grown hgrow (by simp; omega) (fun k hk => (HO.out.lt k hk).1))))
            go_roundw
            case rel => exact ⟨hB2, k + 1, by omega, by go_num, by rw [HT.out]; exact ownz_snoc hown'⟩
            case measure => simp [intOf]; omega
        · have hd : decide (mem ≤ room) = false := by simpa using hmr
          rw [if_neg (by rw [hd]; simp)] at HT
          · as_aux_lemma =>
            go_wp2
            go_roundw
            case rel => exact ⟨hBr, k + 1, by omega, by go_num, by rw [HT.out]; exact HO⟩
            case measure => simp [intOf]; omega
    · go_wp2
      go_ret
      exact ⟨_, rfl, by rw [← HE.out k (by omega)]; exact HO.out, hBr.out⟩
end Go.Proofs.YtipkgoghodkbfaaDoor
