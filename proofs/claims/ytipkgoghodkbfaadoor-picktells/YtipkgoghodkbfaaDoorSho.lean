/- shown: what must be in any case. -/
import Derived.Test.YtipkgoghodkbfaaDoorKx
import Derived.WalkHide
namespace Go.Proofs.YtipkgoghodkbfaaDoor
open Go.RowKit
open M
set_option linter.unusedVariables false
set_option linter.unusedSimpArgs false

theorem KX.few {w0 w : World} {G : List GE} {R : List RE} {X X' : List XE} {Y Y' : List YE} (h : KX w0 w G R X Y) (hX : ∀ p ∈ X', p ∈ X) (hY : ∀ p ∈ Y', p ∈ Y) : KX w0 w G R X' Y' :=
  ⟨h.bel, h.tab, h.pos, h.gm, h.rm, fun p hp => h.ext p (hX p hp), fun p hp => h.pts p (hY p hp)⟩
theorem lit_lin2 (w : World) (a b c d : Int) (t : TypeId) : LIn (w.alloc (.cells #[.int .i64 a, .int .i64 b, .int .i64 c, .int .i64 d] t)) (some ⟨w.heap.size, 0, none⟩) [(a, b), (c, d)] := by
  intro i hi
  refine ⟨w.heap.size, 0, rfl, by simp, ?_⟩
  have hi2 : i = 0 ∨ i = 1 := by simp at hi; omega
  rcases hi2 with rfl | rfl <;> exact ⟨by simp, by simp⟩
theorem best_S1 : bestA [1, 1, 2, 1] [3, 5, 7, 5] = (5, [1, 3]) := by decide
theorem best_S2 : bestA [1] [-1] = (-1, []) := by decide
theorem fits_S : fitsL [(4, 9), (2, 8)] 3 [0, 1, 5] = [1] := by decide
theorem want_S : wantK 3 [(0, 1)] [1, 0] [(4, 9), (2, 8)] [6, 7] [0, 2] (min 2 2) = ([(6, 8)], [1]) := by decide +kernel
theorem add_S : addE 3 [] 0 1 = [(0, 1)] := by decide

set_option maxRecDepth 1000000 in
set_option maxHeartbeats 4000000 in
theorem shown_any (w : World) (hT : Tab w) (h0 : 0 < w.heap.size) :
    Calls Tryd.prog 8 #[] w fun e w' => e = .returned (.bool true) ∧ Below w.heap.size w w' := by
  have kN := new_go 3 w
  rw [show sz 3 = 3 by decide] at kN
  obtain ⟨g, hg⟩ : ∃ g, w.heap.size + 1 = g := ⟨_, rfl⟩
  obtain ⟨eb, heb⟩ : ∃ eb, w.heap.size = eb := ⟨_, rfl⟩
  obtain ⟨G, hG⟩ : ∃ G : List GE, [(g, eb, 3, [(0, 1)])] = G := ⟨_, rfl⟩
  have HGm : Hid ((g, eb, 3, [(0, 1)]) ∈ G) := by unfold Hid; rw [← hG]; exact List.mem_singleton.2 rfl
  have kA : ∀ W, GO W w.heap.size g eb 3 [] → Below w.heap.size w W → Calls Tryd.prog 11 #[ptr g, .int .i64 0, .int .i64 1] W fun e w' => e = .returned (.tuple #[.bool (newB 3 [] 0 1), .int .i64 (errN 3 0 1)]) ∧ Hid (KX w w' G [] [] []) := fun W hgo hb => by
    refine (add_go hgo 0 1 (by simp) hb.size).mono ?_
    rintro e w' ⟨rfl, h1, h2⟩
    rw [add_S] at h1
    exact ⟨rfl, by rw [← hG]; exact kx_go hT h0 (hb.trans h2.out) h1.out⟩
  have kB1 : ∀ W, KX w W G [] [] [] → Calls Tryd.prog 13 #[.slice (some ⟨W.heap.size, 0, none⟩) 4 4, .slice (some ⟨W.heap.size + 1, 0, none⟩) 4 4] ((W.alloc (.cells #[.int .i64 1, .int .i64 1, .int .i64 2, .int .i64 1] 3)).alloc (.cells #[.int .i64 3, .int .i64 5, .int .i64 7, .int .i64 5] 3)) fun e w' => ∃ ao cap, e = .returned (.tuple #[.int .i64 5, .slice ao 2 cap]) ∧ Hid (KX w w' G [] [(ao, [1, 3])] []) := fun W h => by
    have k := (h.litx [1, 1, 2, 1] #[.int .i64 1, .int .i64 1, .int .i64 2, .int .i64 1] rfl).litx [3, 5, 7, 5] #[.int .i64 3, .int .i64 5, .int .i64 7, .int .i64 5] rfl
    rw [show (W.alloc (.cells #[.int .i64 1, .int .i64 1, .int .i64 2, .int .i64 1] 3)).heap.size = W.heap.size + 1 by simp] at k
    refine (k.best 4 4 (List.mem_cons_of_mem _ (List.mem_cons_self ..)) (List.mem_cons_self ..) rfl rfl (by decide) (by decide) 5 [1, 3] 2 best_S1 rfl).mono ?_
    rintro e w' ⟨ao, cap, rfl, s⟩
    exact ⟨ao, cap, rfl, s.out.few (fun p hp => by rw [List.mem_singleton] at hp; subst hp; exact List.mem_cons_self ..) (fun p hp => hp)⟩
  have kB2 : ∀ W X, KX w W G [] X [] → Calls Tryd.prog 13 #[.slice (some ⟨W.heap.size, 0, none⟩) 1 1, .slice (some ⟨W.heap.size + 1, 0, none⟩) 1 1] ((W.alloc (.cells #[.int .i64 1] 3)).alloc (.cells #[.int .i64 (-1)] 3)) fun e w' => ∃ ao cap, e = .returned (.tuple #[.int .i64 (-1), .slice ao 0 cap]) ∧ Hid (KX w w' G [] X []) := fun W X h => by
    have k := (h.litx [1] #[.int .i64 1] rfl).litx [-1] #[.int .i64 (-1)] rfl
    rw [show (W.alloc (.cells #[.int .i64 1] 3)).heap.size = W.heap.size + 1 by simp] at k
    refine (k.best 1 1 (List.mem_cons_of_mem _ (List.mem_cons_self ..)) (List.mem_cons_self ..) rfl rfl (by decide) (by decide) (-1) [] 0 best_S2 rfl).mono ?_
    rintro e w' ⟨ao, cap, rfl, s⟩
    exact ⟨ao, cap, rfl, s.out.few (fun p hp => List.mem_cons_of_mem _ (List.mem_cons_of_mem _ (List.mem_cons_of_mem _ hp))) (fun p hp => hp)⟩
  have kY : ∀ W X, KX w W G [] X [] → Hid (KX w (W.alloc (.cells #[.int .i64 4, .int .i64 9, .int .i64 2, .int .i64 8] 51)) G [] X [(some ⟨W.heap.size, 0, none⟩, [(4, 9), (2, 8)])]) := fun W X h =>
    (h.step ((Below.refl _ _).alloc (Nat.le_refl _) _)).addy (lit_lin2 W 4 9 2 8 51)
  have kW : ∀ W X a, KX w W G [] X [(a, [(4, 9), (2, 8)])] → Calls Tryd.prog 17 #[ptr g, .slice (some ⟨W.heap.size, 0, none⟩) 2 2, .slice a 2 2, .slice (some ⟨W.heap.size + 1, 0, none⟩) 2 2, .slice (some ⟨W.heap.size + 2, 0, none⟩) 2 2] (((W.alloc (.cells #[.int .i64 1, .int .i64 0] 3)).alloc (.cells #[.int .i64 6, .int .i64 7] 3)).alloc (.cells #[.int .i64 0, .int .i64 2] 3)) fun e w' => ∃ ua uc va vc, e = .returned (.tuple #[.slice ua 1 uc, .slice va 1 vc]) ∧ Hid (KX w w' G [] ((va, [1]) :: X) [(ua, [(6, 8)]), (a, [(4, 9), (2, 8)])]) := fun W X a h => by
    have k := ((h.litx [1, 0] #[.int .i64 1, .int .i64 0] rfl).litx [6, 7] #[.int .i64 6, .int .i64 7] rfl).litx [0, 2] #[.int .i64 0, .int .i64 2] rfl
    rw [show ((W.alloc (.cells #[.int .i64 1, .int .i64 0] 3)).alloc (.cells #[.int .i64 6, .int .i64 7] 3)).heap.size = W.heap.size + 2 by simp, show (W.alloc (.cells #[.int .i64 1, .int .i64 0] 3)).heap.size = W.heap.size + 1 by simp] at k
    refine (k.wants HGm.out 2 2 2 2 (List.mem_cons_of_mem _ (List.mem_cons_of_mem _ (List.mem_cons_self ..))) rfl (by decide) (List.mem_singleton.2 rfl) rfl (List.mem_cons_of_mem _ (List.mem_cons_self ..)) rfl (by decide) (List.mem_cons_self ..) rfl (by decide) [(6, 8)] [1] 1 1 want_S rfl rfl).mono ?_
    rintro e w' ⟨ua, uc, va, vc, rfl, s⟩
    exact ⟨ua, uc, va, vc, rfl, s.out.few (fun p hp => by rcases List.mem_cons.1 hp with rfl | hp; exact List.mem_cons_self ..; exact List.mem_cons_of_mem _ (List.mem_cons_of_mem _ (List.mem_cons_of_mem _ (List.mem_cons_of_mem _ hp)))) (fun p hp => hp)⟩
  have kF : ∀ W X Y a, KX w W G [] X Y → (a, [(4, 9), (2, 8)]) ∈ Y → Calls Tryd.prog 15 #[.slice (some ⟨W.heap.size, 0, none⟩) 3 3, .slice a 2 2, .int .i64 3] (W.alloc (.cells #[.int .i64 0, .int .i64 1, .int .i64 5] 3)) fun e w' => ∃ ao cap, e = .returned (.slice ao 1 cap) ∧ Hid (KX w w' G [] ((ao, [1]) :: X) Y) := fun W X Y a h hY => by
    have k := h.litx [0, 1, 5] #[.int .i64 0, .int .i64 1, .int .i64 5] rfl
    refine (k.fits 3 2 3 (List.mem_cons_self ..) hY rfl (by decide) rfl [1] 1 fits_S rfl).mono ?_
    rintro e w' ⟨ao, cap, rfl, s⟩
    exact ⟨ao, cap, rfl, s.out.few (fun p hp => by rcases List.mem_cons.1 hp with rfl | hp; exact List.mem_cons_self ..; exact List.mem_cons_of_mem _ (List.mem_cons_of_mem _ hp)) (fun p hp => hp)⟩
  have kE : ∀ W X Y ao (c : Array Value) (L : List Int) n cp, KX w W G [] X Y → (ao, L) ∈ X → L.length = n → n ≤ 10 → c = (L.map fun x => Value.int .i64 x).toArray → Calls Tryd.prog 19 #[.slice ao n cp, .slice (some ⟨W.heap.size, 0, none⟩) n n] (W.alloc (.cells c 3)) fun e w' => e = .returned (.bool true) ∧ Hid (KX w w' G [] X Y) := fun W X Y ao c L n cp h hu hl hn hc => by
    have k := h.litx L c hc
    refine (k.eqs cp n (List.mem_cons_of_mem _ hu) (List.mem_cons_self ..) hl hl (by omega) true (by simp)).mono ?_
    rintro e w' ⟨rfl, s⟩
    exact ⟨rfl, s.out.few (fun p hp => List.mem_cons_of_mem _ hp) (fun p hp => hp)⟩
  rw [hg, heb] at kN
  rw [heb] at kA
  have HEB := hide_it heb
  clear hG hg heb hT h0
  go_enter Tryd.func8, Tryd.ntmps8
  go_upto_region 5 with (first | (go_at_call 9; refine kN.mono ?_; rintro e w1 ⟨rfl, s1, b1⟩) | (go_at_call 11; refine (kA _ s1.out b1.out).mono ?_; rintro e w2 ⟨rfl, s2⟩; refine Hid.out ?_))
  refine hide_it ?_
  go_upto_region 6 with (go_at_call 13; refine (kB1 _ s2.out).mono ?_; rintro e w3 ⟨a3, p3, rfl, s3⟩; refine Hid.out ?_)
  refine hide_it ?_
  go_upto_region 7 with (go_at_call 13; refine (kB2 _ _ s3.out).mono ?_; rintro e w4 ⟨a4, p4, rfl, s4⟩; refine Hid.out ?_)
  refine hide_it ?_
  go_upto_region 8 with fail
  have s5 := kY _ _ s4.out
  obtain ⟨w5, hw5⟩ : ∃ w5, w4.alloc (.cells #[.int .i64 4, .int .i64 9, .int .i64 2, .int .i64 8] 51) = w5 := ⟨_, rfl⟩
  obtain ⟨y5, hy5⟩ : ∃ y, w4.heap.size = y := ⟨_, rfl⟩
  rw [hw5, hy5] at s5 ⊢
  clear hw5 hy5 s1 s2 s3 s4 kN kA kB1 kB2 kY b1
  go_upto_region 9 with (go_at_call 17; refine (kW _ _ _ s5.out).mono ?_; rintro e w6 ⟨ua, uc, va, vc, rfl, s6⟩; refine Hid.out ?_)
  refine hide_it ?_
  go_wp2_with (go_at_call 19; refine (kE _ _ _ _ _ [1, 3] 2 _ s6.out (by simp) rfl (by decide) rfl).mono ?_; rintro e w7 ⟨rfl, s7⟩; refine Hid.out ?_)
  refine hide_it ?_
  go_wp2_with (go_at_call 15; refine (kF _ _ _ _ s7.out (by simp)).mono ?_; rintro e w8 ⟨a8, p8, rfl, s8⟩; refine Hid.out ?_)
  refine hide_it ?_
  go_wp2_with (go_at_call 19; refine (kE _ _ _ _ _ [1] 1 _ s8.out (List.mem_cons_self ..) rfl (by decide) rfl).mono ?_; rintro e w9 ⟨rfl, s9⟩; refine Hid.out ?_)
  refine hide_it ?_
  obtain ⟨ub, uo, rfl, hub, c1, c2⟩ := (s9.out.pair (List.mem_cons_self ..)) 0 (by decide)
  simp only [Nat.zero_mul, Nat.add_zero, List.getElem_cons_zero] at c1 c2
  go_wp2_with (go_at_call 19; refine (kE _ _ _ _ _ [1] 1 _ s9.out (List.mem_cons_of_mem _ (List.mem_cons_self ..)) rfl (by decide) rfl).mono ?_; rintro e w10 ⟨rfl, s10⟩; refine Hid.out ?_)
  refine hide_it ?_
  go_wp2
  go_ret
  exact ⟨rfl, s10.out.bel⟩
theorem shown_q {W w : World} (hT : Tab W) (h0 : 0 < W.heap.size) (hb : Below W.heap.size W w) :
    Calls Tryd.prog 8 #[] w fun e w' => e = .returned (.bool true) ∧ Hid (Below W.heap.size W w') := by
  refine (shown_any w (tab_below hT h0 hb) (Nat.lt_of_lt_of_le h0 hb.size)).mono ?_
  rintro e w' ⟨rfl, h⟩
  exact ⟨rfl, hb.trans (h.mono hb.size)⟩
end Go.Proofs.YtipkgoghodkbfaaDoor
