/- shown: what must be in any case. -/
import Derived.Test.YtmeeimfjibcncaaDoorBun
namespace Go.Proofs.YtmeeimfjibcncaaDoor
open Go.RowKit
open M
set_option linter.unusedVariables false
set_option linter.unusedSimpArgs false

def esS : List E := [(0, 1)]
def qS : List Rq := [(0, 0, 5), (1, 0, 2), (3, 0, 1), (9, 0, 7)]
def cS : Array Value := #[.int .i64 0, .int .i64 0, .int .i64 5, .int .i64 1, .int .i64 0, .int .i64 2, .int .i64 3, .int .i64 0, .int .i64 1, .int .i64 9, .int .i64 0, .int .i64 7]
theorem fold_S : foldE 4 (([(0, 1)] : List (Int × Int)).take 100) [] = esS := by decide
theorem of_S : ofL 4 esS qS = [5, 5, -1, 1] := by decide +kernel
theorem reached_S : reachedL 4 esS qS 1 qS.length = [0, 1] := by decide +kernel
theorem raised_S1 : raisedL 4 esS qS 1 3 = [3] := by decide +kernel
theorem raised_S2 : raisedL 4 esS qS 3 0 = [] := by decide +kernel
theorem lit_qin (W : World) (b : Nat) (hb : W.heap.size = b) : QIn (W.alloc (.cells cS 49)) (some ⟨b, 0, none⟩) qS := by
  subst hb
  intro i hi
  refine ⟨W.heap.size, 0, rfl, by simp, ?_⟩
  have hi2 : i = 0 ∨ i = 1 ∨ i = 2 ∨ i = 3 := by simp [qS] at hi; omega
  rcases hi2 with rfl | rfl | rfl | rfl <;> exact ⟨by simp [cS, qS], by simp [cS, qS], by simp [cS, qS]⟩

set_option maxRecDepth 1000000 in
set_option maxHeartbeats 4000000 in
theorem shown_any (w : World) (hT : Tab w) (h0 : 0 < w.heap.size) :
    Calls Tryd.prog 8 #[] w fun e w' => e = .returned (.bool true) ∧ Below w.heap.size w w' := by
  obtain ⟨w1, hw1⟩ : ∃ w1, w.alloc (.cells #[.int .i64 0, .int .i64 1] 33) = w1 := ⟨_, rfl⟩
  have hb1 : Below w.heap.size w w1 := by rw [← hw1]; exact (Below.refl _ _).alloc (Nat.le_refl _) _
  have hs1 : w1.heap.size = w.heap.size + 1 := by rw [← hw1]; simp
  have hl1 : LIn w1 (some ⟨w.heap.size, 0, none⟩) [(0, 1)] := by
    intro i hi
    refine ⟨w.heap.size, 0, rfl, by omega, ?_⟩
    have hi2 : i = 0 := by simp at hi; omega
    subst hi2
    constructor
    · rw [← hw1]; simp
    · rw [← hw1]; simp
  have kN := made_px 4 _ _ 1 w1 (tab_below hT h0 hb1) (by omega) hl1 (by unfold maxLen; simp) 1 4 esS rfl (by decide) fold_S
  have HB1 := hide_it hb1
  have HW := hide_it hw1
  clear hT hl1 hb1 hs1
  generalize heb : w1.heap.size = B at *
  have HEB := hide_it heb
  clear heb hw1
  have kQ : ∀ W g eb, PX B w1 W g eb 4 esS [] [] → PX B w1 (W.alloc (.cells cS 49)) g eb 4 esS [] [(some ⟨W.heap.size, 0, none⟩, qS)] := fun W g eb h =>
    h.consQ ((Below.refl _ _).alloc (Nat.le_refl _) _) (lit_qin W _ rfl) (fun k hk => by have : W.heap.size = k := Option.some.inj hk; simp; omega)
  have kO := fun W g eb b (h : PX B w1 W g eb 4 esS [] [(some ⟨b, 0, none⟩, qS)]) => h.of (List.mem_singleton.2 rfl) (by decide) 4 4 rfl _ of_S
  have kR : ∀ W g eb X b, PX B w1 W g eb 4 esS X [(some ⟨b, 0, none⟩, qS)] → Calls Tryd.prog 13 #[ptr g, .slice (some ⟨b, 0, none⟩) 4 4, .int .i64 1] W fun e w' => ∃ ao cap, e = .returned (.slice ao 2 cap) ∧ Hid (PX B w1 w' g eb 4 esS ((.slice ao 2 cap, [0, 1]) :: X) [(some ⟨b, 0, none⟩, qS)]) := fun W g eb X b h => h.reached (List.mem_singleton.2 rfl) (by decide) 4 4 rfl 1 _ reached_S
  have kU : ∀ W g eb X b, PX B w1 W g eb 4 esS X [(some ⟨b, 0, none⟩, qS)] → Calls Tryd.prog 17 #[ptr g, .slice (some ⟨b, 0, none⟩) 4 4, .int .i64 1, .int .i64 3] W fun e w' => ∃ ao cap, e = .returned (.slice ao 1 cap) ∧ Hid (PX B w1 w' g eb 4 esS ((.slice ao 1 cap, [3]) :: X) [(some ⟨b, 0, none⟩, qS)]) := fun W g eb X b h => h.raised (List.mem_singleton.2 rfl) (by decide) 4 4 rfl 1 3 _ raised_S1
  have kV : ∀ W g eb X b, PX B w1 W g eb 4 esS X [(some ⟨b, 0, none⟩, qS)] → Calls Tryd.prog 17 #[ptr g, .slice (some ⟨b, 0, none⟩) 4 4, .int .i64 3, .int .i64 0] W fun e w' => ∃ ao cap, e = .returned (.slice ao 0 cap) ∧ Hid (PX B w1 w' g eb 4 esS ((.slice ao 0 cap, []) :: X) [(some ⟨b, 0, none⟩, qS)]) := fun W g eb X b h => h.raised (List.mem_singleton.2 rfl) (by decide) 4 4 rfl 3 0 _ raised_S2
  have kE : ∀ W g eb X Y u (c : Array Value) (L : List Int) n, PX B w1 W g eb 4 esS X Y → (u, L) ∈ X → L.length = n → n ≤ 10 → c = (L.map fun x => Value.int .i64 x).toArray → Calls Tryd.prog 12 #[u, .slice (some ⟨W.heap.size, 0, none⟩) n n] (W.alloc (.cells c 3)) fun e w' => e = .returned (.bool true) ∧ Hid (PX B w1 w' g eb 4 esS X Y) := fun W g eb X Y u c L n h hu hl hn hc => by
    have hb : Below W.heap.size W (W.alloc (.cells c 3)) := (Below.refl _ _).alloc (Nat.le_refl _) _
    exact (h.step hb).eqs ((h.step hb).row hu) (lit_zat W L 3 _ n _ hc rfl hl) (by omega) true (by simp)
  go_enter Tryd.func8, Tryd.ntmps8
  go_upto_region 4 with (first | (rw [HW.out]) | (go_at_call 9; refine kN.mono ?_; rintro e w2 ⟨g, eb, rfl, s2⟩))
  have s3 := hide_it (kQ _ _ _ s2.out)
  clear s2 kQ kN
  go_upto_region 5 with fail
  obtain ⟨w3, hw3⟩ : ∃ w3, w2.alloc (.cells cS 49) = w3 := ⟨_, rfl⟩
  obtain ⟨bq, hbq⟩ : ∃ b, w2.heap.size = b := ⟨_, rfl⟩
  rw [hw3, hbq] at s3
  unfold cS at hw3
  rw [hw3, hbq]
  clear hw3 hbq
  go_wp2_with (go_at_call 15; refine (kO _ _ _ _ s3.out).mono ?_; rintro e w4 ⟨u4, rfl, s4⟩; refine Hid.out ?_)
  refine hide_it ?_
  go_wp2_with (go_at_call 12; refine (kE _ _ _ _ _ _ _ [5, 5, -1, 1] 4 s4.out (by simp) rfl (by decide) rfl).mono ?_; rintro e w5 ⟨rfl, s5⟩; refine Hid.out ?_)
  refine hide_it ?_
  go_wp2_with (go_at_call 13; refine (kR _ _ _ _ _ s5.out).mono ?_; rintro e w6 ⟨a6, p6, rfl, s6⟩; refine Hid.out ?_)
  refine hide_it ?_
  go_wp2_with (go_at_call 12; refine (kE _ _ _ _ _ _ _ [0, 1] 2 s6.out (by simp) rfl (by decide) rfl).mono ?_; rintro e w7 ⟨rfl, s7⟩; refine Hid.out ?_)
  refine hide_it ?_
  go_wp2_with (go_at_call 17; refine (kU _ _ _ _ _ s7.out).mono ?_; rintro e w8 ⟨a8, p8, rfl, s8⟩; refine Hid.out ?_)
  refine hide_it ?_
  go_wp2_with (go_at_call 12; refine (kE _ _ _ _ _ _ _ [3] 1 s8.out (by simp) rfl (by decide) rfl).mono ?_; rintro e w9 ⟨rfl, s9⟩; refine Hid.out ?_)
  refine hide_it ?_
  go_wp2_with (go_at_call 17; refine (kV _ _ _ _ _ s9.out).mono ?_; rintro e w10 ⟨a10, p10, rfl, s10⟩)
  go_ret
  refine ⟨rfl, ?_⟩
  have := s10.out.bel
  rw [← HEB.out] at this
  exact HB1.out.trans (this.mono HB1.out.size)
theorem shown_q {W w : World} (hT : Tab W) (h0 : 0 < W.heap.size) (hb : Below W.heap.size W w) :
    Calls Tryd.prog 8 #[] w fun e w' => e = .returned (.bool true) ∧ Hid (Below W.heap.size W w') := by
  refine (shown_any w (tab_below hT h0 hb) (Nat.lt_of_lt_of_le h0 hb.size)).mono ?_
  rintro e w' ⟨rfl, h⟩
  exact ⟨rfl, hb.trans (h.mono hb.size)⟩
end Go.Proofs.YtmeeimfjibcncaaDoor
