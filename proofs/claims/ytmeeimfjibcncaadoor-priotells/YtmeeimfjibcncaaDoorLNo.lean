/- Without requests nobody has a priority; with one alone all that its root reaches has its: the walk. -/
import Derived.Test.YtmeeimfjibcncaaDoorSho
namespace Go.Proofs.YtmeeimfjibcncaaDoor
open Go.RowKit
open M
set_option linter.unusedVariables false
set_option linter.unusedSimpArgs false

/-- A store below all that the call has. -/
theorem PX.put {B : Nat} {w0 w : World} {g eb n : Nat} {es : List E} (h : PX B w0 w g eb n es [] []) {p : Addr} (hp : p.block < B) (hp0 : 0 < p.block) (u : Value) : PX B (w.setCell p u) (w.setCell p u) g eb n es [] [] := by
  obtain ⟨v, h⟩ := h
  have hk : ∀ k, k ≠ p.block → (w.setCell p u).heap[k]? = w.heap[k]? := fun k hk => Below.heap_setCell _ _ _ _ hk
  exact ⟨v, Below.refl _ _, h.gm.keep (fun k hf => hk k (by have := h.gB k hf; omega)), h.gB, fun j hj => by rw [World.cell?_of_block (w := w) (hk 0 (by omega))]; exact h.tab j hj, h.pos, by simpa [World.setCell] using h.le, fun p hp => by simp at hp, fun p hp => by simp at hp⟩
theorem PX.nilQ {B : Nat} {w0 w : World} {g eb n : Nat} {es : List E} {X : List (Value × List Int)} {Y : List (Option Addr × List Rq)} (h : PX B w0 w g eb n es X Y) (a : Option Addr) : PX B w0 w g eb n es X ((a, []) :: Y) := by
  obtain ⟨v, h⟩ := h
  refine ⟨v, h.bel, h.gm, h.gB, h.tab, h.pos, h.le, h.ext, fun p hp => ?_⟩
  rcases List.mem_cons.1 hp with rfl | hp
  · exact ⟨QIn.nil _ _, fun h0 => absurd h0 (Nat.lt_irrefl 0)⟩
  · exact h.req p hp
/-- What the law says of each task. -/
structure NoW (n : Nat) (es : List E) (rt mx : Int) (No On : List Int) : Prop where
  nl : No.length = n
  ol : On.length = n
  no : ∀ t (h : t < No.length), No[t] = -1
  on : ∀ t (h : t < On.length), On[t] = if reachB n es rt (t : Int) = true then mx else -1
theorem noW (n : Nat) (es : List E) (rt wt mx : Int) (hm : 0 ≤ mx) : NoW n es rt mx (ofL n es []) (ofL n es [(rt, wt, mx)]) := by
  refine ⟨by simp [ofL], by simp [ofL], fun t h => ?_, fun t h => ?_⟩
  · simp [ofL, prioOf_nil]
  · simp only [ofL, List.getElem_map, List.getElem_range]
    unfold prioOf upB
    simp only [List.foldl_cons, List.foldl_nil]
    split <;> omega
theorem one_qin {W : World} {b : Nat} (hb : W.heap.size = b) (rt wt mx : Int) : QIn (W.alloc (.cells #[.int .i64 rt, .int .i64 wt, .int .i64 mx] 49)) (some ⟨b, 0, none⟩) [(rt, wt, mx)] := by
  subst hb
  intro i hi
  have : i = 0 := by simp at hi; omega
  subst this
  exact ⟨W.heap.size, 0, rfl, by simp, by simp, by simp, by simp⟩

set_option maxRecDepth 1000000 in
set_option maxHeartbeats 4000000 in
theorem none_core (n : Int) (ls : List (Int × Int)) (la : Option Addr) (lc : Nat) (rt wt pr : Int) (W : World) (hT : Tab W) (h0 : 0 < W.heap.size) (hl : LIn W la ls) (hm : ls.length ≤ maxLen) :
    Calls Tryd.prog 7 #[.int .i64 n, .slice la ls.length lc, .agg #[.int .i64 rt, .int .i64 wt, .int .i64 pr]] W fun e w' => e = .returned (.bool true) ∧ Below W.heap.size W w' := by
  obtain ⟨w1, hw1⟩ : ∃ w1, W.alloc (.cells #[.int .i64 rt, .int .i64 wt, .int .i64 pr] 49) = w1 := ⟨_, rfl⟩
  obtain ⟨c5, hc5⟩ : ∃ c, W.heap.size = c := ⟨_, rfl⟩
  have hb1 : Below W.heap.size W w1 := by rw [← hw1]; exact (Below.refl _ _).alloc (Nat.le_refl _) _
  have hs1 : w1.heap.size = c5 + 1 := by rw [← hw1, ← hc5]; simp
  have hblk : w1.heap[c5]? = some (.cells #[.int .i64 rt, .int .i64 wt, .int .i64 pr] 49) := by rw [← hw1]; exact heap_alloc_at hc5 _
  have hT1 := tab_below hT h0 hb1
  have ks := shown_q hT1 (by omega) (Below.refl _ w1)
  obtain ⟨m, hmm⟩ : ∃ m, ls.length = m := ⟨_, rfl⟩
  obtain ⟨N, hN⟩ : ∃ N, sz30 n = N := ⟨_, rfl⟩
  obtain ⟨es, hes⟩ : ∃ es, foldE N (ls.take 100) [] = es := ⟨_, rfl⟩
  have hlen : es.length ≤ 100 := by rw [← hes]; exact fold_len N ls
  have hN30 : N ≤ 30 := by rw [← hN]; exact sz30_le n
  have km : ∀ w2, Below w1.heap.size w1 w2 → Calls Tryd.prog 9 #[.int .i64 n, .slice la m lc] w2 fun e w' => ∃ g eb, e = .returned (ptr g) ∧ Hid (PX w1.heap.size w1 w' g eb N es [] []) := fun w2 hb => made_q hT1 (by omega) hb n ls la lc (hl.below hb1 (Nat.le_refl _)) hm m N es hN hmm hes
  obtain ⟨mx, hmx⟩ : ∃ mx, max pr 0 = mx := ⟨_, rfl⟩
  have hW := hide_it (noW N es rt wt mx (by omega))
  have HW1 := hide_it hw1
  have HC5 := hide_it hc5
  have HB1 := hide_it hb1
  have HBK := hide_it hblk
  rw [hmm]
  have hc0 : 0 < c5 := by omega
  obtain ⟨B, hB⟩ : ∃ B, w1.heap.size = B := ⟨_, rfl⟩
  rw [hB] at hs1 km ks
  have HBW : Hid (W.heap.size ≤ B) := by unfold Hid; omega
  have kO : ∀ w0 w1 g eb X (qa : Option Addr) (Q : List Rq) Y, PX B w0 w1 g eb N es X ((qa, Q) :: Y) → Q.length ≤ 1 → ∀ l, Q.length = l → Calls Tryd.prog 15 #[ptr g, .slice qa l l] w1 fun e w' => ∃ b, e = .returned (.slice (some ⟨b, 0, none⟩) N N) ∧ Hid (PX B w0 w' g eb N es ((.slice (some ⟨b, 0, none⟩) N N, ofL N es Q) :: X) ((qa, Q) :: Y)) := fun w0 w1 g eb X qa Q Y h hq l hql => h.of (List.mem_cons_self) (by omega) l l hql _ rfl
  generalize hno : ofL N es [] = No at *
  generalize hon : ofL N es [(rt, wt, mx)] = On at *
  clear hT hT1 hl hm hmm hes hN hw1 hc5 hb1 h0
  go_enter Tryd.func7, Tryd.ntmps7
  go_upto_region 5 with (first | (rw [HW1.out]) | (go_at_call 8; refine ks.mono ?_; rintro e w2 ⟨rfl, s2⟩) | (go_at_call 9; refine (km _ s2.out).mono ?_; rintro e w3 ⟨g, eb, rfl, s3⟩))
  rw [HC5.out]
  have hb3 := s3.out.bel
  have hlt5 : c5 < w1.heap.size := by omega
  have r0 : w3.cell? ⟨c5, 2, none⟩ = some (.int .i64 pr) := by
    rw [hb3.cell (p := ⟨c5, 2, none⟩) (by show c5 < B; omega), cell_of_row w1 c5 2 _ _ _ hblk]; rfl
  have hb3k : w3.heap[c5]? = some (.cells #[.int .i64 rt, .int .i64 wt, .int .i64 pr] 49) := by rw [hb3.block c5 (by omega)]; exact hblk
  have f0 : w3.frozen? ⟨c5, 2, none⟩ = false := by simp [World.frozen?, hb3k]
  have s4 := hide_it (s3.out.put (p := ⟨c5, 2, none⟩) (by show c5 < B; omega) (by show 0 < c5; omega) (.int .i64 mx))
  have hB4 : Hid (Below W.heap.size W (w3.setCell ⟨c5, 2, none⟩ (.int .i64 mx))) := (HB1.out.trans (hb3.mono HBW.out)).setCell (by have := HC5.out; show W.heap.size ≤ c5; omega) _
  have HCC : Hid (∀ w', Below B (w3.setCell ⟨c5, 2, none⟩ (.int .i64 mx)) w' → w'.cell? ⟨c5, 0, none⟩ = some (.int .i64 rt) ∧ w'.cell? ⟨c5, 1, none⟩ = some (.int .i64 wt) ∧ w'.cell? ⟨c5, 2, none⟩ = some (.int .i64 mx)) := by
    intro w' hb
    have hk : w'.heap[c5]? = some (.cells #[.int .i64 rt, .int .i64 wt, .int .i64 mx] 49) := by
      rw [hb.block c5 (by omega)]
      have := heap_setCell_at (o := 2) hb3k (.int .i64 mx)
      rw [this]
      rfl
    exact ⟨by rw [cell_of_row w' c5 0 _ _ _ hk]; rfl, by rw [cell_of_row w' c5 1 _ _ _ hk]; rfl, by rw [cell_of_row w' c5 2 _ _ _ hk]; rfl⟩
  go_upto_region 6 with fail
  obtain ⟨w4, hw4⟩ : ∃ w4, w3.setCell ⟨c5, 2, none⟩ (.int .i64 mx) = w4 := ⟨_, rfl⟩
  rw [hw4] at s4 hB4 HCC ⊢
  clear hw4 r0 f0 hb3 hb3k hblk s3 s2 ks km HBK
  have s5 := hide_it (s4.out.nilQ none)
  clear s4
  go_upto_region 7 with (go_at_call 15; refine (kO _ _ _ _ _ none [] _ s5.out (by decide) 0 rfl).mono ?_; rintro e w5 ⟨b5, rfl, s6⟩)
  rw [hno] at s6
  obtain ⟨r0, r1, r2⟩ := HCC.out _ s6.out.bel
  have s7 : Hid (PX B w4 (w5.alloc (.cells #[.int .i64 rt, .int .i64 wt, .int .i64 mx] 49)) g eb N es [(.slice (some ⟨b5, 0, none⟩) N N, No)] ((some ⟨w5.heap.size, 0, none⟩, [(rt, wt, mx)]) :: [(none, [])])) := s6.out.consQ ((Below.refl _ _).alloc (Nat.le_refl _) _) (one_qin rfl rt wt mx) (fun k hk => by have : w5.heap.size = k := Option.some.inj hk; simp; omega)
  clear s5 s6
  go_upto_region 8 with (go_at_call 15; refine (kO _ _ _ _ _ _ [(rt, wt, mx)] _ s7.out (Nat.le_refl _) 1 rfl).mono ?_; rintro e w6 ⟨b6, rfl, s8⟩)
  rw [hon] at s8
  have kn := s8.out.num
  clear s7 kO r0 r1 r2
  have hn1 : ((N : Int) != (N : Int)) = false := by simp
  go_wp2_with (go_at_call 19; refine kn.mono ?_; rintro e w7 ⟨rfl, hw7⟩; rw [hw7]; clear hw7 w7)
  go_loopw [11] (fun i w' => ∃ t : Nat, t ≤ N ∧ i = .int .i64 t ∧ Hid (PX B w4 w' g eb N es [(.slice (some ⟨b6, 0, none⟩) N N, On), (.slice (some ⟨b5, 0, none⟩) N N, No)] [(some ⟨w5.heap.size, 0, none⟩, [(rt, wt, mx)]), (none, [])])) (fun i _ => N - (intOf i).toNat)
  case atStart => exact ⟨0, Nat.zero_le _, rfl, s8⟩
  case round =>
    obtain ⟨t, ht, rfl, s9⟩ := hrel
    obtain ⟨w8, rfl⟩ : ∃ w', w' = wr := ⟨_, rfl⟩
    by_cases htn : t < N
    · obtain ⟨r0, r1, r2⟩ := HCC.out _ s9.out.bel
      have kr := s9.out.reaches rt t _ rfl
      have ho := hW.out.on t (by rw [hW.out.ol]; exact htn)
      have hz := hW.out.no t (by rw [hW.out.nl]; exact htn)
      have HAT : Hid (∀ w', PX B w4 w' g eb N es [(.slice (some ⟨b6, 0, none⟩) N N, On), (.slice (some ⟨b5, 0, none⟩) N N, No)] [(some ⟨w5.heap.size, 0, none⟩, [(rt, wt, mx)]), (none, [])] → w'.cell? ⟨b5, t, none⟩ = some (.int .i64 (-1)) ∧ w'.cell? ⟨b6, t, none⟩ = some (.int .i64 (if reachB N es rt (t : Int) = true then mx else -1)) ∧ w'.cell? ⟨c5, 0, none⟩ = some (.int .i64 rt) ∧ w'.cell? ⟨c5, 2, none⟩ = some (.int .i64 mx)) := by
        intro w' h
        obtain ⟨q1, e1, _, e2⟩ := (h.row (u := .slice (some ⟨b5, 0, none⟩) N N) (L := No) (by simp)).at t (by rw [hW.out.nl]; exact htn)
        obtain ⟨q2, e3, _, e4⟩ := (h.row (u := .slice (some ⟨b6, 0, none⟩) N N) (L := On) (by simp)).at t (by rw [hW.out.ol]; exact htn)
        cases e1
        cases e3
        obtain ⟨p0, p1, p2⟩ := HCC.out _ h.bel
        exact ⟨by rw [e2, hz], by rw [e4, ho], p0, p2⟩
      clear ho hz
      generalize reachB N es rt (t : Int) = R at *
      cases R with
      | true =>
        go_wp2_with (go_at_call 22; refine kr.mono ?_; rintro e w9 ⟨rfl, s10⟩; obtain ⟨z1, z2, z3, z4⟩ := HAT.out _ s10.out; simp only [if_true] at z2)
        go_roundw
        case rel => exact ⟨t + 1, by omega, by go_num, s10⟩
        case measure => simp [intOf]; omega
      | false =>
        go_wp2_with (go_at_call 22; refine kr.mono ?_; rintro e w9 ⟨rfl, s10⟩; obtain ⟨z1, z2, z3, z4⟩ := HAT.out _ s10.out; simp only [Bool.false_eq_true, if_false] at z2)
        go_roundw
        case rel => exact ⟨t + 1, by omega, by go_num, s10⟩
        case measure => simp [intOf]; omega
    · obtain rfl : t = N := by omega
      go_wp2
      go_ret
      exact ⟨rfl, hB4.out.trans (s9.out.bel.mono (Nat.le_trans HBW.out (Nat.le_refl _)))⟩
end Go.Proofs.YtmeeimfjibcncaaDoor
