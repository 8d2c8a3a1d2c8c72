/- What a law with one graph holds; shown: what must be in any case. -/
import Derived.Test.YtpbncoaonminoaaDoorMad
namespace Go.Proofs.YtpbncoaonminoaaDoor
open Go.RowKit
open M
set_option linter.unusedVariables false
set_option linter.unusedSimpArgs false

/-- All that is the call's own, and what was there. -/
structure Sc (B : Nat) (w0 w : World) (g eb n : Nat) (es : List E) : Prop where
  bel : Below B w0 w
  go : GO w B g eb n es
  tab : Tab w
  pos : 0 < B
  le : B ≤ w.heap.size
theorem Sc.step {B : Nat} {w0 w w' : World} {g eb n : Nat} {es : List E} (h : Sc B w0 w g eb n es) (hb : Below w.heap.size w w') : Sc B w0 w' g eb n es :=
  ⟨h.bel.trans (hb.mono h.le), h.go.below hb, tab_below h.tab (Nat.lt_of_lt_of_le h.pos h.le) hb, h.pos, Nat.le_trans h.le hb.size⟩
section
variable {B : Nat} {w0 w : World} {g eb n : Nat} {es : List E}
theorem Sc.add (h : Sc B w0 w g eb n es) (hle : es.length ≤ 1000000) (a b : Int) (R : Bool) (er : Int) (fs : List E) (hR : newB n es a b = R) (he : errN n a b = er) (hf : addE n es a b = fs) :
    Calls Tryd.prog 25 #[ptr g, .int .i64 a, .int .i64 b] w fun e w' => e = .returned (.tuple #[.bool R, .int .i64 er]) ∧ Hid (Sc B w0 w' g eb n fs) := by
  refine (add_go h.go a b hle h.le).mono ?_
  rintro e w' ⟨rfl, hg, hb⟩
  subst hR he hf
  have hb' := hb.out
  refine ⟨rfl, h.bel.trans hb', hg.out, fun j hj => ?_, h.pos, Nat.le_trans h.le hb'.size⟩
  rw [hb'.cell (p := ⟨0, j, none⟩) h.pos]; exact h.tab j hj
theorem Sc.has (h : Sc B w0 w g eb n es) (a b : Int) (R : Bool) (hR : hasB n es a b = R) :
    Calls Tryd.prog 22 #[ptr g, .int .i64 a, .int .i64 b] w fun e w' => e = .returned (.bool R) ∧ Hid (Sc B w0 w' g eb n es) := by
  obtain ⟨v, hm, _⟩ := h.go.ex
  refine (has_edge hm a b).mono ?_
  rintro e w' ⟨rfl, hb⟩
  exact ⟨by rw [hR], h.step hb⟩
theorem Sc.reaches (h : Sc B w0 w g eb n es) (a b : Int) (R : Bool) (hR : reachB n es a b = R) :
    Calls Tryd.prog 21 #[ptr g, .int .i64 a, .int .i64 b] w fun e w' => e = .returned (.bool R) ∧ Hid (Sc B w0 w' g eb n es) := by
  obtain ⟨v, hm, _⟩ := h.go.ex
  refine (reaches_any hm h.tab (Nat.lt_of_lt_of_le h.pos h.le) a b).mono ?_
  rintro e w' ⟨rfl, hb⟩
  exact ⟨by rw [hR], h.step hb⟩
theorem Sc.num (h : Sc B w0 w g eb n es) : Calls Tryd.prog 23 #[ptr g] w fun e w' => e = .returned (.int .i64 n) ∧ w' = w := by
  obtain ⟨v, hm, _⟩ := h.go.ex
  exact n_any g eb n w hm.hn hm.c1
theorem Sc.out (h : Sc B w0 w g eb n es) (hle : es.length ≤ 1000000) (a : Int) (L : List Nat) (hL : outs es a = L) :
    Calls Tryd.prog 24 #[ptr g, .int .i64 a] w fun e w' => ∃ u, e = .returned u ∧ Hid (Sc B w0 w' g eb n es ∧ OwnI w' w.heap.size u L) := by
  obtain ⟨v, hm, _⟩ := h.go.ex
  refine (out_any hm a hle).mono ?_
  rintro e w' ⟨u, rfl, ho, hb⟩
  exact ⟨u, rfl, h.step hb, by rw [← hL]; exact ho⟩
theorem Sc.ins (h : Sc B w0 w g eb n es) (hle : es.length ≤ 1000000) (a : Int) (L : List Nat) (hL : ins es a = L) :
    Calls Tryd.prog 31 #[ptr g, .int .i64 a] w fun e w' => ∃ u, e = .returned u ∧ Hid (Sc B w0 w' g eb n es ∧ OwnI w' w.heap.size u L) := by
  obtain ⟨v, hm, _⟩ := h.go.ex
  refine (in_any hm a hle).mono ?_
  rintro e w' ⟨u, rfl, ho, hb⟩
  exact ⟨u, rfl, h.step hb, by rw [← hL]; exact ho⟩
theorem Sc.eqs (h : Sc B w0 w g eb n es) {va vb : Value} {xs ys : List Nat} (ha : IAt w va xs) (hb : IAt w vb ys) (hl : xs.length ≤ 1000000) (R : Bool) (hR : decide (xs = ys) = R) :
    Calls Tryd.prog 15 #[va, vb] w fun e w' => e = .returned (.bool R) ∧ Hid (Sc B w0 w' g eb n es) := by
  refine (ints_any ha hb hl).mono ?_
  rintro e w' ⟨rfl, hb⟩
  exact ⟨by rw [hR], h.step hb⟩
end

/-- A graph of the call's own, and rows beside it. -/
structure R1 (B : Nat) (w0 W : World) (g eb n : Nat) (v : Value) (es : List E) (X : List (Value × List Nat)) : Prop where
  bel : Below B w0 W
  gm : GM W g eb n v es
  gB : ∀ k, Foot g eb v k → B ≤ k
  tab : Tab W
  pos : 0 < B
  le : B ≤ W.heap.size
  ext : ∀ p ∈ X, OwnI W B p.1 p.2 ∧ ∀ k, p.1.ownBlock = some k → ¬ Foot g eb v k
def RX (B : Nat) (w0 W : World) (g eb n : Nat) (es : List E) (X : List (Value × List Nat)) : Prop := ∃ v, R1 B w0 W g eb n v es X
section
variable {B : Nat} {w0 w w' : World} {g eb n : Nat} {es : List E} {X : List (Value × List Nat)}
theorem RX.bel (h : RX B w0 w g eb n es X) : Below B w0 w := by obtain ⟨v, h⟩ := h; exact h.bel
theorem RX.le (h : RX B w0 w g eb n es X) : B ≤ w.heap.size := by obtain ⟨v, h⟩ := h; exact h.le
theorem RX.hn (h : RX B w0 w g eb n es X) : n ≤ 64 := by obtain ⟨v, h⟩ := h; exact h.gm.hn
theorem RX.good (h : RX B w0 w g eb n es X) : ∀ e ∈ es, e.1 < n ∧ e.2 < n := by obtain ⟨v, h⟩ := h; exact h.gm.good
theorem RX.nd (h : RX B w0 w g eb n es X) : es.Nodup := by obtain ⟨v, h⟩ := h; exact h.gm.nd
theorem RX.row (h : RX B w0 w g eb n es X) {u : Value} {L : List Nat} (hu : (u, L) ∈ X) : OwnI w B u L := by obtain ⟨v, h⟩ := h; exact (h.ext _ hu).1
theorem RX.step (h : RX B w0 w g eb n es X) (hb : Below w.heap.size w w') : RX B w0 w' g eb n es X := by
  obtain ⟨v, h⟩ := h
  exact ⟨v, h.bel.trans (hb.mono h.le), h.gm.below hb, h.gB, tab_below h.tab (Nat.lt_of_lt_of_le h.pos h.le) hb, h.pos, Nat.le_trans h.le hb.size, fun p hp => ⟨owns_below (h.ext p hp).1 hb, (h.ext p hp).2⟩⟩
theorem RX.cons (h : RX B w0 w g eb n es X) (hb : Below w.heap.size w w') {u : Value} {L : List Nat} (hu : OwnI w' w.heap.size u L) : RX B w0 w' g eb n es ((u, L) :: X) := by
  have h2 := h.step hb
  obtain ⟨v, h⟩ := h
  have h2 : R1 B w0 w' g eb n v es X := ⟨h.bel.trans (hb.mono h.le), h.gm.below hb, h.gB, tab_below h.tab (Nat.lt_of_lt_of_le h.pos h.le) hb, h.pos, Nat.le_trans h.le hb.size, fun p hp => ⟨owns_below (h.ext p hp).1 hb, (h.ext p hp).2⟩⟩
  refine ⟨v, h2.bel, h2.gm, h2.gB, h2.tab, h2.pos, h2.le, fun p hp => ?_⟩
  rcases List.mem_cons.1 hp with rfl | hp
  · refine ⟨owns_base hu (fun k hk => by have := (hu.lt k hk).1; have := h.le; omega), fun k hk hf => ?_⟩
    have := (hu.lt k hk).1
    have := h.gm.lt k hf
    omega
  · exact h2.ext p hp
theorem RX.order (h : RX B w0 w g eb n es X) (hle : es.length ≤ 1000000) (L : List Nat) (R : Bool) (hL : orderL es n = L) (hR : orderB es n = R) :
    Calls Tryd.prog 13 #[ptr g] w fun e w' => ∃ u, e = .returned (.tuple #[u, .bool R]) ∧ Hid (RX B w0 w' g eb n es ((u, L) :: X)) := by
  have h' := h
  obtain ⟨v, hm⟩ := h
  refine (order_any hm.gm hle).mono ?_
  rintro e w' ⟨u, rfl, ho, hb⟩
  subst hL hR
  exact ⟨u, rfl, h'.cons hb ho⟩
theorem RX.on (h : RX B w0 w g eb n es X) (hle : es.length ≤ 1000000) (L : List Nat) (hL : onL es n = L) :
    Calls Tryd.prog 19 #[ptr g] w fun e w' => ∃ u, e = .returned u ∧ Hid (RX B w0 w' g eb n es ((u, L) :: X)) := by
  have h' := h
  obtain ⟨v, hm⟩ := h
  refine (on_any hm.gm hm.tab (Nat.lt_of_lt_of_le hm.pos hm.le) hle).mono ?_
  rintro e w' ⟨u, rfl, ho, hb⟩
  subst hL
  exact ⟨u, rfl, h'.cons hb ho⟩
theorem RX.path (h : RX B w0 w g eb n es X) (hle : es.length ≤ 1000000) (a b : Int) (L : List Nat) (hL : pathG es n a b = L) :
    Calls Tryd.prog 16 #[ptr g, .int .i64 a, .int .i64 b] w fun e w' => ∃ u, e = .returned u ∧ Hid (RX B w0 w' g eb n es ((u, L) :: X)) := by
  have h' := h
  obtain ⟨v, hm⟩ := h
  refine (path_any hm.gm hle a b).mono ?_
  rintro e w' ⟨u, rfl, ho, hb⟩
  subst hL
  exact ⟨u, rfl, h'.cons hb ho⟩
theorem RX.closes (h : RX B w0 w g eb n es X) (hle : es.length ≤ 1000000) (a b : Int) (L : List Nat) (hL : pathG es n b a = L) :
    Calls Tryd.prog 18 #[ptr g, .int .i64 a, .int .i64 b] w fun e w' => ∃ u, e = .returned u ∧ Hid (RX B w0 w' g eb n es ((u, L) :: X)) := by
  have h' := h
  obtain ⟨v, hm⟩ := h
  refine (closes_any hm.gm hle a b).mono ?_
  rintro e w' ⟨u, rfl, ho, hb⟩
  subst hL
  exact ⟨u, rfl, h'.cons hb ho⟩
theorem RX.out (h : RX B w0 w g eb n es X) (hle : es.length ≤ 1000000) (a : Int) (L : List Nat) (hL : outs es a = L) :
    Calls Tryd.prog 24 #[ptr g, .int .i64 a] w fun e w' => ∃ u, e = .returned u ∧ Hid (RX B w0 w' g eb n es ((u, L) :: X)) := by
  have h' := h
  obtain ⟨v, hm⟩ := h
  refine (out_any hm.gm a hle).mono ?_
  rintro e w' ⟨u, rfl, ho, hb⟩
  subst hL
  exact ⟨u, rfl, h'.cons hb ho⟩
theorem RX.num (h : RX B w0 w g eb n es X) : Calls Tryd.prog 23 #[ptr g] w fun e w' => e = .returned (.int .i64 n) ∧ w' = w := by
  obtain ⟨v, hm⟩ := h
  exact n_any g eb n w hm.gm.hn hm.gm.c1
theorem RX.has (h : RX B w0 w g eb n es X) (a b : Int) (R : Bool) (hR : hasB n es a b = R) :
    Calls Tryd.prog 22 #[ptr g, .int .i64 a, .int .i64 b] w fun e w' => e = .returned (.bool R) ∧ Hid (RX B w0 w' g eb n es X) := by
  have h' := h
  obtain ⟨v, hm⟩ := h
  refine (has_edge hm.gm a b).mono ?_
  rintro e w' ⟨rfl, hb⟩
  exact ⟨by rw [hR], h'.step hb⟩
theorem RX.reaches (h : RX B w0 w g eb n es X) (a b : Int) (R : Bool) (hR : reachB n es a b = R) :
    Calls Tryd.prog 21 #[ptr g, .int .i64 a, .int .i64 b] w fun e w' => e = .returned (.bool R) ∧ Hid (RX B w0 w' g eb n es X) := by
  have h' := h
  obtain ⟨v, hm⟩ := h
  refine (reaches_any hm.gm hm.tab (Nat.lt_of_lt_of_le hm.pos hm.le) a b).mono ?_
  rintro e w' ⟨rfl, hb⟩
  exact ⟨by rw [hR], h'.step hb⟩
theorem RX.eqs (h : RX B w0 w g eb n es X) {va vb : Value} {xs ys : List Nat} (ha : IAt w va xs) (hb : IAt w vb ys) (hl : xs.length ≤ 1000000) (R : Bool) (hR : decide (xs = ys) = R) :
    Calls Tryd.prog 15 #[va, vb] w fun e w' => e = .returned (.bool R) ∧ Hid (RX B w0 w' g eb n es X) := by
  refine (ints_any ha hb hl).mono ?_
  rintro e w' ⟨rfl, hb⟩
  exact ⟨by rw [hR], h.step hb⟩
theorem RX.add (h : RX B w0 w g eb n es X) (hle : es.length ≤ 1000000) (a b : Int) (R : Bool) (er : Int) (fs : List E) (hR : newB n es a b = R) (he : errN n a b = er) (hf : addE n es a b = fs) :
    Calls Tryd.prog 25 #[ptr g, .int .i64 a, .int .i64 b] w fun e w' => e = .returned (.tuple #[.bool R, .int .i64 er]) ∧ Hid (RX B w0 w' g eb n fs X) := by
  obtain ⟨v, h⟩ := h
  subst hR he hf
  refine (add_any h.gm a b hle).mono ?_
  rintro e w' ⟨rfl, v', h1, h2, h3⟩
  have hb := h2.below h.le h.gB
  refine ⟨rfl, v', h.bel.trans hb, h1, ?_, ?_, h.pos, Nat.le_trans h.le hb.size, fun p hp => ?_⟩
  · rintro k (rfl | rfl | hk)
    · exact h.gB _ (.inl rfl)
    · exact h.gB _ (.inr (.inl rfl))
    · rcases h3 with q | ⟨j, q1, q2⟩
      · exact h.gB k (.inr (.inr (by rw [← q]; exact hk)))
      · rw [q1] at hk; cases hk; have := h.le; omega
  · exact tab_turn h.tab (Nat.lt_of_lt_of_le h.pos h.le) h2 (fun hf => by have := h.gB 0 hf; have := h.pos; omega)
  · obtain ⟨e1, e2⟩ := h.ext p hp
    refine ⟨owns_keep e1 (fun k hk => h2.block k (e1.lt k hk).2 (e2 k hk)), ?_⟩
    rintro k hk (rfl | rfl | hf)
    · exact e2 _ hk (.inl rfl)
    · exact e2 _ hk (.inr (.inl rfl))
    · rcases h3 with q | ⟨j, q1, q2⟩
      · exact e2 k hk (.inr (.inr (by rw [← q]; exact hf)))
      · rw [q1] at hf
        cases hf
        have := (e1.lt _ hk).2
        omega
end
theorem made_rx (n : Int) (ls : List (Int × Int)) (la : Option Addr) (lc : Nat) (w : World) (hT : Tab w) (h0 : 0 < w.heap.size) (hl : LIn w la ls) (hm : ls.length ≤ maxLen) (m N : Nat) (fs : List E) (hmm : ls.length = m) (hN : sz30 n = N) (hf : foldE N (ls.take 100) [] = fs) :
    Calls Tryd.prog 10 #[.int .i64 n, .slice la m lc] w fun e w' => ∃ g eb, e = .returned (ptr g) ∧ Hid (RX w.heap.size w w' g eb N fs []) := by
  subst hmm hN hf
  refine (made_any n ls la lc w hl hm).mono ?_
  rintro e w' ⟨rfl, hg, hb⟩
  obtain ⟨v, hm, hv⟩ := hg.out.ex
  refine ⟨_, _, rfl, v, hb.out, hm, ?_, tab_below hT h0 hb.out, h0, hb.out.size, fun p hp => by simp at hp⟩
  rintro k (rfl | rfl | hk)
  · exact hg.out.hg
  · exact hg.out.he
  · exact hv k hk

/-- The graph of shown, ahead of its last edge and behind it. -/
def esS : List E := [(0, 1), (1, 2)]
def esT : List E := [(0, 1), (1, 2), (2, 0)]
theorem fold_S : foldE 3 (([(0, 1), (1, 2)] : List (Int × Int)).take 100) [] = esS := by decide
theorem ord_S : orderL esS 3 = [2, 1, 0] := by decide
theorem ordB_S : orderB esS 3 = true := by decide
theorem path_S1 : pathG esS 3 0 2 = [0, 1, 2] := by decide
theorem path_S2 : pathG esS 3 2 0 = [] := by decide
theorem add_S : addE 3 esS 2 0 = esT := by decide
theorem new_S : newB 3 esS 2 0 = true := by decide
theorem err_S : errN 3 2 0 = 0 := by decide
theorem ordB_T : orderB esT 3 = false := by decide
theorem ordL_T : orderL esT 3 = [] := by decide
theorem on_T : onL esT 3 = [0, 1, 2] := by decide

set_option maxRecDepth 1000000 in
set_option maxHeartbeats 4000000 in
theorem shown_any (w : World) (hT : Tab w) (h0 : 0 < w.heap.size) :
    Calls Tryd.prog 9 #[] w fun e w' => e = .returned (.bool true) ∧ Below w.heap.size w w' := by
  obtain ⟨w1, hw1⟩ : ∃ w1, w.alloc (.cells #[.int .i64 0, .int .i64 1, .int .i64 1, .int .i64 2] 32) = w1 := ⟨_, rfl⟩
  have hb1 : Below w.heap.size w w1 := by rw [← hw1]; exact (Below.refl _ _).alloc (Nat.le_refl _) _
  have hs1 : w1.heap.size = w.heap.size + 1 := by rw [← hw1]; simp
  have hl1 : LIn w1 (some ⟨w.heap.size, 0, none⟩) [(0, 1), (1, 2)] := by
    intro i hi
    refine ⟨w.heap.size, 0, rfl, by omega, ?_⟩
    have hi2 : i = 0 ∨ i = 1 := by simp at hi; omega
    rcases hi2 with rfl | rfl
    · constructor
      · rw [← hw1]; simp
      · rw [← hw1]; simp
    · constructor
      · rw [← hw1]; simp
      · rw [← hw1]; simp
  have kN := made_rx 3 _ _ 2 w1 (tab_below hT h0 hb1) (by omega) hl1 (by unfold maxLen; simp) 2 3 esS rfl (by decide) fold_S
  have HB1 := hide_it hb1
  have HW := hide_it hw1
  clear hT hl1 hb1 hs1
  generalize heb : w1.heap.size = B at *
  have HEB := hide_it heb
  clear heb hw1
  have kO := fun W g eb (h : RX B w1 W g eb 3 esS []) => h.order (by decide) _ _ ord_S ordB_S
  have kC1 := fun W g eb X (h : RX B w1 W g eb 3 esS X) => h.closes (by decide) 2 0 _ path_S1
  have kC2 := fun W g eb X (h : RX B w1 W g eb 3 esS X) => h.closes (by decide) 0 2 _ path_S2
  have kA := fun W g eb X (h : RX B w1 W g eb 3 esS X) => h.add (by decide) 2 0 _ _ _ new_S err_S add_S
  have kO2 := fun W g eb X (h : RX B w1 W g eb 3 esT X) => h.order (by decide) _ _ ordL_T ordB_T
  have kOn := fun W g eb X (h : RX B w1 W g eb 3 esT X) => h.on (by decide) _ on_T
  have kE : ∀ W g eb X u (c : Array Value) (L : List Nat), RX B w1 W g eb 3 esT X → (u, L) ∈ X → L.length = 3 → c = (L.map fun x => Value.int .i64 (x : Nat)).toArray → Calls Tryd.prog 15 #[u, .slice (some ⟨W.heap.size, 0, none⟩) 3 3] (W.alloc (.cells c 3)) fun e w' => e = .returned (.bool true) ∧ Hid (RX B w1 w' g eb 3 esT X) := fun W g eb X u c L h hu hl hc => by
    have hb : Below W.heap.size W (W.alloc (.cells c 3)) := (Below.refl _ _).alloc (Nat.le_refl _) _
    exact (h.step hb).eqs (own_iat ((h.step hb).row hu)) (lit_iat W L 3 _ 3 _ hc rfl hl) (by omega) true (by simp)
  go_enter Tryd.func9, Tryd.ntmps9
  go_wp2_with (first | (rw [HW.out]) | (go_at_call 10; refine kN.mono ?_; rintro e w2 ⟨g, eb, rfl, s2⟩) | (go_at_call 13; refine (kO _ _ _ s2.out).mono ?_; rintro e w3 ⟨u3, rfl, s3⟩; refine Hid.out ?_))
  refine hide_it ?_
  go_wp2_with (go_at_call 18; refine (kC1 _ _ _ _ s3.out).mono ?_; rintro e w4 ⟨u4, rfl, s4⟩; refine Hid.out ?_)
  refine hide_it ?_
  go_wp2_with (first | (go_at_call 18; refine (kC2 _ _ _ _ s4.out).mono ?_; rintro e w5 ⟨u5, rfl, s5⟩; obtain ⟨ao5, cp5, h5, _⟩ := own_iat (s5.out.row (u := u5) (L := []) (by simp)); subst h5) | (go_at_call 25; refine (kA _ _ _ _ s5.out).mono ?_; rintro e w6 ⟨rfl, s6⟩) | (go_at_call 13; refine (kO2 _ _ _ _ s6.out).mono ?_; rintro e w7 ⟨u7, rfl, s7⟩; refine Hid.out ?_))
  refine hide_it ?_
  go_wp2_with (go_at_call 15; refine (kE _ _ _ _ _ _ [2, 1, 0] s7.out (by simp) rfl rfl).mono ?_; rintro e w8 ⟨rfl, s8⟩; refine Hid.out ?_)
  refine hide_it ?_
  go_wp2_with (go_at_call 15; refine (kE _ _ _ _ _ _ [0, 1, 2] s8.out (by simp) rfl rfl).mono ?_; rintro e w9 ⟨rfl, s9⟩; refine Hid.out ?_)
  refine hide_it ?_
  go_wp2_with (first | (go_at_call 19; refine (kOn _ _ _ _ s9.out).mono ?_; rintro e w10 ⟨u10, rfl, s10⟩) | (go_at_call 15; refine (kE _ _ _ _ _ _ [0, 1, 2] s10.out (by simp) rfl rfl).mono ?_; rintro e w11 ⟨rfl, s11⟩))
  go_ret
  refine ⟨rfl, ?_⟩
  have := s11.out.bel
  rw [← HEB.out] at this
  exact HB1.out.trans (this.mono HB1.out.size)
end Go.Proofs.YtpbncoaonminoaaDoor
