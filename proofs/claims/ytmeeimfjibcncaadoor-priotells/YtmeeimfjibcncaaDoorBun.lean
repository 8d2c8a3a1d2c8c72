/- What a law holds: a graph of the call's own, rows and requests beside it. -/
import Derived.Test.YtmeeimfjibcncaaDoorRsd
namespace Go.Proofs.YtmeeimfjibcncaaDoor
open Go.RowKit
open M
set_option linter.unusedVariables false
set_option linter.unusedSimpArgs false

/-- A graph, and rows and requests beside it. -/
structure P1 (B : Nat) (w0 W : World) (g eb n : Nat) (v : Value) (es : List E) (X : List (Value × List Int)) (Y : List (Option Addr × List Rq)) : Prop where
  bel : Below B w0 W
  gm : GM W g eb n v es
  gB : ∀ k, Foot g eb v k → B ≤ k
  tab : Tab W
  pos : 0 < B
  le : B ≤ W.heap.size
  ext : ∀ p ∈ X, ZAt W p.1 p.2 ∧ ∀ k, p.1.ownBlock = some k → k < W.heap.size ∧ ¬ Foot g eb v k
  req : ∀ p ∈ Y, QIn W p.1 p.2 ∧ (0 < p.2.length → ∀ k, blkOf p.1 = some k → k < W.heap.size ∧ ¬ Foot g eb v k)
def PX (B : Nat) (w0 W : World) (g eb n : Nat) (es : List E) (X : List (Value × List Int)) (Y : List (Option Addr × List Rq)) : Prop := ∃ v, P1 B w0 W g eb n v es X Y
section
variable {B : Nat} {w0 w w' : World} {g eb n : Nat} {v : Value} {es : List E} {X : List (Value × List Int)} {Y : List (Option Addr × List Rq)}
theorem P1.step (h : P1 B w0 w g eb n v es X Y) (hb : Below w.heap.size w w') : P1 B w0 w' g eb n v es X Y :=
  ⟨h.bel.trans (hb.mono h.le), h.gm.below hb, h.gB, tab_below h.tab (Nat.lt_of_lt_of_le h.pos h.le) hb, h.pos, Nat.le_trans h.le hb.size,
    fun p hp => ⟨(h.ext p hp).1.below hb (Nat.le_refl _), fun k hk => ⟨Nat.lt_of_lt_of_le ((h.ext p hp).2 k hk).1 hb.size, ((h.ext p hp).2 k hk).2⟩⟩,
    fun p hp => ⟨(h.req p hp).1.below hb (Nat.le_refl _), fun h0 k hk => ⟨Nat.lt_of_lt_of_le ((h.req p hp).2 h0 k hk).1 hb.size, ((h.req p hp).2 h0 k hk).2⟩⟩⟩
theorem PX.bel (h : PX B w0 w g eb n es X Y) : Below B w0 w := by obtain ⟨v, h⟩ := h; exact h.bel
theorem PX.le (h : PX B w0 w g eb n es X Y) : B ≤ w.heap.size := by obtain ⟨v, h⟩ := h; exact h.le
theorem PX.hn (h : PX B w0 w g eb n es X Y) : n ≤ 64 := by obtain ⟨v, h⟩ := h; exact h.gm.hn
theorem PX.good (h : PX B w0 w g eb n es X Y) : ∀ e ∈ es, e.1 < n ∧ e.2 < n := by obtain ⟨v, h⟩ := h; exact h.gm.good
theorem PX.row (h : PX B w0 w g eb n es X Y) {u : Value} {L : List Int} (hu : (u, L) ∈ X) : ZAt w u L := by obtain ⟨v, h⟩ := h; exact (h.ext _ hu).1
theorem PX.q (h : PX B w0 w g eb n es X Y) {a : Option Addr} {Q : List Rq} (hq : (a, Q) ∈ Y) : QIn w a Q := by obtain ⟨v, h⟩ := h; exact (h.req _ hq).1
theorem PX.step (h : PX B w0 w g eb n es X Y) (hb : Below w.heap.size w w') : PX B w0 w' g eb n es X Y := by
  obtain ⟨v, h⟩ := h
  exact ⟨v, h.step hb⟩
theorem PX.drewN (h : PX B w0 w g eb n es X Y) (j : Nat) : PX B w0 (w.drewN j) g eb n es X Y := h.step (below_drewN (Below.refl _ _) j)
theorem PX.fewer (h : PX B w0 w g eb n es X Y) {X' : List (Value × List Int)} (hx : ∀ p ∈ X', p ∈ X) : PX B w0 w g eb n es X' Y := by
  obtain ⟨v, h⟩ := h
  exact ⟨v, h.bel, h.gm, h.gB, h.tab, h.pos, h.le, fun p hp => h.ext p (hx p hp), h.req⟩
theorem PX.cons (h : PX B w0 w g eb n es X Y) (hb : Below w.heap.size w w') {u : Value} {L : List Int} (hu : ZAt w' u L) (hk : ∀ k, u.ownBlock = some k → w.heap.size ≤ k ∧ k < w'.heap.size) : PX B w0 w' g eb n es ((u, L) :: X) Y := by
  obtain ⟨v, h⟩ := h
  have h2 := h.step hb
  refine ⟨v, h2.bel, h2.gm, h2.gB, h2.tab, h2.pos, h2.le, fun p hp => ?_, h2.req⟩
  rcases List.mem_cons.1 hp with rfl | hp
  · refine ⟨hu, fun k hk' => ⟨(hk k hk').2, fun hf => ?_⟩⟩
    have := (hk k hk').1
    have := h.gm.lt k hf
    omega
  · exact h2.ext p hp
theorem PX.consI (h : PX B w0 w g eb n es X Y) (hb : Below w.heap.size w w') {u : Value} {L : List Nat} (hu : OwnI w' w.heap.size u L) : PX B w0 w' g eb n es ((u, zs L) :: X) Y :=
  h.cons hb (own_zat (own_z hu)) (fun k hk => hu.lt k hk)
/-- Requests made by the call. -/
theorem PX.consQ (h : PX B w0 w g eb n es X Y) (hb : Below w.heap.size w w') {a : Option Addr} {Q : List Rq} (hu : QIn w' a Q) (hk : ∀ k, blkOf a = some k → w.heap.size ≤ k ∧ k < w'.heap.size) : PX B w0 w' g eb n es X ((a, Q) :: Y) := by
  obtain ⟨v, h⟩ := h
  have h2 := h.step hb
  refine ⟨v, h2.bel, h2.gm, h2.gB, h2.tab, h2.pos, h2.le, h2.ext, fun p hp => ?_⟩
  rcases List.mem_cons.1 hp with rfl | hp
  · refine ⟨hu, fun _ k hk' => ⟨(hk k hk').2, fun hf => ?_⟩⟩
    have := (hk k hk').1
    have := h.gm.lt k hf
    omega
  · exact h2.req p hp
/-- Requests that came in. -/
theorem PX.argQ (h : PX B w0 w g eb n es X Y) {a : Option Addr} {Q : List Rq} (hw : w0.heap.size ≤ B) (hu : QIn w0 a Q) : PX B w0 w g eb n es X ((a, Q) :: Y) := by
  obtain ⟨v, h⟩ := h
  refine ⟨v, h.bel, h.gm, h.gB, h.tab, h.pos, h.le, h.ext, fun p hp => ?_⟩
  rcases List.mem_cons.1 hp with rfl | hp
  · refine ⟨hu.below h.bel hw, fun h0 k hk => ?_⟩
    obtain ⟨b, o, e1, e2, _⟩ := hu 0 h0
    simp only [] at hk
    rw [e1] at hk
    have e3 : b = k := Option.some.inj hk
    subst e3
    exact ⟨Nat.lt_of_lt_of_le e2 (Nat.le_trans hw h.le), fun hf => by have := h.gB _ hf; omega⟩
  · exact h.req p hp
theorem PX.num (h : PX B w0 w g eb n es X Y) : Calls Tryd.prog 19 #[ptr g] w fun e w' => e = .returned (.int .i64 n) ∧ w' = w := by
  obtain ⟨v, hm⟩ := h
  exact n_any g eb n w hm.gm.hn hm.gm.c1
theorem PX.reaches (h : PX B w0 w g eb n es X Y) (a b : Int) (R : Bool) (hR : reachB n es a b = R) :
    Calls Tryd.prog 22 #[ptr g, .int .i64 a, .int .i64 b] w fun e w' => e = .returned (.bool R) ∧ Hid (PX B w0 w' g eb n es X Y) := by
  have h' := h
  obtain ⟨v, hm⟩ := h
  refine (reaches_any hm.gm hm.tab (Nat.lt_of_lt_of_le hm.pos hm.le) a b).mono ?_
  rintro e w' ⟨rfl, hb⟩
  exact ⟨by rw [hR], h'.step hb⟩
theorem PX.out (h : PX B w0 w g eb n es X Y) (hle : es.length ≤ 1000000) (a : Int) (L : List Nat) (hL : outs es a = L) :
    Calls Tryd.prog 20 #[ptr g, .int .i64 a] w fun e w' => ∃ ao cap, e = .returned (.slice ao L.length cap) ∧ Hid (PX B w0 w' g eb n es ((.slice ao L.length cap, zs L) :: X) Y) := by
  have h' := h
  obtain ⟨v, hm⟩ := h
  refine (out_any hm.gm a hle).mono ?_
  rintro e w' ⟨u, rfl, ho, hb⟩
  subst hL
  have s := h'.consI hb ho
  obtain ⟨ao, cap, rfl⟩ := (own_zat (own_z ho)).form
  rw [zs_len] at s ⊢
  exact ⟨ao, cap, rfl, s⟩
theorem PX.of (h : PX B w0 w g eb n es X Y) {qa : Option Addr} {Q : List Rq} (hq : (qa, Q) ∈ Y) (hm6 : Q.length ≤ 1000000) (qc m : Nat) (hm : Q.length = m) (L : List Int) (hL : ofL n es Q = L) :
    Calls Tryd.prog 15 #[ptr g, .slice qa m qc] w fun e w' => ∃ b, e = .returned (.slice (some ⟨b, 0, none⟩) n n) ∧ Hid (PX B w0 w' g eb n es ((.slice (some ⟨b, 0, none⟩) n n, L) :: X) Y) := by
  have h' := h
  obtain ⟨v, hp⟩ := h
  subst hm hL
  refine (of_any hp.gm hp.tab (Nat.lt_of_lt_of_le hp.pos hp.le) (h'.q hq) hm6 qc).mono ?_
  rintro e w' ⟨b, rfl, s, hb⟩
  refine ⟨b, rfl, h'.cons hb s.out.2 (fun k hk => ?_)⟩
  have e : b = k := Option.some.inj hk
  subst e
  exact ⟨s.out.1.1, s.out.1.2⟩
theorem PX.reached (h : PX B w0 w g eb n es X Y) {qa : Option Addr} {Q : List Rq} (hq : (qa, Q) ∈ Y) (hm6 : Q.length ≤ 1000000) (qc m : Nat) (hm : Q.length = m) (t : Int) (L : List Nat) (hL : reachedL n es Q t Q.length = L) :
    Calls Tryd.prog 13 #[ptr g, .slice qa m qc, .int .i64 t] w fun e w' => ∃ ao cap, e = .returned (.slice ao L.length cap) ∧ Hid (PX B w0 w' g eb n es ((.slice ao L.length cap, zs L) :: X) Y) := by
  have h' := h
  obtain ⟨v, hp⟩ := h
  subst hm
  refine (reachedP_any hp.gm hp.tab (Nat.lt_of_lt_of_le hp.pos hp.le) (h'.q hq) hm6 qc t).mono ?_
  rintro e w' ⟨u, rfl, ho, hb⟩
  subst hL
  have s := h'.consI hb ho
  obtain ⟨ao, cap, rfl⟩ := (own_zat (own_z ho)).form
  rw [zs_len] at s ⊢
  exact ⟨ao, cap, rfl, s⟩
theorem PX.raised (h : PX B w0 w g eb n es X Y) {qa : Option Addr} {Q : List Rq} (hq : (qa, Q) ∈ Y) (hm6 : Q.length ≤ 1000000) (qc m : Nat) (hm : Q.length = m) (a b : Int) (L : List Nat) (hL : raisedL n es Q a b = L) :
    Calls Tryd.prog 17 #[ptr g, .slice qa m qc, .int .i64 a, .int .i64 b] w fun e w' => ∃ ao cap, e = .returned (.slice ao L.length cap) ∧ Hid (PX B w0 w' g eb n es ((.slice ao L.length cap, zs L) :: X) Y) := by
  have h' := h
  obtain ⟨v, hp⟩ := h
  subst hm
  refine (raisedP_any hp.gm hp.tab (Nat.lt_of_lt_of_le hp.pos hp.le) (h'.q hq) hm6 qc a b).mono ?_
  rintro e w' ⟨u, rfl, ho, hb⟩
  subst hL
  have s := h'.consI hb ho
  obtain ⟨ao, cap, rfl⟩ := (own_zat (own_z ho)).form
  rw [zs_len] at s ⊢
  exact ⟨ao, cap, rfl, s⟩
theorem PX.eqs (h : PX B w0 w g eb n es X Y) {va vb : Value} {xs ys : List Int} (ha : ZAt w va xs) (hb : ZAt w vb ys) (hl : xs.length ≤ 1000000) (R : Bool) (hR : decide (xs = ys) = R) :
    Calls Tryd.prog 12 #[va, vb] w fun e w' => e = .returned (.bool R) ∧ Hid (PX B w0 w' g eb n es X Y) := by
  refine (zints_any ha hb hl).mono ?_
  rintro e w' ⟨rfl, hb⟩
  exact ⟨by rw [hR], h.step hb⟩
theorem PX.add (h : PX B w0 w g eb n es X Y) (hle : es.length ≤ 1000000) (a b : Int) (R : Bool) (er : Int) (fs : List E) (hR : newB n es a b = R) (he : errN n a b = er) (hf : addE n es a b = fs) :
    Calls Tryd.prog 21 #[ptr g, .int .i64 a, .int .i64 b] w fun e w' => e = .returned (.tuple #[.bool R, .int .i64 er]) ∧ Hid (PX B w0 w' g eb n fs X Y) := by
  obtain ⟨v, h⟩ := h
  subst hR he hf
  refine (add_any h.gm a b hle).mono ?_
  rintro e w' ⟨rfl, v', h1, h2, h3⟩
  have hb := h2.below h.le h.gB
  have apart : ∀ k, k < w.heap.size → ¬ Foot g eb v k → ¬ Foot g eb v' k := by
    rintro k hlt hn (rfl | rfl | hf)
    · exact hn (.inl rfl)
    · exact hn (.inr (.inl rfl))
    · rcases h3 with q | ⟨j, q1, q2⟩
      · exact hn (.inr (.inr (by rw [← q]; exact hf)))
      · rw [q1] at hf
        cases hf
        omega
  refine ⟨rfl, v', h.bel.trans hb, h1, ?_, ?_, h.pos, Nat.le_trans h.le hb.size, fun p hp => ?_, fun p hp => ?_⟩
  · rintro k (rfl | rfl | hk)
    · exact h.gB _ (.inl rfl)
    · exact h.gB _ (.inr (.inl rfl))
    · rcases h3 with q | ⟨j, q1, q2⟩
      · exact h.gB k (.inr (.inr (by rw [← q]; exact hk)))
      · rw [q1] at hk; cases hk; have := h.le; omega
  · exact tab_turn h.tab (Nat.lt_of_lt_of_le h.pos h.le) h2 (fun hf => by have := h.gB 0 hf; have := h.pos; omega)
  · obtain ⟨e1, e2⟩ := h.ext p hp
    exact ⟨e1.keep h2.size (fun k hk hlt => h2.block k hlt (e2 k hk).2), fun k hk => ⟨Nat.lt_of_lt_of_le (e2 k hk).1 h2.size, apart k (e2 k hk).1 (e2 k hk).2⟩⟩
  · obtain ⟨e1, e2⟩ := h.req p hp
    by_cases h0 : 0 < p.2.length
    · exact ⟨e1.keep h2.size (fun k hk hlt => h2.block k hlt (e2 h0 k hk).2), fun _ k hk => ⟨Nat.lt_of_lt_of_le (e2 h0 k hk).1 h2.size, apart k (e2 h0 k hk).1 (e2 h0 k hk).2⟩⟩
    · exact ⟨fun i hi => absurd (Nat.lt_of_le_of_lt (Nat.zero_le _) hi) h0, fun h => absurd h h0⟩
end
theorem made_px (n : Int) (ls : List (Int × Int)) (la : Option Addr) (lc : Nat) (w : World) (hT : Tab w) (h0 : 0 < w.heap.size) (hl : LIn w la ls) (hm : ls.length ≤ maxLen) (m N : Nat) (fs : List E) (hmm : ls.length = m) (hN : sz30 n = N) (hf : foldE N (ls.take 100) [] = fs) :
    Calls Tryd.prog 9 #[.int .i64 n, .slice la m lc] w fun e w' => ∃ g eb, e = .returned (ptr g) ∧ Hid (PX w.heap.size w w' g eb N fs [] []) := by
  subst hmm hN hf
  refine (made_any n ls la lc w hl hm).mono ?_
  rintro e w' ⟨rfl, hg, hb⟩
  obtain ⟨v, hm, hv⟩ := hg.out.ex
  refine ⟨_, _, rfl, v, hb.out, hm, ?_, tab_below hT h0 hb.out, h0, hb.out.size, fun p hp => by simp at hp, fun p hp => by simp at hp⟩
  rintro k (rfl | rfl | hk)
  · exact hg.out.hg
  · exact hg.out.he
  · exact hv k hk
theorem made_q {W w : World} (hT : Tab W) (h0 : 0 < W.heap.size) (hb : Below W.heap.size W w) (n : Int) (ls : List (Int × Int)) (la : Option Addr) (lc : Nat) (hl : LIn W la ls) (hm : ls.length ≤ maxLen) (m N : Nat) (fs : List E) (hN : sz30 n = N) (hmm : ls.length = m) (hf : foldE N (ls.take 100) [] = fs) :
    Calls Tryd.prog 9 #[.int .i64 n, .slice la m lc] w fun e w' => ∃ g eb, e = .returned (ptr g) ∧ Hid (PX W.heap.size W w' g eb N fs [] []) := by
  refine (made_px n ls la lc w (tab_below hT h0 hb) (Nat.lt_of_lt_of_le h0 hb.size) (hl.below hb (Nat.le_refl _)) hm m N fs hmm hN hf).mono ?_
  rintro e w' ⟨g, eb, rfl, s⟩
  obtain ⟨v, h⟩ := s.out
  have hs := hb.size
  exact ⟨g, eb, rfl, v, hb.trans (h.bel.mono hs), h.gm, fun k hk => Nat.le_trans hs (h.gB k hk), h.tab, h0, Nat.le_trans hs h.le, fun p hp => by simp at hp, fun p hp => by simp at hp⟩
theorem fold_len (N : Nat) (ls : List (Int × Int)) : (foldE N (ls.take 100) []).length ≤ 100 := foldE_len N ls 100
theorem addE_good {n : Nat} {es : List E} (h : ∀ e ∈ es, e.1 < n ∧ e.2 < n) (a b : Int) : ∀ e ∈ addE n es a b, e.1 < n ∧ e.2 < n := by
  unfold addE
  split
  · rename_i hc
    have hr : 0 ≤ a ∧ a < n ∧ 0 ≤ b ∧ b < n := by simp [offB] at hc; omega
    split
    · exact h
    · intro e he
      rcases List.mem_append.1 he with q | q
      · exact h e q
      · simp at q
        subst q
        exact ⟨by show a.toNat < n; omega, by show b.toNat < n; omega⟩
  · exact h
theorem foldE_good (n : Nat) : ∀ (ls : List (Int × Int)) (es : List E), (∀ e ∈ es, e.1 < n ∧ e.2 < n) → ∀ e ∈ foldE n ls es, e.1 < n ∧ e.2 < n
  | [], es, h => h
  | p :: r, es, h => foldE_good n r (addE n es p.1 p.2) (addE_good h p.1 p.2)
end Go.Proofs.YtmeeimfjibcncaaDoor
