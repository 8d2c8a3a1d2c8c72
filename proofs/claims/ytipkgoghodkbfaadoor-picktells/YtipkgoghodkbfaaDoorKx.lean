/- What a law holds: graphs that stand, rows of numbers, rows of pairs. -/
import Derived.Test.YtipkgoghodkbfaaDoorRWn
namespace Go.Proofs.YtipkgoghodkbfaaDoor
open Go.RowKit
open M
set_option linter.unusedVariables false
set_option linter.unusedSimpArgs false

abbrev GE := Nat × Nat × Nat × List E
abbrev RE := Nat × Nat × List E
abbrev XE := Option Addr × List Int
abbrev YE := Option Addr × List (Int × Int)
structure KX (w0 W : World) (G : List GE) (R : List RE) (X : List XE) (Y : List YE) : Prop where
  bel : Below w0.heap.size w0 W
  tab : Tab W
  pos : 0 < w0.heap.size
  gm : ∀ p ∈ G, ∃ v, GM W p.1 p.2.1 p.2.2.1 v p.2.2.2
  rm : ∀ p ∈ R, ∃ v, RM W p.1 p.2.1 v p.2.2 ∧ p.2.1 ≤ 64 ∧ (∀ e ∈ p.2.2, e.1 < p.2.1 ∧ e.2 < p.2.1)
  ext : ∀ p ∈ X, NIn W p.1 p.2
  pts : ∀ p ∈ Y, LIn W p.1 p.2
section
variable {w0 w w' : World} {G : List GE} {R : List RE} {X : List XE} {Y : List YE}
theorem KX.step (h : KX w0 w G R X Y) (hb : Below w.heap.size w w') : KX w0 w' G R X Y :=
  ⟨h.bel.trans (hb.mono h.bel.size), tab_below h.tab (Nat.lt_of_lt_of_le h.pos h.bel.size) hb, h.pos,
    fun p hp => by obtain ⟨v, k⟩ := h.gm p hp; exact ⟨v, k.below hb⟩,
    fun p hp => by obtain ⟨v, k, q⟩ := h.rm p hp; exact ⟨v, k.below hb, q⟩,
    fun p hp => (h.ext p hp).below hb (Nat.le_refl _), fun p hp => (h.pts p hp).below hb (Nat.le_refl _)⟩
theorem KX.start (hT : Tab w) (h0 : 0 < w.heap.size) : KX w w [] [] [] [] :=
  ⟨Below.refl _ _, hT, h0, (fun p hp => by cases hp), (fun p hp => by cases hp), (fun p hp => by cases hp), (fun p hp => by cases hp)⟩
theorem KX.row (h : KX w0 w G R X Y) {a : Option Addr} {L : List Int} (hx : (a, L) ∈ X) : NIn w a L := h.ext _ hx
theorem KX.pair (h : KX w0 w G R X Y) {a : Option Addr} {L : List (Int × Int)} (hx : (a, L) ∈ Y) : LIn w a L := h.pts _ hx
theorem KX.addx (h : KX w0 w G R X Y) {a : Option Addr} {L : List Int} (hx : NIn w a L) : KX w0 w G R ((a, L) :: X) Y :=
  ⟨h.bel, h.tab, h.pos, h.gm, h.rm, fun p hp => by rcases List.mem_cons.1 hp with rfl | hp; exact hx; exact h.ext p hp, h.pts⟩
theorem KX.addy (h : KX w0 w G R X Y) {a : Option Addr} {L : List (Int × Int)} (hx : LIn w a L) : KX w0 w G R X ((a, L) :: Y) :=
  ⟨h.bel, h.tab, h.pos, h.gm, h.rm, h.ext, fun p hp => by rcases List.mem_cons.1 hp with rfl | hp; exact hx; exact h.pts p hp⟩
theorem KX.argx (h : KX w0 w G R X Y) {a : Option Addr} {L : List Int} (hx : NIn w0 a L) : KX w0 w G R ((a, L) :: X) Y := h.addx (hx.below h.bel (Nat.le_refl _))
theorem KX.argy (h : KX w0 w G R X Y) {a : Option Addr} {L : List (Int × Int)} (hx : LIn w0 a L) : KX w0 w G R X ((a, L) :: Y) := h.addy (hx.below h.bel (Nat.le_refl _))
theorem KX.litx (h : KX w0 w G R X Y) (L : List Int) (arr : Array Value) (ha : arr = (L.map fun x => Value.int .i64 x).toArray) : KX w0 (w.alloc (.cells arr 3)) G R ((some ⟨w.heap.size, 0, none⟩, L) :: X) Y :=
  (h.step ((Below.refl _ _).alloc (Nat.le_refl _) _)).addx (lit_nin w L 3 arr ha)
/-- Rows that a call handed back. -/
theorem KX.ownx (h : KX w0 w G R X Y) (hb : Below w.heap.size w w') {b l : Nat} {u : Value} {L : List Int} (ho : OwnZ w' b u L) (hl : L.length = l) : ∃ ao cap, u = .slice ao l cap ∧ KX w0 w' G R ((ao, L) :: X) Y := by
  subst hl
  obtain ⟨ao, cap, rfl, hn⟩ := own_nin ho
  exact ⟨ao, cap, rfl, (h.step hb).addx hn⟩
theorem KX.best (h : KX w0 w G R X Y) {sa pa : Option Addr} {xs ys : List Int} {m n : Nat} (sc pc : Nat) (hx : (sa, xs) ∈ X) (hy : (pa, ys) ∈ X) (hm : xs.length = m) (hn : ys.length = n) (hm6 : m ≤ 1000000) (hn6 : n ≤ 1000000) (P : Int) (L : List Int) (l : Nat) (hB : bestA xs ys = (P, L)) (hl : L.length = l) :
    Calls Tryd.prog 13 #[.slice sa m sc, .slice pa n pc] w fun e w' => ∃ ao cap, e = .returned (.tuple #[.int .i64 P, .slice ao l cap]) ∧ Hid (KX w0 w' G R ((ao, L) :: X) Y) := by
  refine (best_any (h.row hx) (h.row hy) hm hn hm6 hn6).mono ?_
  rintro e w' ⟨u, rfl, s⟩
  obtain ⟨ho, hb⟩ := s.out
  rw [hB] at ho ⊢
  obtain ⟨ao, cap, rfl, k⟩ := h.ownx hb ho hl
  exact ⟨ao, cap, rfl, k⟩
theorem KX.rbest (h : KX w0 w G R X Y) {sa pa : Option Addr} {xs ys : List Int} {m n : Nat} (sc pc : Nat) (hx : (sa, xs) ∈ X) (hy : (pa, ys) ∈ X) (hm : xs.length = m) (hn : ys.length = n) (hm6 : m ≤ 1000000) (hn6 : n ≤ 1000000) (P : Int) (L : List Int) (l : Nat) (hB : bestA xs ys = (P, L)) (hl : L.length = l) :
    Calls Tryd.prog 14 #[.slice sa m sc, .slice pa n pc] w fun e w' => ∃ ao cap, e = .returned (.tuple #[.int .i64 P, .slice ao l cap]) ∧ Hid (KX w0 w' G R ((ao, L) :: X) Y) := by
  refine (rbest_any (h.row hx) (h.row hy) hm hn hm6 hn6).mono ?_
  rintro e w' ⟨u, rfl, s⟩
  obtain ⟨ho, hb⟩ := s.out
  rw [hB] at ho ⊢
  obtain ⟨ao, cap, rfl, k⟩ := h.ownx hb ho hl
  exact ⟨ao, cap, rfl, k⟩
theorem KX.fits (h : KX w0 w G R X Y) {ta aa : Option Addr} {xs : List Int} {A : List (Int × Int)} {m n : Nat} (tc ac : Nat) (room : Int) (hx : (ta, xs) ∈ X) (hA : (aa, A) ∈ Y) (hm : xs.length = m) (hm6 : m ≤ 1000000) (hn : A.length = n) (L : List Int) (l : Nat) (hB : fitsL A room xs = L) (hl : L.length = l) :
    Calls Tryd.prog 15 #[.slice ta m tc, .slice aa n ac, .int .i64 room] w fun e w' => ∃ ao cap, e = .returned (.slice ao l cap) ∧ Hid (KX w0 w' G R ((ao, L) :: X) Y) := by
  refine (fits_any room (h.row hx) hm hm6 (h.pair hA) hn).mono ?_
  rintro e w' ⟨u, rfl, s⟩
  obtain ⟨ho, hb⟩ := s.out
  rw [hB] at ho
  obtain ⟨ao, cap, rfl, k⟩ := h.ownx hb ho hl
  exact ⟨ao, cap, rfl, k⟩
theorem KX.rfits (h : KX w0 w G R X Y) {ta aa : Option Addr} {xs : List Int} {A : List (Int × Int)} {m n : Nat} (tc ac : Nat) (room : Int) (hx : (ta, xs) ∈ X) (hA : (aa, A) ∈ Y) (hm : xs.length = m) (hm6 : m ≤ 1000000) (hn : A.length = n) (L : List Int) (l : Nat) (hB : fitsL A room xs = L) (hl : L.length = l) :
    Calls Tryd.prog 16 #[.slice ta m tc, .slice aa n ac, .int .i64 room] w fun e w' => ∃ ao cap, e = .returned (.slice ao l cap) ∧ Hid (KX w0 w' G R ((ao, L) :: X) Y) := by
  refine (rfits_any room (h.row hx) hm hm6 (h.pair hA) hn).mono ?_
  rintro e w' ⟨u, rfl, s⟩
  obtain ⟨ho, hb⟩ := s.out
  rw [hB] at ho
  obtain ⟨ao, cap, rfl, k⟩ := h.ownx hb ho hl
  exact ⟨ao, cap, rfl, k⟩
theorem KX.two {T : Nat} (h : KX w0 w G R X Y) {u v : Value} {U : List (Int × Int)} {O : List Int} {l j : Nat} (hr : R2 T w.heap.size w w' u v U O) (hl : U.length = l) (hj : O.length = j) :
    ∃ ua uc va vc, u = .slice ua l uc ∧ v = .slice va j vc ∧ KX w0 w' G R ((va, O) :: X) ((ua, U) :: Y) := by
  subst hl hj
  obtain ⟨ua, uc, rfl, h1⟩ := own_lin hr.o1
  obtain ⟨va, vc, rfl, h2⟩ := own_nin hr.o2
  exact ⟨ua, uc, va, vc, rfl, rfl, ((h.step hr.bel).addx h2).addy h1⟩
theorem KX.wants (h : KX w0 w G R X Y) {g eb N : Nat} {es : List E} (hG : (g, eb, N, es) ∈ G) {ta aa ia ra : Option Addr} {xs ids roots : List Int} {A : List (Int × Int)} {m n p q : Nat} (tc ac ic rc : Nat)
    (hx : (ta, xs) ∈ X) (hm : xs.length = m) (hm6 : m ≤ 1000000) (hA : (aa, A) ∈ Y) (hn : A.length = n) (hi : (ia, ids) ∈ X) (hp : ids.length = p) (hp6 : p ≤ 1000000) (hr : (ra, roots) ∈ X) (hq : roots.length = q) (hq6 : q ≤ 1000000)
    (U : List (Int × Int)) (O : List Int) (l j : Nat) (hW : wantK N es xs A ids roots (min p q) = (U, O)) (hl : U.length = l) (hj : O.length = j) :
    Calls Tryd.prog 17 #[ptr g, .slice ta m tc, .slice aa n ac, .slice ia p ic, .slice ra q rc] w fun e w' => ∃ ua uc va vc, e = .returned (.tuple #[.slice ua l uc, .slice va j vc]) ∧ Hid (KX w0 w' G R ((va, O) :: X) ((ua, U) :: Y)) := by
  obtain ⟨v, hg⟩ := h.gm _ hG
  refine (wants_any hg h.tab (Nat.lt_of_lt_of_le h.pos h.bel.size) (h.row hx) hm hm6 (h.pair hA) hn (h.row hi) hp hp6 (h.row hr) hq hq6).mono ?_
  rintro e w' ⟨u, v, rfl, s⟩
  have s := s.out
  rw [hW] at s
  obtain ⟨ua, uc, va, vc, rfl, rfl, k⟩ := h.two s hl hj
  exact ⟨ua, uc, va, vc, rfl, k⟩
theorem KX.rwants (h : KX w0 w G R X Y) {g N : Nat} {es : List E} (hG : (g, N, es) ∈ R) (hle : es.length ≤ 1000000) {ta aa ia ra : Option Addr} {xs ids roots : List Int} {A : List (Int × Int)} {m n p q : Nat} (tc ac ic rc : Nat)
    (hx : (ta, xs) ∈ X) (hm : xs.length = m) (hm6 : m ≤ 1000000) (hA : (aa, A) ∈ Y) (hn : A.length = n) (hi : (ia, ids) ∈ X) (hp : ids.length = p) (hp6 : p ≤ 1000000) (hr : (ra, roots) ∈ X) (hq : roots.length = q) (hq6 : q ≤ 1000000)
    (U : List (Int × Int)) (O : List Int) (l j : Nat) (hW : wantK N es xs A ids roots (min p q) = (U, O)) (hl : U.length = l) (hj : O.length = j) :
    Calls Tryd.prog 18 #[ptr g, .slice ta m tc, .slice aa n ac, .slice ia p ic, .slice ra q rc] w fun e w' => ∃ ua uc va vc, e = .returned (.tuple #[.slice ua l uc, .slice va j vc]) ∧ Hid (KX w0 w' G R ((va, O) :: X) ((ua, U) :: Y)) := by
  obtain ⟨v, hg, h64, hgd⟩ := h.rm _ hG
  refine (rwants_any hg h64 hgd hle (h.row hx) hm hm6 (h.pair hA) hn (h.row hi) hp hp6 (h.row hr) hq hq6).mono ?_
  rintro e w' ⟨u, v, rfl, s⟩
  have s := s.out
  rw [hW] at s
  obtain ⟨ua, uc, va, vc, rfl, rfl, k⟩ := h.two s hl hj
  exact ⟨ua, uc, va, vc, rfl, k⟩
theorem KX.reaches (h : KX w0 w G R X Y) {g eb N : Nat} {es : List E} (hG : (g, eb, N, es) ∈ G) (a b : Int) (B : Bool) (hB : reachB N es a b = B) :
    Calls Tryd.prog 20 #[ptr g, .int .i64 a, .int .i64 b] w fun e w' => e = .returned (.bool B) ∧ Hid (KX w0 w' G R X Y) := by
  obtain ⟨v, hg⟩ := h.gm _ hG
  refine (reaches_any hg h.tab (Nat.lt_of_lt_of_le h.pos h.bel.size) a b).mono ?_
  rintro e w' ⟨rfl, hb⟩
  exact ⟨by rw [hB], h.step hb⟩
theorem KX.eqs (h : KX w0 w G R X Y) {aa ab : Option Addr} {xs ys : List Int} {m n : Nat} (ca cb : Nat) (ha : (aa, xs) ∈ X) (hb : (ab, ys) ∈ X) (hm : xs.length = m) (hn : ys.length = n) (hl : m ≤ 1000000) (B : Bool) (hB : decide (xs = ys) = B) :
    Calls Tryd.prog 19 #[.slice aa m ca, .slice ab n cb] w fun e w' => e = .returned (.bool B) ∧ Hid (KX w0 w' G R X Y) := by
  refine (zints_any (h.row ha) (h.row hb) hm hn hl).mono ?_
  rintro e w' ⟨rfl, hb⟩
  exact ⟨by rw [hB], h.step hb⟩
end
/-- A graph that stands. -/
theorem kx_go {w0 w : World} {g eb n : Nat} {es : List E} (hT : Tab w0) (h0 : 0 < w0.heap.size) (hb : Below w0.heap.size w0 w) (hg : GO w w0.heap.size g eb n es) : KX w0 w [(g, eb, n, es)] [] [] [] := by
  refine ⟨hb, tab_below hT h0 hb, h0, fun p hp => ?_, (fun p hp => by cases hp), (fun p hp => by cases hp), (fun p hp => by cases hp)⟩
  rw [List.mem_singleton] at hp
  subst hp
  obtain ⟨v, k, _⟩ := hg.ex
  exact ⟨v, k⟩
/-- Both graphs. -/
theorem kx_tx {w0 w : World} {g eb n : Nat} {es : List E} {r : Nat} (h : TX w0.heap.size w0 w g eb n es r es) : KX w0 w [(g, eb, n, es)] [(r, n, es)] [] [] := by
  obtain ⟨v, v2, h⟩ := h
  refine ⟨h.bel, h.tab, h.pos, fun p hp => ?_, fun p hp => ?_, (fun p hp => by cases hp), (fun p hp => by cases hp)⟩
  · rw [List.mem_singleton] at hp
    subst hp
    exact ⟨v, h.gm⟩
  · rw [List.mem_singleton] at hp
    subst hp
    exact ⟨v2, h.rm, h.gm.hn, h.gm.good⟩
theorem rnew_tx {w0 w : World} {g eb N : Nat} {es : List E} (hT : Tab w0) (h0 : 0 < w0.heap.size) (hb0 : Below w0.heap.size w0 w) (h : GO w w0.heap.size g eb N es) (n : Int) (hN : sz n = N) :
    Calls Tryd.prog 10 #[.int .i64 n] w fun e w' => ∃ r, e = .returned (ptr r) ∧ Hid (TX w0.heap.size w0 w' g eb N es r []) := by
  obtain ⟨v, hm, hv⟩ := h.ex
  subst hN
  refine (rnew_any n w).mono ?_
  rintro e w' ⟨rfl, hr, hb⟩
  refine ⟨_, rfl, v, _, hb0.trans (hb.mono hb0.size), hm.below hb, hr, ?_, ?_, ?_, tab_below hT h0 (hb0.trans (hb.mono hb0.size)), h0, Nat.le_trans hb0.size hb.size⟩
  · rintro k (rfl | rfl | hk)
    · exact h.hg
    · exact h.he
    · exact hv k hk
  · rintro k (rfl | hk)
    · exact hb0.size
    · simp [Value.ownBlock] at hk
  · rintro k hF (rfl | hk)
    · have := hm.lt _ hF; omega
    · simp [Value.ownBlock] at hk
end Go.Proofs.YtipkgoghodkbfaaDoor
