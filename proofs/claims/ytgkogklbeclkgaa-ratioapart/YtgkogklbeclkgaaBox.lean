/- Blocks of two cells beside what a law makes. -/
import Derived.Test.YtgkogklbeclkgaaSho
import Derived.Test.YtgkogklbeclkgaaSha
namespace Go.Proofs.Ytgkogklbeclkgaa
open Go.RowKit Go.Lib
open M
set_option linter.unusedVariables false
set_option linter.unusedSimpArgs false

/-- Blocks of two cells, and nothing of what was there has turned. -/
structure Bd (w0 : World) (L : List (Nat × Value × Value)) (w : World) : Prop where
  bel : Below w0.heap.size w0 w
  size : w0.heap.size ≤ w.heap.size
  cell : ∀ t ∈ L, t.1 < w.heap.size ∧ w0.heap.size ≤ t.1 ∧ w.cell? ⟨t.1, 0, none⟩ = some t.2.1 ∧ w.cell? ⟨t.1, 1, none⟩ = some t.2.2
theorem Bd.nil (w : World) : Bd w [] w := ⟨Below.refl _ _, Nat.le_refl _, fun t h => by cases h⟩
theorem Bd.below {w0 w w' : World} {L : List (Nat × Value × Value)} (h : Bd w0 L w) (hb : Below w.heap.size w w') : Bd w0 L w' :=
  ⟨h.bel.trans (hb.mono h.size), Nat.le_trans h.size hb.size, fun t ht => by
    obtain ⟨h1, h2, h3, h4⟩ := h.cell t ht
    exact ⟨Nat.lt_of_lt_of_le h1 hb.size, h2, (hb.cell (p := ⟨t.1, 0, none⟩) h1).trans h3, (hb.cell (p := ⟨t.1, 1, none⟩) h1).trans h4⟩⟩
theorem Bd.alloc {w0 w : World} {L : List (Nat × Value × Value)} (h : Bd w0 L w) (x y : Value) (T : TypeId) {n : Nat} (hn : w.heap.size = n) : Bd w0 ((n, x, y) :: L) (w.alloc (.cells #[x, y] T)) := by
  have hb : Below w.heap.size w (w.alloc (.cells #[x, y] T)) := (Below.refl _ _).alloc (Nat.le_refl _) _
  have k := h.below hb
  refine ⟨k.bel, k.size, fun t ht => ?_⟩
  rcases List.mem_cons.1 ht with rfl | ht
  · exact ⟨by simp; omega, by rw [← hn]; exact h.size, cell_new hn _ _ 0 _ rfl, cell_new hn _ _ 1 _ rfl⟩
  · exact k.cell t ht
theorem Bd.drew {w0 w : World} {L : List (Nat × Value × Value)} (h : Bd w0 L w) : Bd w0 L w.drew := ⟨h.bel.drew, h.size, h.cell⟩
theorem Bd.at {w0 w : World} {L : List (Nat × Value × Value)} (h : Bd w0 L w) (n : Nat) {x y : Value} (hm : (n, x, y) ∈ L) : n < w.heap.size ∧ w.cell? ⟨n, 0, none⟩ = some x ∧ w.cell? ⟨n, 1, none⟩ = some y :=
  ⟨(h.cell _ hm).1, (h.cell _ hm).2.2.1, (h.cell _ hm).2.2.2⟩
theorem Bd.box2 (w : World) (a b c d : Value) (T : TypeId) : Bd w [(w.heap.size + 1, c, d), (w.heap.size, a, b)] ((w.alloc (.cells #[a, b] T)).alloc (.cells #[c, d] T)) :=
  ((Bd.nil w).alloc a b T rfl).alloc c d T (by simp)

theorem Bd.drewN {w0 w : World} {L : List (Nat × Value × Value)} (h : Bd w0 L w) (k : Nat) : Bd w0 L (w.drewN k) := ⟨below_drewN h.bel k, h.size, h.cell⟩
/-- Two blocks of two cells, as a drawn region holds them. -/
def Two (w0 : World) (n m : Nat) (x y u v : Value) (W : World) : Prop :=
  (Below w0.heap.size w0 W ∧ w0.heap.size ≤ W.heap.size ∧ n < W.heap.size ∧ m < W.heap.size) ∧ W.cell? ⟨n, 0, none⟩ = some x ∧ W.cell? ⟨n, 1, none⟩ = some y ∧ W.cell? ⟨m, 0, none⟩ = some u ∧ W.cell? ⟨m, 1, none⟩ = some v
theorem Two.drew {w0 : World} {n m : Nat} {x y u v : Value} {W : World} (h : Two w0 n m x y u v W) : Two w0 n m x y u v W.drew := ⟨⟨h.1.1.drew, h.1.2⟩, h.2⟩
theorem Two.below {w0 : World} {n m : Nat} {x y u v : Value} {W W' : World} (h : Two w0 n m x y u v W) (hb : Below W.heap.size W W') : Two w0 n m x y u v W' := by
  obtain ⟨⟨b, z, l, k⟩, h1, h2, h3, h4⟩ := h
  have e := hb.size
  exact ⟨⟨b.trans (hb.mono z), Nat.le_trans z e, Nat.lt_of_lt_of_le l e, Nat.lt_of_lt_of_le k e⟩, (hb.cell (p := ⟨n, 0, none⟩) l).trans h1, (hb.cell (p := ⟨n, 1, none⟩) l).trans h2, (hb.cell (p := ⟨m, 0, none⟩) k).trans h3, (hb.cell (p := ⟨m, 1, none⟩) k).trans h4⟩
theorem Bd.two {w0 w : World} {L : List (Nat × Value × Value)} (h : Bd w0 L w) {n m : Nat} {x y u v : Value} (h1 : (n, x, y) ∈ L) (h2 : (m, u, v) ∈ L) : Two w0 n m x y u v w :=
  ⟨⟨h.bel, h.size, (h.at n h1).1, (h.at m h2).1⟩, (h.at n h1).2.1, (h.at n h1).2.2, (h.at m h2).2.1, (h.at m h2).2.2⟩

/-- Parts of a share, by their numbers. -/
def Prt (n : Int) : Prop := 0 ≤ n ∧ n ≤ 16777216
theorem Prt.sml {n : Int} (h : Prt n) : Sml n := ⟨h.1, by have := h.2; omega⟩
theorem Prt.is {n : Int} (h : Prt n) : Is (F n) n := is_F (by have := h.1; have := h.2; omega)
theorem prt_cut (n : Int) : Prt (cut n) := ⟨cut_lo n, cut_hi n⟩
theorem prt_wei (n : Int) : Prt (wei n) := ⟨by have := wei_lo n; omega, wei_hi n⟩
theorem weight_F {n : Int} (y : Nat) (w : World) (h : Prt n) : Calls Try.prog 12 #[.complex .f64 (F n) y] w fun e w' => e = .returned (.int .i64 n) ∧ w' = w := weight_is _ _ _ _ h.is h.1 (by have := h.2; omega)
theorem cost_F {n : Int} (x : Nat) (w : World) (h : Prt n) : Calls Try.prog 14 #[.complex .f64 x (F n)] w fun e w' => e = .returned (.int .i64 n) ∧ w' = w := cost_is _ _ _ _ h.is h.1 (by have := h.2; omega)
theorem compare_F {a b c d : Int} (w : World) (ha : Prt a) (hb : Prt b) (hc : Prt c) (hd : Prt d) : Calls Try.prog 15 #[.complex .f64 (F a) (F b), .complex .f64 (F c) (F d)] w fun e w' => e = .returned (.int .i64 (cmB a b c d)) ∧ w' = w :=
  compare_is _ _ _ _ _ _ _ _ w ha.is hb.is hc.is hd.is ha.sml hb.sml hc.sml hd.sml
end Go.Proofs.Ytgkogklbeclkgaa
