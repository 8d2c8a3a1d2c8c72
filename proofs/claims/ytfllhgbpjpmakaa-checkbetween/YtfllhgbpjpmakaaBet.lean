/- CheckBetween: mid; blocks of numbers that stay as they are; the walk. -/
import Derived.Test.YtfllhgbpjpmakaaSho
import Derived.Test.YtfllhgbpjpmakaaDrw
namespace Go.Proofs.Ytfllhgbpjpmakaa
open Go.RowKit
open M
set_option linter.unusedVariables false
set_option linter.unusedSimpArgs false

def I64 (n : Int) : Prop := -9223372036854775808 ≤ n ∧ n ≤ 9223372036854775807

set_option maxRecDepth 1000000 in
set_option maxHeartbeats 4000000 in
theorem mid_any (a b y : Int) (w : World) (ha : I64 a) (hb : I64 b) (hy : 0 ≤ y ∧ y ≤ 255) :
    Calls Try.prog 16 #[.int .i64 a, .int .i64 b, .int .u8 y] w fun e w' => e = .returned (.int .i64 (midN a b y)) ∧ w' = w := by
  obtain ⟨a0, a1⟩ := ha
  obtain ⟨b0, b1⟩ := hb
  obtain ⟨y0, y1⟩ := hy
  obtain ⟨m, hm, _, hm9⟩ := min2_is a b
  obtain ⟨M, hM, _, hM9⟩ := max2_is a b
  have HN : Hid (midN a b y = if M - m ≤ 9223372036854775807 then m + (M - m) / 255 * y else m) := by show midN a b y = _; unfold midN; rw [← hm9, ← hM9]
  have k1 : m ≤ M := by omega
  have k2 : -9223372036854775808 ≤ m := by omega
  have k3 : M ≤ 9223372036854775807 := by omega
  have k4 : m ≤ 9223372036854775807 := by omega
  clear hm9 hM9
  by_cases hbig : M - m ≤ 9223372036854775807
  · by_cases hz : M - m ≤ 0
    · go_enter Try.func16, Try.ntmps16
      go_wp2
      go_ret
      refine ⟨ret_int ?_, rfl⟩
      rw [HN.out, if_pos hbig, show M - m = 0 by omega]
      simp
    · obtain ⟨q, hq⟩ : ∃ q, q = (M - m) / 255 := ⟨_, rfl⟩
      have h0 : 0 ≤ q := by omega
      have h1 : q * 255 ≤ M - m := by omega
      have h2 : q * y ≤ q * 255 := Int.mul_le_mul_of_nonneg_left y1 h0
      have h3 : 0 ≤ q * y := Int.mul_nonneg h0 y0
      rw [hq] at h0 h1 h2 h3
      have h4 : (M - m) / 255 * y ≤ 9223372036854775807 := by omega
      have h5 : m + (M - m) / 255 * y ≤ 9223372036854775807 := by omega
      clear h1 h2 hq
      go_enter Try.func16, Try.ntmps16
      go_wp2
      go_ret
      refine ⟨ret_int ?_, rfl⟩
      rw [HN.out, if_pos hbig]
  · have hw : wrap64 (M - m) = M - m - 18446744073709551616 := by unfold wrap64; omega
    go_enter Try.func16, Try.ntmps16
    go_wp2
    go_ret
    refine ⟨ret_int ?_, rfl⟩
    rw [HN.out, if_neg (by omega)]

/-- A block of numbers. -/
def Has (W : World) (g : Nat) (vs : List Value) : Prop := g < W.heap.size ∧ ∀ i v, vs[i]? = some v → W.cell? ⟨g, i, none⟩ = some v
theorem Has.below {W W' : World} {g : Nat} {vs : List Value} (h : Has W g vs) (hb : Below W.heap.size W W') : Has W' g vs :=
  ⟨Nat.lt_of_lt_of_le h.1 hb.size, fun i v hv => by rw [hb.cell (p := ⟨g, i, none⟩) h.1]; exact h.2 i v hv⟩
theorem Has.new (W : World) (vs : List Value) (t : TypeId) (g : Nat) (hg : W.heap.size = g) (arr : Array Value) (ha : arr = vs.toArray) : Has (W.alloc (.cells arr t)) g vs := by
  subst hg ha
  exact ⟨by simp, fun i v hv => by simpa using hv⟩
theorem Has.alloc {W : World} {g : Nat} {vs : List Value} (h : Has W g vs) (ob : Obj) : Has (W.alloc ob) g vs := h.below ((Below.refl _ _).alloc (Nat.le_refl _) _)

structure Bt (w : World) (a b : List Value) (s t : List Value) (W : World) : Prop where
  bel : Below w.heap.size w W
  ha : Has W w.heap.size a
  hb : Has W (w.heap.size + 1) b
  hs : Has W (w.heap.size + 2) s
  ht : Has W (w.heap.size + 3) t
theorem Bt.below {w W W' : World} {a b s t : List Value} (h : Bt w a b s t W) (hb : Below W.heap.size W W') : Bt w a b s t W' :=
  ⟨h.bel.trans (hb.mono h.bel.size), h.ha.below hb, h.hb.below hb, h.hs.below hb, h.ht.below hb⟩
theorem Bt.alloc {w W : World} {a b s t : List Value} (h : Bt w a b s t W) (ob : Obj) : Bt w a b s t (W.alloc ob) := h.below ((Below.refl _ _).alloc (Nat.le_refl _) _)
theorem Bt.drew {w W : World} {a b s t : List Value} (h : Bt w a b s t W) : Bt w a b s t W.drew := h.below ((Below.refl _ _).drew)
theorem Bt.new (w : World) (a b s t : Array Value) : Bt w a.toList b.toList s.toList t.toList ((((w.alloc (.cells a 23)).alloc (.cells b 23)).alloc (.cells s 39)).alloc (.cells t 39)) :=
  ⟨((((Below.refl _ _).alloc (Nat.le_refl _) _).alloc (by simp) _).alloc (by simp; omega) _).alloc (by simp; omega) _,
   (((Has.new w _ 23 _ rfl _ (by simp)).alloc _).alloc _).alloc _,
   ((Has.new (w.alloc _) _ 23 _ (by simp) _ (by simp)).alloc _).alloc _,
   (Has.new ((w.alloc _).alloc _) _ 39 _ (by simp) _ (by simp)).alloc _,
   Has.new (((w.alloc _).alloc _).alloc _) _ 39 _ (by simp) _ (by simp)⟩
theorem Bt.cells {w W : World} {x0 x1 x2 x3 x4 x5 x6 x7 x8 x9 y0 y1 y2 y3 y4 y5 y6 y7 y8 y9 : Int} {s t : List Value} (h : Bt w [.int .i64 x0, .int .i64 x1, .int .i64 x2, .int .i64 x3, .int .i64 x4, .int .i64 x5, .int .i64 x6, .int .i64 x7, .int .i64 x8, .int .i64 x9] [.int .i64 y0, .int .i64 y1, .int .i64 y2, .int .i64 y3, .int .i64 y4, .int .i64 y5, .int .i64 y6, .int .i64 y7, .int .i64 y8, .int .i64 y9] s t W) : W.cell? ⟨w.heap.size, 0, none⟩ = some (.int .i64 x0) ∧ W.cell? ⟨w.heap.size, 1, none⟩ = some (.int .i64 x1) ∧ W.cell? ⟨w.heap.size, 2, none⟩ = some (.int .i64 x2) ∧ W.cell? ⟨w.heap.size, 3, none⟩ = some (.int .i64 x3) ∧ W.cell? ⟨w.heap.size, 4, none⟩ = some (.int .i64 x4) ∧ W.cell? ⟨w.heap.size, 5, none⟩ = some (.int .i64 x5) ∧ W.cell? ⟨w.heap.size, 6, none⟩ = some (.int .i64 x6) ∧ W.cell? ⟨w.heap.size, 7, none⟩ = some (.int .i64 x7) ∧ W.cell? ⟨w.heap.size, 8, none⟩ = some (.int .i64 x8) ∧ W.cell? ⟨w.heap.size, 9, none⟩ = some (.int .i64 x9) ∧ W.cell? ⟨w.heap.size + 1, 0, none⟩ = some (.int .i64 y0) ∧ W.cell? ⟨w.heap.size + 1, 1, none⟩ = some (.int .i64 y1) ∧ W.cell? ⟨w.heap.size + 1, 2, none⟩ = some (.int .i64 y2) ∧ W.cell? ⟨w.heap.size + 1, 3, none⟩ = some (.int .i64 y3) ∧ W.cell? ⟨w.heap.size + 1, 4, none⟩ = some (.int .i64 y4) ∧ W.cell? ⟨w.heap.size + 1, 5, none⟩ = some (.int .i64 y5) ∧ W.cell? ⟨w.heap.size + 1, 6, none⟩ = some (.int .i64 y6) ∧ W.cell? ⟨w.heap.size + 1, 7, none⟩ = some (.int .i64 y7) ∧ W.cell? ⟨w.heap.size + 1, 8, none⟩ = some (.int .i64 y8) ∧ W.cell? ⟨w.heap.size + 1, 9, none⟩ = some (.int .i64 y9) :=
  ⟨h.ha.2 0 _ rfl, h.ha.2 1 _ rfl, h.ha.2 2 _ rfl, h.ha.2 3 _ rfl, h.ha.2 4 _ rfl, h.ha.2 5 _ rfl, h.ha.2 6 _ rfl, h.ha.2 7 _ rfl, h.ha.2 8 _ rfl, h.ha.2 9 _ rfl, h.hb.2 0 _ rfl, h.hb.2 1 _ rfl, h.hb.2 2 _ rfl, h.hb.2 3 _ rfl, h.hb.2 4 _ rfl, h.hb.2 5 _ rfl, h.hb.2 6 _ rfl, h.hb.2 7 _ rfl, h.hb.2 8 _ rfl, h.hb.2 9 _ rfl⟩
theorem Bt.cellsT {w W : World} {s0 s1 t0 t1 : Int} {a b : List Value} (h : Bt w a b [.int .i64 s0, .int .i64 s1] [.int .i64 t0, .int .i64 t1] W) : W.cell? ⟨w.heap.size + 2, 0, none⟩ = some (.int .i64 s0) ∧ W.cell? ⟨w.heap.size + 2, 1, none⟩ = some (.int .i64 s1) ∧ W.cell? ⟨w.heap.size + 3, 0, none⟩ = some (.int .i64 t0) ∧ W.cell? ⟨w.heap.size + 3, 1, none⟩ = some (.int .i64 t1) :=
  ⟨h.hs.2 0 _ rfl, h.hs.2 1 _ rfl, h.ht.2 0 _ rfl, h.ht.2 1 _ rfl⟩

theorem bet_row {lo hi a b m : Int} (ha : inB lo hi a = true) (hb : inB lo hi b = true) (hm : min a b ≤ m ∧ m ≤ max a b) : inB lo hi m = true := by
  rw [inB_true] at *
  omega
theorem bet_cfg {x0 x1 x2 x3 x4 x5 x6 x7 x8 x9 y0 y1 y2 y3 y4 y5 y6 y7 y8 y9 by0 : Int} (h : 0 ≤ by0 ∧ by0 ≤ 255) (ha : cfgB ⟨x0, x1, x2, x3, x4, x5, x6, x7, x8, x9⟩ = true) (hb : cfgB ⟨y0, y1, y2, y3, y4, y5, y6, y7, y8, y9⟩ = true) : cfgB ⟨(midN x0 y0 by0), (midN x1 y1 by0), (midN x2 y2 by0), (midN x3 y3 by0), (midN x4 y4 by0), (midN x5 y5 by0), (midN x6 y6 by0), (midN x7 y7 by0), (midN x8 y8 by0), (midN x9 y9 by0)⟩ = true := by
  simp only [cfgB, rowB, List.all_cons, List.all_nil, Bool.and_true, Bool.and_eq_true] at *
  have m := fun a b => midN_in a b by0 h.1 h.2
  exact ⟨⟨⟨bet_row ha.1.1.1 hb.1.1.1 (m _ _), bet_row ha.1.1.2.1 hb.1.1.2.1 (m _ _), bet_row ha.1.1.2.2.1 hb.1.1.2.2.1 (m _ _), bet_row ha.1.1.2.2.2.1 hb.1.1.2.2.2.1 (m _ _), bet_row ha.1.1.2.2.2.2.1 hb.1.1.2.2.2.2.1 (m _ _), bet_row ha.1.1.2.2.2.2.2.1 hb.1.1.2.2.2.2.2.1 (m _ _), bet_row ha.1.1.2.2.2.2.2.2 hb.1.1.2.2.2.2.2.2 (m _ _)⟩, bet_row ha.1.2.1 hb.1.2.1 (m _ _), bet_row ha.1.2.2 hb.1.2.2 (m _ _)⟩, bet_row ha.2 hb.2 (m _ _)⟩
theorem bet_task {s0 s1 t0 t1 by0 : Int} (h : 0 ≤ by0 ∧ by0 ≤ 255) (ha : taskB (s0, s1) = true) (hb : taskB (t0, t1) = true) : taskB (midN s0 t0 by0, midN s1 t1 by0) = true := by
  simp only [taskB, Bool.and_eq_true] at *
  have m := fun a b => midN_in a b by0 h.1 h.2
  exact ⟨bet_row ha.1 hb.1 (m _ _), bet_row ha.2 hb.2 (m _ _)⟩

theorem AllYl.cons {P : Program} {full : Act} {W0 W1 : World} {k s i : Nat} {o : Oper} {rest : List Oper} (h1 : i = k ∨ i = s ∨ ∃ d, o.dst = some d ∧ ∀ W, (W = W0 ∨ W = W1) → Yl P o full W (full.tmps.getD d undef)) (h2 : AllYl P full W0 W1 k s (i + 1) rest) : AllYl P full W0 W1 k s i (o :: rest) := ⟨h1, h2⟩
theorem AllYl.nil {P : Program} {full : Act} {W0 W1 : World} {k s i : Nat} : AllYl P full W0 W1 k s i [] := trivial
theorem field_run (T f g : Nat) (hT : (T = 23 ∧ f < 10) ∨ (T = 39 ∧ f < 2)) (V : World) : (Instr.fieldAt T (.pointer (some ⟨g, 0, none⟩)) f).run Try.prog V = .ok (.pointer (some ⟨g, f, none⟩)) V := by
  rcases hT with ⟨rfl, hf⟩ | ⟨rfl, hf⟩
  · have : f = 0 ∨ f = 1 ∨ f = 2 ∨ f = 3 ∨ f = 4 ∨ f = 5 ∨ f = 6 ∨ f = 7 ∨ f = 8 ∨ f = 9 := by omega
    rcases this with rfl | rfl | rfl | rfl | rfl | rfl | rfl | rfl | rfl | rfl <;> go_simp
  · have : f = 0 ∨ f = 1 := by omega
    rcases this with rfl | rfl <;> go_simp
theorem yF {o : Oper} {full : Act} {V : World} {a : Operand} {T f g : Nat} (ho : o.op = .fieldAddr T a f) (ha : full.eval a = .pointer (some ⟨g, 0, none⟩)) (hT : (T = 23 ∧ f < 10) ∨ (T = 39 ∧ f < 2)) : Yl Try.prog o full V (.pointer (some ⟨g, f, none⟩)) := by
  have := field_run T f g hT V
  refine Or.inl ?_
  simp only [execOp, ho, ha]
  generalize Instr.fieldAt T (.pointer (some ⟨g, 0, none⟩)) f = m at *
  go_simp
theorem yL {o : Oper} {full : Act} {V : World} {a : Operand} {p : Addr} {n : Int} (ho : o.op = .load 3 a) (ha : full.eval a = .pointer (some p)) (hc : V.cell? p = some (.int .i64 n)) : Yl Try.prog o full V (.int .i64 n) := by
  refine Or.inl ?_
  simp only [execOp, ho, ha]
  go_simp
theorem yM {o : Oper} {full : Act} {V : World} {a : Operand} {v : Value} (ho : o.op = .move a) (ha : full.eval a = v) : Yl Try.prog o full V v := by
  refine Or.inl ?_
  simp only [execOp, ho, ha]
  go_simp
theorem yC {o : Oper} {full : Act} {V : World} {a b c : Operand} {x y z r : Value} {tt : Array TypeId} (ho : o.op = .call { callee := .value (.func 16), args := #[a, b, c], argTypes := tt }) (ha : full.eval a = x) (hb : full.eval b = y) (hc : full.eval c = z)
    (hk : ∀ V : World, Calls Try.prog 16 #[x, y, z] V fun e w' => e = .returned r ∧ w' = V) : Yl Try.prog o full V r := by
  refine Or.inr ⟨16, #[x, y, z], ?_, hk V⟩
  have hf : full.eval (.func 16) = .func (.func 16) #[] #[] := rfl
  simp only [execOp, ho, resolve, ha, hb, hc, hf, List.map_toArray, List.map_cons, List.map_nil]
  go_simp
structure Fz (w : World) (a b s t c u : List Value) (g h : Nat) (W : World) : Prop where
  bt : Bt w a b s t W
  hc : Has W g c
  hu : Has W h u
theorem Fz.below {w W W' : World} {a b s t c u : List Value} {g h : Nat} (hf : Fz w a b s t c u g h W) (hb : Below W.heap.size W W') : Fz w a b s t c u g h W' := ⟨hf.bt.below hb, hf.hc.below hb, hf.hu.below hb⟩
theorem Fz.cells {w W : World} {g h0 : Nat} {x0 x1 x2 x3 x4 x5 x6 x7 x8 x9 y0 y1 y2 y3 y4 y5 y6 y7 y8 y9 s0 s1 t0 t1 m0 m1 m2 m3 m4 m5 m6 m7 m8 m9 u0 u1 : Int} (h : Fz w [.int .i64 x0, .int .i64 x1, .int .i64 x2, .int .i64 x3, .int .i64 x4, .int .i64 x5, .int .i64 x6, .int .i64 x7, .int .i64 x8, .int .i64 x9] [.int .i64 y0, .int .i64 y1, .int .i64 y2, .int .i64 y3, .int .i64 y4, .int .i64 y5, .int .i64 y6, .int .i64 y7, .int .i64 y8, .int .i64 y9] [.int .i64 s0, .int .i64 s1] [.int .i64 t0, .int .i64 t1] [.int .i64 m0, .int .i64 m1, .int .i64 m2, .int .i64 m3, .int .i64 m4, .int .i64 m5, .int .i64 m6, .int .i64 m7, .int .i64 m8, .int .i64 m9] [.int .i64 u0, .int .i64 u1] g h0 W) : W.cell? ⟨w.heap.size, 0, none⟩ = some (.int .i64 x0) ∧ W.cell? ⟨w.heap.size, 1, none⟩ = some (.int .i64 x1) ∧ W.cell? ⟨w.heap.size, 2, none⟩ = some (.int .i64 x2) ∧ W.cell? ⟨w.heap.size, 3, none⟩ = some (.int .i64 x3) ∧ W.cell? ⟨w.heap.size, 4, none⟩ = some (.int .i64 x4) ∧ W.cell? ⟨w.heap.size, 5, none⟩ = some (.int .i64 x5) ∧ W.cell? ⟨w.heap.size, 6, none⟩ = some (.int .i64 x6) ∧ W.cell? ⟨w.heap.size, 7, none⟩ = some (.int .i64 x7) ∧ W.cell? ⟨w.heap.size, 8, none⟩ = some (.int .i64 x8) ∧ W.cell? ⟨w.heap.size, 9, none⟩ = some (.int .i64 x9) ∧ W.cell? ⟨w.heap.size + 1, 0, none⟩ = some (.int .i64 y0) ∧ W.cell? ⟨w.heap.size + 1, 1, none⟩ = some (.int .i64 y1) ∧ W.cell? ⟨w.heap.size + 1, 2, none⟩ = some (.int .i64 y2) ∧ W.cell? ⟨w.heap.size + 1, 3, none⟩ = some (.int .i64 y3) ∧ W.cell? ⟨w.heap.size + 1, 4, none⟩ = some (.int .i64 y4) ∧ W.cell? ⟨w.heap.size + 1, 5, none⟩ = some (.int .i64 y5) ∧ W.cell? ⟨w.heap.size + 1, 6, none⟩ = some (.int .i64 y6) ∧ W.cell? ⟨w.heap.size + 1, 7, none⟩ = some (.int .i64 y7) ∧ W.cell? ⟨w.heap.size + 1, 8, none⟩ = some (.int .i64 y8) ∧ W.cell? ⟨w.heap.size + 1, 9, none⟩ = some (.int .i64 y9) ∧ W.cell? ⟨w.heap.size + 2, 0, none⟩ = some (.int .i64 s0) ∧ W.cell? ⟨w.heap.size + 2, 1, none⟩ = some (.int .i64 s1) ∧ W.cell? ⟨w.heap.size + 3, 0, none⟩ = some (.int .i64 t0) ∧ W.cell? ⟨w.heap.size + 3, 1, none⟩ = some (.int .i64 t1) ∧ W.cell? ⟨g, 0, none⟩ = some (.int .i64 m0) ∧ W.cell? ⟨g, 1, none⟩ = some (.int .i64 m1) ∧ W.cell? ⟨g, 2, none⟩ = some (.int .i64 m2) ∧ W.cell? ⟨g, 3, none⟩ = some (.int .i64 m3) ∧ W.cell? ⟨g, 4, none⟩ = some (.int .i64 m4) ∧ W.cell? ⟨g, 5, none⟩ = some (.int .i64 m5) ∧ W.cell? ⟨g, 6, none⟩ = some (.int .i64 m6) ∧ W.cell? ⟨g, 7, none⟩ = some (.int .i64 m7) ∧ W.cell? ⟨g, 8, none⟩ = some (.int .i64 m8) ∧ W.cell? ⟨g, 9, none⟩ = some (.int .i64 m9) ∧ W.cell? ⟨h0, 0, none⟩ = some (.int .i64 u0) ∧ W.cell? ⟨h0, 1, none⟩ = some (.int .i64 u1) :=
  ⟨h.bt.ha.2 0 _ rfl, h.bt.ha.2 1 _ rfl, h.bt.ha.2 2 _ rfl, h.bt.ha.2 3 _ rfl, h.bt.ha.2 4 _ rfl, h.bt.ha.2 5 _ rfl, h.bt.ha.2 6 _ rfl, h.bt.ha.2 7 _ rfl, h.bt.ha.2 8 _ rfl, h.bt.ha.2 9 _ rfl, h.bt.hb.2 0 _ rfl, h.bt.hb.2 1 _ rfl, h.bt.hb.2 2 _ rfl, h.bt.hb.2 3 _ rfl, h.bt.hb.2 4 _ rfl, h.bt.hb.2 5 _ rfl, h.bt.hb.2 6 _ rfl, h.bt.hb.2 7 _ rfl, h.bt.hb.2 8 _ rfl, h.bt.hb.2 9 _ rfl, h.bt.hs.2 0 _ rfl, h.bt.hs.2 1 _ rfl, h.bt.ht.2 0 _ rfl, h.bt.ht.2 1 _ rfl, h.hc.2 0 _ rfl, h.hc.2 1 _ rfl, h.hc.2 2 _ rfl, h.hc.2 3 _ rfl, h.hc.2 4 _ rfl, h.hc.2 5 _ rfl, h.hc.2 6 _ rfl, h.hc.2 7 _ rfl, h.hc.2 8 _ rfl, h.hc.2 9 _ rfl, h.hu.2 0 _ rfl, h.hu.2 1 _ rfl⟩
theorem fol_mixed : Try.prog.follows .mixedOrders = true := by kernel_rfl
theorem Has.cellAt {W : World} {g : Nat} {vs : List Value} (h : Has W g vs) (i : Nat) (v : Value) (hv : vs[i]? = some v) : W.cell? ⟨g, i, none⟩ = some v := h.2 i v hv

set_option maxRecDepth 1000000 in
set_option maxHeartbeats 16000000 in
theorem bet_walk (x0 x1 x2 x3 x4 x5 x6 x7 x8 x9 y0 y1 y2 y3 y4 y5 y6 y7 y8 y9 s0 s1 t0 t1 by0 : Int) (m0 m1 m2 m3 m4 m5 m6 m7 m8 m9 u0 u1 : Int) (EA EB EC ES ET EU : Int) (w : World)
    (k0 : ∀ V : World, Calls Try.prog 16 #[.int .i64 x0, .int .i64 y0, .int .u8 by0] V fun e w' => e = .returned (.int .i64 m0) ∧ w' = V) (k1 : ∀ V : World, Calls Try.prog 16 #[.int .i64 x1, .int .i64 y1, .int .u8 by0] V fun e w' => e = .returned (.int .i64 m1) ∧ w' = V) (k2 : ∀ V : World, Calls Try.prog 16 #[.int .i64 x2, .int .i64 y2, .int .u8 by0] V fun e w' => e = .returned (.int .i64 m2) ∧ w' = V) (k3 : ∀ V : World, Calls Try.prog 16 #[.int .i64 x3, .int .i64 y3, .int .u8 by0] V fun e w' => e = .returned (.int .i64 m3) ∧ w' = V) (k4 : ∀ V : World, Calls Try.prog 16 #[.int .i64 x4, .int .i64 y4, .int .u8 by0] V fun e w' => e = .returned (.int .i64 m4) ∧ w' = V) (k5 : ∀ V : World, Calls Try.prog 16 #[.int .i64 x5, .int .i64 y5, .int .u8 by0] V fun e w' => e = .returned (.int .i64 m5) ∧ w' = V) (k6 : ∀ V : World, Calls Try.prog 16 #[.int .i64 x6, .int .i64 y6, .int .u8 by0] V fun e w' => e = .returned (.int .i64 m6) ∧ w' = V) (k7 : ∀ V : World, Calls Try.prog 16 #[.int .i64 x7, .int .i64 y7, .int .u8 by0] V fun e w' => e = .returned (.int .i64 m7) ∧ w' = V) (k8 : ∀ V : World, Calls Try.prog 16 #[.int .i64 x8, .int .i64 y8, .int .u8 by0] V fun e w' => e = .returned (.int .i64 m8) ∧ w' = V) (k9 : ∀ V : World, Calls Try.prog 16 #[.int .i64 x9, .int .i64 y9, .int .u8 by0] V fun e w' => e = .returned (.int .i64 m9) ∧ w' = V)
    (h0 : ∀ V : World, Calls Try.prog 16 #[.int .i64 s0, .int .i64 t0, .int .u8 by0] V fun e w' => e = .returned (.int .i64 u0) ∧ w' = V) (h1 : ∀ V : World, Calls Try.prog 16 #[.int .i64 s1, .int .i64 t1, .int .u8 by0] V fun e w' => e = .returned (.int .i64 u1) ∧ w' = V)
    (hC : EA = 0 → EB = 0 → EC = 0) (hU : ES = 0 → ET = 0 → EU = 0)
    (kA : ∀ V, Calls Try.prog 12 #[.agg #[.int .i64 x0, .int .i64 x1, .int .i64 x2, .int .i64 x3, .int .i64 x4, .int .i64 x5, .int .i64 x6, .int .i64 x7, .int .i64 x8, .int .i64 x9]] V fun e w' => e = .returned (.int .i64 EA) ∧ Below V.heap.size V w') (kB : ∀ V, Calls Try.prog 12 #[.agg #[.int .i64 y0, .int .i64 y1, .int .i64 y2, .int .i64 y3, .int .i64 y4, .int .i64 y5, .int .i64 y6, .int .i64 y7, .int .i64 y8, .int .i64 y9]] V fun e w' => e = .returned (.int .i64 EB) ∧ Below V.heap.size V w')
    (kC : ∀ V, Calls Try.prog 12 #[.agg #[.int .i64 m0, .int .i64 m1, .int .i64 m2, .int .i64 m3, .int .i64 m4, .int .i64 m5, .int .i64 m6, .int .i64 m7, .int .i64 m8, .int .i64 m9]] V fun e w' => e = .returned (.int .i64 EC) ∧ Below V.heap.size V w')
    (kS : ∀ V, Calls Try.prog 14 #[.agg #[.int .i64 s0, .int .i64 s1]] V fun e w' => e = .returned (.int .i64 ES) ∧ Below V.heap.size V w') (kT : ∀ V, Calls Try.prog 14 #[.agg #[.int .i64 t0, .int .i64 t1]] V fun e w' => e = .returned (.int .i64 ET) ∧ Below V.heap.size V w')
    (kU : ∀ V, Calls Try.prog 14 #[.agg #[.int .i64 u0, .int .i64 u1]] V fun e w' => e = .returned (.int .i64 EU) ∧ Below V.heap.size V w') :
    Calls Try.prog 7 #[.agg #[.int .i64 x0, .int .i64 x1, .int .i64 x2, .int .i64 x3, .int .i64 x4, .int .i64 x5, .int .i64 x6, .int .i64 x7, .int .i64 x8, .int .i64 x9], .agg #[.int .i64 y0, .int .i64 y1, .int .i64 y2, .int .i64 y3, .int .i64 y4, .int .i64 y5, .int .i64 y6, .int .i64 y7, .int .i64 y8, .int .i64 y9], .agg #[.int .i64 s0, .int .i64 s1], .agg #[.int .i64 t0, .int .i64 t1], .int .u8 by0] w fun e w' => e = .returned (.bool true) ∧ Below w.heap.size w w' := by
  have kH : Calls Try.prog 8 #[] ((((w.alloc (.cells #[.int .i64 x0, .int .i64 x1, .int .i64 x2, .int .i64 x3, .int .i64 x4, .int .i64 x5, .int .i64 x6, .int .i64 x7, .int .i64 x8, .int .i64 x9] 23)).alloc (.cells #[.int .i64 y0, .int .i64 y1, .int .i64 y2, .int .i64 y3, .int .i64 y4, .int .i64 y5, .int .i64 y6, .int .i64 y7, .int .i64 y8, .int .i64 y9] 23)).alloc (.cells #[.int .i64 s0, .int .i64 s1] 39)).alloc (.cells #[.int .i64 t0, .int .i64 t1] 39)) fun e w' => e = .returned (.bool true) ∧ Hid (Bt w [.int .i64 x0, .int .i64 x1, .int .i64 x2, .int .i64 x3, .int .i64 x4, .int .i64 x5, .int .i64 x6, .int .i64 x7, .int .i64 x8, .int .i64 x9] [.int .i64 y0, .int .i64 y1, .int .i64 y2, .int .i64 y3, .int .i64 y4, .int .i64 y5, .int .i64 y6, .int .i64 y7, .int .i64 y8, .int .i64 y9] [.int .i64 s0, .int .i64 s1] [.int .i64 t0, .int .i64 t1] w') := (shown_any _).mono (fun e w' h => ⟨h.1, (Bt.new w #[.int .i64 x0, .int .i64 x1, .int .i64 x2, .int .i64 x3, .int .i64 x4, .int .i64 x5, .int .i64 x6, .int .i64 x7, .int .i64 x8, .int .i64 x9] #[.int .i64 y0, .int .i64 y1, .int .i64 y2, .int .i64 y3, .int .i64 y4, .int .i64 y5, .int .i64 y6, .int .i64 y7, .int .i64 y8, .int .i64 y9] #[.int .i64 s0, .int .i64 s1] #[.int .i64 t0, .int .i64 t1]).below h.2⟩)
  have HK := hide_it (And.intro k0 (And.intro k1 (And.intro k2 (And.intro k3 (And.intro k4 (And.intro k5 (And.intro k6 (And.intro k7 (And.intro k8 k9)))))))))
  clear k0 k1 k2 k3 k4 k5 k6 k7 k8 k9
  go_enter Try.func7, Try.ntmps7
  go_wp2_with (go_at_call 8; refine kH.mono ?_; rintro e w1 ⟨rfl, hX1⟩)
  clear kH
  obtain ⟨k0, k1, k2, k3, k4, k5, k6, k7, k8, k9⟩ := HK.out
  obtain ⟨g, hg⟩ : ∃ g, w1.heap.size = g := ⟨_, rfl⟩
  have hcl : ∀ V, (V = w1.drew ∨ V = (w1.drew.alloc (.cells #[.int .i64 0, .int .i64 0, .int .i64 0, .int .i64 0, .int .i64 0, .int .i64 0, .int .i64 0, .int .i64 0, .int .i64 0, .int .i64 0] 23))) → Bt w [.int .i64 x0, .int .i64 x1, .int .i64 x2, .int .i64 x3, .int .i64 x4, .int .i64 x5, .int .i64 x6, .int .i64 x7, .int .i64 x8, .int .i64 x9] [.int .i64 y0, .int .i64 y1, .int .i64 y2, .int .i64 y3, .int .i64 y4, .int .i64 y5, .int .i64 y6, .int .i64 y7, .int .i64 y8, .int .i64 y9] [.int .i64 s0, .int .i64 s1] [.int .i64 t0, .int .i64 t1] V := by
    rintro V (rfl | rfl)
    · exact hX1.out.drew
    · exact hX1.out.drew.alloc _
  refine region_fix { tmps := #[(.agg #[.int .i64 x0, .int .i64 x1, .int .i64 x2, .int .i64 x3, .int .i64 x4, .int .i64 x5, .int .i64 x6, .int .i64 x7, .int .i64 x8, .int .i64 x9]), (.agg #[.int .i64 y0, .int .i64 y1, .int .i64 y2, .int .i64 y3, .int .i64 y4, .int .i64 y5, .int .i64 y6, .int .i64 y7, .int .i64 y8, .int .i64 y9]), (.agg #[.int .i64 s0, .int .i64 s1]), (.agg #[.int .i64 t0, .int .i64 t1]), (.int .u8 by0), (.pointer (some ⟨w.heap.size, 0, none⟩)), (.pointer (some ⟨w.heap.size + 1, 0, none⟩)), (.pointer (some ⟨w.heap.size + 2, 0, none⟩)), (.pointer (some ⟨w.heap.size + 3, 0, none⟩)), undef, (.bool false), (.bool true), (.pointer (some ⟨g, 0, none⟩)), undef, (.bool true), (.pointer (some ⟨w.heap.size, 0, none⟩)), (.int .i64 x0), (.pointer (some ⟨w.heap.size + 1, 0, none⟩)), (.int .i64 y0), (.int .u8 by0), (.int .i64 m0), (.pointer (some ⟨w.heap.size, 1, none⟩)), (.int .i64 x1), (.pointer (some ⟨w.heap.size + 1, 1, none⟩)), (.int .i64 y1), (.int .u8 by0), (.int .i64 m1), (.pointer (some ⟨w.heap.size, 2, none⟩)), (.int .i64 x2), (.pointer (some ⟨w.heap.size + 1, 2, none⟩)), (.int .i64 y2), (.int .u8 by0), (.int .i64 m2), (.pointer (some ⟨w.heap.size, 3, none⟩)), (.int .i64 x3), (.pointer (some ⟨w.heap.size + 1, 3, none⟩)), (.int .i64 y3), (.int .u8 by0), (.int .i64 m3), (.pointer (some ⟨w.heap.size, 4, none⟩)), (.int .i64 x4), (.pointer (some ⟨w.heap.size + 1, 4, none⟩)), (.int .i64 y4), (.int .u8 by0), (.int .i64 m4), (.pointer (some ⟨w.heap.size, 5, none⟩)), (.int .i64 x5), (.pointer (some ⟨w.heap.size + 1, 5, none⟩)), (.int .i64 y5), (.int .u8 by0), (.int .i64 m5), (.pointer (some ⟨w.heap.size, 6, none⟩)), (.int .i64 x6), (.pointer (some ⟨w.heap.size + 1, 6, none⟩)), (.int .i64 y6), (.int .u8 by0), (.int .i64 m6), (.pointer (some ⟨w.heap.size, 7, none⟩)), (.int .i64 x7), (.pointer (some ⟨w.heap.size + 1, 7, none⟩)), (.int .i64 y7), (.int .u8 by0), (.int .i64 m7), (.pointer (some ⟨w.heap.size, 8, none⟩)), (.int .i64 x8), (.pointer (some ⟨w.heap.size + 1, 8, none⟩)), (.int .i64 y8), (.int .u8 by0), (.int .i64 m8), (.pointer (some ⟨w.heap.size, 9, none⟩)), (.int .i64 x9), (.pointer (some ⟨w.heap.size + 1, 9, none⟩)), (.int .i64 y9), (.int .u8 by0), (.int .i64 m9), (.agg #[.int .i64 m0, .int .i64 m1, .int .i64 m2, .int .i64 m3, .int .i64 m4, .int .i64 m5, .int .i64 m6, .int .i64 m7, .int .i64 m8, .int .i64 m9]), undef, undef, undef, undef, undef, undef, undef, undef, undef, undef, undef, undef, undef, undef, undef, undef, undef, undef, undef, undef, undef, undef, undef, undef, undef, undef, undef, undef, undef, undef, undef, undef, undef, undef, undef, undef, undef, undef, undef, undef, undef, undef], defers := [] } [(15, .pointer (some ⟨w.heap.size, 0, none⟩)), (16, .int .i64 x0), (17, .pointer (some ⟨w.heap.size + 1, 0, none⟩)), (18, .int .i64 y0), (19, .int .u8 by0), (20, .int .i64 m0), (21, .pointer (some ⟨w.heap.size, 1, none⟩)), (22, .int .i64 x1), (23, .pointer (some ⟨w.heap.size + 1, 1, none⟩)), (24, .int .i64 y1), (25, .int .u8 by0), (26, .int .i64 m1), (27, .pointer (some ⟨w.heap.size, 2, none⟩)), (28, .int .i64 x2), (29, .pointer (some ⟨w.heap.size + 1, 2, none⟩)), (30, .int .i64 y2), (31, .int .u8 by0), (32, .int .i64 m2), (33, .pointer (some ⟨w.heap.size, 3, none⟩)), (34, .int .i64 x3), (35, .pointer (some ⟨w.heap.size + 1, 3, none⟩)), (36, .int .i64 y3), (37, .int .u8 by0), (38, .int .i64 m3), (39, .pointer (some ⟨w.heap.size, 4, none⟩)), (40, .int .i64 x4), (41, .pointer (some ⟨w.heap.size + 1, 4, none⟩)), (42, .int .i64 y4), (43, .int .u8 by0), (44, .int .i64 m4), (45, .pointer (some ⟨w.heap.size, 5, none⟩)), (46, .int .i64 x5), (47, .pointer (some ⟨w.heap.size + 1, 5, none⟩)), (48, .int .i64 y5), (49, .int .u8 by0), (50, .int .i64 m5), (51, .pointer (some ⟨w.heap.size, 6, none⟩)), (52, .int .i64 x6), (53, .pointer (some ⟨w.heap.size + 1, 6, none⟩)), (54, .int .i64 y6), (55, .int .u8 by0), (56, .int .i64 m6), (57, .pointer (some ⟨w.heap.size, 7, none⟩)), (58, .int .i64 x7), (59, .pointer (some ⟨w.heap.size + 1, 7, none⟩)), (60, .int .i64 y7), (61, .int .u8 by0), (62, .int .i64 m7), (63, .pointer (some ⟨w.heap.size, 8, none⟩)), (64, .int .i64 x8), (65, .pointer (some ⟨w.heap.size + 1, 8, none⟩)), (66, .int .i64 y8), (67, .int .u8 by0), (68, .int .i64 m8), (69, .pointer (some ⟨w.heap.size, 9, none⟩)), (70, .int .i64 x9), (71, .pointer (some ⟨w.heap.size + 1, 9, none⟩)), (72, .int .i64 y9), (73, .int .u8 by0), (74, .int .i64 m9), (75, .agg #[.int .i64 m0, .int .i64 m1, .int .i64 m2, .int .i64 m3, .int .i64 m4, .int .i64 m5, .int .i64 m6, .int .i64 m7, .int .i64 m8, .int .i64 m9]), (12, .pointer (some ⟨g, 0, none⟩))] (w1.drew.alloc (.cells #[.int .i64 0, .int .i64 0, .int .i64 0, .int .i64 0, .int .i64 0, .int .i64 0, .int .i64 0, .int .i64 0, .int .i64 0, .int .i64 0] 23)) (w1.drew.alloc (.cells #[.int .i64 m0, .int .i64 m1, .int .i64 m2, .int .i64 m3, .int .i64 m4, .int .i64 m5, .int .i64 m6, .int .i64 m7, .int .i64 m8, .int .i64 m9] 23)) 61 62 fol_mixed (by kernel_rfl) (by kernel_rfl) (by kernel_rfl) (by decide) (by decide) (by rfl)
    (AllYl.cons (Or.inr (Or.inr ⟨_, rfl, fun V hV => yF (T := 23) (f := 0) rfl rfl (by omega)⟩)) (AllYl.cons (Or.inr (Or.inr ⟨_, rfl, fun V hV => yL rfl rfl ((hcl V hV).ha.2 0 _ rfl)⟩)) (AllYl.cons (Or.inr (Or.inr ⟨_, rfl, fun V hV => yF (T := 23) (f := 0) rfl rfl (by omega)⟩)) (AllYl.cons (Or.inr (Or.inr ⟨_, rfl, fun V hV => yL rfl rfl ((hcl V hV).hb.2 0 _ rfl)⟩)) (AllYl.cons (Or.inr (Or.inr ⟨_, rfl, fun V hV => yM rfl rfl⟩)) (AllYl.cons (Or.inr (Or.inr ⟨_, rfl, fun V hV => yC rfl rfl rfl rfl k0⟩)) (AllYl.cons (Or.inr (Or.inr ⟨_, rfl, fun V hV => yF (T := 23) (f := 1) rfl rfl (by omega)⟩)) (AllYl.cons (Or.inr (Or.inr ⟨_, rfl, fun V hV => yL rfl rfl ((hcl V hV).ha.2 1 _ rfl)⟩)) (AllYl.cons (Or.inr (Or.inr ⟨_, rfl, fun V hV => yF (T := 23) (f := 1) rfl rfl (by omega)⟩)) (AllYl.cons (Or.inr (Or.inr ⟨_, rfl, fun V hV => yL rfl rfl ((hcl V hV).hb.2 1 _ rfl)⟩)) (AllYl.cons (Or.inr (Or.inr ⟨_, rfl, fun V hV => yM rfl rfl⟩)) (AllYl.cons (Or.inr (Or.inr ⟨_, rfl, fun V hV => yC rfl rfl rfl rfl k1⟩)) (AllYl.cons (Or.inr (Or.inr ⟨_, rfl, fun V hV => yF (T := 23) (f := 2) rfl rfl (by omega)⟩)) (AllYl.cons (Or.inr (Or.inr ⟨_, rfl, fun V hV => yL rfl rfl ((hcl V hV).ha.2 2 _ rfl)⟩)) (AllYl.cons (Or.inr (Or.inr ⟨_, rfl, fun V hV => yF (T := 23) (f := 2) rfl rfl (by omega)⟩)) (AllYl.cons (Or.inr (Or.inr ⟨_, rfl, fun V hV => yL rfl rfl ((hcl V hV).hb.2 2 _ rfl)⟩)) (AllYl.cons (Or.inr (Or.inr ⟨_, rfl, fun V hV => yM rfl rfl⟩)) (AllYl.cons (Or.inr (Or.inr ⟨_, rfl, fun V hV => yC rfl rfl rfl rfl k2⟩)) (AllYl.cons (Or.inr (Or.inr ⟨_, rfl, fun V hV => yF (T := 23) (f := 3) rfl rfl (by omega)⟩)) (AllYl.cons (Or.inr (Or.inr ⟨_, rfl, fun V hV => yL rfl rfl ((hcl V hV).ha.2 3 _ rfl)⟩)) (AllYl.cons (Or.inr (Or.inr ⟨_, rfl, fun V hV => yF (T := 23) (f := 3) rfl rfl (by omega)⟩)) (AllYl.cons (Or.inr (Or.inr ⟨_, rfl, fun V hV => yL rfl rfl ((hcl V hV).hb.2 3 _ rfl)⟩)) (AllYl.cons (Or.inr (Or.inr ⟨_, rfl, fun V hV => yM rfl rfl⟩)) (AllYl.cons (Or.inr (Or.inr ⟨_, rfl, fun V hV => yC rfl rfl rfl rfl k3⟩)) (AllYl.cons (Or.inr (Or.inr ⟨_, rfl, fun V hV => yF (T := 23) (f := 4) rfl rfl (by omega)⟩)) (AllYl.cons (Or.inr (Or.inr ⟨_, rfl, fun V hV => yL rfl rfl ((hcl V hV).ha.2 4 _ rfl)⟩)) (AllYl.cons (Or.inr (Or.inr ⟨_, rfl, fun V hV => yF (T := 23) (f := 4) rfl rfl (by omega)⟩)) (AllYl.cons (Or.inr (Or.inr ⟨_, rfl, fun V hV => yL rfl rfl ((hcl V hV).hb.2 4 _ rfl)⟩)) (AllYl.cons (Or.inr (Or.inr ⟨_, rfl, fun V hV => yM rfl rfl⟩)) (AllYl.cons (Or.inr (Or.inr ⟨_, rfl, fun V hV => yC rfl rfl rfl rfl k4⟩)) (AllYl.cons (Or.inr (Or.inr ⟨_, rfl, fun V hV => yF (T := 23) (f := 5) rfl rfl (by omega)⟩)) (AllYl.cons (Or.inr (Or.inr ⟨_, rfl, fun V hV => yL rfl rfl ((hcl V hV).ha.2 5 _ rfl)⟩)) (AllYl.cons (Or.inr (Or.inr ⟨_, rfl, fun V hV => yF (T := 23) (f := 5) rfl rfl (by omega)⟩)) (AllYl.cons (Or.inr (Or.inr ⟨_, rfl, fun V hV => yL rfl rfl ((hcl V hV).hb.2 5 _ rfl)⟩)) (AllYl.cons (Or.inr (Or.inr ⟨_, rfl, fun V hV => yM rfl rfl⟩)) (AllYl.cons (Or.inr (Or.inr ⟨_, rfl, fun V hV => yC rfl rfl rfl rfl k5⟩)) (AllYl.cons (Or.inr (Or.inr ⟨_, rfl, fun V hV => yF (T := 23) (f := 6) rfl rfl (by omega)⟩)) (AllYl.cons (Or.inr (Or.inr ⟨_, rfl, fun V hV => yL rfl rfl ((hcl V hV).ha.2 6 _ rfl)⟩)) (AllYl.cons (Or.inr (Or.inr ⟨_, rfl, fun V hV => yF (T := 23) (f := 6) rfl rfl (by omega)⟩)) (AllYl.cons (Or.inr (Or.inr ⟨_, rfl, fun V hV => yL rfl rfl ((hcl V hV).hb.2 6 _ rfl)⟩)) (AllYl.cons (Or.inr (Or.inr ⟨_, rfl, fun V hV => yM rfl rfl⟩)) (AllYl.cons (Or.inr (Or.inr ⟨_, rfl, fun V hV => yC rfl rfl rfl rfl k6⟩)) (AllYl.cons (Or.inr (Or.inr ⟨_, rfl, fun V hV => yF (T := 23) (f := 7) rfl rfl (by omega)⟩)) (AllYl.cons (Or.inr (Or.inr ⟨_, rfl, fun V hV => yL rfl rfl ((hcl V hV).ha.2 7 _ rfl)⟩)) (AllYl.cons (Or.inr (Or.inr ⟨_, rfl, fun V hV => yF (T := 23) (f := 7) rfl rfl (by omega)⟩)) (AllYl.cons (Or.inr (Or.inr ⟨_, rfl, fun V hV => yL rfl rfl ((hcl V hV).hb.2 7 _ rfl)⟩)) (AllYl.cons (Or.inr (Or.inr ⟨_, rfl, fun V hV => yM rfl rfl⟩)) (AllYl.cons (Or.inr (Or.inr ⟨_, rfl, fun V hV => yC rfl rfl rfl rfl k7⟩)) (AllYl.cons (Or.inr (Or.inr ⟨_, rfl, fun V hV => yF (T := 23) (f := 8) rfl rfl (by omega)⟩)) (AllYl.cons (Or.inr (Or.inr ⟨_, rfl, fun V hV => yL rfl rfl ((hcl V hV).ha.2 8 _ rfl)⟩)) (AllYl.cons (Or.inr (Or.inr ⟨_, rfl, fun V hV => yF (T := 23) (f := 8) rfl rfl (by omega)⟩)) (AllYl.cons (Or.inr (Or.inr ⟨_, rfl, fun V hV => yL rfl rfl ((hcl V hV).hb.2 8 _ rfl)⟩)) (AllYl.cons (Or.inr (Or.inr ⟨_, rfl, fun V hV => yM rfl rfl⟩)) (AllYl.cons (Or.inr (Or.inr ⟨_, rfl, fun V hV => yC rfl rfl rfl rfl k8⟩)) (AllYl.cons (Or.inr (Or.inr ⟨_, rfl, fun V hV => yF (T := 23) (f := 9) rfl rfl (by omega)⟩)) (AllYl.cons (Or.inr (Or.inr ⟨_, rfl, fun V hV => yL rfl rfl ((hcl V hV).ha.2 9 _ rfl)⟩)) (AllYl.cons (Or.inr (Or.inr ⟨_, rfl, fun V hV => yF (T := 23) (f := 9) rfl rfl (by omega)⟩)) (AllYl.cons (Or.inr (Or.inr ⟨_, rfl, fun V hV => yL rfl rfl ((hcl V hV).hb.2 9 _ rfl)⟩)) (AllYl.cons (Or.inr (Or.inr ⟨_, rfl, fun V hV => yM rfl rfl⟩)) (AllYl.cons (Or.inr (Or.inr ⟨_, rfl, fun V hV => yC rfl rfl rfl rfl k9⟩)) (AllYl.cons (Or.inr (Or.inr ⟨_, rfl, fun V hV => Or.inl (by go_simp)⟩)) (AllYl.cons (Or.inl rfl) (AllYl.cons (Or.inr (Or.inl rfl)) AllYl.nil)))))))))))))))))))))))))))))))))))))))))))))))))))))))))))))))
    _ _ rfl rfl 12 rfl (by go_simp) rfl (by kernel_rfl) (by go_simp) ?_
  obtain ⟨w2, hw2⟩ : ∃ W, W = w1.drew.alloc (.cells #[.int .i64 m0, .int .i64 m1, .int .i64 m2, .int .i64 m3, .int .i64 m4, .int .i64 m5, .int .i64 m6, .int .i64 m7, .int .i64 m8, .int .i64 m9] 23) := ⟨_, rfl⟩
  have hX2 : Hid (Bt w [.int .i64 x0, .int .i64 x1, .int .i64 x2, .int .i64 x3, .int .i64 x4, .int .i64 x5, .int .i64 x6, .int .i64 x7, .int .i64 x8, .int .i64 x9] [.int .i64 y0, .int .i64 y1, .int .i64 y2, .int .i64 y3, .int .i64 y4, .int .i64 y5, .int .i64 y6, .int .i64 y7, .int .i64 y8, .int .i64 y9] [.int .i64 s0, .int .i64 s1] [.int .i64 t0, .int .i64 t1] w2) := by rw [hw2]; exact hX1.out.drew.alloc _
  have hC2 : Hid (Has w2 g [.int .i64 m0, .int .i64 m1, .int .i64 m2, .int .i64 m3, .int .i64 m4, .int .i64 m5, .int .i64 m6, .int .i64 m7, .int .i64 m8, .int .i64 m9]) := by rw [hw2]; exact Has.new w1.drew [.int .i64 m0, .int .i64 m1, .int .i64 m2, .int .i64 m3, .int .i64 m4, .int .i64 m5, .int .i64 m6, .int .i64 m7, .int .i64 m8, .int .i64 m9] 23 g hg _ rfl
  rw [← hw2]
  clear hw2 hcl hX1 hg k0 k1 k2 k3 k4 k5 k6 k7 k8 k9 HK
  clear w1
  go_wp2
  obtain ⟨h, hh⟩ : ∃ h, w2.heap.size = h := ⟨_, rfl⟩
  have hcl : ∀ V, (V = w2.drew ∨ V = (w2.drew.alloc (.cells #[.int .i64 0, .int .i64 0] 39))) → Bt w [.int .i64 x0, .int .i64 x1, .int .i64 x2, .int .i64 x3, .int .i64 x4, .int .i64 x5, .int .i64 x6, .int .i64 x7, .int .i64 x8, .int .i64 x9] [.int .i64 y0, .int .i64 y1, .int .i64 y2, .int .i64 y3, .int .i64 y4, .int .i64 y5, .int .i64 y6, .int .i64 y7, .int .i64 y8, .int .i64 y9] [.int .i64 s0, .int .i64 s1] [.int .i64 t0, .int .i64 t1] V := by
    rintro V (rfl | rfl)
    · exact hX2.out.drew
    · exact hX2.out.drew.alloc _
  refine region_fix { tmps := #[(.agg #[.int .i64 x0, .int .i64 x1, .int .i64 x2, .int .i64 x3, .int .i64 x4, .int .i64 x5, .int .i64 x6, .int .i64 x7, .int .i64 x8, .int .i64 x9]), (.agg #[.int .i64 y0, .int .i64 y1, .int .i64 y2, .int .i64 y3, .int .i64 y4, .int .i64 y5, .int .i64 y6, .int .i64 y7, .int .i64 y8, .int .i64 y9]), (.agg #[.int .i64 s0, .int .i64 s1]), (.agg #[.int .i64 t0, .int .i64 t1]), (.int .u8 by0), (.pointer (some ⟨w.heap.size, 0, none⟩)), (.pointer (some ⟨w.heap.size + 1, 0, none⟩)), (.pointer (some ⟨w.heap.size + 2, 0, none⟩)), (.pointer (some ⟨w.heap.size + 3, 0, none⟩)), undef, (.bool false), (.bool true), (.pointer (some ⟨g, 0, none⟩)), (.pointer (some ⟨h, 0, none⟩)), (.bool true), (.pointer (some ⟨w.heap.size, 0, none⟩)), (.int .i64 x0), (.pointer (some ⟨w.heap.size + 1, 0, none⟩)), (.int .i64 y0), (.int .u8 by0), (.int .i64 m0), (.pointer (some ⟨w.heap.size, 1, none⟩)), (.int .i64 x1), (.pointer (some ⟨w.heap.size + 1, 1, none⟩)), (.int .i64 y1), (.int .u8 by0), (.int .i64 m1), (.pointer (some ⟨w.heap.size, 2, none⟩)), (.int .i64 x2), (.pointer (some ⟨w.heap.size + 1, 2, none⟩)), (.int .i64 y2), (.int .u8 by0), (.int .i64 m2), (.pointer (some ⟨w.heap.size, 3, none⟩)), (.int .i64 x3), (.pointer (some ⟨w.heap.size + 1, 3, none⟩)), (.int .i64 y3), (.int .u8 by0), (.int .i64 m3), (.pointer (some ⟨w.heap.size, 4, none⟩)), (.int .i64 x4), (.pointer (some ⟨w.heap.size + 1, 4, none⟩)), (.int .i64 y4), (.int .u8 by0), (.int .i64 m4), (.pointer (some ⟨w.heap.size, 5, none⟩)), (.int .i64 x5), (.pointer (some ⟨w.heap.size + 1, 5, none⟩)), (.int .i64 y5), (.int .u8 by0), (.int .i64 m5), (.pointer (some ⟨w.heap.size, 6, none⟩)), (.int .i64 x6), (.pointer (some ⟨w.heap.size + 1, 6, none⟩)), (.int .i64 y6), (.int .u8 by0), (.int .i64 m6), (.pointer (some ⟨w.heap.size, 7, none⟩)), (.int .i64 x7), (.pointer (some ⟨w.heap.size + 1, 7, none⟩)), (.int .i64 y7), (.int .u8 by0), (.int .i64 m7), (.pointer (some ⟨w.heap.size, 8, none⟩)), (.int .i64 x8), (.pointer (some ⟨w.heap.size + 1, 8, none⟩)), (.int .i64 y8), (.int .u8 by0), (.int .i64 m8), (.pointer (some ⟨w.heap.size, 9, none⟩)), (.int .i64 x9), (.pointer (some ⟨w.heap.size + 1, 9, none⟩)), (.int .i64 y9), (.int .u8 by0), (.int .i64 m9), (.agg #[.int .i64 m0, .int .i64 m1, .int .i64 m2, .int .i64 m3, .int .i64 m4, .int .i64 m5, .int .i64 m6, .int .i64 m7, .int .i64 m8, .int .i64 m9]), (.pointer (some ⟨w.heap.size + 2, 0, none⟩)), (.int .i64 s0), (.pointer (some ⟨w.heap.size + 3, 0, none⟩)), (.int .i64 t0), (.int .u8 by0), (.int .i64 u0), (.pointer (some ⟨w.heap.size + 2, 1, none⟩)), (.int .i64 s1), (.pointer (some ⟨w.heap.size + 3, 1, none⟩)), (.int .i64 t1), (.int .u8 by0), (.int .i64 u1), (.agg #[.int .i64 u0, .int .i64 u1]), undef, undef, undef, undef, undef, undef, undef, undef, undef, undef, undef, undef, undef, undef, undef, undef, undef, undef, undef, undef, undef, undef, undef, undef, undef, undef, undef, undef, undef], defers := [] } [(76, .pointer (some ⟨w.heap.size + 2, 0, none⟩)), (77, .int .i64 s0), (78, .pointer (some ⟨w.heap.size + 3, 0, none⟩)), (79, .int .i64 t0), (80, .int .u8 by0), (81, .int .i64 u0), (82, .pointer (some ⟨w.heap.size + 2, 1, none⟩)), (83, .int .i64 s1), (84, .pointer (some ⟨w.heap.size + 3, 1, none⟩)), (85, .int .i64 t1), (86, .int .u8 by0), (87, .int .i64 u1), (88, .agg #[.int .i64 u0, .int .i64 u1]), (13, .pointer (some ⟨h, 0, none⟩))] (w2.drew.alloc (.cells #[.int .i64 0, .int .i64 0] 39)) (w2.drew.alloc (.cells #[.int .i64 u0, .int .i64 u1] 39)) 13 14 fol_mixed (by kernel_rfl) (by kernel_rfl) (by kernel_rfl) (by decide) (by decide) (by rfl)
    (AllYl.cons (Or.inr (Or.inr ⟨_, rfl, fun V hV => yF (T := 39) (f := 0) rfl rfl (by omega)⟩)) (AllYl.cons (Or.inr (Or.inr ⟨_, rfl, fun V hV => yL rfl rfl ((hcl V hV).hs.2 0 _ rfl)⟩)) (AllYl.cons (Or.inr (Or.inr ⟨_, rfl, fun V hV => yF (T := 39) (f := 0) rfl rfl (by omega)⟩)) (AllYl.cons (Or.inr (Or.inr ⟨_, rfl, fun V hV => yL rfl rfl ((hcl V hV).ht.2 0 _ rfl)⟩)) (AllYl.cons (Or.inr (Or.inr ⟨_, rfl, fun V hV => yM rfl rfl⟩)) (AllYl.cons (Or.inr (Or.inr ⟨_, rfl, fun V hV => yC rfl rfl rfl rfl h0⟩)) (AllYl.cons (Or.inr (Or.inr ⟨_, rfl, fun V hV => yF (T := 39) (f := 1) rfl rfl (by omega)⟩)) (AllYl.cons (Or.inr (Or.inr ⟨_, rfl, fun V hV => yL rfl rfl ((hcl V hV).hs.2 1 _ rfl)⟩)) (AllYl.cons (Or.inr (Or.inr ⟨_, rfl, fun V hV => yF (T := 39) (f := 1) rfl rfl (by omega)⟩)) (AllYl.cons (Or.inr (Or.inr ⟨_, rfl, fun V hV => yL rfl rfl ((hcl V hV).ht.2 1 _ rfl)⟩)) (AllYl.cons (Or.inr (Or.inr ⟨_, rfl, fun V hV => yM rfl rfl⟩)) (AllYl.cons (Or.inr (Or.inr ⟨_, rfl, fun V hV => yC rfl rfl rfl rfl h1⟩)) (AllYl.cons (Or.inr (Or.inr ⟨_, rfl, fun V hV => Or.inl (by go_simp)⟩)) (AllYl.cons (Or.inl rfl) (AllYl.cons (Or.inr (Or.inl rfl)) AllYl.nil)))))))))))))))
    _ _ rfl rfl 13 rfl (by go_simp) rfl (by kernel_rfl) (by go_simp) ?_
  obtain ⟨w3, hw3⟩ : ∃ W, W = w2.drew.alloc (.cells #[.int .i64 u0, .int .i64 u1] 39) := ⟨_, rfl⟩
  have hF0 : Hid (Fz w [.int .i64 x0, .int .i64 x1, .int .i64 x2, .int .i64 x3, .int .i64 x4, .int .i64 x5, .int .i64 x6, .int .i64 x7, .int .i64 x8, .int .i64 x9] [.int .i64 y0, .int .i64 y1, .int .i64 y2, .int .i64 y3, .int .i64 y4, .int .i64 y5, .int .i64 y6, .int .i64 y7, .int .i64 y8, .int .i64 y9] [.int .i64 s0, .int .i64 s1] [.int .i64 t0, .int .i64 t1] [.int .i64 m0, .int .i64 m1, .int .i64 m2, .int .i64 m3, .int .i64 m4, .int .i64 m5, .int .i64 m6, .int .i64 m7, .int .i64 m8, .int .i64 m9] [.int .i64 u0, .int .i64 u1] g h w3) := by
    rw [hw3]
    have hbb : Below w2.heap.size w2 (w2.drew.alloc (.cells #[.int .i64 u0, .int .i64 u1] 39)) := ((Below.refl _ _).drew).alloc (Nat.le_refl _) _
    exact ⟨hX2.out.below hbb, hC2.out.below hbb, Has.new w2.drew [.int .i64 u0, .int .i64 u1] 39 h hh _ rfl⟩
  rw [← hw3]
  clear hw3 hcl hX2 hh h0 h1 hC2
  clear w2
  obtain ⟨q0, q1, q2, q3, q4, q5, q6, q7, q8, q9, q10, q11, q12, q13, q14, q15, q16, q17, q18, q19, q20, q21, q22, q23, q24, q25, q26, q27, q28, q29, q30, q31, q32, q33, q34, q35⟩ := hF0.out.cells
  by_cases hA : EA = 0
  · subst hA
    by_cases hB : EB = 0
    · subst hB
      have hEC := hC rfl rfl
      subst hEC
      by_cases hS : ES = 0
      · subst hS
        by_cases hT : ET = 0
        · subst hT
          have hEU := hU rfl rfl
          subst hEU
          go_wp2_with (go_at_call 12; refine (kA _).mono ?_; rintro e v1 ⟨rfl, hb1⟩; have hF1 := hide_it (hF0.out.below hb1); clear q0 q1 q2 q3 q4 q5 q6 q7 q8 q9 q10 q11 q12 q13 q14 q15 q16 q17 q18 q19 q20 q21 q22 q23 q24 q25 q26 q27 q28 q29 q30 q31 q32 q33 q34 q35; obtain ⟨q0, q1, q2, q3, q4, q5, q6, q7, q8, q9, q10, q11, q12, q13, q14, q15, q16, q17, q18, q19, q20, q21, q22, q23, q24, q25, q26, q27, q28, q29, q30, q31, q32, q33, q34, q35⟩ := hF1.out.cells; refine Hid.out ?_)
          refine hide_it ?_
          go_wp2_with (go_at_call 12; refine (kB _).mono ?_; rintro e v2 ⟨rfl, hb2⟩; have hF2 := hide_it (hF1.out.below hb2); clear q0 q1 q2 q3 q4 q5 q6 q7 q8 q9 q10 q11 q12 q13 q14 q15 q16 q17 q18 q19 q20 q21 q22 q23 q24 q25 q26 q27 q28 q29 q30 q31 q32 q33 q34 q35; obtain ⟨q0, q1, q2, q3, q4, q5, q6, q7, q8, q9, q10, q11, q12, q13, q14, q15, q16, q17, q18, q19, q20, q21, q22, q23, q24, q25, q26, q27, q28, q29, q30, q31, q32, q33, q34, q35⟩ := hF2.out.cells; refine Hid.out ?_)
          refine hide_it ?_
          go_wp2_with (go_at_call 12; refine (kC _).mono ?_; rintro e v3 ⟨rfl, hb3⟩; have hF3 := hide_it (hF2.out.below hb3); clear q0 q1 q2 q3 q4 q5 q6 q7 q8 q9 q10 q11 q12 q13 q14 q15 q16 q17 q18 q19 q20 q21 q22 q23 q24 q25 q26 q27 q28 q29 q30 q31 q32 q33 q34 q35; obtain ⟨q0, q1, q2, q3, q4, q5, q6, q7, q8, q9, q10, q11, q12, q13, q14, q15, q16, q17, q18, q19, q20, q21, q22, q23, q24, q25, q26, q27, q28, q29, q30, q31, q32, q33, q34, q35⟩ := hF3.out.cells; refine Hid.out ?_)
          refine hide_it ?_
          go_wp2_with (go_at_call 14; refine (kS _).mono ?_; rintro e v4 ⟨rfl, hb4⟩; have hF4 := hide_it (hF3.out.below hb4); clear q0 q1 q2 q3 q4 q5 q6 q7 q8 q9 q10 q11 q12 q13 q14 q15 q16 q17 q18 q19 q20 q21 q22 q23 q24 q25 q26 q27 q28 q29 q30 q31 q32 q33 q34 q35; obtain ⟨q0, q1, q2, q3, q4, q5, q6, q7, q8, q9, q10, q11, q12, q13, q14, q15, q16, q17, q18, q19, q20, q21, q22, q23, q24, q25, q26, q27, q28, q29, q30, q31, q32, q33, q34, q35⟩ := hF4.out.cells; refine Hid.out ?_)
          refine hide_it ?_
          go_wp2_with (go_at_call 14; refine (kT _).mono ?_; rintro e v5 ⟨rfl, hb5⟩; have hF5 := hide_it (hF4.out.below hb5); clear q0 q1 q2 q3 q4 q5 q6 q7 q8 q9 q10 q11 q12 q13 q14 q15 q16 q17 q18 q19 q20 q21 q22 q23 q24 q25 q26 q27 q28 q29 q30 q31 q32 q33 q34 q35; obtain ⟨q0, q1, q2, q3, q4, q5, q6, q7, q8, q9, q10, q11, q12, q13, q14, q15, q16, q17, q18, q19, q20, q21, q22, q23, q24, q25, q26, q27, q28, q29, q30, q31, q32, q33, q34, q35⟩ := hF5.out.cells; refine Hid.out ?_)
          refine hide_it ?_
          go_wp2_with (go_at_call 14; refine (kU _).mono ?_; rintro e v6 ⟨rfl, hb6⟩; have hF6 := hide_it (hF5.out.below hb6); clear q0 q1 q2 q3 q4 q5 q6 q7 q8 q9 q10 q11 q12 q13 q14 q15 q16 q17 q18 q19 q20 q21 q22 q23 q24 q25 q26 q27 q28 q29 q30 q31 q32 q33 q34 q35; obtain ⟨q0, q1, q2, q3, q4, q5, q6, q7, q8, q9, q10, q11, q12, q13, q14, q15, q16, q17, q18, q19, q20, q21, q22, q23, q24, q25, q26, q27, q28, q29, q30, q31, q32, q33, q34, q35⟩ := hF6.out.cells; refine Hid.out ?_)
          refine hide_it ?_
          go_wp2
          go_ret
          exact ⟨rfl, hF6.out.bt.bel⟩
        · have hT1 : (ET == 0) = false := by simp [hT]
          have hT2 : (ET != 0) = true := by simp [hT]
          go_wp2_with (go_at_call 12; refine (kA _).mono ?_; rintro e v1 ⟨rfl, hb1⟩; have hF1 := hide_it (hF0.out.below hb1); clear q0 q1 q2 q3 q4 q5 q6 q7 q8 q9 q10 q11 q12 q13 q14 q15 q16 q17 q18 q19 q20 q21 q22 q23 q24 q25 q26 q27 q28 q29 q30 q31 q32 q33 q34 q35; obtain ⟨q0, q1, q2, q3, q4, q5, q6, q7, q8, q9, q10, q11, q12, q13, q14, q15, q16, q17, q18, q19, q20, q21, q22, q23, q24, q25, q26, q27, q28, q29, q30, q31, q32, q33, q34, q35⟩ := hF1.out.cells; refine Hid.out ?_)
          refine hide_it ?_
          go_wp2_with (go_at_call 12; refine (kB _).mono ?_; rintro e v2 ⟨rfl, hb2⟩; have hF2 := hide_it (hF1.out.below hb2); clear q0 q1 q2 q3 q4 q5 q6 q7 q8 q9 q10 q11 q12 q13 q14 q15 q16 q17 q18 q19 q20 q21 q22 q23 q24 q25 q26 q27 q28 q29 q30 q31 q32 q33 q34 q35; obtain ⟨q0, q1, q2, q3, q4, q5, q6, q7, q8, q9, q10, q11, q12, q13, q14, q15, q16, q17, q18, q19, q20, q21, q22, q23, q24, q25, q26, q27, q28, q29, q30, q31, q32, q33, q34, q35⟩ := hF2.out.cells; refine Hid.out ?_)
          refine hide_it ?_
          go_wp2_with (go_at_call 12; refine (kC _).mono ?_; rintro e v3 ⟨rfl, hb3⟩; have hF3 := hide_it (hF2.out.below hb3); clear q0 q1 q2 q3 q4 q5 q6 q7 q8 q9 q10 q11 q12 q13 q14 q15 q16 q17 q18 q19 q20 q21 q22 q23 q24 q25 q26 q27 q28 q29 q30 q31 q32 q33 q34 q35; obtain ⟨q0, q1, q2, q3, q4, q5, q6, q7, q8, q9, q10, q11, q12, q13, q14, q15, q16, q17, q18, q19, q20, q21, q22, q23, q24, q25, q26, q27, q28, q29, q30, q31, q32, q33, q34, q35⟩ := hF3.out.cells; refine Hid.out ?_)
          refine hide_it ?_
          go_wp2_with (go_at_call 14; refine (kS _).mono ?_; rintro e v4 ⟨rfl, hb4⟩; have hF4 := hide_it (hF3.out.below hb4); clear q0 q1 q2 q3 q4 q5 q6 q7 q8 q9 q10 q11 q12 q13 q14 q15 q16 q17 q18 q19 q20 q21 q22 q23 q24 q25 q26 q27 q28 q29 q30 q31 q32 q33 q34 q35; obtain ⟨q0, q1, q2, q3, q4, q5, q6, q7, q8, q9, q10, q11, q12, q13, q14, q15, q16, q17, q18, q19, q20, q21, q22, q23, q24, q25, q26, q27, q28, q29, q30, q31, q32, q33, q34, q35⟩ := hF4.out.cells; refine Hid.out ?_)
          refine hide_it ?_
          go_wp2_with (go_at_call 14; refine (kT _).mono ?_; rintro e v5 ⟨rfl, hb5⟩; have hF5 := hide_it (hF4.out.below hb5); clear q0 q1 q2 q3 q4 q5 q6 q7 q8 q9 q10 q11 q12 q13 q14 q15 q16 q17 q18 q19 q20 q21 q22 q23 q24 q25 q26 q27 q28 q29 q30 q31 q32 q33 q34 q35; obtain ⟨q0, q1, q2, q3, q4, q5, q6, q7, q8, q9, q10, q11, q12, q13, q14, q15, q16, q17, q18, q19, q20, q21, q22, q23, q24, q25, q26, q27, q28, q29, q30, q31, q32, q33, q34, q35⟩ := hF5.out.cells; refine Hid.out ?_)
          refine hide_it ?_
          go_wp2
          go_ret
          exact ⟨rfl, hF5.out.bt.bel⟩
      · have hS1 : (ES == 0) = false := by simp [hS]
        have hS2 : (ES != 0) = true := by simp [hS]
        go_wp2_with (go_at_call 12; refine (kA _).mono ?_; rintro e v1 ⟨rfl, hb1⟩; have hF1 := hide_it (hF0.out.below hb1); clear q0 q1 q2 q3 q4 q5 q6 q7 q8 q9 q10 q11 q12 q13 q14 q15 q16 q17 q18 q19 q20 q21 q22 q23 q24 q25 q26 q27 q28 q29 q30 q31 q32 q33 q34 q35; obtain ⟨q0, q1, q2, q3, q4, q5, q6, q7, q8, q9, q10, q11, q12, q13, q14, q15, q16, q17, q18, q19, q20, q21, q22, q23, q24, q25, q26, q27, q28, q29, q30, q31, q32, q33, q34, q35⟩ := hF1.out.cells; refine Hid.out ?_)
        refine hide_it ?_
        go_wp2_with (go_at_call 12; refine (kB _).mono ?_; rintro e v2 ⟨rfl, hb2⟩; have hF2 := hide_it (hF1.out.below hb2); clear q0 q1 q2 q3 q4 q5 q6 q7 q8 q9 q10 q11 q12 q13 q14 q15 q16 q17 q18 q19 q20 q21 q22 q23 q24 q25 q26 q27 q28 q29 q30 q31 q32 q33 q34 q35; obtain ⟨q0, q1, q2, q3, q4, q5, q6, q7, q8, q9, q10, q11, q12, q13, q14, q15, q16, q17, q18, q19, q20, q21, q22, q23, q24, q25, q26, q27, q28, q29, q30, q31, q32, q33, q34, q35⟩ := hF2.out.cells; refine Hid.out ?_)
        refine hide_it ?_
        go_wp2_with (go_at_call 12; refine (kC _).mono ?_; rintro e v3 ⟨rfl, hb3⟩; have hF3 := hide_it (hF2.out.below hb3); clear q0 q1 q2 q3 q4 q5 q6 q7 q8 q9 q10 q11 q12 q13 q14 q15 q16 q17 q18 q19 q20 q21 q22 q23 q24 q25 q26 q27 q28 q29 q30 q31 q32 q33 q34 q35; obtain ⟨q0, q1, q2, q3, q4, q5, q6, q7, q8, q9, q10, q11, q12, q13, q14, q15, q16, q17, q18, q19, q20, q21, q22, q23, q24, q25, q26, q27, q28, q29, q30, q31, q32, q33, q34, q35⟩ := hF3.out.cells; refine Hid.out ?_)
        refine hide_it ?_
        go_wp2_with (go_at_call 14; refine (kS _).mono ?_; rintro e v4 ⟨rfl, hb4⟩; have hF4 := hide_it (hF3.out.below hb4); clear q0 q1 q2 q3 q4 q5 q6 q7 q8 q9 q10 q11 q12 q13 q14 q15 q16 q17 q18 q19 q20 q21 q22 q23 q24 q25 q26 q27 q28 q29 q30 q31 q32 q33 q34 q35; obtain ⟨q0, q1, q2, q3, q4, q5, q6, q7, q8, q9, q10, q11, q12, q13, q14, q15, q16, q17, q18, q19, q20, q21, q22, q23, q24, q25, q26, q27, q28, q29, q30, q31, q32, q33, q34, q35⟩ := hF4.out.cells; refine Hid.out ?_)
        refine hide_it ?_
        go_wp2
        go_ret
        exact ⟨rfl, hF4.out.bt.bel⟩
    · have hB1 : (EB == 0) = false := by simp [hB]
      by_cases hS : ES = 0
      · subst hS
        by_cases hT : ET = 0
        · subst hT
          have hEU := hU rfl rfl
          subst hEU
          go_wp2_with (go_at_call 12; refine (kA _).mono ?_; rintro e v1 ⟨rfl, hb1⟩; have hF1 := hide_it (hF0.out.below hb1); clear q0 q1 q2 q3 q4 q5 q6 q7 q8 q9 q10 q11 q12 q13 q14 q15 q16 q17 q18 q19 q20 q21 q22 q23 q24 q25 q26 q27 q28 q29 q30 q31 q32 q33 q34 q35; obtain ⟨q0, q1, q2, q3, q4, q5, q6, q7, q8, q9, q10, q11, q12, q13, q14, q15, q16, q17, q18, q19, q20, q21, q22, q23, q24, q25, q26, q27, q28, q29, q30, q31, q32, q33, q34, q35⟩ := hF1.out.cells; refine Hid.out ?_)
          refine hide_it ?_
          go_wp2_with (go_at_call 12; refine (kB _).mono ?_; rintro e v2 ⟨rfl, hb2⟩; have hF2 := hide_it (hF1.out.below hb2); clear q0 q1 q2 q3 q4 q5 q6 q7 q8 q9 q10 q11 q12 q13 q14 q15 q16 q17 q18 q19 q20 q21 q22 q23 q24 q25 q26 q27 q28 q29 q30 q31 q32 q33 q34 q35; obtain ⟨q0, q1, q2, q3, q4, q5, q6, q7, q8, q9, q10, q11, q12, q13, q14, q15, q16, q17, q18, q19, q20, q21, q22, q23, q24, q25, q26, q27, q28, q29, q30, q31, q32, q33, q34, q35⟩ := hF2.out.cells; refine Hid.out ?_)
          refine hide_it ?_
          go_wp2_with (go_at_call 14; refine (kS _).mono ?_; rintro e v3 ⟨rfl, hb3⟩; have hF3 := hide_it (hF2.out.below hb3); clear q0 q1 q2 q3 q4 q5 q6 q7 q8 q9 q10 q11 q12 q13 q14 q15 q16 q17 q18 q19 q20 q21 q22 q23 q24 q25 q26 q27 q28 q29 q30 q31 q32 q33 q34 q35; obtain ⟨q0, q1, q2, q3, q4, q5, q6, q7, q8, q9, q10, q11, q12, q13, q14, q15, q16, q17, q18, q19, q20, q21, q22, q23, q24, q25, q26, q27, q28, q29, q30, q31, q32, q33, q34, q35⟩ := hF3.out.cells; refine Hid.out ?_)
          refine hide_it ?_
          go_wp2_with (go_at_call 14; refine (kT _).mono ?_; rintro e v4 ⟨rfl, hb4⟩; have hF4 := hide_it (hF3.out.below hb4); clear q0 q1 q2 q3 q4 q5 q6 q7 q8 q9 q10 q11 q12 q13 q14 q15 q16 q17 q18 q19 q20 q21 q22 q23 q24 q25 q26 q27 q28 q29 q30 q31 q32 q33 q34 q35; obtain ⟨q0, q1, q2, q3, q4, q5, q6, q7, q8, q9, q10, q11, q12, q13, q14, q15, q16, q17, q18, q19, q20, q21, q22, q23, q24, q25, q26, q27, q28, q29, q30, q31, q32, q33, q34, q35⟩ := hF4.out.cells; refine Hid.out ?_)
          refine hide_it ?_
          go_wp2_with (go_at_call 14; refine (kU _).mono ?_; rintro e v5 ⟨rfl, hb5⟩; have hF5 := hide_it (hF4.out.below hb5); clear q0 q1 q2 q3 q4 q5 q6 q7 q8 q9 q10 q11 q12 q13 q14 q15 q16 q17 q18 q19 q20 q21 q22 q23 q24 q25 q26 q27 q28 q29 q30 q31 q32 q33 q34 q35; obtain ⟨q0, q1, q2, q3, q4, q5, q6, q7, q8, q9, q10, q11, q12, q13, q14, q15, q16, q17, q18, q19, q20, q21, q22, q23, q24, q25, q26, q27, q28, q29, q30, q31, q32, q33, q34, q35⟩ := hF5.out.cells; refine Hid.out ?_)
          refine hide_it ?_
          go_wp2
          go_ret
          exact ⟨rfl, hF5.out.bt.bel⟩
        · have hT1 : (ET == 0) = false := by simp [hT]
          have hT2 : (ET != 0) = true := by simp [hT]
          go_wp2_with (go_at_call 12; refine (kA _).mono ?_; rintro e v1 ⟨rfl, hb1⟩; have hF1 := hide_it (hF0.out.below hb1); clear q0 q1 q2 q3 q4 q5 q6 q7 q8 q9 q10 q11 q12 q13 q14 q15 q16 q17 q18 q19 q20 q21 q22 q23 q24 q25 q26 q27 q28 q29 q30 q31 q32 q33 q34 q35; obtain ⟨q0, q1, q2, q3, q4, q5, q6, q7, q8, q9, q10, q11, q12, q13, q14, q15, q16, q17, q18, q19, q20, q21, q22, q23, q24, q25, q26, q27, q28, q29, q30, q31, q32, q33, q34, q35⟩ := hF1.out.cells; refine Hid.out ?_)
          refine hide_it ?_
          go_wp2_with (go_at_call 12; refine (kB _).mono ?_; rintro e v2 ⟨rfl, hb2⟩; have hF2 := hide_it (hF1.out.below hb2); clear q0 q1 q2 q3 q4 q5 q6 q7 q8 q9 q10 q11 q12 q13 q14 q15 q16 q17 q18 q19 q20 q21 q22 q23 q24 q25 q26 q27 q28 q29 q30 q31 q32 q33 q34 q35; obtain ⟨q0, q1, q2, q3, q4, q5, q6, q7, q8, q9, q10, q11, q12, q13, q14, q15, q16, q17, q18, q19, q20, q21, q22, q23, q24, q25, q26, q27, q28, q29, q30, q31, q32, q33, q34, q35⟩ := hF2.out.cells; refine Hid.out ?_)
          refine hide_it ?_
          go_wp2_with (go_at_call 14; refine (kS _).mono ?_; rintro e v3 ⟨rfl, hb3⟩; have hF3 := hide_it (hF2.out.below hb3); clear q0 q1 q2 q3 q4 q5 q6 q7 q8 q9 q10 q11 q12 q13 q14 q15 q16 q17 q18 q19 q20 q21 q22 q23 q24 q25 q26 q27 q28 q29 q30 q31 q32 q33 q34 q35; obtain ⟨q0, q1, q2, q3, q4, q5, q6, q7, q8, q9, q10, q11, q12, q13, q14, q15, q16, q17, q18, q19, q20, q21, q22, q23, q24, q25, q26, q27, q28, q29, q30, q31, q32, q33, q34, q35⟩ := hF3.out.cells; refine Hid.out ?_)
          refine hide_it ?_
          go_wp2_with (go_at_call 14; refine (kT _).mono ?_; rintro e v4 ⟨rfl, hb4⟩; have hF4 := hide_it (hF3.out.below hb4); clear q0 q1 q2 q3 q4 q5 q6 q7 q8 q9 q10 q11 q12 q13 q14 q15 q16 q17 q18 q19 q20 q21 q22 q23 q24 q25 q26 q27 q28 q29 q30 q31 q32 q33 q34 q35; obtain ⟨q0, q1, q2, q3, q4, q5, q6, q7, q8, q9, q10, q11, q12, q13, q14, q15, q16, q17, q18, q19, q20, q21, q22, q23, q24, q25, q26, q27, q28, q29, q30, q31, q32, q33, q34, q35⟩ := hF4.out.cells; refine Hid.out ?_)
          refine hide_it ?_
          go_wp2
          go_ret
          exact ⟨rfl, hF4.out.bt.bel⟩
      · have hS1 : (ES == 0) = false := by simp [hS]
        have hS2 : (ES != 0) = true := by simp [hS]
        go_wp2_with (go_at_call 12; refine (kA _).mono ?_; rintro e v1 ⟨rfl, hb1⟩; have hF1 := hide_it (hF0.out.below hb1); clear q0 q1 q2 q3 q4 q5 q6 q7 q8 q9 q10 q11 q12 q13 q14 q15 q16 q17 q18 q19 q20 q21 q22 q23 q24 q25 q26 q27 q28 q29 q30 q31 q32 q33 q34 q35; obtain ⟨q0, q1, q2, q3, q4, q5, q6, q7, q8, q9, q10, q11, q12, q13, q14, q15, q16, q17, q18, q19, q20, q21, q22, q23, q24, q25, q26, q27, q28, q29, q30, q31, q32, q33, q34, q35⟩ := hF1.out.cells; refine Hid.out ?_)
        refine hide_it ?_
        go_wp2_with (go_at_call 12; refine (kB _).mono ?_; rintro e v2 ⟨rfl, hb2⟩; have hF2 := hide_it (hF1.out.below hb2); clear q0 q1 q2 q3 q4 q5 q6 q7 q8 q9 q10 q11 q12 q13 q14 q15 q16 q17 q18 q19 q20 q21 q22 q23 q24 q25 q26 q27 q28 q29 q30 q31 q32 q33 q34 q35; obtain ⟨q0, q1, q2, q3, q4, q5, q6, q7, q8, q9, q10, q11, q12, q13, q14, q15, q16, q17, q18, q19, q20, q21, q22, q23, q24, q25, q26, q27, q28, q29, q30, q31, q32, q33, q34, q35⟩ := hF2.out.cells; refine Hid.out ?_)
        refine hide_it ?_
        go_wp2_with (go_at_call 14; refine (kS _).mono ?_; rintro e v3 ⟨rfl, hb3⟩; have hF3 := hide_it (hF2.out.below hb3); clear q0 q1 q2 q3 q4 q5 q6 q7 q8 q9 q10 q11 q12 q13 q14 q15 q16 q17 q18 q19 q20 q21 q22 q23 q24 q25 q26 q27 q28 q29 q30 q31 q32 q33 q34 q35; obtain ⟨q0, q1, q2, q3, q4, q5, q6, q7, q8, q9, q10, q11, q12, q13, q14, q15, q16, q17, q18, q19, q20, q21, q22, q23, q24, q25, q26, q27, q28, q29, q30, q31, q32, q33, q34, q35⟩ := hF3.out.cells; refine Hid.out ?_)
        refine hide_it ?_
        go_wp2
        go_ret
        exact ⟨rfl, hF3.out.bt.bel⟩
  · have hA1 : (EA == 0) = false := by simp [hA]
    by_cases hS : ES = 0
    · subst hS
      by_cases hT : ET = 0
      · subst hT
        have hEU := hU rfl rfl
        subst hEU
        go_wp2_with (go_at_call 12; refine (kA _).mono ?_; rintro e v1 ⟨rfl, hb1⟩; have hF1 := hide_it (hF0.out.below hb1); clear q0 q1 q2 q3 q4 q5 q6 q7 q8 q9 q10 q11 q12 q13 q14 q15 q16 q17 q18 q19 q20 q21 q22 q23 q24 q25 q26 q27 q28 q29 q30 q31 q32 q33 q34 q35; obtain ⟨q0, q1, q2, q3, q4, q5, q6, q7, q8, q9, q10, q11, q12, q13, q14, q15, q16, q17, q18, q19, q20, q21, q22, q23, q24, q25, q26, q27, q28, q29, q30, q31, q32, q33, q34, q35⟩ := hF1.out.cells; refine Hid.out ?_)
        refine hide_it ?_
        go_wp2_with (go_at_call 14; refine (kS _).mono ?_; rintro e v2 ⟨rfl, hb2⟩; have hF2 := hide_it (hF1.out.below hb2); clear q0 q1 q2 q3 q4 q5 q6 q7 q8 q9 q10 q11 q12 q13 q14 q15 q16 q17 q18 q19 q20 q21 q22 q23 q24 q25 q26 q27 q28 q29 q30 q31 q32 q33 q34 q35; obtain ⟨q0, q1, q2, q3, q4, q5, q6, q7, q8, q9, q10, q11, q12, q13, q14, q15, q16, q17, q18, q19, q20, q21, q22, q23, q24, q25, q26, q27, q28, q29, q30, q31, q32, q33, q34, q35⟩ := hF2.out.cells; refine Hid.out ?_)
        refine hide_it ?_
        go_wp2_with (go_at_call 14; refine (kT _).mono ?_; rintro e v3 ⟨rfl, hb3⟩; have hF3 := hide_it (hF2.out.below hb3); clear q0 q1 q2 q3 q4 q5 q6 q7 q8 q9 q10 q11 q12 q13 q14 q15 q16 q17 q18 q19 q20 q21 q22 q23 q24 q25 q26 q27 q28 q29 q30 q31 q32 q33 q34 q35; obtain ⟨q0, q1, q2, q3, q4, q5, q6, q7, q8, q9, q10, q11, q12, q13, q14, q15, q16, q17, q18, q19, q20, q21, q22, q23, q24, q25, q26, q27, q28, q29, q30, q31, q32, q33, q34, q35⟩ := hF3.out.cells; refine Hid.out ?_)
        refine hide_it ?_
        go_wp2_with (go_at_call 14; refine (kU _).mono ?_; rintro e v4 ⟨rfl, hb4⟩; have hF4 := hide_it (hF3.out.below hb4); clear q0 q1 q2 q3 q4 q5 q6 q7 q8 q9 q10 q11 q12 q13 q14 q15 q16 q17 q18 q19 q20 q21 q22 q23 q24 q25 q26 q27 q28 q29 q30 q31 q32 q33 q34 q35; obtain ⟨q0, q1, q2, q3, q4, q5, q6, q7, q8, q9, q10, q11, q12, q13, q14, q15, q16, q17, q18, q19, q20, q21, q22, q23, q24, q25, q26, q27, q28, q29, q30, q31, q32, q33, q34, q35⟩ := hF4.out.cells; refine Hid.out ?_)
        refine hide_it ?_
        go_wp2
        go_ret
        exact ⟨rfl, hF4.out.bt.bel⟩
      · have hT1 : (ET == 0) = false := by simp [hT]
        have hT2 : (ET != 0) = true := by simp [hT]
        go_wp2_with (go_at_call 12; refine (kA _).mono ?_; rintro e v1 ⟨rfl, hb1⟩; have hF1 := hide_it (hF0.out.below hb1); clear q0 q1 q2 q3 q4 q5 q6 q7 q8 q9 q10 q11 q12 q13 q14 q15 q16 q17 q18 q19 q20 q21 q22 q23 q24 q25 q26 q27 q28 q29 q30 q31 q32 q33 q34 q35; obtain ⟨q0, q1, q2, q3, q4, q5, q6, q7, q8, q9, q10, q11, q12, q13, q14, q15, q16, q17, q18, q19, q20, q21, q22, q23, q24, q25, q26, q27, q28, q29, q30, q31, q32, q33, q34, q35⟩ := hF1.out.cells; refine Hid.out ?_)
        refine hide_it ?_
        go_wp2_with (go_at_call 14; refine (kS _).mono ?_; rintro e v2 ⟨rfl, hb2⟩; have hF2 := hide_it (hF1.out.below hb2); clear q0 q1 q2 q3 q4 q5 q6 q7 q8 q9 q10 q11 q12 q13 q14 q15 q16 q17 q18 q19 q20 q21 q22 q23 q24 q25 q26 q27 q28 q29 q30 q31 q32 q33 q34 q35; obtain ⟨q0, q1, q2, q3, q4, q5, q6, q7, q8, q9, q10, q11, q12, q13, q14, q15, q16, q17, q18, q19, q20, q21, q22, q23, q24, q25, q26, q27, q28, q29, q30, q31, q32, q33, q34, q35⟩ := hF2.out.cells; refine Hid.out ?_)
        refine hide_it ?_
        go_wp2_with (go_at_call 14; refine (kT _).mono ?_; rintro e v3 ⟨rfl, hb3⟩; have hF3 := hide_it (hF2.out.below hb3); clear q0 q1 q2 q3 q4 q5 q6 q7 q8 q9 q10 q11 q12 q13 q14 q15 q16 q17 q18 q19 q20 q21 q22 q23 q24 q25 q26 q27 q28 q29 q30 q31 q32 q33 q34 q35; obtain ⟨q0, q1, q2, q3, q4, q5, q6, q7, q8, q9, q10, q11, q12, q13, q14, q15, q16, q17, q18, q19, q20, q21, q22, q23, q24, q25, q26, q27, q28, q29, q30, q31, q32, q33, q34, q35⟩ := hF3.out.cells; refine Hid.out ?_)
        refine hide_it ?_
        go_wp2
        go_ret
        exact ⟨rfl, hF3.out.bt.bel⟩
    · have hS1 : (ES == 0) = false := by simp [hS]
      have hS2 : (ES != 0) = true := by simp [hS]
      go_wp2_with (go_at_call 12; refine (kA _).mono ?_; rintro e v1 ⟨rfl, hb1⟩; have hF1 := hide_it (hF0.out.below hb1); clear q0 q1 q2 q3 q4 q5 q6 q7 q8 q9 q10 q11 q12 q13 q14 q15 q16 q17 q18 q19 q20 q21 q22 q23 q24 q25 q26 q27 q28 q29 q30 q31 q32 q33 q34 q35; obtain ⟨q0, q1, q2, q3, q4, q5, q6, q7, q8, q9, q10, q11, q12, q13, q14, q15, q16, q17, q18, q19, q20, q21, q22, q23, q24, q25, q26, q27, q28, q29, q30, q31, q32, q33, q34, q35⟩ := hF1.out.cells; refine Hid.out ?_)
      refine hide_it ?_
      go_wp2_with (go_at_call 14; refine (kS _).mono ?_; rintro e v2 ⟨rfl, hb2⟩; have hF2 := hide_it (hF1.out.below hb2); clear q0 q1 q2 q3 q4 q5 q6 q7 q8 q9 q10 q11 q12 q13 q14 q15 q16 q17 q18 q19 q20 q21 q22 q23 q24 q25 q26 q27 q28 q29 q30 q31 q32 q33 q34 q35; obtain ⟨q0, q1, q2, q3, q4, q5, q6, q7, q8, q9, q10, q11, q12, q13, q14, q15, q16, q17, q18, q19, q20, q21, q22, q23, q24, q25, q26, q27, q28, q29, q30, q31, q32, q33, q34, q35⟩ := hF2.out.cells; refine Hid.out ?_)
      refine hide_it ?_
      go_wp2
      go_ret
      exact ⟨rfl, hF2.out.bt.bel⟩

theorem err_zero {b : Bool} (h : errN b = 0) : b = true := by
  cases b
  · cases h
  · rfl
theorem checkBetween_walk (a b : Cf) (s0 s1 t0 t1 by0 : Int) (w : World) (ha : I64 a.x0 ∧ I64 a.x1 ∧ I64 a.x2 ∧ I64 a.x3 ∧ I64 a.x4 ∧ I64 a.x5 ∧ I64 a.x6 ∧ I64 a.x7 ∧ I64 a.x8 ∧ I64 a.x9) (hb : I64 b.x0 ∧ I64 b.x1 ∧ I64 b.x2 ∧ I64 b.x3 ∧ I64 b.x4 ∧ I64 b.x5 ∧ I64 b.x6 ∧ I64 b.x7 ∧ I64 b.x8 ∧ I64 b.x9)
    (hs0 : I64 s0) (hs1 : I64 s1) (ht0 : I64 t0) (ht1 : I64 t1) (hy : 0 ≤ by0 ∧ by0 ≤ 255) :
    Calls Try.prog 7 #[cfV a, cfV b, .agg #[.int .i64 s0, .int .i64 s1], .agg #[.int .i64 t0, .int .i64 t1], .int .u8 by0] w fun e w' => e = .returned (.bool true) ∧ Below w.heap.size w w' := by
  obtain ⟨x0, x1, x2, x3, x4, x5, x6, x7, x8, x9⟩ := a
  obtain ⟨y0, y1, y2, y3, y4, y5, y6, y7, y8, y9⟩ := b
  obtain ⟨a0, a1, a2, a3, a4, a5, a6, a7, a8, a9⟩ := ha
  obtain ⟨b0, b1, b2, b3, b4, b5, b6, b7, b8, b9⟩ := hb
  exact bet_walk x0 x1 x2 x3 x4 x5 x6 x7 x8 x9 y0 y1 y2 y3 y4 y5 y6 y7 y8 y9 s0 s1 t0 t1 by0 (midN x0 y0 by0) (midN x1 y1 by0) (midN x2 y2 by0) (midN x3 y3 by0) (midN x4 y4 by0) (midN x5 y5 by0) (midN x6 y6 by0) (midN x7 y7 by0) (midN x8 y8 by0) (midN x9 y9 by0) (midN s0 t0 by0) (midN s1 t1 by0) (errN (cfgB ⟨x0, x1, x2, x3, x4, x5, x6, x7, x8, x9⟩)) (errN (cfgB ⟨y0, y1, y2, y3, y4, y5, y6, y7, y8, y9⟩)) (errN (cfgB ⟨(midN x0 y0 by0), (midN x1 y1 by0), (midN x2 y2 by0), (midN x3 y3 by0), (midN x4 y4 by0), (midN x5 y5 by0), (midN x6 y6 by0), (midN x7 y7 by0), (midN x8 y8 by0), (midN x9 y9 by0)⟩)) (errN (taskB (s0, s1))) (errN (taskB (t0, t1))) (errN (taskB (midN s0 t0 by0, midN s1 t1 by0))) w
    (fun V => mid_any x0 y0 by0 V a0 b0 hy) (fun V => mid_any x1 y1 by0 V a1 b1 hy) (fun V => mid_any x2 y2 by0 V a2 b2 hy) (fun V => mid_any x3 y3 by0 V a3 b3 hy) (fun V => mid_any x4 y4 by0 V a4 b4 hy) (fun V => mid_any x5 y5 by0 V a5 b5 hy) (fun V => mid_any x6 y6 by0 V a6 b6 hy) (fun V => mid_any x7 y7 by0 V a7 b7 hy) (fun V => mid_any x8 y8 by0 V a8 b8 hy) (fun V => mid_any x9 y9 by0 V a9 b9 hy) (fun V => mid_any s0 t0 by0 V hs0 ht0 hy) (fun V => mid_any s1 t1 by0 V hs1 ht1 hy)
    (fun h1 h2 => by rw [bet_cfg hy (err_zero h1) (err_zero h2)]; rfl) (fun h1 h2 => by rw [bet_task hy (err_zero h1) (err_zero h2)]; rfl)
    (fun V => config_any ⟨x0, x1, x2, x3, x4, x5, x6, x7, x8, x9⟩ V) (fun V => config_any ⟨y0, y1, y2, y3, y4, y5, y6, y7, y8, y9⟩ V) (fun V => config_any ⟨(midN x0 y0 by0), (midN x1 y1 by0), (midN x2 y2 by0), (midN x3 y3 by0), (midN x4 y4 by0), (midN x5 y5 by0), (midN x6 y6 by0), (midN x7 y7 by0), (midN x8 y8 by0), (midN x9 y9 by0)⟩ V) (fun V => task_any (s0, s1) V) (fun V => task_any (t0, t1) V) (fun V => task_any (midN s0 t0 by0, midN s1 t1 by0) V)
end Go.Proofs.Ytfllhgbpjpmakaa
