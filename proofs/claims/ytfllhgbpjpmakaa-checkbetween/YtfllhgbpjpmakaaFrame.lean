/- What the arguments of the statements are to the walks: configs, tasks in their cells, numbers within their bounds. -/
import Derived.Test.YtfllhgbpjpmakaaRows
import Derived.Test.YtfllhgbpjpmakaaFile
import Derived.WalkKit
import Derived.ProofKit
import Derived.OpenShut
import Derived.ShutString
import Derived.ChangeOld
import Derived.Below
namespace Go.Proofs.Ytfllhgbpjpmakaa
open Go.ChangeShapes Go.WideShapes Go.ChangeAt Go.WideMaps Go.WideElems Go.RowKit
open M
set_option linter.unusedVariables false
set_option linter.unusedSimpArgs false

theorem ownK : ownKnob Try.prog.godebug = none := by kernel_rfl
theorem laidOut : laidOutB Try.prog = true := by kernel_rfl
theorem bounds_i64 {n : Int} (h : (Lit.int .i64 n).wf = true) : -9223372036854775808 ≤ n ∧ n ≤ 9223372036854775807 := by
  simp only [Lit.wf, Bool.and_eq_true, decide_eq_true_eq] at h
  exact h
theorem bounds_u8 {n : Int} (h : (Lit.int .u8 n).wf = true) : 0 ≤ n ∧ n ≤ 255 := by
  simp only [Lit.wf, Bool.and_eq_true, decide_eq_true_eq] at h
  exact h
def i64B (n : Int) : Prop := -9223372036854775808 ≤ n ∧ n ≤ 9223372036854775807
theorem list_of {α : Type} (P : Nat → α → Prop) : ∀ n : Nat, (∀ i, i < n → ∃ x, P i x) → ∃ l : List α, l.length = n ∧ ∀ i (h : i < l.length), P i l[i]
  | 0, _ => ⟨[], rfl, fun i h => by simp at h⟩
  | n + 1, h => by
    obtain ⟨l, hl, hp⟩ := list_of P n (fun i hi => h i (by omega))
    obtain ⟨x, hx⟩ := h n (by omega)
    refine ⟨l ++ [x], by simp [hl], fun i hi => ?_⟩
    by_cases hlt : i < l.length
    · rw [List.getElem_append_left hlt]; exact hp i hlt
    · have : i = l.length := by simp at hi; omega
      subst this
      rw [List.getElem_append_right (Nat.le_refl _)]
      simp [hl]
      exact hx

section
variable {H : Type} {enc : TypeId × Value → H} {W : World}

set_option maxRecDepth 100000 in
theorem task_of {fuel : Nat} {cs : List Value} {x : DataW H × List MemPlace} (h : DataW.trod enc Try.prog W 0 (fun _ => true) true fuel 39 cs = some x) : ∃ a b : Int, cs = [.int .i64 a, .int .i64 b] ∧ i64B a ∧ i64B b := by
  have c39 : Try.prog.cellsOf 39 = 2 := by kernel_rfl
  have c3 : Try.prog.cellsOf 3 = 1 := by kernel_rfl
  obtain ⟨xs, n, _, _, hl, hxs, hf⟩ := DataW.trod_struct Try.underlying39 h
  rw [c39] at hl
  have f0 : DataW.trod enc Try.prog W 0 (fun _ => true) true n 3 ((cs.drop 0).take (Try.prog.cellsOf 3)) = xs[0]? := hf 0 _ rfl
  have f1 : DataW.trod enc Try.prog W 0 (fun _ => true) true n 3 ((cs.drop 1).take (Try.prog.cellsOf 3)) = xs[1]? := hf 1 _ rfl
  rw [c3] at f0 f1
  have l2 : xs.length = 2 := hxs
  rw [List.getElem?_eq_getElem (by omega)] at f0 f1
  obtain ⟨a, e0, _, w0⟩ := DataW.trod_int Try.underlying3 f0
  obtain ⟨b, e1, _, w1⟩ := DataW.trod_int Try.underlying3 f1
  match cs, hl with
  | [c0, c1], _ =>
    simp at e0 e1
    subst e0 e1
    exact ⟨a, b, rfl, bounds_i64 w0, bounds_i64 w1⟩
theorem spot_none {a : Addr} {v : Value} (h : W.cell? a = some v) : a.spot = none := by simpa using World.cell?_spot h

set_option maxRecDepth 100000 in
/-- The tasks of a file that came in. -/
theorem arg_tasks {fuel : Nat} {c : Value} {x : DataW H × List MemPlace} (h : DataW.trod enc Try.prog W 0 (fun _ => true) true fuel 24 [c] = some x) :
    ∃ (a : Option Addr) (ts : List (Int × Int)) (cap : Nat), c = .slice a ts.length cap ∧ TasksIn W a ts ∧ ts.length ≤ cap ∧ cap ≤ maxLen ∧ ∀ t ∈ ts, i64B t.1 ∧ i64B t.2 := by
  have c39 : Try.prog.cellsOf 39 = 2 := by kernel_rfl
  rcases DataW.trod_slice Try.underlying24 h with ⟨hc, _⟩ | ⟨a, len, cap, elems, rest, n, _, hc, _, _, hl, hm, he, hr, _, _⟩
  · simp at hc
    subst hc
    exact ⟨none, [], 0, rfl, fun i h => by simp at h, Nat.le_refl _, Nat.zero_le _, fun t h => by simp at h⟩
  · simp at hc
    subst hc
    obtain ⟨b, o, s⟩ := a
    have hsp : 0 < len → s = none := by
      intro h0
      have h1 := hr 0 h0
      rw [c39, List.getElem?_eq_getElem (by omega)] at h1
      obtain ⟨cs, h2, h3⟩ := Option.bind_eq_some_iff.1 h1
      obtain ⟨x, y, rfl, _, _⟩ := task_of h3
      obtain ⟨_, _, hcc⟩ := World.cells?_some h2
      have q0 := hcc 0 (by omega)
      have q : W.cell? ⟨b, o, s⟩ = some (.int .i64 x) := by simpa [Addr.add] using q0
      exact spot_none q
    have hP : ∀ i, i < len → ∃ t : Int × Int, s = none ∧ b < W.heap.size ∧ W.cell? ⟨b, o + i * 2, none⟩ = some (.int .i64 t.1) ∧ W.cell? ⟨b, o + i * 2 + 1, none⟩ = some (.int .i64 t.2) ∧ i64B t.1 ∧ i64B t.2 := by
      intro i hi
      have hs := hsp (by omega)
      subst hs
      have h1 := hr i hi
      rw [c39, List.getElem?_eq_getElem (by omega), Addr.add_lit] at h1
      obtain ⟨cs, h2, h3⟩ := Option.bind_eq_some_iff.1 h1
      obtain ⟨x, y, rfl, bx, by'⟩ := task_of h3
      obtain ⟨_, _, hcc⟩ := World.cells?_some h2
      have q0 := hcc 0 (by omega)
      have q1 := hcc 1 (by omega)
      rw [Addr.add_lit] at q0 q1
      exact ⟨(x, y), rfl, World.cells?_block h2 (by omega), by simpa using q0, by simpa using q1, bx, by'⟩
    obtain ⟨ts, hts, hp⟩ := list_of _ len hP
    refine ⟨some ⟨b, o, s⟩, ts, cap, by rw [hts], fun i hi => ?_, by omega, hm, fun t ht => ?_⟩
    · obtain ⟨p1, p2, p3, p4, _⟩ := hp i hi
      exact ⟨b, o, by rw [p1], p2, p3, p4⟩
    · obtain ⟨i, hi, rfl⟩ := List.getElem_of_mem ht
      exact ⟨(hp i hi).2.2.2.2.1, (hp i hi).2.2.2.2.2⟩
set_option maxRecDepth 100000 in
theorem cfg_of {fuel : Nat} {cs : List Value} {x : DataW H × List MemPlace} (h : DataW.trod enc Try.prog W 0 (fun _ => true) true fuel 23 cs = some x) : ∃ x0 x1 x2 x3 x4 x5 x6 x7 x8 x9 : Int, cs = [.int .i64 x0, .int .i64 x1, .int .i64 x2, .int .i64 x3, .int .i64 x4, .int .i64 x5, .int .i64 x6, .int .i64 x7, .int .i64 x8, .int .i64 x9] ∧ ∀ n ∈ [x0, x1, x2, x3, x4, x5, x6, x7, x8, x9], i64B n := by
  have c23 : Try.prog.cellsOf 23 = 10 := by kernel_rfl
  have c3 : Try.prog.cellsOf 3 = 1 := by kernel_rfl
  obtain ⟨xs, n, _, _, hl, hxs, hf⟩ := DataW.trod_struct Try.underlying23 h
  rw [c23] at hl
  have l2 : xs.length = 10 := hxs
  have f0 : DataW.trod enc Try.prog W 0 (fun _ => true) true n 3 ((cs.drop 0).take (Try.prog.cellsOf 3)) = xs[0]? := hf 0 _ rfl
  have f1 : DataW.trod enc Try.prog W 0 (fun _ => true) true n 3 ((cs.drop 1).take (Try.prog.cellsOf 3)) = xs[1]? := hf 1 _ rfl
  have f2 : DataW.trod enc Try.prog W 0 (fun _ => true) true n 3 ((cs.drop 2).take (Try.prog.cellsOf 3)) = xs[2]? := hf 2 _ rfl
  have f3 : DataW.trod enc Try.prog W 0 (fun _ => true) true n 3 ((cs.drop 3).take (Try.prog.cellsOf 3)) = xs[3]? := hf 3 _ rfl
  have f4 : DataW.trod enc Try.prog W 0 (fun _ => true) true n 3 ((cs.drop 4).take (Try.prog.cellsOf 3)) = xs[4]? := hf 4 _ rfl
  have f5 : DataW.trod enc Try.prog W 0 (fun _ => true) true n 3 ((cs.drop 5).take (Try.prog.cellsOf 3)) = xs[5]? := hf 5 _ rfl
  have f6 : DataW.trod enc Try.prog W 0 (fun _ => true) true n 3 ((cs.drop 6).take (Try.prog.cellsOf 3)) = xs[6]? := hf 6 _ rfl
  have f7 : DataW.trod enc Try.prog W 0 (fun _ => true) true n 3 ((cs.drop 7).take (Try.prog.cellsOf 3)) = xs[7]? := hf 7 _ rfl
  have f8 : DataW.trod enc Try.prog W 0 (fun _ => true) true n 3 ((cs.drop 8).take (Try.prog.cellsOf 3)) = xs[8]? := hf 8 _ rfl
  have f9 : DataW.trod enc Try.prog W 0 (fun _ => true) true n 3 ((cs.drop 9).take (Try.prog.cellsOf 3)) = xs[9]? := hf 9 _ rfl
  rw [c3] at f0 f1 f2 f3 f4 f5 f6 f7 f8 f9
  rw [List.getElem?_eq_getElem (by omega)] at f0 f1 f2 f3 f4 f5 f6 f7 f8 f9
  obtain ⟨a0, e0, _, w0⟩ := DataW.trod_int Try.underlying3 f0
  obtain ⟨a1, e1, _, w1⟩ := DataW.trod_int Try.underlying3 f1
  obtain ⟨a2, e2, _, w2⟩ := DataW.trod_int Try.underlying3 f2
  obtain ⟨a3, e3, _, w3⟩ := DataW.trod_int Try.underlying3 f3
  obtain ⟨a4, e4, _, w4⟩ := DataW.trod_int Try.underlying3 f4
  obtain ⟨a5, e5, _, w5⟩ := DataW.trod_int Try.underlying3 f5
  obtain ⟨a6, e6, _, w6⟩ := DataW.trod_int Try.underlying3 f6
  obtain ⟨a7, e7, _, w7⟩ := DataW.trod_int Try.underlying3 f7
  obtain ⟨a8, e8, _, w8⟩ := DataW.trod_int Try.underlying3 f8
  obtain ⟨a9, e9, _, w9⟩ := DataW.trod_int Try.underlying3 f9
  match cs, hl with
  | [c0, c1, c2, c3, c4, c5, c6, c7, c8, c9], _ =>
    simp at e0 e1 e2 e3 e4 e5 e6 e7 e8 e9
    subst e0 e1 e2 e3 e4 e5 e6 e7 e8 e9
    refine ⟨a0, a1, a2, a3, a4, a5, a6, a7, a8, a9, rfl, ?_⟩
    intro n hn
    simp at hn
    rcases hn with rfl | rfl | rfl | rfl | rfl | rfl | rfl | rfl | rfl | rfl
    · exact bounds_i64 w0
    · exact bounds_i64 w1
    · exact bounds_i64 w2
    · exact bounds_i64 w3
    · exact bounds_i64 w4
    · exact bounds_i64 w5
    · exact bounds_i64 w6
    · exact bounds_i64 w7
    · exact bounds_i64 w8
    · exact bounds_i64 w9


set_option maxRecDepth 100000 in
theorem arg_cfg {b0 : Nat} {v : Value} {d : DataW H} {p : List MemPlace} (hv : Value.okWide Try.prog W .any b0 23 v) (h : DataW.Trod enc Try.prog W 0 (fun _ => true) true 23 v d p) : ∃ c : Cf, v = cfV c ∧ i64B c.x0 ∧ i64B c.x1 ∧ i64B c.x2 ∧ i64B c.x3 ∧ i64B c.x4 ∧ i64B c.x5 ∧ i64B c.x6 ∧ i64B c.x7 ∧ i64B c.x8 ∧ i64B c.x9 := by
  obtain ⟨cs, rfl, hsz⟩ := okWide_struct Try.underlying23 hv
  obtain ⟨fuel, hf⟩ := h
  obtain ⟨x0, x1, x2, x3, x4, x5, x6, x7, x8, x9, e0, b0⟩ := cfg_of hf
  have e : cs = #[.int .i64 x0, .int .i64 x1, .int .i64 x2, .int .i64 x3, .int .i64 x4, .int .i64 x5, .int .i64 x6, .int .i64 x7, .int .i64 x8, .int .i64 x9] := by
    have : cs.toList = _ := e0
    rw [← Array.toList_inj]; exact this
  subst e
  exact ⟨⟨x0, x1, x2, x3, x4, x5, x6, x7, x8, x9⟩, rfl, b0 _ (by simp), b0 _ (by simp), b0 _ (by simp), b0 _ (by simp), b0 _ (by simp), b0 _ (by simp), b0 _ (by simp), b0 _ (by simp), b0 _ (by simp), b0 _ (by simp)⟩
set_option maxRecDepth 100000 in
theorem arg_task {b0 : Nat} {v : Value} {d : DataW H} {p : List MemPlace} (hv : Value.okWide Try.prog W .any b0 39 v) (h : DataW.Trod enc Try.prog W 0 (fun _ => true) true 39 v d p) : ∃ a b : Int, v = .agg #[.int .i64 a, .int .i64 b] ∧ i64B a ∧ i64B b := by
  obtain ⟨cs, rfl, hsz⟩ := okWide_struct Try.underlying39 hv
  obtain ⟨fuel, hf⟩ := h
  obtain ⟨a, b, e0, ba, bb⟩ := task_of hf
  have e : cs = #[.int .i64 a, .int .i64 b] := by
    have : cs.toList = _ := e0
    rw [← Array.toList_inj]; exact this
  subst e
  exact ⟨a, b, rfl, ba, bb⟩
end
end Go.Proofs.Ytfllhgbpjpmakaa
