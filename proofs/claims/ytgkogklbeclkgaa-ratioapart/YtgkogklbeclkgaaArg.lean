/- What the arguments of the statements are to the walks: pairs in their cells. -/
import Derived.Test.YtgkogklbeclkgaaRows
import Derived.Test.YtgkogklbeclkgaaBox
import Derived.ProofKit
import Derived.OpenShut
import Derived.ChangeOld
namespace Go.Proofs.Ytgkogklbeclkgaa
open Go.ChangeShapes Go.WideShapes Go.ChangeAt Go.WideMaps Go.WideElems Go.RowKit
open M
set_option linter.unusedVariables false
set_option linter.unusedSimpArgs false

theorem ownK : ownKnob Try.prog.godebug = none := by kernel_rfl
theorem laidOut : laidOutB Try.prog = true := by kernel_rfl
theorem bounds_i64 {n : Int} (h : (Lit.int .i64 n).wf = true) : -9223372036854775808 ≤ n ∧ n ≤ 9223372036854775807 := by
  simp only [Lit.wf, Bool.and_eq_true, decide_eq_true_eq] at h
  exact h
theorem bounds_u8 {n : Int} (h : (Lit.int .u8 n).wf = true) : 0 ≤ n ∧ n ≤ 255 := by
  simp only [Lit.wf, Bool.and_eq_true, decide_eq_true_eq] at h
  exact h
theorem bounds_u16 {n : Int} (h : (Lit.int .u16 n).wf = true) : 0 ≤ n ∧ n ≤ 65535 := by
  simp only [Lit.wf, Bool.and_eq_true, decide_eq_true_eq] at h
  exact h
def i64B (n : Int) : Prop := -9223372036854775808 ≤ n ∧ n ≤ 9223372036854775807
theorem list_of {α : Type} (P : Nat → α → Prop) : ∀ n : Nat, (∀ i, i < n → ∃ x, P i x) → ∃ l : List α, l.length = n ∧ ∀ i (h : i < l.length), P i l[i]
  | 0, _ => ⟨[], rfl, fun i h => by simp at h⟩
  | n + 1, h => by
    obtain ⟨l, hl, hp⟩ := list_of P n (fun i hi => h i (by omega))
    obtain ⟨x, hx⟩ := h n (by omega)
    refine ⟨l ++ [x], by simp [hl], fun i hi => ?_⟩
    by_cases hlt : i < l.length
    · rw [List.getElem_append_left hlt]; exact hp i hlt
    · have : i = l.length := by simp at hi; omega
      subst this
      rw [List.getElem_append_right (Nat.le_refl _)]
      simp [hl]
      exact hx

section
variable {H : Type} {enc : TypeId × Value → H} {W : World}
theorem spot_none {a : Addr} {v : Value} (h : W.cell? a = some v) : a.spot = none := by simpa using World.cell?_spot h

/-- Pairs that can be read: each in its two cells. -/
def PairsIn (w : World) (a : Option Addr) (l : List (Int × Int)) : Prop :=
  ∀ i (h : i < l.length), ∃ b o, a = some ⟨b, o, none⟩ ∧ b < w.heap.size ∧ w.cell? ⟨b, o + i * 2, none⟩ = some (.int .i64 l[i].1) ∧ w.cell? ⟨b, o + i * 2 + 1, none⟩ = some (.int .i64 l[i].2)

set_option maxRecDepth 100000 in
theorem pair_of {fuel : Nat} {cs : List Value} {x : DataW H × List MemPlace} (h : DataW.trod enc Try.prog W 0 (fun _ => true) true fuel 23 cs = some x) : ∃ a b : Int, cs = [.int .i64 a, .int .i64 b] ∧ i64B a ∧ i64B b := by
  have c23 : Try.prog.cellsOf 23 = 2 := by kernel_rfl
  have c3 : Try.prog.cellsOf 3 = 1 := by kernel_rfl
  obtain ⟨xs, n, _, _, hl, hxs, hf⟩ := DataW.trod_struct Try.underlying23 h
  rw [c23] at hl
  have f0 : DataW.trod enc Try.prog W 0 (fun _ => true) true n 3 ((cs.drop 0).take (Try.prog.cellsOf 3)) = xs[0]? := hf 0 _ rfl
  have f1 : DataW.trod enc Try.prog W 0 (fun _ => true) true n 3 ((cs.drop 1).take (Try.prog.cellsOf 3)) = xs[1]? := hf 1 _ rfl
  rw [c3] at f0 f1
  have l2 : xs.length = 2 := hxs
  rw [List.getElem?_eq_getElem (by omega)] at f0 f1
  obtain ⟨a, e0, _, w0⟩ := DataW.trod_int Try.underlying3 f0
  obtain ⟨b, e1, _, w1⟩ := DataW.trod_int Try.underlying3 f1
  match cs, hl with
  | [c0, c1], _ =>
    simp at e0 e1
    subst e0 e1
    exact ⟨a, b, rfl, bounds_i64 w0, bounds_i64 w1⟩
set_option maxRecDepth 100000 in
theorem arg_pair {b0 : Nat} {v : Value} {d : DataW H} {p : List MemPlace} (hv : Value.okWide Try.prog W .any b0 23 v) (h : DataW.Trod enc Try.prog W 0 (fun _ => true) true 23 v d p) : ∃ a b : Int, v = .agg #[.int .i64 a, .int .i64 b] ∧ i64B a ∧ i64B b := by
  obtain ⟨cs, rfl, hsz⟩ := okWide_struct Try.underlying23 hv
  obtain ⟨fuel, hf⟩ := h
  obtain ⟨a, b, e0, ba, bb⟩ := pair_of hf
  have e : cs = #[.int .i64 a, .int .i64 b] := by
    have : cs.toList = _ := e0
    rw [← Array.toList_inj]; exact this
  subst e
  exact ⟨a, b, rfl, ba, bb⟩
set_option maxRecDepth 100000 in
theorem arg_pairs {fuel : Nat} {c : Value} {x : DataW H × List MemPlace} (h : DataW.trod enc Try.prog W 0 (fun _ => true) true fuel 38 [c] = some x) :
    ∃ (a : Option Addr) (l : List (Int × Int)) (cap : Nat), c = .slice a l.length cap ∧ PairsIn W a l ∧ l.length ≤ cap ∧ cap ≤ maxLen := by
  have c23 : Try.prog.cellsOf 23 = 2 := by kernel_rfl
  rcases DataW.trod_slice Try.underlying38 h with ⟨hc, _⟩ | ⟨a, len, cap, elems, rest, n, _, hc, _, _, hl, hm, he, hr, _, _⟩
  · simp at hc
    subst hc
    exact ⟨none, [], 0, rfl, fun i h => by simp at h, Nat.le_refl _, Nat.zero_le _⟩
  · simp at hc
    subst hc
    obtain ⟨b, o, s⟩ := a
    have hsp : 0 < len → s = none := by
      intro h0
      have h1 := hr 0 h0
      rw [c23, List.getElem?_eq_getElem (by omega)] at h1
      obtain ⟨cs, h2, h3⟩ := Option.bind_eq_some_iff.1 h1
      obtain ⟨p, q, rfl, _⟩ := pair_of h3
      obtain ⟨_, _, hcc⟩ := World.cells?_some h2
      have q0 := hcc 0 (by omega)
      have q : W.cell? ⟨b, o, s⟩ = some (.int .i64 p) := by simpa [Addr.add] using q0
      exact spot_none q
    have hP : ∀ i, i < len → ∃ r : Int × Int, s = none ∧ b < W.heap.size ∧ W.cell? ⟨b, o + i * 2, none⟩ = some (.int .i64 r.1) ∧ W.cell? ⟨b, o + i * 2 + 1, none⟩ = some (.int .i64 r.2) := by
      intro i hi
      have hs := hsp (by omega)
      subst hs
      have h1 := hr i hi
      rw [c23, List.getElem?_eq_getElem (by omega), Addr.add_lit] at h1
      obtain ⟨cs, h2, h3⟩ := Option.bind_eq_some_iff.1 h1
      obtain ⟨p, q, rfl, _⟩ := pair_of h3
      obtain ⟨_, _, hcc⟩ := World.cells?_some h2
      have q0 := hcc 0 (by omega)
      have q1 := hcc 1 (by omega)
      rw [Addr.add_lit] at q0 q1
      exact ⟨(p, q), rfl, World.cells?_block h2 (by omega), by simpa using q0, by simpa using q1⟩
    obtain ⟨ts, hts, hp⟩ := list_of _ len hP
    refine ⟨some ⟨b, o, s⟩, ts, cap, by rw [hts], fun i hi => ?_, by omega, hm⟩
    obtain ⟨p0, p1, p2⟩ := hp i hi
    exact ⟨b, o, by rw [p0], p1, p2⟩
end
end Go.Proofs.Ytgkogklbeclkgaa
