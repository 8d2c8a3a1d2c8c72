/- What the rows of this seat share: the listed table as the program's own door lays it meets the rows' condition; the condition gives the table that the program reads; what the arguments are to the walks. -/
import Derived.Test.YtipkgoghodkbfaaDoorRows
import Derived.Test.YtipkgoghodkbfaaDoorZro
import Derived.ProofKit
import Derived.LaidMore
import Derived.OpenShut
import Derived.Stop.Joined
import Derived.Stop.LaidErr
import Derived.Lib.LaidTab
import Derived.ChangeOld
namespace Go.Proofs.YtipkgoghodkbfaaDoor
open Go.ChangeShapes Go.WideShapes Go.ChangeAt Go.WideMaps Go.WideElems Go.RowKit
open M
set_option linter.unusedVariables false
set_option linter.unusedSimpArgs false

theorem own : ownKnob Tryd.prog.godebug = none := by kernel_rfl
theorem laidOut : laidOutB Tryd.prog = true := by kernel_rfl

def laid1 : List (String × DataW Unit) := [("math/bits.deBruijn64tab", Rows.laid_math_bits_deBruijn64tab)]
theorem door_met (os : Os) (args : Array Value) : laidMetH Tryd.prog laid1 ((World.doorLaid Tryd.prog 14 os).forCall (fun _ _ => 0) ⟨#[], args, []⟩).memory :=
  laidMetH_of_parts3 (fuel := 8) (laidMet_of_run' 8 (by kernel_rfl) (by kernel_rfl)) (by kernel_rfl) (by kernel_rfl)
theorem gTab : Tryd.prog.globalNamed "math/bits.deBruijn64tab" = some 0 := by kernel_rfl
theorem tabData : (Rows.laid_math_bits_deBruijn64tab : DataW Unit) = Lib.tabData .u8 (Lib.deBruijn64tab.map fun n : Nat => (n : Int)) := by kernel_rfl

theorem tab_of_laid {W : World} (h : laidMetH Tryd.prog laid1 W) : Tab W ∧ 0 < W.heap.size := by
  rw [MakeChecks.laidMetH_plain _ _ _ (by kernel_rfl)] at h
  unfold laid1 at h
  rw [tabData] at h
  have ht := Lib.tabIs_of_head gTab (t := 84) (e := 5) (n := 64) (by kernel_rfl) (by kernel_rfl) (by kernel_rfl) (by kernel_rfl) (by kernel_rfl) h
  have hT : Tab W := fun j hj => by
    have hj64 : j < 64 := hj
    have := ht.cell gTab j (by simpa using hj)
    rw [this]
    simp [List.getD_eq_getElem?_getD, List.getElem?_eq_getElem hj]
  refine ⟨hT, ?_⟩
  have := World.block_lt_of_cell? W _ (hT 0 (by decide))
  exact this

theorem bounds_i64 {n : Int} (h : (Lit.int .i64 n).wf = true) : -9223372036854775808 ≤ n ∧ n ≤ 9223372036854775807 := by
  simp only [Lit.wf, Bool.and_eq_true, decide_eq_true_eq] at h
  exact h
def i64B (n : Int) : Prop := -9223372036854775808 ≤ n ∧ n ≤ 9223372036854775807
theorem list_of {α : Type} (P : Nat → α → Prop) : ∀ n : Nat, (∀ i, i < n → ∃ x, P i x) → ∃ l : List α, l.length = n ∧ ∀ i (h : i < l.length), P i l[i]
  | 0, _ => ⟨[], rfl, fun i h => by simp at h⟩
  | n + 1, h => by
    obtain ⟨l, hl, hp⟩ := list_of P n (fun i hi => h i (by omega))
    obtain ⟨x, hx⟩ := h n (by omega)
    refine ⟨l ++ [x], by simp [hl], fun i hi => ?_⟩
    by_cases hlt : i < l.length
    · rw [List.getElem_append_left hlt]; exact hp i hlt
    · have : i = l.length := by simp at hi; omega
      subst this
      rw [List.getElem_append_right (Nat.le_refl _)]
      simp [hl]
      exact hx

section
variable {H : Type} {enc : TypeId × Value → H} {W : World}

set_option maxRecDepth 100000 in
theorem edge_of {fuel : Nat} {cs : List Value} {x : DataW H × List MemPlace} (h : DataW.trod enc Tryd.prog W 0 (fun _ => true) true fuel 34 cs = some x) : ∃ a b : Int, cs = [.int .i64 a, .int .i64 b] ∧ i64B a ∧ i64B b := by
  have c32 : Tryd.prog.cellsOf 34 = 2 := by kernel_rfl
  have c3 : Tryd.prog.cellsOf 3 = 1 := by kernel_rfl
  obtain ⟨xs, n, _, _, hl, hxs, hf⟩ := DataW.trod_struct Tryd.underlying34 h
  rw [c32] at hl
  have f0 : DataW.trod enc Tryd.prog W 0 (fun _ => true) true n 3 ((cs.drop 0).take (Tryd.prog.cellsOf 3)) = xs[0]? := hf 0 _ rfl
  have f1 : DataW.trod enc Tryd.prog W 0 (fun _ => true) true n 3 ((cs.drop 1).take (Tryd.prog.cellsOf 3)) = xs[1]? := hf 1 _ rfl
  rw [c3] at f0 f1
  have l2 : xs.length = 2 := hxs
  rw [List.getElem?_eq_getElem (by omega)] at f0 f1
  obtain ⟨a, e0, _, w0⟩ := DataW.trod_int Tryd.underlying3 f0
  obtain ⟨b, e1, _, w1⟩ := DataW.trod_int Tryd.underlying3 f1
  match cs, hl with
  | [c0, c1], _ =>
    simp at e0 e1
    subst e0 e1
    exact ⟨a, b, rfl, bounds_i64 w0, bounds_i64 w1⟩
theorem spot_none {a : Addr} {v : Value} (h : W.cell? a = some v) : a.spot = none := by simpa using World.cell?_spot h

set_option maxRecDepth 100000 in
/-- The edges of a slice that came in. -/
theorem edges_of {fuel : Nat} {c : Value} {x : DataW H × List MemPlace} (h : DataW.trod enc Tryd.prog W 0 (fun _ => true) true fuel 23 [c] = some x) :
    ∃ (a : Option Addr) (ls : List (Int × Int)) (cap : Nat), c = .slice a ls.length cap ∧ LIn W a ls ∧ ls.length ≤ maxLen ∧ ls.length ≤ cap ∧ ∀ t ∈ ls, i64B t.1 ∧ i64B t.2 := by
  have c32 : Tryd.prog.cellsOf 34 = 2 := by kernel_rfl
  rcases DataW.trod_slice Tryd.underlying23 h with ⟨hc, _⟩ | ⟨a, len, cap, elems, rest, n, _, hc, _, hcp, hl, hm, he, hr, _, _⟩
  · simp at hc
    subst hc
    exact ⟨none, [], 0, rfl, fun i h => by simp at h, Nat.zero_le _, Nat.zero_le _, fun t h => by simp at h⟩
  · simp at hc
    subst hc
    obtain ⟨b, o, s⟩ := a
    have hsp : 0 < len → s = none := by
      intro h0
      have h1 := hr 0 h0
      rw [c32, List.getElem?_eq_getElem (by omega)] at h1
      obtain ⟨cs, h2, h3⟩ := Option.bind_eq_some_iff.1 h1
      obtain ⟨x, y, rfl, _, _⟩ := edge_of h3
      obtain ⟨_, _, hcc⟩ := World.cells?_some h2
      have q0 := hcc 0 (by omega)
      have q : W.cell? ⟨b, o, s⟩ = some (.int .i64 x) := by simpa [Addr.add] using q0
      exact spot_none q
    have hP : ∀ i, i < len → ∃ t : Int × Int, s = none ∧ b < W.heap.size ∧ W.cell? ⟨b, o + i * 2, none⟩ = some (.int .i64 t.1) ∧ W.cell? ⟨b, o + i * 2 + 1, none⟩ = some (.int .i64 t.2) ∧ i64B t.1 ∧ i64B t.2 := by
      intro i hi
      have hs := hsp (by omega)
      subst hs
      have h1 := hr i hi
      rw [c32, List.getElem?_eq_getElem (by omega), Addr.add_lit] at h1
      obtain ⟨cs, h2, h3⟩ := Option.bind_eq_some_iff.1 h1
      obtain ⟨x, y, rfl, bx, by'⟩ := edge_of h3
      obtain ⟨_, _, hcc⟩ := World.cells?_some h2
      have q0 := hcc 0 (by omega)
      have q1 := hcc 1 (by omega)
      rw [Addr.add_lit] at q0 q1
      exact ⟨(x, y), rfl, World.cells?_block h2 (by omega), by simpa using q0, by simpa using q1, bx, by'⟩
    obtain ⟨ts, hts, hp⟩ := list_of _ len hP
    refine ⟨some ⟨b, o, s⟩, ts, cap, by rw [hts], fun i hi => ?_, by omega, by omega, fun t ht => ?_⟩
    · obtain ⟨p1, p2, p3, p4, _⟩ := hp i hi
      exact ⟨b, o, by rw [p1], p2, p3, p4⟩
    · obtain ⟨i, hi, rfl⟩ := List.getElem_of_mem ht
      exact ⟨(hp i hi).2.2.2.2.1, (hp i hi).2.2.2.2.2⟩
theorem arg_edges {b0 : Nat} {v : Value} {d : DataW H} {p : List MemPlace} (hv : Value.okWide Tryd.prog W .any b0 23 v) (h : DataW.Trod enc Tryd.prog W 0 (fun _ => true) true 23 v d p) :
    ∃ (a : Option Addr) (ls : List (Int × Int)) (cap : Nat), v = .slice a ls.length cap ∧ LIn W a ls ∧ ls.length ≤ maxLen ∧ ls.length ≤ cap ∧ ∀ t ∈ ls, i64B t.1 ∧ i64B t.2 := by
  obtain ⟨a0, len0, cap0, rfl⟩ := okWide_slice Tryd.underlying23 hv
  obtain ⟨fuel, hf⟩ := h
  exact edges_of hf
set_option maxRecDepth 100000 in
theorem task_of {fuel : Nat} {cs : List Value} {x : DataW H × List MemPlace} (h : DataW.trod enc Tryd.prog W 0 (fun _ => true) true fuel 51 cs = some x) : ∃ a b : Int, cs = [.int .i64 a, .int .i64 b] ∧ i64B a ∧ i64B b := by
  have c32 : Tryd.prog.cellsOf 51 = 2 := by kernel_rfl
  have c3 : Tryd.prog.cellsOf 3 = 1 := by kernel_rfl
  obtain ⟨xs, n, _, _, hl, hxs, hf⟩ := DataW.trod_struct Tryd.underlying51 h
  rw [c32] at hl
  have f0 : DataW.trod enc Tryd.prog W 0 (fun _ => true) true n 3 ((cs.drop 0).take (Tryd.prog.cellsOf 3)) = xs[0]? := hf 0 _ rfl
  have f1 : DataW.trod enc Tryd.prog W 0 (fun _ => true) true n 3 ((cs.drop 1).take (Tryd.prog.cellsOf 3)) = xs[1]? := hf 1 _ rfl
  rw [c3] at f0 f1
  have l2 : xs.length = 2 := hxs
  rw [List.getElem?_eq_getElem (by omega)] at f0 f1
  obtain ⟨a, e0, _, w0⟩ := DataW.trod_int Tryd.underlying3 f0
  obtain ⟨b, e1, _, w1⟩ := DataW.trod_int Tryd.underlying3 f1
  match cs, hl with
  | [c0, c1], _ =>
    simp at e0 e1
    subst e0 e1
    exact ⟨a, b, rfl, bounds_i64 w0, bounds_i64 w1⟩
set_option maxRecDepth 100000 in
/-- The edges of a slice that came in. -/
theorem tasks_of {fuel : Nat} {c : Value} {x : DataW H × List MemPlace} (h : DataW.trod enc Tryd.prog W 0 (fun _ => true) true fuel 24 [c] = some x) :
    ∃ (a : Option Addr) (ls : List (Int × Int)) (cap : Nat), c = .slice a ls.length cap ∧ LIn W a ls ∧ ls.length ≤ maxLen ∧ ls.length ≤ cap ∧ ∀ t ∈ ls, i64B t.1 ∧ i64B t.2 := by
  have c32 : Tryd.prog.cellsOf 51 = 2 := by kernel_rfl
  rcases DataW.trod_slice Tryd.underlying24 h with ⟨hc, _⟩ | ⟨a, len, cap, elems, rest, n, _, hc, _, hcp, hl, hm, he, hr, _, _⟩
  · simp at hc
    subst hc
    exact ⟨none, [], 0, rfl, fun i h => by simp at h, Nat.zero_le _, Nat.zero_le _, fun t h => by simp at h⟩
  · simp at hc
    subst hc
    obtain ⟨b, o, s⟩ := a
    have hsp : 0 < len → s = none := by
      intro h0
      have h1 := hr 0 h0
      rw [c32, List.getElem?_eq_getElem (by omega)] at h1
      obtain ⟨cs, h2, h3⟩ := Option.bind_eq_some_iff.1 h1
      obtain ⟨x, y, rfl, _, _⟩ := task_of h3
      obtain ⟨_, _, hcc⟩ := World.cells?_some h2
      have q0 := hcc 0 (by omega)
      have q : W.cell? ⟨b, o, s⟩ = some (.int .i64 x) := by simpa [Addr.add] using q0
      exact spot_none q
    have hP : ∀ i, i < len → ∃ t : Int × Int, s = none ∧ b < W.heap.size ∧ W.cell? ⟨b, o + i * 2, none⟩ = some (.int .i64 t.1) ∧ W.cell? ⟨b, o + i * 2 + 1, none⟩ = some (.int .i64 t.2) ∧ i64B t.1 ∧ i64B t.2 := by
      intro i hi
      have hs := hsp (by omega)
      subst hs
      have h1 := hr i hi
      rw [c32, List.getElem?_eq_getElem (by omega), Addr.add_lit] at h1
      obtain ⟨cs, h2, h3⟩ := Option.bind_eq_some_iff.1 h1
      obtain ⟨x, y, rfl, bx, by'⟩ := task_of h3
      obtain ⟨_, _, hcc⟩ := World.cells?_some h2
      have q0 := hcc 0 (by omega)
      have q1 := hcc 1 (by omega)
      rw [Addr.add_lit] at q0 q1
      exact ⟨(x, y), rfl, World.cells?_block h2 (by omega), by simpa using q0, by simpa using q1, bx, by'⟩
    obtain ⟨ts, hts, hp⟩ := list_of _ len hP
    refine ⟨some ⟨b, o, s⟩, ts, cap, by rw [hts], fun i hi => ?_, by omega, by omega, fun t ht => ?_⟩
    · obtain ⟨p1, p2, p3, p4, _⟩ := hp i hi
      exact ⟨b, o, by rw [p1], p2, p3, p4⟩
    · obtain ⟨i, hi, rfl⟩ := List.getElem_of_mem ht
      exact ⟨(hp i hi).2.2.2.2.1, (hp i hi).2.2.2.2.2⟩
theorem arg_tasks {b0 : Nat} {v : Value} {d : DataW H} {p : List MemPlace} (hv : Value.okWide Tryd.prog W .any b0 24 v) (h : DataW.Trod enc Tryd.prog W 0 (fun _ => true) true 24 v d p) :
    ∃ (a : Option Addr) (ls : List (Int × Int)) (cap : Nat), v = .slice a ls.length cap ∧ LIn W a ls ∧ ls.length ≤ maxLen ∧ ls.length ≤ cap ∧ ∀ t ∈ ls, i64B t.1 ∧ i64B t.2 := by
  obtain ⟨a0, len0, cap0, rfl⟩ := okWide_slice Tryd.underlying24 hv
  obtain ⟨fuel, hf⟩ := h
  exact tasks_of hf

set_option maxRecDepth 100000 in
/-- The numbers of a slice that came in. -/
theorem ints_of {fuel : Nat} {c : Value} {x : DataW H × List MemPlace} (h : DataW.trod enc Tryd.prog W 0 (fun _ => true) true fuel 22 [c] = some x) :
    ∃ (a : Option Addr) (ls : List Int) (cap : Nat), c = .slice a ls.length cap ∧ NIn W a ls ∧ ls.length ≤ maxLen ∧ ls.length ≤ cap ∧ ∀ t ∈ ls, i64B t := by
  have c3 : Tryd.prog.cellsOf 3 = 1 := by kernel_rfl
  rcases DataW.trod_slice Tryd.underlying22 h with ⟨hc, _⟩ | ⟨a, len, cap, elems, rest, n, _, hc, _, hcp, hl, hm, he, hr, _, _⟩
  · simp at hc
    subst hc
    exact ⟨none, [], 0, rfl, fun i h => by simp at h, Nat.zero_le _, Nat.zero_le _, fun t h => by simp at h⟩
  · simp at hc
    subst hc
    obtain ⟨b, o, s⟩ := a
    have one : ∀ i, i < len → ∃ x : Int, W.cell? ((⟨b, o, s⟩ : Addr).add (i * 1)) = some (.int .i64 x) ∧ b < W.heap.size ∧ i64B x := by
      intro i hi
      have h1 := hr i hi
      rw [c3, List.getElem?_eq_getElem (by omega)] at h1
      obtain ⟨cs, h2, h3⟩ := Option.bind_eq_some_iff.1 h1
      obtain ⟨x, e0, _, w0⟩ := DataW.trod_int Tryd.underlying3 h3
      obtain ⟨q1, _, hcc⟩ := World.cells?_some h2
      have q0 := hcc 0 (by omega)
      rw [e0] at q0
      exact ⟨x, by simpa [Addr.add] using q0, by have q2 := World.cells?_block h2 (by omega); have e : ((⟨b, o, s⟩ : Addr).add (i * 1)).block = b := (by unfold Addr.add; split <;> rfl); rw [e] at q2; exact q2, bounds_i64 w0⟩
    have hsp : 0 < len → s = none := by
      intro h0
      obtain ⟨x, q, _⟩ := one 0 h0
      have q : W.cell? ⟨b, o, s⟩ = some (.int .i64 x) := by simpa [Addr.add] using q
      exact spot_none q
    have hP : ∀ i, i < len → ∃ t : Int, s = none ∧ b < W.heap.size ∧ W.cell? ⟨b, o + i, none⟩ = some (.int .i64 t) ∧ i64B t := by
      intro i hi
      have hs := hsp (by omega)
      subst hs
      obtain ⟨x, q, h1, h2⟩ := one i hi
      exact ⟨x, rfl, h1, by simpa [Addr.add_lit] using q, h2⟩
    obtain ⟨ts, hts, hp⟩ := list_of _ len hP
    refine ⟨some ⟨b, o, s⟩, ts, cap, by rw [hts], fun i hi => ?_, by omega, by omega, fun t ht => ?_⟩
    · obtain ⟨p1, p2, p3, _⟩ := hp i hi
      exact ⟨b, o, by rw [p1], p2, p3⟩
    · obtain ⟨i, hi, rfl⟩ := List.getElem_of_mem ht
      exact (hp i hi).2.2.2
theorem arg_ints {b0 : Nat} {v : Value} {d : DataW H} {p : List MemPlace} (hv : Value.okWide Tryd.prog W .any b0 22 v) (h : DataW.Trod enc Tryd.prog W 0 (fun _ => true) true 22 v d p) :
    ∃ (a : Option Addr) (ls : List Int) (cap : Nat), v = .slice a ls.length cap ∧ NIn W a ls ∧ ls.length ≤ maxLen ∧ ls.length ≤ cap ∧ ∀ t ∈ ls, i64B t := by
  obtain ⟨a0, len0, cap0, rfl⟩ := okWide_slice Tryd.underlying22 hv
  obtain ⟨fuel, hf⟩ := h
  exact ints_of hf
end
end Go.Proofs.YtipkgoghodkbfaaDoor
