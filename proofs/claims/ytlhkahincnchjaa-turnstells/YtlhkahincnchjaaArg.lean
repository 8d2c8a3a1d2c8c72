/- What the arguments of the statements are to the walks: numbers, wants and steps in their cells, within their bounds. -/
import Derived.Test.YtlhkahincnchjaaRows
import Derived.Test.YtlhkahincnchjaaSho
import Derived.ProofKit
import Derived.OpenShut
import Derived.ChangeOld
namespace Go.Proofs.Ytlhkahincnchjaa
open Go.ChangeShapes Go.WideShapes Go.ChangeAt Go.WideMaps Go.WideElems Go.RowKit
open M
set_option linter.unusedVariables false
set_option linter.unusedSimpArgs false

theorem ownK : ownKnob Try.prog.godebug = none := by kernel_rfl
theorem laidOut : laidOutB Try.prog = true := by kernel_rfl
theorem bounds_i64 {n : Int} (h : (Lit.int .i64 n).wf = true) : -9223372036854775808 ≤ n ∧ n ≤ 9223372036854775807 := by
  simp only [Lit.wf, Bool.and_eq_true, decide_eq_true_eq] at h
  exact h
theorem bounds_u8 {n : Int} (h : (Lit.int .u8 n).wf = true) : 0 ≤ n ∧ n ≤ 255 := by
  simp only [Lit.wf, Bool.and_eq_true, decide_eq_true_eq] at h
  exact h
theorem bounds_u16 {n : Int} (h : (Lit.int .u16 n).wf = true) : 0 ≤ n ∧ n ≤ 65535 := by
  simp only [Lit.wf, Bool.and_eq_true, decide_eq_true_eq] at h
  exact h
theorem list_of {α : Type} (P : Nat → α → Prop) : ∀ n : Nat, (∀ i, i < n → ∃ x, P i x) → ∃ l : List α, l.length = n ∧ ∀ i (h : i < l.length), P i l[i]
  | 0, _ => ⟨[], rfl, fun i h => by simp at h⟩
  | n + 1, h => by
    obtain ⟨l, hl, hp⟩ := list_of P n (fun i hi => h i (by omega))
    obtain ⟨x, hx⟩ := h n (by omega)
    refine ⟨l ++ [x], by simp [hl], fun i hi => ?_⟩
    by_cases hlt : i < l.length
    · rw [List.getElem_append_left hlt]; exact hp i hlt
    · have : i = l.length := by simp at hi; omega
      subst this
      rw [List.getElem_append_right (Nat.le_refl _)]
      simp [hl]
      exact hx

/-- Numbers that came in, in their cells. -/
def NumsIn (k : IntKind) (W : World) (a : Option Addr) (l : List Int) : Prop := ∀ i (h : i < l.length), ∃ b o, a = some ⟨b, o, none⟩ ∧ b < W.heap.size ∧ W.cell? ⟨b, o + i, none⟩ = some (.int k l[i])
/-- A step, and where its wants lie. -/
structure Sp where
  kind : Int
  id : Int
  wt : Int
  L : List Wn
  la : Option Addr
  lc : Nat
def SpOk (W : World) (p : Sp) : Prop := i64B p.kind ∧ i64B p.id ∧ i64B p.wt ∧ Ws W p.la p.L ∧ p.L.length ≤ p.lc ∧ p.lc ≤ maxLen ∧ ∀ t ∈ p.L, i64B t.1 ∧ i64B t.2
/-- Steps that came in. -/
def StepsIn (W : World) (a : Option Addr) (l : List Sp) : Prop := ∀ i (h : i < l.length), ∃ b o, a = some ⟨b, o, none⟩ ∧ b < W.heap.size ∧ W.cell? ⟨b, o + i * 4, none⟩ = some (.int .i64 l[i].kind) ∧ W.cell? ⟨b, o + i * 4 + 1, none⟩ = some (.int .i64 l[i].id) ∧ W.cell? ⟨b, o + i * 4 + 2, none⟩ = some (.int .i64 l[i].wt) ∧ W.cell? ⟨b, o + i * 4 + 3, none⟩ = some (.slice l[i].la l[i].L.length l[i].lc) ∧ SpOk W l[i]

section
variable {H : Type} {enc : TypeId × Value → H} {W : World}
theorem spot_none {a : Addr} {v : Value} (h : W.cell? a = some v) : a.spot = none := by simpa using World.cell?_spot h

set_option maxRecDepth 100000 in
theorem arg_nums {t e : TypeId} {k : IntKind} (ht : Try.prog.underlying t = some (.slice e)) (he0 : Try.prog.underlying e = some (.int k)) (hc1 : Try.prog.cellsOf e = 1) {fuel : Nat} {c : Value} {x : DataW H × List MemPlace} (h : DataW.trod enc Try.prog W 0 (fun _ => true) true fuel t [c] = some x) :
    ∃ (a : Option Addr) (l : List Int) (cap : Nat), c = .slice a l.length cap ∧ NumsIn k W a l ∧ l.length ≤ cap ∧ cap ≤ maxLen ∧ ∀ y ∈ l, (Lit.int k y).wf = true := by
  rcases DataW.trod_slice ht h with ⟨hc, _⟩ | ⟨a, len, cap, elems, rest, n, _, hc, _, _, hl, hm, he, hr, _, _⟩
  · simp at hc
    subst hc
    exact ⟨none, [], 0, rfl, fun i h => by simp at h, Nat.le_refl _, Nat.zero_le _, fun t h => by simp at h⟩
  · simp at hc
    subst hc
    obtain ⟨b, o, s⟩ := a
    have one : ∀ i, i < len → ∃ y : Int, b < W.heap.size ∧ W.cell? ((⟨b, o, s⟩ : Addr).add i) = some (.int k y) ∧ (Lit.int k y).wf = true := by
      intro i hi
      have h1 := hr i hi
      rw [hc1, List.getElem?_eq_getElem (by omega)] at h1
      obtain ⟨cs, h2, h3⟩ := Option.bind_eq_some_iff.1 h1
      obtain ⟨y, e0, _, w0⟩ := DataW.trod_int he0 h3
      subst e0
      obtain ⟨_, _, hcc⟩ := World.cells?_some h2
      have q0 := hcc 0 (by omega)
      refine ⟨y, by have q := World.cells?_block h2 (by omega); unfold Addr.add at q; split at q <;> exact q, ?_, w0⟩
      simpa [Addr.add] using q0
    have hsp : 0 < len → s = none := by
      intro h0
      obtain ⟨y, _, q, _⟩ := one 0 h0
      have := spot_none q
      simpa [Addr.add] using this
    have hP : ∀ i, i < len → ∃ y : Int, s = none ∧ b < W.heap.size ∧ W.cell? ⟨b, o + i, none⟩ = some (.int k y) ∧ (Lit.int k y).wf = true := by
      intro i hi
      have hs := hsp (by omega)
      subst hs
      obtain ⟨y, q1, q2, q3⟩ := one i hi
      exact ⟨y, rfl, q1, by rw [Addr.add_lit] at q2; exact q2, q3⟩
    obtain ⟨ts, hts, hp⟩ := list_of _ len hP
    refine ⟨some ⟨b, o, s⟩, ts, cap, by rw [hts], fun i hi => ?_, by omega, hm, fun t ht => ?_⟩
    · obtain ⟨p1, p2, p3, _⟩ := hp i hi
      exact ⟨b, o, by rw [p1], p2, p3⟩
    · obtain ⟨i, hi, rfl⟩ := List.getElem_of_mem ht
      exact (hp i hi).2.2.2

set_option maxRecDepth 100000 in
theorem want_of {fuel : Nat} {cs : List Value} {x : DataW H × List MemPlace} (h : DataW.trod enc Try.prog W 0 (fun _ => true) true fuel 37 cs = some x) : ∃ a b : Int, cs = [.int .i64 a, .int .i64 b] ∧ i64B a ∧ i64B b := by
  have c37 : Try.prog.cellsOf 37 = 2 := by kernel_rfl
  have c3 : Try.prog.cellsOf 3 = 1 := by kernel_rfl
  obtain ⟨xs, n, _, _, hl, hxs, hf⟩ := DataW.trod_struct Try.underlying37 h
  rw [c37] at hl
  have f0 : DataW.trod enc Try.prog W 0 (fun _ => true) true n 3 ((cs.drop 0).take (Try.prog.cellsOf 3)) = xs[0]? := hf 0 _ rfl
  have f1 : DataW.trod enc Try.prog W 0 (fun _ => true) true n 3 ((cs.drop 1).take (Try.prog.cellsOf 3)) = xs[1]? := hf 1 _ rfl
  rw [c3] at f0 f1
  have l2 : xs.length = 2 := hxs
  rw [List.getElem?_eq_getElem (by omega)] at f0 f1
  obtain ⟨a, e0, _, w0⟩ := DataW.trod_int Try.underlying3 f0
  obtain ⟨b, e1, _, w1⟩ := DataW.trod_int Try.underlying3 f1
  match cs, hl with
  | [c0, c1], _ =>
    simp at e0 e1
    subst e0 e1
    exact ⟨a, b, rfl, bounds_i64 w0, bounds_i64 w1⟩

set_option maxRecDepth 100000 in
theorem arg_wants {fuel : Nat} {c : Value} {x : DataW H × List MemPlace} (h : DataW.trod enc Try.prog W 0 (fun _ => true) true fuel 28 [c] = some x) :
    ∃ (a : Option Addr) (l : List (Int × Int)) (cap : Nat), c = .slice a l.length cap ∧ Ws W a l ∧ l.length ≤ cap ∧ cap ≤ maxLen ∧ ∀ t ∈ l, i64B t.1 ∧ i64B t.2 := by
  have c37 : Try.prog.cellsOf 37 = 2 := by kernel_rfl
  rcases DataW.trod_slice Try.underlying28 h with ⟨hc, _⟩ | ⟨a, len, cap, elems, rest, n, _, hc, _, _, hl, hm, he, hr, _, _⟩
  · simp at hc
    subst hc
    exact ⟨none, [], 0, rfl, fun i h => by simp at h, Nat.le_refl _, Nat.zero_le _, fun t h => by simp at h⟩
  · simp at hc
    subst hc
    obtain ⟨b, o, s⟩ := a
    have hsp : 0 < len → s = none := by
      intro h0
      have h1 := hr 0 h0
      rw [c37, List.getElem?_eq_getElem (by omega)] at h1
      obtain ⟨cs, h2, h3⟩ := Option.bind_eq_some_iff.1 h1
      obtain ⟨x, y, rfl, _, _⟩ := want_of h3
      obtain ⟨_, _, hcc⟩ := World.cells?_some h2
      have q0 := hcc 0 (by omega)
      have q : W.cell? ⟨b, o, s⟩ = some (.int .i64 x) := by simpa [Addr.add] using q0
      exact spot_none q
    have hP : ∀ i, i < len → ∃ t : Int × Int, s = none ∧ b < W.heap.size ∧ W.cell? ⟨b, o + i * 2, none⟩ = some (.int .i64 t.1) ∧ W.cell? ⟨b, o + i * 2 + 1, none⟩ = some (.int .i64 t.2) ∧ i64B t.1 ∧ i64B t.2 := by
      intro i hi
      have hs := hsp (by omega)
      subst hs
      have h1 := hr i hi
      rw [c37, List.getElem?_eq_getElem (by omega), Addr.add_lit] at h1
      obtain ⟨cs, h2, h3⟩ := Option.bind_eq_some_iff.1 h1
      obtain ⟨x, y, rfl, bx, by'⟩ := want_of h3
      obtain ⟨_, _, hcc⟩ := World.cells?_some h2
      have q0 := hcc 0 (by omega)
      have q1 := hcc 1 (by omega)
      rw [Addr.add_lit] at q0 q1
      exact ⟨(x, y), rfl, World.cells?_block h2 (by omega), by simpa using q0, by simpa using q1, bx, by'⟩
    obtain ⟨ts, hts, hp⟩ := list_of _ len hP
    refine ⟨some ⟨b, o, s⟩, ts, cap, by rw [hts], fun i hi => ?_, by omega, hm, fun t ht => ?_⟩
    · obtain ⟨p1, p2, p3, p4, _⟩ := hp i hi
      exact ⟨b, o, by rw [p1], p2, p3, p4⟩
    · obtain ⟨i, hi, rfl⟩ := List.getElem_of_mem ht
      exact (hp i hi).2.2.2.2

set_option maxRecDepth 100000 in
theorem step_of {fuel : Nat} {cs : List Value} {x : DataW H × List MemPlace} (h : DataW.trod enc Try.prog W 0 (fun _ => true) true fuel 30 cs = some x) : ∃ p : Sp, cs = [.int .i64 p.kind, .int .i64 p.id, .int .i64 p.wt, .slice p.la p.L.length p.lc] ∧ SpOk W p := by
  have c30 : Try.prog.cellsOf 30 = 4 := by kernel_rfl
  have c3 : Try.prog.cellsOf 3 = 1 := by kernel_rfl
  have c28 : Try.prog.cellsOf 28 = 1 := by kernel_rfl
  obtain ⟨xs, n, _, _, hl, hxs, hf⟩ := DataW.trod_struct Try.underlying30 h
  rw [c30] at hl
  have f0 : DataW.trod enc Try.prog W 0 (fun _ => true) true n 3 ((cs.drop 0).take (Try.prog.cellsOf 3)) = xs[0]? := hf 0 _ rfl
  have f1 : DataW.trod enc Try.prog W 0 (fun _ => true) true n 3 ((cs.drop 1).take (Try.prog.cellsOf 3)) = xs[1]? := hf 1 _ rfl
  have f2 : DataW.trod enc Try.prog W 0 (fun _ => true) true n 3 ((cs.drop 2).take (Try.prog.cellsOf 3)) = xs[2]? := hf 2 _ rfl
  have f3 : DataW.trod enc Try.prog W 0 (fun _ => true) true n 28 ((cs.drop 3).take (Try.prog.cellsOf 28)) = xs[3]? := hf 3 _ rfl
  rw [c3] at f0 f1 f2
  rw [c28] at f3
  have l4 : xs.length = 4 := hxs
  rw [List.getElem?_eq_getElem (by omega)] at f0 f1 f2 f3
  obtain ⟨a, e0, _, w0⟩ := DataW.trod_int Try.underlying3 f0
  obtain ⟨b, e1, _, w1⟩ := DataW.trod_int Try.underlying3 f1
  obtain ⟨c, e2, _, w2⟩ := DataW.trod_int Try.underlying3 f2
  match cs, hl with
  | [c0, c1, c2, c3], _ =>
    simp at e0 e1 e2 f3
    subst e0 e1 e2
    obtain ⟨la, l, lc, rfl, q1, q2, q3, q4⟩ := arg_wants f3
    exact ⟨⟨a, b, c, l, la, lc⟩, rfl, bounds_i64 w0, bounds_i64 w1, bounds_i64 w2, q1, q2, q3, q4⟩

set_option maxRecDepth 100000 in
theorem arg_steps {fuel : Nat} {c : Value} {x : DataW H × List MemPlace} (h : DataW.trod enc Try.prog W 0 (fun _ => true) true fuel 22 [c] = some x) :
    ∃ (a : Option Addr) (l : List Sp) (cap : Nat), c = .slice a l.length cap ∧ StepsIn W a l ∧ l.length ≤ cap ∧ cap ≤ maxLen := by
  have c30 : Try.prog.cellsOf 30 = 4 := by kernel_rfl
  rcases DataW.trod_slice Try.underlying22 h with ⟨hc, _⟩ | ⟨a, len, cap, elems, rest, n, _, hc, _, _, hl, hm, he, hr, _, _⟩
  · simp at hc
    subst hc
    exact ⟨none, [], 0, rfl, fun i h => by simp at h, Nat.le_refl _, Nat.zero_le _⟩
  · simp at hc
    subst hc
    obtain ⟨b, o, s⟩ := a
    have hsp : 0 < len → s = none := by
      intro h0
      have h1 := hr 0 h0
      rw [c30, List.getElem?_eq_getElem (by omega)] at h1
      obtain ⟨cs, h2, h3⟩ := Option.bind_eq_some_iff.1 h1
      obtain ⟨p, rfl, _⟩ := step_of h3
      obtain ⟨_, _, hcc⟩ := World.cells?_some h2
      have q0 := hcc 0 (by omega)
      have q : W.cell? ⟨b, o, s⟩ = some (.int .i64 p.kind) := by simpa [Addr.add] using q0
      exact spot_none q
    have hP : ∀ i, i < len → ∃ p : Sp, s = none ∧ b < W.heap.size ∧ W.cell? ⟨b, o + i * 4, none⟩ = some (.int .i64 p.kind) ∧ W.cell? ⟨b, o + i * 4 + 1, none⟩ = some (.int .i64 p.id) ∧ W.cell? ⟨b, o + i * 4 + 2, none⟩ = some (.int .i64 p.wt) ∧ W.cell? ⟨b, o + i * 4 + 3, none⟩ = some (.slice p.la p.L.length p.lc) ∧ SpOk W p := by
      intro i hi
      have hs := hsp (by omega)
      subst hs
      have h1 := hr i hi
      rw [c30, List.getElem?_eq_getElem (by omega), Addr.add_lit] at h1
      obtain ⟨cs, h2, h3⟩ := Option.bind_eq_some_iff.1 h1
      obtain ⟨p, rfl, hp⟩ := step_of h3
      obtain ⟨_, _, hcc⟩ := World.cells?_some h2
      have q0 := hcc 0 (by omega)
      have q1 := hcc 1 (by omega)
      have q2 := hcc 2 (by omega)
      have q3 := hcc 3 (by omega)
      rw [Addr.add_lit] at q0 q1 q2 q3
      exact ⟨p, rfl, World.cells?_block h2 (by omega), by simpa using q0, by simpa using q1, by simpa using q2, by simpa using q3, hp⟩
    obtain ⟨ts, hts, hp⟩ := list_of _ len hP
    refine ⟨some ⟨b, o, s⟩, ts, cap, by rw [hts], fun i hi => ?_, by omega, hm⟩
    obtain ⟨p1, p2, p3⟩ := hp i hi
    exact ⟨b, o, by rw [p1], p2, p3⟩
end
theorem c3 : Try.prog.cellsOf 3 = 1 := by kernel_rfl
theorem c4 : Try.prog.cellsOf 4 = 1 := by kernel_rfl
theorem c5 : Try.prog.cellsOf 5 = 1 := by kernel_rfl

theorem i64_and16 (n : Int) : bits .and .i64 n 65535 = n % 65536 := by
  have h : (BitVec.ofInt 64 65535).toNat = 2 ^ 16 - 1 := by decide
  have key : (BitVec.ofInt 64 n &&& BitVec.ofInt 64 65535).toNat = (n % ((2 ^ 64 : Nat) : Int)).toNat % 2 ^ 16 := by
    rw [BitVec.toNat_and, BitVec.toNat_ofInt, h, Nat.and_two_pow_sub_one_eq_mod]
  show IntKind.i64.wrap ((BitVec.ofInt 64 n &&& BitVec.ofInt 64 65535).toNat : Nat) = n % 65536
  rw [key, IntKind.wrap_i64]
  omega
theorem i64_and10 (n : Int) : bits .and .i64 n 1023 = n % 1024 := by
  have h : (BitVec.ofInt 64 1023).toNat = 2 ^ 10 - 1 := by decide
  have key : (BitVec.ofInt 64 n &&& BitVec.ofInt 64 1023).toNat = (n % ((2 ^ 64 : Nat) : Int)).toNat % 2 ^ 10 := by
    rw [BitVec.toNat_and, BitVec.toNat_ofInt, h, Nat.and_two_pow_sub_one_eq_mod]
  show IntKind.i64.wrap ((BitVec.ofInt 64 n &&& BitVec.ofInt 64 1023).toNat : Nat) = n % 1024
  rw [key, IntKind.wrap_i64]
  omega
theorem i64_and5 (n : Int) : bits .and .i64 n 31 = n % 32 := by
  have h : (BitVec.ofInt 64 31).toNat = 2 ^ 5 - 1 := by decide
  have key : (BitVec.ofInt 64 n &&& BitVec.ofInt 64 31).toNat = (n % ((2 ^ 64 : Nat) : Int)).toNat % 2 ^ 5 := by
    rw [BitVec.toNat_and, BitVec.toNat_ofInt, h, Nat.and_two_pow_sub_one_eq_mod]
  show IntKind.i64.wrap ((BitVec.ofInt 64 n &&& BitVec.ofInt 64 31).toNat : Nat) = n % 32
  rw [key, IntKind.wrap_i64]
  omega
theorem i64_and4 (n : Int) : bits .and .i64 n 15 = n % 16 := by
  have h : (BitVec.ofInt 64 15).toNat = 2 ^ 4 - 1 := by decide
  have key : (BitVec.ofInt 64 n &&& BitVec.ofInt 64 15).toNat = (n % ((2 ^ 64 : Nat) : Int)).toNat % 2 ^ 4 := by
    rw [BitVec.toNat_and, BitVec.toNat_ofInt, h, Nat.and_two_pow_sub_one_eq_mod]
  show IntKind.i64.wrap ((BitVec.ofInt 64 n &&& BitVec.ofInt 64 15).toNat : Nat) = n % 16
  rw [key, IntKind.wrap_i64]
  omega
theorem and16 (n : Int) : ∃ u : Nat, bits .and .i64 n 65535 = u ∧ u < 65536 := ⟨(n % 65536).toNat, by rw [i64_and16]; omega, by omega⟩
theorem NumsIn.get {k : IntKind} {W : World} {a : Option Addr} {l : List Int} (h : NumsIn k W a l) {i : Nat} (hi : i < l.length) : ∃ b o, a = some ⟨b, o, none⟩ ∧ ∀ W', Below W.heap.size W W' → W'.cell? ⟨b, o + i, none⟩ = some (.int k l[i]) := by
  obtain ⟨b, o, e, hb, c0⟩ := h i hi
  exact ⟨b, o, e, fun W' q => by rw [q.cell (p := ⟨b, _, none⟩) hb]; exact c0⟩
end Go.Proofs.Ytlhkahincnchjaa
