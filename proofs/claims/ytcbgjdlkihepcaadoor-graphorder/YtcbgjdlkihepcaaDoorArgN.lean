/- Numbers of a slice that came in. -/
import Derived.Test.YtcbgjdlkihepcaaDoorLaid
import Derived.Test.YtcbgjdlkihepcaaDoorOrd
namespace Go.Proofs.YtcbgjdlkihepcaaDoor
open Go.ChangeShapes Go.WideShapes Go.ChangeAt Go.WideMaps Go.WideElems Go.RowKit
open M
set_option linter.unusedVariables false
set_option linter.unusedSimpArgs false
section
variable {H : Type} {enc : TypeId × Value → H} {W : World}
set_option maxRecDepth 100000 in
theorem ints_of {fuel : Nat} {c : Value} {x : DataW H × List MemPlace} (h : DataW.trod enc Tryd.prog W 0 (fun _ => true) true fuel 39 [c] = some x) :
    ∃ (a : Option Addr) (ls : List Int) (cap : Nat), c = .slice a ls.length cap ∧ NIn W a ls ∧ ls.length ≤ maxLen ∧ ∀ t ∈ ls, i64B t := by
  have c3 : Tryd.prog.cellsOf 3 = 1 := by kernel_rfl
  rcases DataW.trod_slice Tryd.underlying39 h with ⟨hc, _⟩ | ⟨a, len, cap, elems, rest, n, _, hc, _, _, hl, hm, he, hr, _, _⟩
  · simp at hc
    subst hc
    exact ⟨none, [], 0, rfl, fun i h => by simp at h, Nat.zero_le _, fun t h => by simp at h⟩
  · simp at hc
    subst hc
    obtain ⟨b, o, s⟩ := a
    have hsp : 0 < len → s = none := by
      intro h0
      have h1 := hr 0 h0
      rw [c3, List.getElem?_eq_getElem (by omega)] at h1
      obtain ⟨cs, h2, h3⟩ := Option.bind_eq_some_iff.1 h1
      obtain ⟨z, e0, _, _⟩ := DataW.trod_int Tryd.underlying3 h3
      subst e0
      obtain ⟨_, _, hcc⟩ := World.cells?_some h2
      have q0 := hcc 0 (by omega)
      have q : W.cell? ⟨b, o, s⟩ = some (.int .i64 z) := by simpa [Addr.add] using q0
      exact spot_none q
    have hP : ∀ i, i < len → ∃ t : Int, s = none ∧ b < W.heap.size ∧ W.cell? ⟨b, o + i, none⟩ = some (.int .i64 t) ∧ i64B t := by
      intro i hi
      have hs := hsp (by omega)
      subst hs
      have h1 := hr i hi
      rw [c3, List.getElem?_eq_getElem (by omega), Addr.add_lit] at h1
      obtain ⟨cs, h2, h3⟩ := Option.bind_eq_some_iff.1 h1
      obtain ⟨z, e0, _, wz⟩ := DataW.trod_int Tryd.underlying3 h3
      subst e0
      obtain ⟨_, _, hcc⟩ := World.cells?_some h2
      have q0 := hcc 0 (by omega)
      rw [Addr.add_lit] at q0
      exact ⟨z, rfl, World.cells?_block h2 (by omega), by simpa using q0, bounds_i64 wz⟩
    obtain ⟨ts, hts, hp⟩ := list_of _ len hP
    refine ⟨some ⟨b, o, s⟩, ts, cap, by rw [hts], fun i hi => ?_, by omega, fun t ht => ?_⟩
    · obtain ⟨p1, p2, p3, _⟩ := hp i hi
      exact ⟨b, o, by rw [p1], p2, p3⟩
    · obtain ⟨i, hi, rfl⟩ := List.getElem_of_mem ht
      exact (hp i hi).2.2.2
theorem arg_ints {b0 : Nat} {v : Value} {d : DataW H} {p : List MemPlace} (hv : Value.okWide Tryd.prog W .any b0 39 v) (h : DataW.Trod enc Tryd.prog W 0 (fun _ => true) true 39 v d p) :
    ∃ (a : Option Addr) (ls : List Int) (cap : Nat), v = .slice a ls.length cap ∧ NIn W a ls ∧ ls.length ≤ maxLen ∧ ∀ t ∈ ls, i64B t := by
  obtain ⟨a0, len0, cap0, rfl⟩ := okWide_slice Tryd.underlying39 hv
  obtain ⟨fuel, hf⟩ := h
  exact ints_of hf
end
end Go.Proofs.YtcbgjdlkihepcaaDoor
