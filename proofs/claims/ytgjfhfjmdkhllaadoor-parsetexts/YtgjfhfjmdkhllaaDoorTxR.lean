/- What the document's own Text answers. -/
import Derived.Test.YtgjfhfjmdkhllaaDoorTxKa
import Derived.Test.YtgjfhfjmdkhllaaDoorTxKb
import Derived.Test.YtgjfhfjmdkhllaaDoorTxKe
import Derived.Test.YtgjfhfjmdkhllaaDoorFew
namespace Go.Proofs.YtgjfhfjmdkhllaaDoor
open Go.RowKit
open M
set_option linter.unusedVariables false
set_option linter.unusedSimpArgs false

theorem line_any (o : Oz) (w : World) : Calls Tryd.prog 25 #[.agg #[.int .i64 o.kind, .int .i64 o.a, .int .i64 o.b, .int .i64 o.c, .int .i64 o.d]] w fun e w' => ∃ S b, e = .returned (.tuple #[.string S, .bool b]) ∧ LineIs o S.data.toList b ∧ Below w.heap.size w w' := by
  by_cases h : okN o.a = true ∧ okN o.b = true ∧ okN o.c = true ∧ okN o.d = true
  · by_cases h1 : o.kind = 1
    · exact line_k1 o h1 h w
    by_cases h2 : o.kind = 2
    · exact line_k2 o h2 h w
    by_cases h3 : o.kind = 3
    · exact line_k3 o h3 h w
    by_cases h4 : o.kind = 4
    · exact line_k4 o h4 h w
    by_cases h6 : o.kind = 6
    · exact line_k6 o h6 h w
    by_cases h5 : o.kind = 5
    · by_cases c1 : o.c = 1
      · exact line_k51 o h5 c1 h w
      by_cases c2 : o.c = 2
      · exact line_k52 o h5 c2 h w
      exact line_k53 o h5 c1 c2 h w
    exact line_k0 o h1 h2 h3 h4 h5 h6 h w
  · refine (line_out o h w).mono ?_
    rintro e w' ⟨rfl, hb⟩
    exact ⟨_, _, rfl, lineIs_bad h, hb⟩


/-- The worlds of the document's Text: the file's variable, and the row of the config's numbers. -/
structure RT (w W : World) (fc : Array Value) (lc : Array Value) : Prop where
  bel : Below w.heap.size w W
  fb : W.heap[w.heap.size]? = some (.cells fc 33 (0, 0))
  lb : W.heap[w.heap.size + 2]? = some (.cells lc 3 (0, 0))
theorem RT.below {w W W' : World} {fc lc : Array Value} (h : RT w W fc lc) (hb : Below W.heap.size W W') : RT w W' fc lc :=
  ⟨h.bel.trans (hb.mono h.bel.size), by rw [hb.block _ (block_lt h.fb)]; exact h.fb, by rw [hb.block _ (block_lt h.lb)]; exact h.lb⟩
theorem RT.drew {w W : World} {fc lc : Array Value} (h : RT w W fc lc) : RT w W.drew fc lc := h.below (Below.refl _ _).drew
theorem RT.cfg {w W : World} {fc : Array Value} {x0 x1 x2 x3 x4 x5 x6 x7 x8 x9 : Int} (h : RT w W fc #[.int .i64 x0, .int .i64 x1, .int .i64 x2, .int .i64 x3, .int .i64 x4, .int .i64 x5, .int .i64 x6, .int .i64 x7, .int .i64 x8, .int .i64 x9]) (l : List Int) (hl : l = [x0, x1, x2, x3, x4, x5, x6, x7, x8, x9]) (k : Nat) (hk : k < l.length) : W.cell? ⟨w.heap.size + 2, k, none⟩ = some (.int .i64 l[k]) := by
  rw [Lib.cell_of_heap h.lb]
  subst hl
  have : k = 0 ∨ k = 1 ∨ k = 2 ∨ k = 3 ∨ k = 4 ∨ k = 5 ∨ k = 6 ∨ k = 7 ∨ k = 8 ∨ k = 9 := by simp at hk; omega
  rcases this with rfl | rfl | rfl | rfl | rfl | rfl | rfl | rfl | rfl | rfl <;> rfl

/-- The text of a number, or of 0 if it is below. -/
theorem max0 (x : Int) (hx : i64B x) : ∃ (y : Int) (Y : ByteArray), (∀ (ts : Array TypeId) (t : TypeId) (W : World), (Builtin.max_ ts t #[.int .i64 x, .int .i64 0]).run Tryd.prog W = .ok (.int .i64 y) W) ∧ (∀ W, Calls Tryd.prog 17 #[.int .i64 y] W fun e w' => e = .returned (.string Y) ∧ Below W.heap.size W w') ∧ Y.size ≤ 21 ∧ (okN x = true → Y.data.toList = Lib.itoa x) := by
  refine ⟨if 0 > x then 0 else x, ⟨(Lib.decDigits (if 0 > x then 0 else x).toNat).toArray⟩, fun ts t W => by rw [run_max_int2], fun W => refText_any _ (by split <;> omega) (by have := hx.2; split <;> omega) W, ?_, fun h => ?_⟩
  · show (Lib.decDigits _).toArray.size ≤ 21
    have h0 : 0 ≤ (if 0 > x then 0 else x) := by split <;> omega
    have := Lib.itoa_length_le (if 0 > x then 0 else x) (by omega) (by have := hx.2; split <;> omega)
    rw [Lib.itoa, if_neg (by omega)] at this
    simpa using this
  · have hok : 0 ≤ x ∧ x ≤ 1048576 := by simpa [okN] using h
    rw [if_neg (by omega), Lib.itoa, if_neg (by omega)]
theorem names_len (k : Nat) (hk : k < names.length) : names[k].length ≤ 10 := by
  have h : ∀ l ∈ names, l.length ≤ 10 := by decide +kernel
  exact h _ (List.getElem_mem hk)
theorem sz32 : (⟨#[32]⟩ : ByteArray).size = 1 := rfl
theorem sz10 : (⟨#[10]⟩ : ByteArray).size = 1 := rfl
theorem szTask : (⟨#[116, 97, 115, 107, 32]⟩ : ByteArray).size = 5 := rfl
theorem ba_list (S : ByteArray) : S = ⟨S.data.toList.toArray⟩ := ba_of rfl

end Go.Proofs.YtgjfhfjmdkhllaaDoor
