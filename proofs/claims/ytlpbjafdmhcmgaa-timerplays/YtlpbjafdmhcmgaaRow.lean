/- Rows of numbers and of Booleans beside heaps. -/
import Derived.Test.YtlpbjafdmhcmgaaMul
import Derived.Test.YtlpbjafdmhcmgaaArg
namespace Go.Proofs.Ytlpbjafdmhcmgaa
open Go.RowKit
open M
set_option linter.unusedVariables false
set_option linter.unusedSimpArgs false

def bRow (f : Nat → Bool) (n : Nat) : Array Value := ((List.range n).map fun i => Value.bool (f i)).toArray
theorem bRow_at (f : Nat → Bool) (n i : Nat) (h : i < n) : (bRow f n)[i]? = some (.bool (f i)) := by simp [bRow, h]
theorem bRow_size (f : Nat → Bool) (n : Nat) : (bRow f n).size = n := by simp [bRow]
theorem bRow_set (f : Nat → Bool) (n j : Nat) (x : Bool) : (bRow f n).setIfInBounds j (.bool x) = bRow (fun i => if i = j then x else f i) n := by
  apply Array.ext_getElem?
  intro i
  by_cases hi : i < n
  · rw [bRow_at _ n i hi]
    by_cases e : i = j
    · subst e; simp [bRow_size, hi]
    · rw [Array.getElem?_setIfInBounds_ne (fun q => e q.symm), bRow_at _ n i hi]; simp [e]
  · rw [Array.getElem?_eq_none (by simp [bRow_size]; omega), Array.getElem?_eq_none (by rw [bRow_size]; omega)]
theorem bRow_new (n : Nat) : madeCells #[.bool false] n = bRow (fun _ => false) n := by
  rw [← Array.toList_inj, toList_madeCells_one]
  rw [bRow, List.toList_toArray]
  show List.replicate n (Value.bool false) = (List.range n).map fun _ => Value.bool false
  rw [List.map_const', List.length_range]
theorem iRow_ext {f f' : Nat → Int} {n : Nat} (h : ∀ i, i < n → f i = f' i) : iRow f n = iRow f' n := by
  unfold iRow
  congr 1
  exact List.map_congr_left (fun i hi => by rw [h i (List.mem_range.1 hi)])
theorem bRow_ext {f f' : Nat → Bool} {n : Nat} (h : ∀ i, i < n → f i = f' i) : bRow f n = bRow f' n := by
  unfold bRow
  congr 1
  exact List.map_congr_left (fun i hi => by rw [h i (List.mem_range.1 hi)])

theorem info4 : (Try.prog.info? 4).map (fun i => (i.zero, i.size, i.bytes)) = some (some (.bool false), 1, 1) := by kernel_rfl
theorem make_ints (n : Nat) (h : n ≤ 65536) (W : World) : (Instr.makeSlice 35 (.int .i64 n) (.int .i64 n)).run Try.prog W = .ok (.slice (some ⟨W.heap.size, 0, none⟩) n n) (W.alloc (.cells (iRow (fun _ => 0) n) 3)) := by
  have := run_make_row' (P := Try.prog) 35 3 (.int .i64 0) 8 Try.underlying35 info3 rfl .i64 .i64 n (by omega) (by omega) W
  rw [iRow_new] at this
  exact this
theorem make_bools (n : Nat) (h : n ≤ 65536) (W : World) : (Instr.makeSlice 49 (.int .i64 n) (.int .i64 n)).run Try.prog W = .ok (.slice (some ⟨W.heap.size, 0, none⟩) n n) (W.alloc (.cells (bRow (fun _ => false) n) 4)) := by
  have := run_make_row' (P := Try.prog) 49 4 (.bool false) 1 Try.underlying49 info4 rfl .i64 .i64 n (by omega) (by omega) W
  rw [bRow_new] at this
  exact this

section
variable {B : Nat} {w0 w : World} {hs : List Hp} {r n : Nat}
theorem MX.iat {f : Nat → Int} (h : MX B w0 w hs [(r, .cells (iRow f n) 3)]) {i : Nat} (hi : i < n) : w.cell? ⟨r, i, none⟩ = some (.int .i64 (f i)) ∧ w.frozen? ⟨r, i, none⟩ = false := by
  have hr := h.row (List.mem_singleton.2 rfl)
  exact ⟨by rw [cell_of_row w r i _ _ _ hr]; exact iRow_at f n i hi, by simp [World.frozen?, hr]⟩
theorem MX.iset {f f' : Nat → Int} (h : MX B w0 w hs [(r, .cells (iRow f n) 3)]) (i : Nat) (x : Int) (hf : ∀ j, j < n → f' j = if j = i then x else f j) : MX B w0 (w.setCell ⟨r, i, none⟩ (.int .i64 x)) hs [(r, .cells (iRow f' n) 3)] := by
  have := h.set (List.mem_singleton.2 rfl) i (.int .i64 x)
  simp only [List.map_cons, List.map_nil, if_true] at this
  rw [iRow_set, iRow_ext (fun j hj => (hf j hj).symm)] at this
  exact this
theorem MX.bat {f : Nat → Bool} (h : MX B w0 w hs [(r, .cells (bRow f n) 4)]) {i : Nat} (hi : i < n) : w.cell? ⟨r, i, none⟩ = some (.bool (f i)) ∧ w.frozen? ⟨r, i, none⟩ = false := by
  have hr := h.row (List.mem_singleton.2 rfl)
  exact ⟨by rw [cell_of_row w r i _ _ _ hr]; exact bRow_at f n i hi, by simp [World.frozen?, hr]⟩
theorem MX.bset {f f' : Nat → Bool} (h : MX B w0 w hs [(r, .cells (bRow f n) 4)]) (i : Nat) (x : Bool) (hf : ∀ j, j < n → f' j = if j = i then x else f j) : MX B w0 (w.setCell ⟨r, i, none⟩ (.bool x)) hs [(r, .cells (bRow f' n) 4)] := by
  have := h.set (List.mem_singleton.2 rfl) i (.bool x)
  simp only [List.map_cons, List.map_nil, if_true] at this
  rw [bRow_set, bRow_ext (fun j hj => (hf j hj).symm)] at this
  exact this
theorem MX.icongr {f f' : Nat → Int} (h : MX B w0 w hs [(r, .cells (iRow f n) 3)]) (hf : ∀ j, j < n → f' j = f j) : MX B w0 w hs [(r, .cells (iRow f' n) 3)] := by
  rw [iRow_ext hf]; exact h
theorem MX.bcongr {f f' : Nat → Bool} (h : MX B w0 w hs [(r, .cells (bRow f n) 4)]) (hf : ∀ j, j < n → f' j = f j) : MX B w0 w hs [(r, .cells (bRow f' n) 4)] := by
  rw [bRow_ext hf]; exact h
end

/-- A list of numbers as a function. -/
def nth (l : List Int) (i : Nat) : Int := l.getD i 0
theorem NumsIn.at {k : IntKind} {w W : World} {a : Option Addr} {l : List Int} (h : NumsIn k w a l) (hb : Below w.heap.size w W) {i : Nat} (hi : i < l.length) : ∃ b o, a = some ⟨b, o, none⟩ ∧ W.cell? ⟨b, o + i, none⟩ = some (.int k (nth l i)) := by
  obtain ⟨b, o, h1, h2, h3⟩ := h i hi
  refine ⟨b, o, h1, ?_⟩
  rw [hb.cell (p := ⟨b, _, none⟩) h2, h3]
  simp [nth, hi]
theorem min_num (m c : Nat) (ts : Array TypeId) (t : TypeId) (W : World) : (Builtin.min_ ts t #[.int .i64 (m : Nat), .int .i64 (c : Nat)]).run Try.prog W = .ok (.int .i64 (min m c : Nat)) W := by
  rw [run_min_int2]
  congr 2
  split <;> omega
end Go.Proofs.Ytlpbjafdmhcmgaa
