/- A graph in memory; what a call may turn. -/
import Derived.Test.YtipkgoghodkbfaaDoorLow
import Derived.ArgAppend
import Derived.Laws.OwnMore
namespace Go.Proofs.YtipkgoghodkbfaaDoor
open Go.RowKit
open M
set_option linter.unusedVariables false
set_option linter.unusedSimpArgs false

theorem block_lt {w : World} {b : Nat} {o : Obj} (h : w.heap[b]? = some o) : b < w.heap.size := by
  rcases Nat.lt_or_ge b w.heap.size with h' | h'
  · exact h'
  · simp [Array.getElem?_eq_none h'] at h

/-- What the program wrote: only blocks of F, and new ones. -/
structure Turn (F : Nat → Prop) (w w' : World) : Prop where
  os : w'.os = w.os
  tape : w'.tape = w.tape
  output : w'.output = w.output
  size : w.heap.size ≤ w'.heap.size
  block : ∀ k, k < w.heap.size → ¬ F k → w'.heap[k]? = w.heap[k]?
theorem Turn.refl (F : Nat → Prop) (w : World) : Turn F w w := ⟨rfl, rfl, rfl, Nat.le_refl _, fun _ _ _ => rfl⟩
theorem Turn.of_below {F : Nat → Prop} {w w' : World} (h : Below w.heap.size w w') : Turn F w w' := ⟨h.os, h.tape, h.output, h.size, fun k hk _ => h.block k hk⟩
theorem Turn.below {F : Nat → Prop} {w w' : World} {B : Nat} (h : Turn F w w') (hB : B ≤ w.heap.size) (hF : ∀ k, F k → B ≤ k) : Below B w w' :=
  ⟨h.os, h.tape, h.output, h.size, fun k hk => h.block k (by omega) (fun hf => by have := hF k hf; omega)⟩
theorem Turn.trans {F : Nat → Prop} {a b c : World} (h : Turn F a b) (k : Turn F b c) : Turn F a c :=
  ⟨k.os.trans h.os, k.tape.trans h.tape, k.output.trans h.output, Nat.le_trans h.size k.size, fun i hi hf => (k.block i (Nat.lt_of_lt_of_le hi h.size) hf).trans (h.block i hi hf)⟩
theorem Turn.mono {F G : Nat → Prop} {w w' : World} (h : Turn F w w') (hg : ∀ k, k < w.heap.size → F k → G k) : Turn G w w' :=
  ⟨h.os, h.tape, h.output, h.size, fun k hk hn => h.block k hk (fun hf => hn (hg k hk hf))⟩
theorem Turn.setCell {F : Nat → Prop} {a w : World} (h : Turn F a w) {p : Addr} (hp : F p.block ∨ a.heap.size ≤ p.block) (u : Value) : Turn F a (w.setCell p u) :=
  ⟨h.os, h.tape, h.output, by simpa [World.setCell] using h.size, fun k hk hn => by
    rw [Below.heap_setCell _ _ _ _ (fun e => by subst e; rcases hp with hp | hp; exact hn hp; omega)]; exact h.block k hk hn⟩
theorem Turn.drew {F : Nat → Prop} {a w : World} (h : Turn F a w) : Turn F a w.drew := ⟨h.os, h.tape, h.output, h.size, h.block⟩
theorem Turn.alloc {F : Nat → Prop} {a w : World} (h : Turn F a w) (o : Obj) : Turn F a (w.alloc o) :=
  ⟨h.os, h.tape, h.output, by have := h.size; simp; omega, fun k hk hn => by rw [Below.heap_alloc _ _ _ (Nat.lt_of_lt_of_le hk h.size)]; exact h.block k hk hn⟩
theorem Turn.grown {F : Nat → Prop} {a w w' : World} {row : Option Nat} (h : Turn F a w) (hg : w.grownBy w' row) (hr : ∀ k, row = some k → F k ∨ a.heap.size ≤ k) : Turn F a w' :=
  ⟨hg.os.trans h.os, hg.tape.trans h.tape, hg.output.trans h.output, Nat.le_trans h.size hg.size, fun k hk hn => by
    rw [hg.block k (Nat.lt_of_lt_of_le hk h.size) (fun e => by rcases hr k e.symm with hf | hf; exact hn hf; omega)]; exact h.block k hk hn⟩

/-- Edges as cells. -/
def ecells : List E → List Value
  | [] => []
  | (x, y) :: r => .int .i64 x :: .int .i64 y :: ecells r
theorem ecells_len (es : List E) : (ecells es).length = es.length * 2 := by
  induction es with
  | nil => rfl
  | cons e r ih => obtain ⟨x, y⟩ := e; simp [ecells, ih]; omega
theorem ecells_app (a b : List E) : ecells (a ++ b) = ecells a ++ ecells b := by
  induction a with
  | nil => rfl
  | cons e r ih => obtain ⟨x, y⟩ := e; simp [ecells, ih]
theorem ecells_at (es : List E) : ∀ i (h : i < es.length), (ecells es)[i * 2]? = some (.int .i64 es[i].1) ∧ (ecells es)[i * 2 + 1]? = some (.int .i64 es[i].2) := by
  induction es with
  | nil => intro i h; simp at h
  | cons e r ih =>
    obtain ⟨x, y⟩ := e
    intro i h
    cases i with
    | zero => exact ⟨rfl, rfl⟩
    | succ i =>
      obtain ⟨p, q⟩ := ih i (by simpa using h)
      rw [show (i + 1) * 2 = i * 2 + 1 + 1 by omega]
      simp only [ecells, List.getElem_cons_succ, List.getElem?_cons_succ]
      exact ⟨p, q⟩

abbrev OwnE (w : World) (base : Nat) (v : Value) (es : List E) : Prop := w.ownsRow base 68 2 v es.length (ecells es)
abbrev OwnI (w : World) (base : Nat) (v : Value) (xs : List Nat) : Prop := w.ownsRow base 3 1 v xs.length (xs.map fun x => Value.int .i64 (x : Nat))

theorem owns_keep {w w' : World} {base sz n : Nat} {e : TypeId} {v : Value} {xs : List Value} (h : w.ownsRow base e sz v n xs) (hk : ∀ k, v.ownBlock = some k → w'.heap[k]? = w.heap[k]?) : w'.ownsRow base e sz v n xs := by
  refine ⟨h.1, ?_⟩
  rcases h.2 with hn | ⟨g, cap, cur, rfl, hb, hg, rest⟩
  · exact .inl hn
  · exact .inr ⟨g, cap, cur, rfl, hb, by rw [hk g rfl]; exact hg, rest⟩
theorem owns_below {w w' : World} {base sz n : Nat} {e : TypeId} {v : Value} {xs : List Value} (h : w.ownsRow base e sz v n xs) (hb : Below w.heap.size w w') : w'.ownsRow base e sz v n xs :=
  owns_keep h (fun k hk => hb.block k (h.lt k hk).2)
theorem owns_base {w : World} {base base' sz n : Nat} {e : TypeId} {v : Value} {xs : List Value} (h : w.ownsRow base e sz v n xs) (hb : ∀ k, v.ownBlock = some k → base' ≤ k) : w.ownsRow base' e sz v n xs := by
  refine ⟨h.1, ?_⟩
  rcases h.2 with hn | ⟨g, cap, cur, rfl, _, hg, rest⟩
  · exact .inl hn
  · exact .inr ⟨g, cap, cur, rfl, hb g rfl, hg, rest⟩

def endsRow (es : List E) (n : Nat) : Array Value := ((List.range n).map fun i => Value.int .u64 (mask es i : Nat)).toArray
theorem endsRow_at (es : List E) (n i : Nat) (h : i < n) : (endsRow es n)[i]? = some (.int .u64 (mask es i : Nat)) := by
  simp [endsRow, h]
theorem endsRow_size (es : List E) (n : Nat) : (endsRow es n).size = n := by simp [endsRow]
theorem endsRow_snoc (es : List E) (n a b : Nat) (ha : a < n) : (endsRow es n).setIfInBounds a (.int .u64 ((mask es a ||| 2 ^ b : Nat) : Int)) = endsRow (es ++ [(a, b)]) n := by
  apply Array.ext
  · simp [endsRow]
  · intro i h1 h2
    have hi : i < n := by simpa [endsRow] using h2
    have e2 : (endsRow (es ++ [(a, b)]) n)[i] = .int .u64 (mask (es ++ [(a, b)]) i : Nat) := by
      have := endsRow_at (es ++ [(a, b)]) n i hi
      rw [Array.getElem?_eq_getElem h2] at this
      exact Option.some.inj this
    rw [e2, mask_snoc, Array.getElem_setIfInBounds (by simpa using h1)]
    by_cases he : a = i
    · subst he; simp
    · have e3 := endsRow_at es n i hi
      rw [Array.getElem?_eq_getElem (by simpa using h1)] at e3
      simp only [he, if_false]
      exact Option.some.inj e3

/-- A graph of n tasks and these edges, at block g; its ends at block eb; its edges are v. -/
structure GM (w : World) (g eb n : Nat) (v : Value) (es : List E) : Prop where
  blk : w.heap[g]? = some (.cells #[v, .slice (some ⟨eb, 0, none⟩) n n] 59)
  ends : w.heap[eb]? = some (.cells (endsRow es n) 65)
  own : OwnE w 0 v es
  ne : g ≠ eb
  ng : v.ownBlock ≠ some g
  nb : v.ownBlock ≠ some eb
  hn : n ≤ 64
  good : ∀ e ∈ es, e.1 < n ∧ e.2 < n
  nd : es.Nodup

/-- A graph's own blocks. -/
def Foot (g eb : Nat) (v : Value) (k : Nat) : Prop := k = g ∨ k = eb ∨ v.ownBlock = some k

section
variable {w w' : World} {g eb n : Nat} {v : Value} {es : List E}
theorem GM.c0 (h : GM w g eb n v es) : w.cell? ⟨g, 0, none⟩ = some v := by rw [cell_of_row w g 0 _ _ _ h.blk]; rfl
theorem GM.c1 (h : GM w g eb n v es) : w.cell? ⟨g, 1, none⟩ = some (.slice (some ⟨eb, 0, none⟩) n n) := by rw [cell_of_row w g 1 _ _ _ h.blk]; rfl
theorem GM.ce (h : GM w g eb n v es) (i : Nat) (hi : i < n) : w.cell? ⟨eb, i, none⟩ = some (.int .u64 (mask es i : Nat)) := by rw [cell_of_row w eb i _ _ _ h.ends]; exact endsRow_at es n i hi
theorem GM.lt (h : GM w g eb n v es) (k : Nat) (hk : Foot g eb v k) : k < w.heap.size := by
  rcases hk with rfl | rfl | hk
  · exact block_lt h.blk
  · exact block_lt h.ends
  · exact (h.own.lt k hk).2
theorem GM.keep (h : GM w g eb n v es) (hk : ∀ k, Foot g eb v k → w'.heap[k]? = w.heap[k]?) : GM w' g eb n v es :=
  ⟨by rw [hk g (.inl rfl)]; exact h.blk, by rw [hk eb (.inr (.inl rfl))]; exact h.ends, owns_keep h.own (fun k hk' => hk k (.inr (.inr hk'))), h.ne, h.ng, h.nb, h.hn, h.good, h.nd⟩
theorem GM.below (h : GM w g eb n v es) (hb : Below w.heap.size w w') : GM w' g eb n v es := h.keep (fun k hk => hb.block k (h.lt k hk))
theorem GM.turn (h : GM w g eb n v es) {F : Nat → Prop} (ht : Turn F w w') (hF : ∀ k, Foot g eb v k → ¬ F k) : GM w' g eb n v es := h.keep (fun k hk => ht.block k (h.lt k hk) (hF k hk))
theorem GM.mlt (h : GM w g eb n v es) (i : Nat) : mask es i < 18446744073709551616 := mask_lt es i (fun e he => by have := (h.good e he).2; have := h.hn; omega)
end

theorem tab_below {w w' : World} (h : Tab w) (h0 : 0 < w.heap.size) (hb : Below w.heap.size w w') : Tab w' := fun j hj => by rw [hb.cell (p := ⟨0, j, none⟩) h0]; exact h j hj
theorem tab_turn {w w' : World} {F : Nat → Prop} (h : Tab w) (h0 : 0 < w.heap.size) (ht : Turn F w w') (hF : ¬ F 0) : Tab w' := fun j hj => by
  rw [World.cell?_of_block (w := w) (ht.block 0 h0 hF)]; exact h j hj
end Go.Proofs.YtipkgoghodkbfaaDoor
