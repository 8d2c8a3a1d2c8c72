/- made: a graph of given edges. -/
import Derived.Test.YtipkgoghodkbfaaDoorRea
namespace Go.Proofs.YtipkgoghodkbfaaDoor
open Go.RowKit
open M
set_option linter.unusedVariables false
set_option linter.unusedSimpArgs false

/-- The edges of a slice that came in: each in its two cells. -/
def LIn (w : World) (a : Option Addr) (ls : List (Int × Int)) : Prop :=
  ∀ i (h : i < ls.length), ∃ b o, a = some ⟨b, o, none⟩ ∧ b < w.heap.size ∧ w.cell? ⟨b, o + i * 2, none⟩ = some (.int .i64 ls[i].1) ∧ w.cell? ⟨b, o + i * 2 + 1, none⟩ = some (.int .i64 ls[i].2)
theorem LIn.below {w w' : World} {a : Option Addr} {ls : List (Int × Int)} (h : LIn w a ls) {B : Nat} (hb : Below B w w') (hB : w.heap.size ≤ B) : LIn w' a ls := by
  intro i hi
  obtain ⟨b, o, h1, h2, h3, h4⟩ := h i hi
  exact ⟨b, o, h1, Nat.lt_of_lt_of_le h2 hb.size, by rw [hb.cell (p := ⟨b, _, none⟩) (Nat.lt_of_lt_of_le h2 hB)]; exact h3, by rw [hb.cell (p := ⟨b, _, none⟩) (Nat.lt_of_lt_of_le h2 hB)]; exact h4⟩

def foldE (n : Nat) (ls : List (Int × Int)) (es : List E) : List E := ls.foldl (fun es p => addE n es p.1 p.2) es
theorem foldE_take (n : Nat) (ls : List (Int × Int)) (k : Nat) (h : k < ls.length) : foldE n (ls.take (k + 1)) [] = addE n (foldE n (ls.take k) []) ls[k].1 ls[k].2 := by
  unfold foldE
  rw [List.take_succ_eq_append_getElem h, List.foldl_append]
  rfl
theorem addE_len (n : Nat) (es : List E) (a b : Int) : (addE n es a b).length ≤ es.length + 1 := by
  unfold addE
  split
  · split <;> simp
  · omega
theorem foldE_len (n : Nat) (ls : List (Int × Int)) (k : Nat) : (foldE n (ls.take k) []).length ≤ k := by
  induction k with
  | zero => simp [foldE]
  | succ k ih =>
    by_cases h : k < ls.length
    · rw [foldE_take n ls k h]
      have := addE_len n (foldE n (ls.take k) []) ls[k].1 ls[k].2
      omega
    · have e : ls.take (k + 1) = ls.take k := by rw [List.take_of_length_le (by omega), List.take_of_length_le (by omega)]
      rw [e]; omega

/-- A graph of the call's own, from block B on. -/
structure GO (w : World) (B g eb n : Nat) (es : List E) : Prop where
  ex : ∃ v, GM w g eb n v es ∧ ∀ k, v.ownBlock = some k → B ≤ k
  hg : B ≤ g
  he : B ≤ eb
theorem GO.below {w w' : World} {B g eb n : Nat} {es : List E} (h : GO w B g eb n es) (hb : Below w.heap.size w w') : GO w' B g eb n es := by
  obtain ⟨v, hm, hv⟩ := h.ex
  exact ⟨⟨v, hm.below hb, hv⟩, h.hg, h.he⟩
theorem add_go {w : World} {B g eb n : Nat} {es : List E} (h : GO w B g eb n es) (a b : Int) (hle : es.length ≤ 1000000) (hB : B ≤ w.heap.size) :
    Calls Tryd.prog 11 #[ptr g, .int .i64 a, .int .i64 b] w fun e w' => e = .returned (.tuple #[.bool (newB n es a b), .int .i64 (errN n a b)]) ∧ Hid (GO w' B g eb n (addE n es a b)) ∧ Hid (Below B w w') := by
  obtain ⟨v, hm, hv⟩ := h.ex
  refine (add_any hm a b hle).mono ?_
  rintro e w' ⟨rfl, v', h1, h2, h3⟩
  refine ⟨rfl, ⟨⟨v', h1, ?_⟩, h.hg, h.he⟩, h2.below hB ?_⟩
  · intro k hk
    rcases h3 with q | ⟨j, q1, q2⟩
    · exact hv k (by rw [← q]; exact hk)
    · rw [q1] at hk; cases hk; omega
  · rintro k (rfl | rfl | hk)
    · exact h.hg
    · exact h.he
    · exact hv k hk
theorem new_go (n : Int) (w : World) :
    Calls Tryd.prog 9 #[.int .i64 n] w fun e w' => e = .returned (ptr (w.heap.size + 1)) ∧ Hid (GO w' w.heap.size (w.heap.size + 1) w.heap.size (sz n) []) ∧ Hid (Below w.heap.size w w') := by
  refine (new_any n w).mono ?_
  rintro e w' ⟨rfl, h, hb⟩
  exact ⟨rfl, ⟨⟨_, h, fun k hk => by simp [Value.ownBlock] at hk⟩, by omega, by omega⟩, hb⟩

set_option maxRecDepth 1000000 in
set_option maxHeartbeats 1000000 in
theorem min30_run (n : Int) (ts : Array TypeId) (t : TypeId) (W : World) : (Builtin.min_ ts t #[.int .i64 n, .int .i64 30]).run Tryd.prog W = .ok (.int .i64 (min n 30)) W := by
  rw [run_min_int2]
  congr 2
  split <;> omega
/-- How many tasks the graph has that is made. -/
def sz30 (n : Int) : Nat := sz (min n 30)
theorem sz30_le (n : Int) : sz30 n ≤ 30 := by unfold sz30 sz; omega
end Go.Proofs.YtipkgoghodkbfaaDoor
