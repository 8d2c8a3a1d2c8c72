/- What right and line of the document's own Text answer. -/
import Derived.Test.YtgjfhfjmdkhllaaDoorTxtM
import Derived.Test.YtgjfhfjmdkhllaaDoorFew
import Derived.Test.YtgjfhfjmdkhllaaDoorNumT
import Derived.Deep.DeepCutAuto
import Derived.Deep.RegionHeld3
import Derived.BigQuiet
namespace Go.Proofs.YtgjfhfjmdkhllaaDoor
open Go.RowKit
open M
set_option linter.unusedVariables false
set_option linter.unusedSimpArgs false

set_option maxRecDepth 100000 in
theorem right_any (n : Int) (w : World) : Calls Tryd.prog 23 #[.int .i64 n] w fun e w' => e = .returned (.bool (okN n)) ∧ w' = w := by
  by_cases h0 : 0 ≤ n
  · by_cases h1 : n ≤ 1048576
    · have e : okN n = true := by simp [okN, h0, h1]
      rw [e]
      clear e
      go_enter Tryd.func23, Tryd.ntmps23
      go_wp2
      go_ret
      exact ⟨rfl, rfl⟩
    · have e : okN n = false := by simp [okN, h1]
      have h1' : decide (n ≤ 1048576) = false := by simpa using h1
      rw [e]
      clear e h1
      go_enter Tryd.func23, Tryd.ntmps23
      go_wp2
      go_ret
      exact ⟨rfl, rfl⟩
  · have e : okN n = false := by simp [okN, h0]
    have h0' : decide (0 ≤ n) = false := by simpa using h0
    rw [e]
    clear e
    go_enter Tryd.func23, Tryd.ntmps23
    go_wp2
    go_ret
    exact ⟨rfl, rfl⟩

theorem text_is (n : Int) (h : okN n = true) (w : World) : Calls Tryd.prog 17 #[.int .i64 n] w fun e w' => e = .returned (.string ⟨(Lib.itoa n).toArray⟩) ∧ Below w.heap.size w w' := by
  have hok : 0 ≤ n ∧ n ≤ 1048576 := by simpa [okN] using h
  have := refText_any n hok.1 (by omega) w
  rw [show Lib.itoa n = Lib.decDigits n.toNat by rw [Lib.itoa, if_neg (by omega)]]
  exact this

theorem max4_is (a b c d : Int) : ∃ m : Int, (∀ (ts : Array TypeId) (t : TypeId) (W : World), (Builtin.max_ ts t #[.int .i64 a, .int .i64 b, .int .i64 c, .int .i64 d]).run Tryd.prog W = .ok (.int .i64 m) W) ∧ (m = a ∨ m = b ∨ m = c ∨ m = d) ∧ a ≤ m ∧ b ≤ m ∧ c ≤ m ∧ d ≤ m := by
  refine ⟨if d > (if c > (if b > a then b else a) then c else (if b > a then b else a)) then d else (if c > (if b > a then b else a) then c else (if b > a then b else a)), ?_, ?_, ?_, ?_, ?_, ?_⟩
  · intro ts t W
    simp [Builtin.max_, Builtin.max2]
  · split <;> (try split) <;> (try split) <;> simp
  · split <;> (try split) <;> (try split) <;> omega
  · split <;> (try split) <;> (try split) <;> omega
  · split <;> (try split) <;> (try split) <;> omega
  · split <;> (try split) <;> (try split) <;> omega

def Bx (w W : World) (k a b c d : Int) : Prop := Below w.heap.size w W ∧ W.heap[w.heap.size]? = some (.cells #[.int .i64 k, .int .i64 a, .int .i64 b, .int .i64 c, .int .i64 d] 46 (0, 0))
theorem Bx.below {w W W' : World} {k a b c d : Int} (h : Bx w W k a b c d) (hb : Below W.heap.size W W') : Bx w W' k a b c d := ⟨h.1.trans (hb.mono h.1.size), by rw [hb.block _ (block_lt h.2)]; exact h.2⟩
theorem Bx.new (w : World) (k a b c d : Int) : Bx w (w.alloc (.cells #[.int .i64 k, .int .i64 a, .int .i64 b, .int .i64 c, .int .i64 d] 46)) k a b c d := ⟨(Below.refl _ _).alloc (Nat.le_refl _) _, heap_alloc_new w _⟩
theorem Bx.cells {w W : World} {k a b c d : Int} (h : Bx w W k a b c d) : W.cell? ⟨w.heap.size, 0, none⟩ = some (.int .i64 k) ∧ W.cell? ⟨w.heap.size, 1, none⟩ = some (.int .i64 a) ∧ W.cell? ⟨w.heap.size, 2, none⟩ = some (.int .i64 b) ∧ W.cell? ⟨w.heap.size, 3, none⟩ = some (.int .i64 c) ∧ W.cell? ⟨w.heap.size, 4, none⟩ = some (.int .i64 d) := cells5 h.2

set_option maxRecDepth 100000 in
set_option maxHeartbeats 2000000 in
theorem line_out (o : Oz) (h : ¬ (okN o.a = true ∧ okN o.b = true ∧ okN o.c = true ∧ okN o.d = true)) (w : World) : Calls Tryd.prog 25 #[.agg #[.int .i64 o.kind, .int .i64 o.a, .int .i64 o.b, .int .i64 o.c, .int .i64 o.d]] w fun e w' => e = .returned (.tuple #[.string ⟨#[]⟩, .bool false]) ∧ Below w.heap.size w w' := by
  obtain ⟨k, a, b, c, d⟩ := o
  simp only at *
  obtain ⟨mx, hmx, hm1, hm2, hm3, hm4, hm5⟩ := max4_is a b c d
  have hb := (Bx.new w k a b c d).1
  have HB := hide_it hb
  clear hb
  by_cases ha : a < 0
  · clear h hm1 hm2 hm3 hm4 hm5
    go_enter Tryd.func25, Tryd.ntmps25
    go_wp2
    go_ret2
    exact ⟨rfl, HB.out⟩
  · have ha' : decide (a < 0) = false := by simpa using ha
    by_cases hb : b < 0
    · clear h hm1 hm2 hm3 hm4 hm5
      go_enter Tryd.func25, Tryd.ntmps25
      go_wp2
      go_ret2
      exact ⟨rfl, HB.out⟩
    · have hb' : decide (b < 0) = false := by simpa using hb
      by_cases hc : c < 0
      · clear h hm1 hm2 hm3 hm4 hm5
        go_enter Tryd.func25, Tryd.ntmps25
        go_wp2
        go_ret2
        exact ⟨rfl, HB.out⟩
      · have hc' : decide (c < 0) = false := by simpa using hc
        by_cases hd : d < 0
        · clear h hm1 hm2 hm3 hm4 hm5
          go_enter Tryd.func25, Tryd.ntmps25
          go_wp2
          go_ret2
          exact ⟨rfl, HB.out⟩
        · have hd' : decide (d < 0) = false := by simpa using hd
          have hq : (1048576 : Int) < mx := by
            simp only [okN, decide_eq_true_eq] at h
            omega
          clear h hm1 hm2 hm3 hm4 hm5
          go_enter Tryd.func25, Tryd.ntmps25
          go_wp2
          go_ret2
          exact ⟨rfl, HB.out⟩

theorem lineIs_iff {o : Oz} {m : Fm} {s : List UInt8} {X : Bool} (h : okN o.a = true ∧ okN o.b = true ∧ okN o.c = true ∧ okN o.d = true) (cond : Prop) [Decidable cond] (hf : M.formOf o = if cond then some m else none) (hX : X = true ↔ cond) (hs : s = spell 0 (words m) (getN m o)) (hl : s.length ≤ 200) : LineIs o s X := by
  cases X with
  | true => exact lineIs_at h (by rw [hf, if_pos (hX.1 rfl)]) hs hl
  | false => exact lineIs_no (by rw [hf, if_neg (fun hc => by have := hX.2 hc; cases this)]) hl

theorem below_drewR {B : Nat} {a w : World} (h : Below B a w) (q : Nat) : Below B a (w.drewN q) := ⟨h.os, h.tape, h.output, h.size, h.block⟩

end Go.Proofs.YtgjfhfjmdkhllaaDoor
