/- CheckFirst: tasks in cells that the call makes, and the walk. -/
import Derived.Test.YtfllhgbpjpmakaaSho
import Derived.Laws.MakeOwn
namespace Go.Proofs.Ytfllhgbpjpmakaa
open Go.RowKit
open M
set_option linter.unusedVariables false
set_option linter.unusedSimpArgs false

theorem and16 (n : Int) : bits .and .i64 n 65535 = n % 65536 := by
  have h : (BitVec.ofInt 64 65535).toNat = 2 ^ 16 - 1 := by decide
  have key : (BitVec.ofInt 64 n &&& BitVec.ofInt 64 65535).toNat = (n % ((2 ^ 64 : Nat) : Int)).toNat % 2 ^ 16 := by
    rw [BitVec.toNat_and, BitVec.toNat_ofInt, h, Nat.and_two_pow_sub_one_eq_mod]
  show IntKind.i64.wrap ((BitVec.ofInt 64 n &&& BitVec.ofInt 64 65535).toNat : Nat) = n % 65536
  rw [key, IntKind.wrap_i64]
  omega

/-- n tasks in their cells, from the block's beginning on. -/
def TIn (w : World) (g n : Nat) (f : Nat → Int × Int) : Prop :=
  (∀ i, i < n → w.cell? ⟨g, i * 2, none⟩ = some (.int .i64 (f i).1) ∧ w.cell? ⟨g, i * 2 + 1, none⟩ = some (.int .i64 (f i).2)) ∧ (∀ j, w.frozen? ⟨g, j, none⟩ = false) ∧ g < w.heap.size
theorem below_set {B g : Nat} {w W : World} (h : Below B w W) (hg : B ≤ g) (i j : Nat) (x y : Int) : Below B w ((W.setCell ⟨g, i, none⟩ (.int .i64 x)).setCell ⟨g, j, none⟩ (.int .i64 y)) := (h.setCell hg _).setCell hg _
theorem TIn.below {w w' : World} {g n : Nat} {f : Nat → Int × Int} (h : TIn w g n f) (hb : Below w.heap.size w w') : TIn w' g n f := by
  obtain ⟨h1, h2, h3⟩ := h
  exact ⟨fun i hi => ⟨by rw [hb.cell (p := ⟨g, _, none⟩) h3]; exact (h1 i hi).1, by rw [hb.cell (p := ⟨g, _, none⟩) h3]; exact (h1 i hi).2⟩, fun j => by rw [hb.frozen (p := ⟨g, _, none⟩) h3]; exact h2 j, Nat.lt_of_lt_of_le h3 hb.size⟩
theorem TIn.eq {w : World} {g n : Nat} {f f' : Nat → Int × Int} (h : TIn w g n f) (e : ∀ i, i < n → f i = f' i) : TIn w g n f' :=
  ⟨fun i hi => by rw [← e i hi]; exact h.1 i hi, h.2⟩
theorem TIn.set0 {w : World} {g n : Nat} {f : Nat → Int × Int} (h : TIn w g n f) (a : Nat) (ha : a < n) (x : Int) : TIn (w.setCell ⟨g, a * 2, none⟩ (.int .i64 x)) g n (fun i => if i = a then (x, (f i).2) else f i) := by
  obtain ⟨h1, h2, h3⟩ := h
  refine ⟨fun i hi => ?_, fun j => by simpa using h2 j, by simpa using h3⟩
  by_cases e : i = a
  · subst e
    simp only [if_true]
    exact ⟨World.cell?_setCell_same _ _ _ (h1 i hi).1, by rw [World.cell?_setCell_other _ _ _ _ (by simp)]; exact (h1 i hi).2⟩
  · simp only [if_neg e]
    exact ⟨by rw [World.cell?_setCell_other _ _ _ _ (by first | omega | (simp; done) | (simp; omega))]; exact (h1 i hi).1, by rw [World.cell?_setCell_other _ _ _ _ (by first | omega | (simp; done) | (simp; omega))]; exact (h1 i hi).2⟩
theorem TIn.set1 {w : World} {g n : Nat} {f : Nat → Int × Int} (h : TIn w g n f) (a : Nat) (ha : a < n) (x : Int) : TIn (w.setCell ⟨g, a * 2 + 1, none⟩ (.int .i64 x)) g n (fun i => if i = a then ((f i).1, x) else f i) := by
  obtain ⟨h1, h2, h3⟩ := h
  refine ⟨fun i hi => ?_, fun j => by simpa using h2 j, by simpa using h3⟩
  by_cases e : i = a
  · subst e
    simp only [if_true]
    exact ⟨by rw [World.cell?_setCell_other _ _ _ _ (by simp)]; exact (h1 i hi).1, World.cell?_setCell_same _ _ _ (h1 i hi).2⟩
  · simp only [if_neg e]
    exact ⟨by rw [World.cell?_setCell_other _ _ _ _ (by first | omega | (simp; done) | (simp; omega))]; exact (h1 i hi).1, by rw [World.cell?_setCell_other _ _ _ _ (by first | omega | (simp; done) | (simp; omega))]; exact (h1 i hi).2⟩
theorem TIn.tasks {w : World} {g n : Nat} {f : Nat → Int × Int} (h : TIn w g n f) : TasksIn w (some ⟨g, 0, none⟩) ((List.range n).map f) := by
  intro i hi
  have hi' : i < n := by simpa using hi
  refine ⟨g, 0, rfl, h.2.2, ?_, ?_⟩
  · simpa using (h.1 i hi').1
  · simpa using (h.1 i hi').2
theorem made_in (w : World) (n : Nat) : TIn (w.alloc (.cells (madeCells #[.int .i64 0, .int .i64 0] (n * 2)) 39)) w.heap.size n (fun _ => (0, 0)) := by
  refine ⟨fun i hi => ?_, fun j => by simp, by simp⟩
  have e : ∀ j, j < n * 2 → (madeCells #[.int .i64 0, .int .i64 0] (n * 2))[j]? = some (.int .i64 0) := by
    intro j hj
    unfold madeCells
    rw [Array.getElem?_map, Array.getElem?_range]
    rw [if_pos hj]
    have : j % 2 = 0 ∨ j % 2 = 1 := by omega
    rcases this with h | h <;> simp [h]
  exact ⟨by simpa using e (i * 2) (by omega), by simpa using e (i * 2 + 1) (by omega)⟩

def upTo (k i : Nat) : Int × Int := if i < k then (1 + (i : Int), 1048576 - (i : Int)) else (0, 0)
/-- The tasks of CheckFirst. -/
def firstT (a b : Nat) (x : Int) (i : Nat) : Int × Int := (if i = a then x else 1 + (i : Int), if i = b then x else 1048576 - (i : Int))

theorem first_is {k a b i : Nat} {x : Int} (hi : i < k) : (fun i => if i = b then (((fun i => if i = a then (x, (upTo k i).2) else upTo k i) i).1, x) else (fun i => if i = a then (x, (upTo k i).2) else upTo k i) i) i = firstT a b x i := by
  unfold upTo firstT
  simp only [if_pos hi]
  by_cases e : i = a
  · by_cases e2 : i = b
    · simp only [if_pos e, if_pos e2]
    · simp only [if_pos e, if_neg e2]
  · by_cases e2 : i = b
    · simp only [if_neg e, if_pos e2]
    · simp only [if_neg e, if_neg e2]
theorem goN_first {ts : List (Int × Int)} : ∀ (k a : Nat) (hk : k < ts.length), (∀ i (h : i < ts.length), i < k → taskB ts[i] = true) → taskB ts[k] = false → goN a ts = ((a : Int) + k + 1, 3) := by
  induction ts with
  | nil => intro k a hk; simp at hk
  | cons t ts ih =>
    intro k a hk hb hw
    cases k with
    | zero =>
      have : taskB t = false := hw
      simp [goN, this]
    | succ k =>
      have h0 : taskB t = true := hb 0 (by simp) (by omega)
      have := ih k (a + 1) (by simpa using hk) (fun i h hi => hb (i + 1) (by simpa using h) (by omega)) hw
      simp only [goN, h0, if_true, this]
      simp
      omega
theorem goN_none {ts : List (Int × Int)} : ∀ (a : Nat), (∀ t ∈ ts, taskB t = true) → goN a ts = (-1, 0) := by
  induction ts with
  | nil => intro a _; rfl
  | cons t ts ih =>
    intro a h
    simp only [goN, h t (by simp), if_true]
    exact ih (a + 1) (fun t ht => h t (by simp [ht]))
theorem first_full {n a b : Nat} {x : Int} (h : 64 < n) : fileN goodC ((List.range n).map (firstT a b x)) = (65, 4) := by
  unfold fileN
  rw [if_pos good_ok, if_pos (by simpa using h)]
theorem first_ok {n a b : Nat} {x : Int} (h : n ≤ 64) (h1 : 1 ≤ x) (h2 : x ≤ 1048576) : fileN goodC ((List.range n).map (firstT a b x)) = (-1, 0) := by
  unfold fileN
  rw [if_pos good_ok, if_neg (by simpa using h)]
  refine goN_none 0 fun t ht => ?_
  obtain ⟨i, hi, rfl⟩ := List.mem_map.1 ht
  have hi' : i < n := by simpa using hi
  simp only [taskB, firstT, Bool.and_eq_true, inB_true]
  constructor <;> split <;> omega
theorem first_bad {n a b : Nat} {x : Int} (h : n ≤ 64) (ha : a < n) (hb : b < n) (hx : x < 1 ∨ 1048576 < x) : fileN goodC ((List.range n).map (firstT a b x)) = (((min a b : Nat) : Int) + 1, 3) := by
  unfold fileN
  rw [if_pos good_ok, if_neg (by simpa using h)]
  rw [goN_first (min a b) 0 (by simp; omega) ?_ ?_]
  · simp
  · intro i hi hlt
    simp only [List.getElem_map, List.getElem_range, taskB, firstT, Bool.and_eq_true, inB_true]
    have hi' : i < n := by simpa using hi
    rw [if_neg (by omega), if_neg (by omega)]
    omega
  · simp only [List.getElem_map, List.getElem_range, taskB, firstT]
    rcases Nat.le_total a b with hab | hab
    · rw [Nat.min_eq_left hab, if_pos rfl, inB_false.2 hx]; rfl
    · rw [Nat.min_eq_right hab, if_pos (rfl : b = b), inB_false.2 hx]; simp
theorem minNat (a b : Nat) (ts : Array TypeId) (t : TypeId) (W : World) : (Builtin.min_ ts t #[.int .i64 (a : Int), .int .i64 (b : Int)]).run Try.prog W = .ok (.int .i64 ((min a b : Nat) : Int)) W := by
  simp [Builtin.min_, Builtin.min2]
  split <;> omega

set_option maxRecDepth 1000000 in
set_option maxHeartbeats 8000000 in
theorem first_full_walk (n0 a0 b0 x : Int) (n a b : Nat) (w : World) (hn : 1 ≤ n) (hn1 : n ≤ 66) (ha : a < n) (hb : b < n) (hz : 0 ≤ bits .and .i64 n0 65535) (hz1 : bits .and .i64 n0 65535 ≤ 65535) (ha0 : 0 ≤ bits .and .i64 a0 65535) (ha1 : bits .and .i64 a0 65535 ≤ 65535) (hb0 : 0 ≤ bits .and .i64 b0 65535) (hb1 : bits .and .i64 b0 65535 ≤ 65535)
    (eN : 1 + bits .and .i64 n0 65535 % 66 = (n : Int)) (eA : bits .and .i64 a0 65535 % (n : Int) = (a : Int)) (eB : bits .and .i64 b0 65535 % (n : Int) = (b : Int)) (h64 : 64 < n) :
    Calls Try.prog 5 #[.int .i64 n0, .int .i64 a0, .int .i64 b0, .int .i64 x] w fun e w' => e = .returned (.bool true) ∧ Below w.heap.size w w' := by
  have kS : Calls Try.prog 8 #[] w fun e w' => e = .returned (.bool true) ∧ Hid (Below w.heap.size w w') := shown_any w
  have kG : ∀ W, Below w.heap.size w W → Calls Try.prog 15 #[] W fun e w' => e = .returned (.agg #[.int .i64 9, .int .i64 2, .int .i64 2, .int .i64 0, .int .i64 1, .int .i64 0, .int .i64 3, .int .i64 1, .int .i64 4, .int .i64 5]) ∧ Hid (Below w.heap.size w w') ∧ Hid (Below W.heap.size W w') := fun W hW => (good_any W).mono (fun e w' h => ⟨h.1, hW.trans (h.2.mono hW.size), h.2⟩)
  have kF : ∀ (W : World) (g : Nat), Below w.heap.size w W → TIn W g n (firstT a b x) → Calls Try.prog 9 #[.agg #[.int .i64 9, .int .i64 2, .int .i64 2, .int .i64 0, .int .i64 1, .int .i64 0, .int .i64 3, .int .i64 1, .int .i64 4, .int .i64 5, .slice (some ⟨g, 0, none⟩) n n, .slice none 0 0]] W fun e w' => e = .returned (.tuple #[.int .i64 65, .int .i64 4]) ∧ Hid (Below w.heap.size w w') := fun W g hW hI => by
    have := file_any goodC ((List.range n).map (firstT a b x)) (some ⟨g, 0, none⟩) none n 0 0 W (by simp; unfold maxLen; omega) hI.tasks
    rw [first_full h64, List.length_map, List.length_range] at this
    exact this.mono (fun e w' h => ⟨h.1, hW.trans (h.2.mono hW.size)⟩)
  have hmk : ∀ W : World, (Instr.makeSlice 24 (.int .i64 (n : Int)) (.int .i64 (n : Int))).run Try.prog W = .ok (.slice (some ⟨W.heap.size, 0, none⟩) n n) (W.alloc (.cells (madeCells #[.int .i64 0, .int .i64 0] (n * 2)) 39)) := fun W => by
    have hi : (Try.prog.info? 39).map (fun i => (i.zero, i.size, i.bytes)) = some (some (.agg #[.int .i64 0, .int .i64 0]), 2, 16) := by kernel_rfl
    obtain ⟨i, hi1, hi2⟩ := Option.map_eq_some_iff.1 hi
    simp only [Prod.mk.injEq] at hi2
    have := run_make (P := Try.prog) W 24 39 i _ Try.underlying24 hi1 hi2.1 .i64 .i64 n n (by omega) (by omega) (by rw [hi2.2.2]; omega) (by omega)
    rw [hi2.2.1] at this
    exact this
  go_enter Try.func5, Try.ntmps5
  go_wp2_with (go_at_call 8; refine kS.mono ?_; rintro e w1 ⟨rfl, hB1⟩)
  have HI0 : Hid (TIn _ w1.heap.size n (fun _ => (0, 0))) := made_in w1 n
  have hB1s := hB1.out.size
  have HB2 : ∀ ob, Hid (Below w.heap.size w (w1.alloc ob)) := fun ob => hB1.out.alloc hB1s _
  generalize hg : w1.heap.size = g at *
  clear hg
  go_loopw [11] (fun i W => Hid (Below w.heap.size w W) ∧ ∃ k : Nat, k ≤ n ∧ i = .int .i64 k ∧ Hid (TIn W g n (upTo k))) (fun i _ => n - (intOf i).toNat)
  case atStart => exact ⟨HB2 _, 0, Nat.zero_le _, rfl, HI0.out.eq (fun i hi => by simp [upTo])⟩
  case round =>
    obtain ⟨hBr, k, hk, rfl, HK⟩ := hrel
    by_cases hlt : k < n
    · obtain ⟨c1, c2⟩ := HK.out.1 k hlt
      have fz := HK.out.2.1
      have hu : upTo k k = (0, 0) := by simp [upTo]
      rw [hu] at c1 c2
      clear hu
      go_wp2
      go_roundw
      case rel =>
        refine ⟨(hBr.out.setCell hB1s _).setCell hB1s _, k + 1, by omega, by go_num, ?_⟩
        refine ((HK.out.set0 k hlt _).set1 k hlt _).eq (fun i hi => ?_)
        unfold upTo
        by_cases e : i = k
        · subst e; simp
        · simp only [if_neg e]
          by_cases e2 : i < k
          · rw [if_pos e2, if_pos (by omega)]
          · rw [if_neg e2, if_neg (by omega)]
      case measure => simp [intOf]; omega
    · obtain rfl : k = n := by omega
      obtain ⟨c1, c2⟩ := HK.out.1 a ha
      obtain ⟨c3, c4⟩ := HK.out.1 b hb
      have fz := HK.out.2.1
      have HF : Hid (TIn _ g k (firstT a b x)) := (((HK.out.set0 a ha x).set1 b hb x).eq (fun i hi => first_is hi))
      have HBr := hide_it (below_set hBr.out hB1s (a * 2) (b * 2 + 1) x x)
      go_wp2_with (first | (go_at_call 15; refine (kG _ HBr.out).mono ?_; rintro e w3 ⟨rfl, hB3, hb3⟩) | (go_at_call 9; refine (kF w3 g hB3.out (HF.out.below hb3.out)).mono ?_; rintro e w4 ⟨rfl, hB4⟩))
      go_ret
      exact ⟨rfl, hB4.out⟩

set_option maxRecDepth 1000000 in
set_option maxHeartbeats 8000000 in
theorem first_ok_walk (n0 a0 b0 x : Int) (n a b : Nat) (w : World) (hn : 1 ≤ n) (hn1 : n ≤ 66) (ha : a < n) (hb : b < n) (hz : 0 ≤ bits .and .i64 n0 65535) (hz1 : bits .and .i64 n0 65535 ≤ 65535) (ha0 : 0 ≤ bits .and .i64 a0 65535) (ha1 : bits .and .i64 a0 65535 ≤ 65535) (hb0 : 0 ≤ bits .and .i64 b0 65535) (hb1 : bits .and .i64 b0 65535 ≤ 65535)
    (eN : 1 + bits .and .i64 n0 65535 % 66 = (n : Int)) (eA : bits .and .i64 a0 65535 % (n : Int) = (a : Int)) (eB : bits .and .i64 b0 65535 % (n : Int) = (b : Int)) (h64 : n ≤ 64) (hx1 : 1 ≤ x) (hx2 : x ≤ 1048576) :
    Calls Try.prog 5 #[.int .i64 n0, .int .i64 a0, .int .i64 b0, .int .i64 x] w fun e w' => e = .returned (.bool true) ∧ Below w.heap.size w w' := by
  have kS : Calls Try.prog 8 #[] w fun e w' => e = .returned (.bool true) ∧ Hid (Below w.heap.size w w') := shown_any w
  have kG : ∀ W, Below w.heap.size w W → Calls Try.prog 15 #[] W fun e w' => e = .returned (.agg #[.int .i64 9, .int .i64 2, .int .i64 2, .int .i64 0, .int .i64 1, .int .i64 0, .int .i64 3, .int .i64 1, .int .i64 4, .int .i64 5]) ∧ Hid (Below w.heap.size w w') ∧ Hid (Below W.heap.size W w') := fun W hW => (good_any W).mono (fun e w' h => ⟨h.1, hW.trans (h.2.mono hW.size), h.2⟩)
  have kF : ∀ (W : World) (g : Nat), Below w.heap.size w W → TIn W g n (firstT a b x) → Calls Try.prog 9 #[.agg #[.int .i64 9, .int .i64 2, .int .i64 2, .int .i64 0, .int .i64 1, .int .i64 0, .int .i64 3, .int .i64 1, .int .i64 4, .int .i64 5, .slice (some ⟨g, 0, none⟩) n n, .slice none 0 0]] W fun e w' => e = .returned (.tuple #[.int .i64 (-1), .int .i64 0]) ∧ Hid (Below w.heap.size w w') := fun W g hW hI => by
    have := file_any goodC ((List.range n).map (firstT a b x)) (some ⟨g, 0, none⟩) none n 0 0 W (by simp; unfold maxLen; omega) hI.tasks
    rw [first_ok h64 hx1 hx2, List.length_map, List.length_range] at this
    exact this.mono (fun e w' h => ⟨h.1, hW.trans (h.2.mono hW.size)⟩)
  have hmk : ∀ W : World, (Instr.makeSlice 24 (.int .i64 (n : Int)) (.int .i64 (n : Int))).run Try.prog W = .ok (.slice (some ⟨W.heap.size, 0, none⟩) n n) (W.alloc (.cells (madeCells #[.int .i64 0, .int .i64 0] (n * 2)) 39)) := fun W => by
    have hi : (Try.prog.info? 39).map (fun i => (i.zero, i.size, i.bytes)) = some (some (.agg #[.int .i64 0, .int .i64 0]), 2, 16) := by kernel_rfl
    obtain ⟨i, hi1, hi2⟩ := Option.map_eq_some_iff.1 hi
    simp only [Prod.mk.injEq] at hi2
    have := run_make (P := Try.prog) W 24 39 i _ Try.underlying24 hi1 hi2.1 .i64 .i64 n n (by omega) (by omega) (by rw [hi2.2.2]; omega) (by omega)
    rw [hi2.2.1] at this
    exact this
  go_enter Try.func5, Try.ntmps5
  go_wp2_with (go_at_call 8; refine kS.mono ?_; rintro e w1 ⟨rfl, hB1⟩)
  have HI0 : Hid (TIn _ w1.heap.size n (fun _ => (0, 0))) := made_in w1 n
  have hB1s := hB1.out.size
  have HB2 : ∀ ob, Hid (Below w.heap.size w (w1.alloc ob)) := fun ob => hB1.out.alloc hB1s _
  generalize hg : w1.heap.size = g at *
  clear hg
  go_loopw [11] (fun i W => Hid (Below w.heap.size w W) ∧ ∃ k : Nat, k ≤ n ∧ i = .int .i64 k ∧ Hid (TIn W g n (upTo k))) (fun i _ => n - (intOf i).toNat)
  case atStart => exact ⟨HB2 _, 0, Nat.zero_le _, rfl, HI0.out.eq (fun i hi => by simp [upTo])⟩
  case round =>
    obtain ⟨hBr, k, hk, rfl, HK⟩ := hrel
    by_cases hlt : k < n
    · obtain ⟨c1, c2⟩ := HK.out.1 k hlt
      have fz := HK.out.2.1
      have hu : upTo k k = (0, 0) := by simp [upTo]
      rw [hu] at c1 c2
      clear hu
      go_wp2
      go_roundw
      case rel =>
        refine ⟨(hBr.out.setCell hB1s _).setCell hB1s _, k + 1, by omega, by go_num, ?_⟩
        refine ((HK.out.set0 k hlt _).set1 k hlt _).eq (fun i hi => ?_)
        unfold upTo
        by_cases e : i = k
        · subst e; simp
        · simp only [if_neg e]
          by_cases e2 : i < k
          · rw [if_pos e2, if_pos (by omega)]
          · rw [if_neg e2, if_neg (by omega)]
      case measure => simp [intOf]; omega
    · obtain rfl : k = n := by omega
      obtain ⟨c1, c2⟩ := HK.out.1 a ha
      obtain ⟨c3, c4⟩ := HK.out.1 b hb
      have fz := HK.out.2.1
      have HF : Hid (TIn _ g k (firstT a b x)) := (((HK.out.set0 a ha x).set1 b hb x).eq (fun i hi => first_is hi))
      have HBr := hide_it (below_set hBr.out hB1s (a * 2) (b * 2 + 1) x x)
      go_wp2_with (first | (go_at_call 15; refine (kG _ HBr.out).mono ?_; rintro e w3 ⟨rfl, hB3, hb3⟩) | (go_at_call 9; refine (kF w3 g hB3.out (HF.out.below hb3.out)).mono ?_; rintro e w4 ⟨rfl, hB4⟩))
      go_ret
      exact ⟨rfl, hB4.out⟩

set_option maxRecDepth 1000000 in
set_option maxHeartbeats 8000000 in
theorem first_low_walk (n0 a0 b0 x : Int) (n a b : Nat) (w : World) (hn : 1 ≤ n) (hn1 : n ≤ 66) (ha : a < n) (hb : b < n) (hz : 0 ≤ bits .and .i64 n0 65535) (hz1 : bits .and .i64 n0 65535 ≤ 65535) (ha0 : 0 ≤ bits .and .i64 a0 65535) (ha1 : bits .and .i64 a0 65535 ≤ 65535) (hb0 : 0 ≤ bits .and .i64 b0 65535) (hb1 : bits .and .i64 b0 65535 ≤ 65535)
    (eN : 1 + bits .and .i64 n0 65535 % 66 = (n : Int)) (eA : bits .and .i64 a0 65535 % (n : Int) = (a : Int)) (eB : bits .and .i64 b0 65535 % (n : Int) = (b : Int)) (h64 : n ≤ 64) (hx1 : x < 1) :
    Calls Try.prog 5 #[.int .i64 n0, .int .i64 a0, .int .i64 b0, .int .i64 x] w fun e w' => e = .returned (.bool true) ∧ Below w.heap.size w w' := by
  have kS : Calls Try.prog 8 #[] w fun e w' => e = .returned (.bool true) ∧ Hid (Below w.heap.size w w') := shown_any w
  have kG : ∀ W, Below w.heap.size w W → Calls Try.prog 15 #[] W fun e w' => e = .returned (.agg #[.int .i64 9, .int .i64 2, .int .i64 2, .int .i64 0, .int .i64 1, .int .i64 0, .int .i64 3, .int .i64 1, .int .i64 4, .int .i64 5]) ∧ Hid (Below w.heap.size w w') ∧ Hid (Below W.heap.size W w') := fun W hW => (good_any W).mono (fun e w' h => ⟨h.1, hW.trans (h.2.mono hW.size), h.2⟩)
  have kF : ∀ (W : World) (g : Nat), Below w.heap.size w W → TIn W g n (firstT a b x) → Calls Try.prog 9 #[.agg #[.int .i64 9, .int .i64 2, .int .i64 2, .int .i64 0, .int .i64 1, .int .i64 0, .int .i64 3, .int .i64 1, .int .i64 4, .int .i64 5, .slice (some ⟨g, 0, none⟩) n n, .slice none 0 0]] W fun e w' => e = .returned (.tuple #[.int .i64 (((min a b : Nat) : Int) + 1), .int .i64 3]) ∧ Hid (Below w.heap.size w w') := fun W g hW hI => by
    have := file_any goodC ((List.range n).map (firstT a b x)) (some ⟨g, 0, none⟩) none n 0 0 W (by simp; unfold maxLen; omega) hI.tasks
    rw [first_bad h64 ha hb (Or.inl hx1), List.length_map, List.length_range] at this
    exact this.mono (fun e w' h => ⟨h.1, hW.trans (h.2.mono hW.size)⟩)
  have hmk : ∀ W : World, (Instr.makeSlice 24 (.int .i64 (n : Int)) (.int .i64 (n : Int))).run Try.prog W = .ok (.slice (some ⟨W.heap.size, 0, none⟩) n n) (W.alloc (.cells (madeCells #[.int .i64 0, .int .i64 0] (n * 2)) 39)) := fun W => by
    have hi : (Try.prog.info? 39).map (fun i => (i.zero, i.size, i.bytes)) = some (some (.agg #[.int .i64 0, .int .i64 0]), 2, 16) := by kernel_rfl
    obtain ⟨i, hi1, hi2⟩ := Option.map_eq_some_iff.1 hi
    simp only [Prod.mk.injEq] at hi2
    have := run_make (P := Try.prog) W 24 39 i _ Try.underlying24 hi1 hi2.1 .i64 .i64 n n (by omega) (by omega) (by rw [hi2.2.2]; omega) (by omega)
    rw [hi2.2.1] at this
    exact this
  have hmin := minNat a b
  go_enter Try.func5, Try.ntmps5
  go_wp2_with (go_at_call 8; refine kS.mono ?_; rintro e w1 ⟨rfl, hB1⟩)
  have HI0 : Hid (TIn _ w1.heap.size n (fun _ => (0, 0))) := made_in w1 n
  have hB1s := hB1.out.size
  have HB2 : ∀ ob, Hid (Below w.heap.size w (w1.alloc ob)) := fun ob => hB1.out.alloc hB1s _
  generalize hg : w1.heap.size = g at *
  clear hg
  go_loopw [11] (fun i W => Hid (Below w.heap.size w W) ∧ ∃ k : Nat, k ≤ n ∧ i = .int .i64 k ∧ Hid (TIn W g n (upTo k))) (fun i _ => n - (intOf i).toNat)
  case atStart => exact ⟨HB2 _, 0, Nat.zero_le _, rfl, HI0.out.eq (fun i hi => by simp [upTo])⟩
  case round =>
    obtain ⟨hBr, k, hk, rfl, HK⟩ := hrel
    by_cases hlt : k < n
    · obtain ⟨c1, c2⟩ := HK.out.1 k hlt
      have fz := HK.out.2.1
      have hu : upTo k k = (0, 0) := by simp [upTo]
      rw [hu] at c1 c2
      clear hu
      go_wp2
      go_roundw
      case rel =>
        refine ⟨(hBr.out.setCell hB1s _).setCell hB1s _, k + 1, by omega, by go_num, ?_⟩
        refine ((HK.out.set0 k hlt _).set1 k hlt _).eq (fun i hi => ?_)
        unfold upTo
        by_cases e : i = k
        · subst e; simp
        · simp only [if_neg e]
          by_cases e2 : i < k
          · rw [if_pos e2, if_pos (by omega)]
          · rw [if_neg e2, if_neg (by omega)]
      case measure => simp [intOf]; omega
    · obtain rfl : k = n := by omega
      obtain ⟨c1, c2⟩ := HK.out.1 a ha
      obtain ⟨c3, c4⟩ := HK.out.1 b hb
      have fz := HK.out.2.1
      have HF : Hid (TIn _ g k (firstT a b x)) := (((HK.out.set0 a ha x).set1 b hb x).eq (fun i hi => first_is hi))
      have HBr := hide_it (below_set hBr.out hB1s (a * 2) (b * 2 + 1) x x)
      go_wp2_with (first | (go_at_call 15; refine (kG _ HBr.out).mono ?_; rintro e w3 ⟨rfl, hB3, hb3⟩) | (go_at_call 9; refine (kF w3 g hB3.out (HF.out.below hb3.out)).mono ?_; rintro e w4 ⟨rfl, hB4⟩))
      go_ret
      exact ⟨rfl, hB4.out⟩

set_option maxRecDepth 1000000 in
set_option maxHeartbeats 8000000 in
theorem first_high_walk (n0 a0 b0 x : Int) (n a b : Nat) (w : World) (hn : 1 ≤ n) (hn1 : n ≤ 66) (ha : a < n) (hb : b < n) (hz : 0 ≤ bits .and .i64 n0 65535) (hz1 : bits .and .i64 n0 65535 ≤ 65535) (ha0 : 0 ≤ bits .and .i64 a0 65535) (ha1 : bits .and .i64 a0 65535 ≤ 65535) (hb0 : 0 ≤ bits .and .i64 b0 65535) (hb1 : bits .and .i64 b0 65535 ≤ 65535)
    (eN : 1 + bits .and .i64 n0 65535 % 66 = (n : Int)) (eA : bits .and .i64 a0 65535 % (n : Int) = (a : Int)) (eB : bits .and .i64 b0 65535 % (n : Int) = (b : Int)) (h64 : n ≤ 64) (hx1 : 1 ≤ x) (hx2 : 1048576 < x) :
    Calls Try.prog 5 #[.int .i64 n0, .int .i64 a0, .int .i64 b0, .int .i64 x] w fun e w' => e = .returned (.bool true) ∧ Below w.heap.size w w' := by
  have kS : Calls Try.prog 8 #[] w fun e w' => e = .returned (.bool true) ∧ Hid (Below w.heap.size w w') := shown_any w
  have kG : ∀ W, Below w.heap.size w W → Calls Try.prog 15 #[] W fun e w' => e = .returned (.agg #[.int .i64 9, .int .i64 2, .int .i64 2, .int .i64 0, .int .i64 1, .int .i64 0, .int .i64 3, .int .i64 1, .int .i64 4, .int .i64 5]) ∧ Hid (Below w.heap.size w w') ∧ Hid (Below W.heap.size W w') := fun W hW => (good_any W).mono (fun e w' h => ⟨h.1, hW.trans (h.2.mono hW.size), h.2⟩)
  have kF : ∀ (W : World) (g : Nat), Below w.heap.size w W → TIn W g n (firstT a b x) → Calls Try.prog 9 #[.agg #[.int .i64 9, .int .i64 2, .int .i64 2, .int .i64 0, .int .i64 1, .int .i64 0, .int .i64 3, .int .i64 1, .int .i64 4, .int .i64 5, .slice (some ⟨g, 0, none⟩) n n, .slice none 0 0]] W fun e w' => e = .returned (.tuple #[.int .i64 (((min a b : Nat) : Int) + 1), .int .i64 3]) ∧ Hid (Below w.heap.size w w') := fun W g hW hI => by
    have := file_any goodC ((List.range n).map (firstT a b x)) (some ⟨g, 0, none⟩) none n 0 0 W (by simp; unfold maxLen; omega) hI.tasks
    rw [first_bad h64 ha hb (Or.inr hx2), List.length_map, List.length_range] at this
    exact this.mono (fun e w' h => ⟨h.1, hW.trans (h.2.mono hW.size)⟩)
  have hmk : ∀ W : World, (Instr.makeSlice 24 (.int .i64 (n : Int)) (.int .i64 (n : Int))).run Try.prog W = .ok (.slice (some ⟨W.heap.size, 0, none⟩) n n) (W.alloc (.cells (madeCells #[.int .i64 0, .int .i64 0] (n * 2)) 39)) := fun W => by
    have hi : (Try.prog.info? 39).map (fun i => (i.zero, i.size, i.bytes)) = some (some (.agg #[.int .i64 0, .int .i64 0]), 2, 16) := by kernel_rfl
    obtain ⟨i, hi1, hi2⟩ := Option.map_eq_some_iff.1 hi
    simp only [Prod.mk.injEq] at hi2
    have := run_make (P := Try.prog) W 24 39 i _ Try.underlying24 hi1 hi2.1 .i64 .i64 n n (by omega) (by omega) (by rw [hi2.2.2]; omega) (by omega)
    rw [hi2.2.1] at this
    exact this
  have hmin := minNat a b
  go_enter Try.func5, Try.ntmps5
  go_wp2_with (go_at_call 8; refine kS.mono ?_; rintro e w1 ⟨rfl, hB1⟩)
  have HI0 : Hid (TIn _ w1.heap.size n (fun _ => (0, 0))) := made_in w1 n
  have hB1s := hB1.out.size
  have HB2 : ∀ ob, Hid (Below w.heap.size w (w1.alloc ob)) := fun ob => hB1.out.alloc hB1s _
  generalize hg : w1.heap.size = g at *
  clear hg
  go_loopw [11] (fun i W => Hid (Below w.heap.size w W) ∧ ∃ k : Nat, k ≤ n ∧ i = .int .i64 k ∧ Hid (TIn W g n (upTo k))) (fun i _ => n - (intOf i).toNat)
  case atStart => exact ⟨HB2 _, 0, Nat.zero_le _, rfl, HI0.out.eq (fun i hi => by simp [upTo])⟩
  case round =>
    obtain ⟨hBr, k, hk, rfl, HK⟩ := hrel
    by_cases hlt : k < n
    · obtain ⟨c1, c2⟩ := HK.out.1 k hlt
      have fz := HK.out.2.1
      have hu : upTo k k = (0, 0) := by simp [upTo]
      rw [hu] at c1 c2
      clear hu
      go_wp2
      go_roundw
      case rel =>
        refine ⟨(hBr.out.setCell hB1s _).setCell hB1s _, k + 1, by omega, by go_num, ?_⟩
        refine ((HK.out.set0 k hlt _).set1 k hlt _).eq (fun i hi => ?_)
        unfold upTo
        by_cases e : i = k
        · subst e; simp
        · simp only [if_neg e]
          by_cases e2 : i < k
          · rw [if_pos e2, if_pos (by omega)]
          · rw [if_neg e2, if_neg (by omega)]
      case measure => simp [intOf]; omega
    · obtain rfl : k = n := by omega
      obtain ⟨c1, c2⟩ := HK.out.1 a ha
      obtain ⟨c3, c4⟩ := HK.out.1 b hb
      have fz := HK.out.2.1
      have HF : Hid (TIn _ g k (firstT a b x)) := (((HK.out.set0 a ha x).set1 b hb x).eq (fun i hi => first_is hi))
      have HBr := hide_it (below_set hBr.out hB1s (a * 2) (b * 2 + 1) x x)
      go_wp2_with (first | (go_at_call 15; refine (kG _ HBr.out).mono ?_; rintro e w3 ⟨rfl, hB3, hb3⟩) | (go_at_call 9; refine (kF w3 g hB3.out (HF.out.below hb3.out)).mono ?_; rintro e w4 ⟨rfl, hB4⟩))
      go_ret
      exact ⟨rfl, hB4.out⟩

theorem checkFirst_walk (n0 a0 b0 x : Int) (w : World) :
    Calls Try.prog 5 #[.int .i64 n0, .int .i64 a0, .int .i64 b0, .int .i64 x] w fun e w' => e = .returned (.bool true) ∧ Below w.heap.size w w' := by
  have z0 : 0 ≤ bits .and .i64 n0 65535 ∧ bits .and .i64 n0 65535 ≤ 65535 := by rw [and16]; omega
  have z1 : 0 ≤ bits .and .i64 a0 65535 ∧ bits .and .i64 a0 65535 ≤ 65535 := by rw [and16]; omega
  have z2 : 0 ≤ bits .and .i64 b0 65535 ∧ bits .and .i64 b0 65535 ≤ 65535 := by rw [and16]; omega
  obtain ⟨n, hn⟩ : ∃ n : Nat, 1 + bits .and .i64 n0 65535 % 66 = (n : Int) := ⟨(1 + bits .and .i64 n0 65535 % 66).toNat, by omega⟩
  have hn1 : 1 ≤ n := by omega
  have hn2 : n ≤ 66 := by omega
  have m1 := Int.emod_nonneg (bits .and .i64 a0 65535) (b := (n : Int)) (by omega)
  have m2 := Int.emod_lt_of_pos (bits .and .i64 a0 65535) (b := (n : Int)) (by omega)
  have m3 := Int.emod_nonneg (bits .and .i64 b0 65535) (b := (n : Int)) (by omega)
  have m4 := Int.emod_lt_of_pos (bits .and .i64 b0 65535) (b := (n : Int)) (by omega)
  obtain ⟨a, ha⟩ : ∃ a : Nat, bits .and .i64 a0 65535 % (n : Int) = (a : Int) := ⟨(bits .and .i64 a0 65535 % (n : Int)).toNat, by omega⟩
  obtain ⟨b, hb⟩ : ∃ b : Nat, bits .and .i64 b0 65535 % (n : Int) = (b : Int) := ⟨(bits .and .i64 b0 65535 % (n : Int)).toNat, by omega⟩
  have ha' : a < n := by omega
  have hb' : b < n := by omega
  by_cases h64 : 64 < n
  · exact first_full_walk n0 a0 b0 x n a b w hn1 hn2 ha' hb' z0.1 z0.2 z1.1 z1.2 z2.1 z2.2 hn ha hb h64
  · by_cases h1 : x < 1
    · exact first_low_walk n0 a0 b0 x n a b w hn1 hn2 ha' hb' z0.1 z0.2 z1.1 z1.2 z2.1 z2.2 hn ha hb (by omega) h1
    · by_cases h2 : 1048576 < x
      · exact first_high_walk n0 a0 b0 x n a b w hn1 hn2 ha' hb' z0.1 z0.2 z1.1 z1.2 z2.1 z2.2 hn ha hb (by omega) (by omega) h2
      · exact first_ok_walk n0 a0 b0 x n a b w hn1 hn2 ha' hb' z0.1 z0.2 z1.1 z1.2 z2.1 z2.2 hn ha hb (by omega) (by omega) (by omega)
end Go.Proofs.Ytfllhgbpjpmakaa
