/- Reach and Reaches of package graph; ints. -/
import Derived.Test.YtipkgoghodkbfaaDoorRch
namespace Go.Proofs.YtipkgoghodkbfaaDoor
open Go.RowKit
open M
set_option linter.unusedVariables false
set_option linter.unusedSimpArgs false

theorem are_one {w : World} {g eb n : Nat} {v : Value} {es : List E} (h : GM w g eb n v es) (a : Int) (R : Bool) (hR : (!(offB n a)) = R) :
    Calls Tryd.prog 21 #[ptr g, .slice (some ⟨w.heap.size, 0, none⟩) 1 1] (w.alloc (.cells #[.int .i64 a] 3)) fun e w' => e = .returned (.bool R) ∧ Below w.heap.size w w' := by
  have hb : Below w.heap.size w (w.alloc (.cells #[.int .i64 a] 3)) := (Below.refl _ _).alloc (Nat.le_refl _) _
  refine (are_any g eb n w.heap.size 1 [a] _ h.hn (by omega) rfl (h.below hb).c1 (ints_new w _ rfl [a] _ 3 rfl)).mono ?_
  rintro e w' ⟨rfl, hw⟩
  exact ⟨by rw [← hR]; simp, hb.trans (hw.mono hb.size)⟩

def reachL (n : Nat) (es : List E) (a : Int) : List Nat := if offB n a = true then [] else rise (rset es a.toNat)
def reachB (n : Nat) (es : List E) (a b : Int) : Bool := (!([a, b].any (offB n))) && rB es a.toNat b.toNat

set_option maxRecDepth 1000000 in
set_option maxHeartbeats 2000000 in
theorem reaches_any {w : World} {g eb n : Nat} {v : Value} {es : List E} (h : GM w g eb n v es) (hT : Tab w) (h0 : 0 < w.heap.size) (a b : Int) :
    Calls Tryd.prog 20 #[ptr g, .int .i64 a, .int .i64 b] w fun e w' => e = .returned (.bool (reachB n es a b)) ∧ Below w.heap.size w w' := by
  unfold reachB
  cases hR : (!([a, b].any (offB n))) with
  | false =>
    have k := are_two h a b _ hR
    clear hR h hT
    go_enter Tryd.func20, Tryd.ntmps20
    go_wp2_with (go_at_call 21; refine k.mono ?_; rintro e w1 ⟨rfl, hb⟩)
    go_ret
    exact ⟨rfl, hb⟩
  | true =>
    have k := are_two h a b _ hR
    have hr : 0 ≤ a ∧ a < n ∧ 0 ≤ b ∧ b < n := by simp [offB] at hR; omega
    obtain ⟨x, rfl⟩ : ∃ x : Nat, a = x := ⟨a.toNat, by omega⟩
    obtain ⟨y, rfl⟩ : ∃ y : Nat, b = y := ⟨b.toNat, by omega⟩
    simp only [Int.toNat_natCast, Bool.true_and]
    have hn := h.hn
    have kr : ∀ w1, Below w.heap.size w w1 → Calls Tryd.prog 36 #[ptr g, .int .i64 x] w1 fun e w' => e = .returned (.int .u64 (rset es x : Nat)) ∧ Hid (Below w.heap.size w w') := fun w1 hb => by
      refine (reached_any (h.below hb) (tab_below hT h0 hb) (Nat.lt_of_lt_of_le h0 hb.size) x (by omega)).mono ?_
      rintro e w' ⟨rfl, hw⟩
      exact ⟨rfl, hb.trans (hw.mono hb.size)⟩
    have kh : ∀ W : World, Calls Tryd.prog 22 #[.int .u64 (rset es x : Nat), .int .i64 y] W fun e w' => e = .returned (.bool (rB es x y)) ∧ w' = W := fun W => by
      have := has_any (rset es x) y W (rset_lt _ _) (by omega)
      rw [rset_bit _ _ _ (by omega)] at this
      exact this
    clear hR h hT hr
    generalize rB es x y = R at *
    generalize rset es x = S at *
    go_enter Tryd.func20, Tryd.ntmps20
    go_wp2_with (first | (go_at_call 21; refine k.mono ?_; rintro e w1 ⟨rfl, hb⟩) | (go_at_call 36; refine (kr _ hb).mono ?_; rintro e w2 ⟨rfl, hb2⟩) | (go_at_call 22; refine (kh _).mono ?_; rintro e w3 ⟨rfl, rfl⟩))
    go_ret
    exact ⟨rfl, hb2.out⟩

/-- Numbers in a slice. -/
def IAt (w : World) (v : Value) (xs : List Nat) : Prop := ∃ ao cap, v = .slice ao xs.length cap ∧ ∀ i (h : i < xs.length), ∃ r, ao = some ⟨r, 0, none⟩ ∧ r < w.heap.size ∧ w.cell? ⟨r, i, none⟩ = some (.int .i64 (xs[i] : Nat))
theorem IAt.below {w w' : World} {v : Value} {xs : List Nat} (h : IAt w v xs) (hb : Below w.heap.size w w') : IAt w' v xs := by
  obtain ⟨ao, cap, rfl, hc⟩ := h
  refine ⟨ao, cap, rfl, fun i hi => ?_⟩
  obtain ⟨r, h1, h2, h3⟩ := hc i hi
  exact ⟨r, h1, Nat.lt_of_lt_of_le h2 hb.size, by rw [hb.cell (p := ⟨r, _, none⟩) h2]; exact h3⟩
theorem own_iat {w : World} {base : Nat} {v : Value} {xs : List Nat} (h : OwnI w base v xs) : IAt w v xs := by
  rcases h.2 with ⟨rfl, hz⟩ | ⟨r, cap, cur, rfl, hb, hg, _⟩
  · exact ⟨none, 0, by rw [hz], fun i hi => by omega⟩
  · refine ⟨some ⟨r, 0, none⟩, cap, rfl, fun i hi => ⟨r, rfl, block_lt hg, ?_⟩⟩
    have := h.cells (g := r) rfl i (.int .i64 (xs[i] : Nat)) (by simp [hi])
    simpa [Addr.add_lit] using this
theorem lit_iat (w : World) (xs : List Nat) (t : TypeId) (b n : Nat) (arr : Array Value) (ha : arr = (xs.map fun x => Value.int .i64 (x : Nat)).toArray) (hb : w.heap.size = b) (hn : xs.length = n) : IAt (w.alloc (.cells arr t)) (.slice (some ⟨b, 0, none⟩) n n) xs := by
  subst ha hb hn
  refine ⟨_, _, rfl, fun i hi => ⟨_, rfl, by simp, ?_⟩⟩
  simp [hi]

set_option maxRecDepth 1000000 in
set_option maxHeartbeats 2000000 in
theorem ints_any {w : World} {va vb : Value} {xs ys : List Nat} (ha : IAt w va xs) (hb : IAt w vb ys) (hl : xs.length ≤ 1000000) :
    Calls Tryd.prog 19 #[va, vb] w fun e w' => e = .returned (.bool (decide (xs = ys))) ∧ Below w.heap.size w w' := by
  obtain ⟨aa, ca, rfl, hca⟩ := ha
  obtain ⟨ab, cb, rfl, hcb⟩ := hb
  by_cases hxy : xs.length = ys.length
  · have HX := hide_it hxy
    have HA := hide_it hca
    have HB := hide_it hcb
    obtain ⟨m, hm⟩ : ∃ m, xs.length = m := ⟨_, rfl⟩
    have HM := hide_it hm
    rw [← hxy, hm]
    rw [hm] at hl
    obtain ⟨R, hR⟩ : ∃ R, decide (xs = ys) = R := ⟨_, rfl⟩
    have HR := hide_it hR
    rw [hR]
    clear hca hcb hxy hm hR
    go_enter Tryd.func19, Tryd.ntmps19
    go_wp2
    go_loopw [5] (fun i W => Hid (Below w.heap.size w W) ∧ ∃ k : Nat, k ≤ m ∧ i = .int .i64 k ∧ Hid (xs.take k = ys.take k)) (fun i _ => m - (intOf i).toNat)
    case atStart => exact ⟨Below.refl _ _, 0, Nat.zero_le _, rfl, rfl⟩
    case round =>
      obtain ⟨hBr, k, hk, rfl, HK⟩ := hrel
      by_cases hlt : k < m
      · have hx : k < xs.length := by rw [HM.out]; exact hlt
        have hy : k < ys.length := by rw [← HX.out]; exact hx
        obtain ⟨r1, rfl, hr1, c1⟩ := HA.out k hx
        obtain ⟨r2, rfl, hr2, c2⟩ := HB.out k hy
        rw [← hBr.out.cell (p := ⟨r1, k, none⟩) hr1] at c1
        rw [← hBr.out.cell (p := ⟨r2, k, none⟩) hr2] at c2
        have HE : Hid (xs[k] = ys[k] → xs.take (k + 1) = ys.take (k + 1)) := fun e => by rw [List.take_succ_eq_append_getElem hx, List.take_succ_eq_append_getElem hy, HK.out, e]
        have HN : Hid (xs[k] ≠ ys[k] → xs ≠ ys) := fun e h => by subst h; exact e rfl
        generalize xs[k] = x at *
        generalize ys[k] = y at *
        by_cases hxy : x = y
        · subst hxy
          have HE' := hide_it (HE.out rfl)
          clear HN HE
          go_wp2
          go_region
          all_goals
            go_wp2
            go_roundw
            case rel => exact ⟨hBr.out.drew, k + 1, by omega, by go_num, HE'⟩
            case measure => simp [intOf]; omega
        · have hne : ((x : Int) != (y : Int)) = true := by simp; omega
          have hne2 : ¬ ((x : Int) = (y : Int)) := by omega
          have HN' := hide_it (HN.out hxy)
          clear HN HE
          go_wp2
          go_region
          all_goals
            go_wp2
            go_ret
            exact ⟨ret_bool (by rw [← HR.out]; simp [HN'.out]), hBr.out.drew⟩
      · go_wp2
        go_ret
        refine ⟨ret_bool ?_, hBr.out⟩
        rw [← HR.out]
        have e := HK.out
        rw [List.take_of_length_le (by rw [HM.out]; omega), List.take_of_length_le (by rw [← HX.out, HM.out]; omega)] at e
        simp [e]
  · have hne : ((xs.length : Int) != (ys.length : Int)) = true := by simp; omega
    have e : decide (xs = ys) = false := by simp; intro e; exact hxy (by rw [e])
    rw [e]
    clear e hca hcb
    generalize xs.length = m1 at *
    generalize ys.length = m2 at *
    go_enter Tryd.func19, Tryd.ntmps19
    go_wp2
    go_ret
    exact ⟨rfl, Below.refl _ _⟩
end Go.Proofs.YtipkgoghodkbfaaDoor
