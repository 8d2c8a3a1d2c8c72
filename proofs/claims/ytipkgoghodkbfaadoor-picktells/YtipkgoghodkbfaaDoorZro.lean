/- Rows of numbers, below nought too, at any place of a block; ints. -/
import Derived.Test.YtipkgoghodkbfaaDoorMad
import Derived.Lib.MinMax
namespace Go.Proofs.YtipkgoghodkbfaaDoor
open Go.RowKit
open M
set_option linter.unusedVariables false
set_option linter.unusedSimpArgs false

abbrev OwnZ (w : World) (base : Nat) (v : Value) (xs : List Int) : Prop := w.ownsRow base 3 1 v xs.length (xs.map fun x => Value.int .i64 x)

/-- Numbers in a slice. -/
def NIn (w : World) (a : Option Addr) (xs : List Int) : Prop := ∀ i (h : i < xs.length), ∃ r o, a = some ⟨r, o, none⟩ ∧ r < w.heap.size ∧ w.cell? ⟨r, o + i, none⟩ = some (.int .i64 xs[i])
theorem NIn.below {w w' : World} {a : Option Addr} {xs : List Int} (h : NIn w a xs) {B : Nat} (hb : Below B w w') (hB : w.heap.size ≤ B) : NIn w' a xs := by
  intro i hi
  obtain ⟨r, o, h1, h2, h3⟩ := h i hi
  exact ⟨r, o, h1, Nat.lt_of_lt_of_le h2 hb.size, by rw [hb.cell (p := ⟨r, _, none⟩) (Nat.lt_of_lt_of_le h2 hB)]; exact h3⟩
def blkOf (a : Option Addr) : Option Nat := a.map (·.block)
theorem NIn.keep {w w' : World} {a : Option Addr} {xs : List Int} (h : NIn w a xs) (hs : w.heap.size ≤ w'.heap.size) (hk : ∀ k, blkOf a = some k → k < w.heap.size → w'.heap[k]? = w.heap[k]?) : NIn w' a xs := by
  intro i hi
  obtain ⟨r, o, h1, h2, h3⟩ := h i hi
  exact ⟨r, o, h1, Nat.lt_of_lt_of_le h2 hs, by rw [World.cell?_of_block (w := w) (hk r (by rw [h1]; rfl) h2)]; exact h3⟩
theorem NIn.take {w : World} {a : Option Addr} {xs : List Int} (h : NIn w a xs) (k : Nat) : NIn w a (xs.take k) := by
  intro i hi
  have hi' : i < xs.length := by simp at hi; omega
  obtain ⟨r, o, h1, h2, h3⟩ := h i hi'
  exact ⟨r, o, h1, h2, by rw [h3]; simp⟩
theorem NIn.nil (w : World) (a : Option Addr) : NIn w a [] := fun i h => by simp at h
theorem own_nin {w : World} {base : Nat} {v : Value} {xs : List Int} (h : OwnZ w base v xs) : ∃ ao cap, v = .slice ao xs.length cap ∧ NIn w ao xs := by
  rcases h.2 with ⟨rfl, hz⟩ | ⟨r, cap, cur, rfl, hb, hg, _⟩
  · exact ⟨none, 0, by rw [hz], fun i hi => by omega⟩
  · refine ⟨some ⟨r, 0, none⟩, cap, rfl, fun i hi => ⟨r, 0, rfl, block_lt hg, ?_⟩⟩
    have := h.cells (g := r) rfl i (.int .i64 xs[i]) (by simp [hi])
    simpa [Addr.add_lit] using this
theorem lit_nin (w : World) (xs : List Int) (t : TypeId) (arr : Array Value) (ha : arr = (xs.map fun x => Value.int .i64 x).toArray) : NIn (w.alloc (.cells arr t)) (some ⟨w.heap.size, 0, none⟩) xs := by
  subst ha
  intro i hi
  exact ⟨_, 0, rfl, by simp, by simp [hi]⟩
theorem ownz_nil (w : World) (base : Nat) : OwnZ w base (.slice none 0 0) [] := World.ownsRow_nil _ _ _ _
theorem ownz_new (w : World) : OwnZ (w.alloc (.cells #[] 3)) w.heap.size (.slice (some ⟨w.heap.size, 0, none⟩) 0 0) [] := World.ownsRow_made w #[] 0 (Nat.le_refl _) (by simp [maxLen]) (by simp)
theorem ownz_snoc {w : World} {base : Nat} {v : Value} {xs : List Int} {x : Int} (h : w.ownsRow base 3 1 v (xs.length + 1) (xs.map (fun x => Value.int .i64 x) ++ [.int .i64 x])) : OwnZ w base v (xs ++ [x]) := by
  show w.ownsRow base 3 1 v (xs ++ [x]).length ((xs ++ [x]).map _)
  rw [List.length_append, List.map_append]
  exact h
theorem lin_keep {w w' : World} {a : Option Addr} {ls : List (Int × Int)} (h : LIn w a ls) (hs : w.heap.size ≤ w'.heap.size) (hk : ∀ k, blkOf a = some k → k < w.heap.size → w'.heap[k]? = w.heap[k]?) : LIn w' a ls := by
  intro i hi
  obtain ⟨b, o, h1, h2, h3, h4⟩ := h i hi
  have e := hk b (by rw [h1]; rfl) h2
  exact ⟨b, o, h1, Nat.lt_of_lt_of_le h2 hs, by rw [World.cell?_of_block (w := w) e]; exact h3, by rw [World.cell?_of_block (w := w) e]; exact h4⟩
theorem lin_take {w : World} {a : Option Addr} {ls : List (Int × Int)} (h : LIn w a ls) (k : Nat) : LIn w a (ls.take k) := by
  intro i hi
  have hi' : i < ls.length := by simp at hi; omega
  obtain ⟨b, o, h1, h2, h3, h4⟩ := h i hi'
  exact ⟨b, o, h1, h2, by rw [h3]; simp, by rw [h4]; simp⟩

set_option maxRecDepth 1000000 in
set_option maxHeartbeats 2000000 in
theorem zints_any {w : World} {aa ab : Option Addr} {xs ys : List Int} {m n ca cb : Nat} (ha : NIn w aa xs) (hb : NIn w ab ys) (hm : xs.length = m) (hn : ys.length = n) (hl : m ≤ 1000000) :
    Calls Tryd.prog 19 #[.slice aa m ca, .slice ab n cb] w fun e w' => e = .returned (.bool (decide (xs = ys))) ∧ Below w.heap.size w w' := by
  by_cases hxy : m = n
  · subst hxy
    have HA := hide_it ha
    have HB := hide_it hb
    have HM := hide_it hm
    have HN := hide_it hn
    obtain ⟨R, hR⟩ : ∃ R, decide (xs = ys) = R := ⟨_, rfl⟩
    have HR := hide_it hR
    rw [hR]
    clear ha hb hm hn hR
    go_enter Tryd.func19, Tryd.ntmps19
    go_wp2
    go_loopw [5] (fun i W => Hid (Below w.heap.size w W) ∧ ∃ k : Nat, k ≤ m ∧ i = .int .i64 k ∧ Hid (xs.take k = ys.take k)) (fun i _ => m - (intOf i).toNat)
    case atStart => exact ⟨Below.refl _ _, 0, Nat.zero_le _, rfl, rfl⟩
    case round =>
      obtain ⟨hBr, k, hk, rfl, HK⟩ := hrel
      by_cases hlt : k < m
      · have hx : k < xs.length := by rw [HM.out]; exact hlt
        have hy : k < ys.length := by rw [HN.out]; exact hlt
        obtain ⟨r1, o1, rfl, hr1, c1⟩ := HA.out k hx
        obtain ⟨r2, o2, rfl, hr2, c2⟩ := HB.out k hy
        rw [← hBr.out.cell (p := ⟨r1, _, none⟩) hr1] at c1
        rw [← hBr.out.cell (p := ⟨r2, _, none⟩) hr2] at c2
        have HE : Hid (xs[k] = ys[k] → xs.take (k + 1) = ys.take (k + 1)) := fun e => by rw [List.take_succ_eq_append_getElem hx, List.take_succ_eq_append_getElem hy, HK.out, e]
        have HN : Hid (xs[k] ≠ ys[k] → xs ≠ ys) := fun e h => by subst h; exact e rfl
        generalize xs[k] = x at *
        generalize ys[k] = y at *
        by_cases hxy : x = y
        · subst hxy
          have HE' := hide_it (HE.out rfl)
          clear HN HE
          go_wp2
          go_region
          all_goals
            go_wp2
            go_roundw
            case rel => exact ⟨hBr.out.drew, k + 1, by omega, by go_num, HE'⟩
            case measure => simp [intOf]; omega
        · have hne : (x != y) = true := by simp; omega
          have hne2 : ¬ (x = y) := hxy
          have HN' := hide_it (HN.out hxy)
          clear HN HE
          go_wp2
          go_region
          all_goals
            go_wp2
            go_ret
            exact ⟨ret_bool (by rw [← HR.out]; simp [HN'.out]), hBr.out.drew⟩
      · go_wp2
        go_ret
        refine ⟨ret_bool ?_, hBr.out⟩
        rw [← HR.out]
        have e := HK.out
        rw [List.take_of_length_le (by rw [HM.out]; omega), List.take_of_length_le (by rw [HN.out]; omega)] at e
        simp [e]
  · have hne : ((m : Int) != (n : Int)) = true := by simp; omega
    have e : decide (xs = ys) = false := by simp; intro e; exact hxy (by rw [← hm, ← hn, e])
    rw [e]
    clear e ha hb hm hn
    go_enter Tryd.func19, Tryd.ntmps19
    go_wp2
    go_ret
    exact ⟨rfl, Below.refl _ _⟩
end Go.Proofs.YtipkgoghodkbfaaDoor
