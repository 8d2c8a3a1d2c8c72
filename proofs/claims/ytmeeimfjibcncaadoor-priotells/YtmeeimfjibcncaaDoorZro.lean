/- Rows of numbers, below nought too; ints; requests that came in. -/
import Derived.Test.YtmeeimfjibcncaaDoorPri
namespace Go.Proofs.YtmeeimfjibcncaaDoor
open Go.RowKit
open M
set_option linter.unusedVariables false
set_option linter.unusedSimpArgs false

abbrev OwnZ (w : World) (base : Nat) (v : Value) (xs : List Int) : Prop := w.ownsRow base 3 1 v xs.length (xs.map fun x => Value.int .i64 x)
def zs (l : List Nat) : List Int := l.map fun (x : Nat) => (x : Int)
theorem zs_len (l : List Nat) : (zs l).length = l.length := by simp [zs]
theorem zs_at (l : List Nat) (i : Nat) (h : i < (zs l).length) : (zs l)[i] = ((l[i]'(by rw [← zs_len]; exact h) : Nat) : Int) := by simp [zs]
theorem zs_inj {l m : List Nat} (h : zs l = zs m) : l = m := by
  have : ∀ (l m : List Nat), zs l = zs m → l = m := by
    intro l
    induction l with
    | nil => intro m h; cases m with
      | nil => rfl
      | cons x r => simp [zs] at h
    | cons y s ih => intro m h; cases m with
      | nil => simp [zs] at h
      | cons x r =>
        simp only [zs, List.map_cons, List.cons.injEq] at h
        have h1 : y = x := by omega
        rw [h1, ih r h.2]
  exact this l m h
theorem own_z {w : World} {base : Nat} {v : Value} {xs : List Nat} (h : OwnI w base v xs) : OwnZ w base v (zs xs) := by
  unfold OwnZ
  have e : (zs xs).map (fun x => Value.int .i64 x) = xs.map fun x => Value.int .i64 (x : Nat) := by simp [zs]
  rw [e, zs_len]
  exact h

/-- Numbers in a slice. -/
def ZAt (w : World) (v : Value) (xs : List Int) : Prop := ∃ ao cap, v = .slice ao xs.length cap ∧ ∀ i (h : i < xs.length), ∃ r, ao = some ⟨r, 0, none⟩ ∧ r < w.heap.size ∧ w.cell? ⟨r, i, none⟩ = some (.int .i64 xs[i])
theorem ZAt.below {w w' : World} {v : Value} {xs : List Int} (h : ZAt w v xs) {B : Nat} (hb : Below B w w') (hB : w.heap.size ≤ B) : ZAt w' v xs := by
  obtain ⟨ao, cap, rfl, hc⟩ := h
  refine ⟨ao, cap, rfl, fun i hi => ?_⟩
  obtain ⟨r, h1, h2, h3⟩ := hc i hi
  exact ⟨r, h1, Nat.lt_of_lt_of_le h2 hb.size, by rw [hb.cell (p := ⟨r, _, none⟩) (Nat.lt_of_lt_of_le h2 hB)]; exact h3⟩
theorem ZAt.keep {w w' : World} {v : Value} {xs : List Int} (h : ZAt w v xs) (hs : w.heap.size ≤ w'.heap.size) (hk : ∀ k, v.ownBlock = some k → k < w.heap.size → w'.heap[k]? = w.heap[k]?) : ZAt w' v xs := by
  obtain ⟨ao, cap, rfl, hc⟩ := h
  refine ⟨ao, cap, rfl, fun i hi => ?_⟩
  obtain ⟨r, h1, h2, h3⟩ := hc i hi
  refine ⟨r, h1, Nat.lt_of_lt_of_le h2 hs, ?_⟩
  rw [World.cell?_of_block (w := w) (hk r (by rw [h1]; rfl) h2)]
  exact h3
theorem own_zat {w : World} {base : Nat} {v : Value} {xs : List Int} (h : OwnZ w base v xs) : ZAt w v xs := by
  rcases h.2 with ⟨rfl, hz⟩ | ⟨r, cap, cur, rfl, hb, hg, _⟩
  · exact ⟨none, 0, by rw [hz], fun i hi => by omega⟩
  · refine ⟨some ⟨r, 0, none⟩, cap, rfl, fun i hi => ⟨r, rfl, block_lt hg, ?_⟩⟩
    have := h.cells (g := r) rfl i (.int .i64 xs[i]) (by simp [hi])
    simpa [Addr.add_lit] using this
theorem lit_zat (w : World) (xs : List Int) (t : TypeId) (b n : Nat) (arr : Array Value) (ha : arr = (xs.map fun x => Value.int .i64 x).toArray) (hb : w.heap.size = b) (hn : xs.length = n) : ZAt (w.alloc (.cells arr t)) (.slice (some ⟨b, 0, none⟩) n n) xs := by
  subst ha hb hn
  refine ⟨_, _, rfl, fun i hi => ⟨_, rfl, by simp, ?_⟩⟩
  simp [hi]
theorem ZAt.len {w : World} {ao : Option Addr} {n cap : Nat} {xs : List Int} (h : ZAt w (.slice ao n cap) xs) : n = xs.length := by
  obtain ⟨a, c, e, _⟩ := h
  cases e
  rfl
theorem ZAt.at {w : World} {ao : Option Addr} {n cap : Nat} {xs : List Int} (h : ZAt w (.slice ao n cap) xs) (i : Nat) (hi : i < xs.length) : ∃ r, ao = some ⟨r, 0, none⟩ ∧ r < w.heap.size ∧ w.cell? ⟨r, i, none⟩ = some (.int .i64 xs[i]) := by
  obtain ⟨a, c, e, hc⟩ := h
  cases e
  exact hc i hi
theorem ZAt.form {w : World} {v : Value} {xs : List Int} (h : ZAt w v xs) : ∃ ao cap, v = .slice ao xs.length cap := by
  obtain ⟨ao, cap, rfl, _⟩ := h
  exact ⟨ao, cap, rfl⟩

set_option maxRecDepth 1000000 in
set_option maxHeartbeats 2000000 in
theorem zints_any {w : World} {va vb : Value} {xs ys : List Int} (ha : ZAt w va xs) (hb : ZAt w vb ys) (hl : xs.length ≤ 1000000) :
    Calls Tryd.prog 12 #[va, vb] w fun e w' => e = .returned (.bool (decide (xs = ys))) ∧ Below w.heap.size w w' := by
  obtain ⟨aa, ca, rfl, hca⟩ := ha
  obtain ⟨ab, cb, rfl, hcb⟩ := hb
  by_cases hxy : xs.length = ys.length
  · have HX := hide_it hxy
    have HA := hide_it hca
    have HB := hide_it hcb
    obtain ⟨m, hm⟩ : ∃ m, xs.length = m := ⟨_, rfl⟩
    have HM := hide_it hm
    rw [← hxy, hm]
    rw [hm] at hl
    obtain ⟨R, hR⟩ : ∃ R, decide (xs = ys) = R := ⟨_, rfl⟩
    have HR := hide_it hR
    rw [hR]
    clear hca hcb hxy hm hR
    go_enter Tryd.func12, Tryd.ntmps12
    go_wp2
    go_loopw [5] (fun i W => Hid (Below w.heap.size w W) ∧ ∃ k : Nat, k ≤ m ∧ i = .int .i64 k ∧ Hid (xs.take k = ys.take k)) (fun i _ => m - (intOf i).toNat)
    case atStart => exact ⟨Below.refl _ _, 0, Nat.zero_le _, rfl, rfl⟩
    case round =>
      obtain ⟨hBr, k, hk, rfl, HK⟩ := hrel
      by_cases hlt : k < m
      · have hx : k < xs.length := by rw [HM.out]; exact hlt
        have hy : k < ys.length := by rw [← HX.out]; exact hx
        obtain ⟨r1, rfl, hr1, c1⟩ := HA.out k hx
        obtain ⟨r2, rfl, hr2, c2⟩ := HB.out k hy
        rw [← hBr.out.cell (p := ⟨r1, k, none⟩) hr1] at c1
        rw [← hBr.out.cell (p := ⟨r2, k, none⟩) hr2] at c2
        have HE : Hid (xs[k] = ys[k] → xs.take (k + 1) = ys.take (k + 1)) := fun e => by rw [List.take_succ_eq_append_getElem hx, List.take_succ_eq_append_getElem hy, HK.out, e]
        have HN : Hid (xs[k] ≠ ys[k] → xs ≠ ys) := fun e h => by subst h; exact e rfl
        generalize xs[k] = x at *
        generalize ys[k] = y at *
        by_cases hxy : x = y
        · subst hxy
          have HE' := hide_it (HE.out rfl)
          clear HN HE
          go_wp2
          go_region
          all_goals
            go_wp2
            go_roundw
            case rel => exact ⟨hBr.out.drew, k + 1, by omega, by go_num, HE'⟩
            case measure => simp [intOf]; omega
        · have hne : (x != y) = true := by simp; omega
          have hne2 : ¬ (x = y) := hxy
          have HN' := hide_it (HN.out hxy)
          clear HN HE
          go_wp2
          go_region
          all_goals
            go_wp2
            go_ret
            exact ⟨ret_bool (by rw [← HR.out]; simp [HN'.out]), hBr.out.drew⟩
      · go_wp2
        go_ret
        refine ⟨ret_bool ?_, hBr.out⟩
        rw [← HR.out]
        have e := HK.out
        rw [List.take_of_length_le (by rw [HM.out]; omega), List.take_of_length_le (by rw [← HX.out, HM.out]; omega)] at e
        simp [e]
  · have hne : ((xs.length : Int) != (ys.length : Int)) = true := by simp; omega
    have e : decide (xs = ys) = false := by simp; intro e; exact hxy (by rw [e])
    rw [e]
    clear e hca hcb
    generalize xs.length = m1 at *
    generalize ys.length = m2 at *
    go_enter Tryd.func12, Tryd.ntmps12
    go_wp2
    go_ret
    exact ⟨rfl, Below.refl _ _⟩

/-- The requests of a slice: each in its three cells. -/
def QIn (w : World) (a : Option Addr) (Q : List Rq) : Prop :=
  ∀ i (h : i < Q.length), ∃ b o, a = some ⟨b, o, none⟩ ∧ b < w.heap.size ∧ w.cell? ⟨b, o + i * 3, none⟩ = some (.int .i64 Q[i].1) ∧ w.cell? ⟨b, o + i * 3 + 1, none⟩ = some (.int .i64 Q[i].2.1) ∧ w.cell? ⟨b, o + i * 3 + 2, none⟩ = some (.int .i64 Q[i].2.2)
theorem QIn.below {w w' : World} {a : Option Addr} {Q : List Rq} (h : QIn w a Q) {B : Nat} (hb : Below B w w') (hB : w.heap.size ≤ B) : QIn w' a Q := by
  intro i hi
  obtain ⟨b, o, h1, h2, h3, h4, h5⟩ := h i hi
  have h2' := Nat.lt_of_lt_of_le h2 hB
  exact ⟨b, o, h1, Nat.lt_of_lt_of_le h2 hb.size, by rw [hb.cell (p := ⟨b, _, none⟩) h2']; exact h3, by rw [hb.cell (p := ⟨b, _, none⟩) h2']; exact h4, by rw [hb.cell (p := ⟨b, _, none⟩) h2']; exact h5⟩
def blkOf (a : Option Addr) : Option Nat := a.map (·.block)
theorem QIn.keep {w w' : World} {a : Option Addr} {Q : List Rq} (h : QIn w a Q) (hs : w.heap.size ≤ w'.heap.size) (hk : ∀ k, blkOf a = some k → k < w.heap.size → w'.heap[k]? = w.heap[k]?) : QIn w' a Q := by
  intro i hi
  obtain ⟨b, o, h1, h2, h3, h4, h5⟩ := h i hi
  have e := hk b (by rw [h1]; rfl) h2
  exact ⟨b, o, h1, Nat.lt_of_lt_of_le h2 hs, by rw [World.cell?_of_block (w := w) e]; exact h3, by rw [World.cell?_of_block (w := w) e]; exact h4, by rw [World.cell?_of_block (w := w) e]; exact h5⟩
theorem QIn.take {w : World} {a : Option Addr} {Q : List Rq} (h : QIn w a Q) (k : Nat) : QIn w a (Q.take k) := by
  intro i hi
  have hi' : i < Q.length := by simp at hi; omega
  obtain ⟨b, o, h1, h2, h3, h4, h5⟩ := h i hi'
  have e : (Q.take k)[i] = Q[i] := by simp
  exact ⟨b, o, h1, h2, by rw [e]; exact h3, by rw [e]; exact h4, by rw [e]; exact h5⟩
theorem QIn.nil (w : World) (a : Option Addr) : QIn w a [] := fun i h => by simp at h
end Go.Proofs.YtmeeimfjibcncaaDoor
