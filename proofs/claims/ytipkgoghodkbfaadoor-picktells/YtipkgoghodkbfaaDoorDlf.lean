/- slices.DeleteFunc of a row of tasks: those that a function picks go. -/
import Derived.Test.YtipkgoghodkbfaaDoorBst
import Derived.Lib.SliceRun
namespace Go.Proofs.YtipkgoghodkbfaaDoor
open Go.RowKit
open M
set_option linter.unusedVariables false
set_option linter.unusedSimpArgs false

theorem zero3 (w : World) : (zeroValue 3).run Tryd.prog w = .ok (.int .i64 0) w := by
  obtain ⟨i0, hi, hz0, hz1, hz2⟩ := info_parts info3
  simp [zeroValue, typeInfo, hi, hz0]
/-- A store of many cells. -/
theorem heap_setCells (b : Nat) (t : TypeId) (fr : Nat × Nat) : ∀ (vs : List Value) (o : Nat) (w : World) (cur : Array Value), w.heap[b]? = some (.cells cur t fr) → ∃ cur', (w.setCells b o vs).heap[b]? = some (.cells cur' t fr) ∧ cur'.size = cur.size ∧ ∀ i, i < cur.size → cur'[i]? = if o ≤ i ∧ i < o + vs.length then vs[i - o]? else cur[i]?
  | [], o, w, cur, h => ⟨cur, h, rfl, fun i hi => by rw [if_neg (by simp)]⟩
  | v :: vs, o, w, cur, h => by
    obtain ⟨cur', h1, h2, h3⟩ := heap_setCells b t fr vs (o + 1) (w.setCell ⟨b, o, none⟩ v) _ (heap_setCell_at h v)
    refine ⟨cur', h1, by simpa using h2, fun i hi => ?_⟩
    rw [h3 i (by simpa using hi)]
    by_cases e : i = o
    · subst e
      rw [if_neg (by omega), if_pos (by simp), Nat.sub_self, Array.getElem?_setIfInBounds, if_pos rfl, if_pos hi]; rfl
    · by_cases e2 : o + 1 ≤ i ∧ i < o + 1 + vs.length
      · rw [if_pos e2, if_pos (by simp only [List.length_cons]; omega), show i - o = (i - (o + 1)) + 1 by omega, List.getElem?_cons_succ]
      · rw [if_neg e2, if_neg (by simp only [List.length_cons]; omega), Array.getElem?_setIfInBounds, if_neg (fun q => e q.symm)]
theorem Turn.setCells {F : Nat → Prop} {a : World} {b : Nat} (hb : F b) : ∀ (vs : List Value) (o : Nat) (w : World), Turn F a w → Turn F a (w.setCells b o vs)
  | [], o, w, h => h
  | v :: vs, o, w, h => Turn.setCells hb vs (o + 1) _ (h.setCell (p := ⟨b, o, none⟩) (.inl hb) v)
theorem Turn.drewN {F : Nat → Prop} {a w : World} (h : Turn F a w) (n : Nat) : Turn F a (w.drewN n) := ⟨h.os, h.tape, h.output, h.size, h.block⟩

def keepL (p : Int → Bool) (xs : List Int) (j : Nat) : List Int := (xs.take j).filter fun x => !p x
theorem keepL_step (p : Int → Bool) (xs : List Int) (j : Nat) (h : j < xs.length) : keepL p xs (j + 1) = keepL p xs j ++ (if p xs[j] = true then [] else [xs[j]]) := by
  unfold keepL
  rw [List.take_succ_eq_append_getElem h, List.filter_append]
  congr 1
  rw [List.filter_cons, List.filter_nil]
  cases p xs[j] <;> rfl
theorem keepL_len (p : Int → Bool) (xs : List Int) (j : Nat) : (keepL p xs j).length ≤ j := by
  unfold keepL
  refine Nat.le_trans (List.length_filter_le _ _) (by simp; omega)
theorem keepL_none {p : Int → Bool} {xs : List Int} {j : Nat} (hj : j ≤ xs.length) (h : ∀ i (hi : i < xs.length), i < j → p xs[i] = false) : keepL p xs j = xs.take j := by
  unfold keepL
  rw [List.filter_eq_self]
  intro x hx
  obtain ⟨i, hi, rfl⟩ := List.getElem_of_mem hx
  have hi' : i < j := by simp at hi; omega
  have := h i (by omega) hi'
  rw [List.getElem_take, this]
  rfl

/-- The row under way: the first i are those that stay of the first j. -/
structure DS (w W : World) (r cap : Nat) (xs : List Int) (p : Int → Bool) (i j : Nat) : Prop where
  turn : Turn (fun k => k = r) w W
  lt : r < w.heap.size
  ex : ∃ cur, W.heap[r]? = some (.cells cur 3) ∧ cur.size = cap ∧ (∀ x, x < i → cur[x]? = ((keepL p xs j).map fun x => Value.int .i64 x)[x]?) ∧ (∀ x, j ≤ x → x < xs.length → cur[x]? = (xs.map fun x => Value.int .i64 x)[x]?)
  len : i = (keepL p xs j).length
  hij : i < j
  hjn : j ≤ xs.length
  hnc : xs.length ≤ cap
section
variable {w W : World} {r cap : Nat} {xs : List Int} {p : Int → Bool} {i j : Nat}
theorem DS.cell (h : DS w W r cap xs p i j) (hj : j < xs.length) : W.cell? ⟨r, j, none⟩ = some (.int .i64 xs[j]) := by
  obtain ⟨cur, h1, h2, h3, h4⟩ := h.ex
  rw [cell_of_row W _ j _ _ _ h1, h4 j (Nat.le_refl _) hj]
  simp [hj]
theorem DS.old (h : DS w W r cap xs p i j) : ∃ u, W.cell? ⟨r, i, none⟩ = some u := by
  obtain ⟨cur, h1, h2, h3, h4⟩ := h.ex
  have := h.hij; have := h.hjn; have := h.hnc
  exact ⟨cur[i]'(by omega), by rw [cell_of_row W _ i _ _ _ h1, Array.getElem?_eq_getElem (by omega)]⟩
theorem DS.fro (h : DS w W r cap xs p i j) (x : Nat) : W.frozen? ⟨r, x, none⟩ = false := by
  obtain ⟨cur, h1, _⟩ := h.ex
  simp [World.frozen?, h1]
theorem DS.drewN (h : DS w W r cap xs p i j) (k : Nat) : DS w (W.drewN k) r cap xs p i j := ⟨h.turn.drewN k, h.lt, h.ex, h.len, h.hij, h.hjn, h.hnc⟩
theorem DS.drop (h : DS w W r cap xs p i j) (hj : j < xs.length) (hp : p xs[j] = true) : DS w W r cap xs p i (j + 1) := by
  have hk : keepL p xs (j + 1) = keepL p xs j := by rw [keepL_step p xs j hj, if_pos hp, List.append_nil]
  obtain ⟨cur, h1, h2, h3, h4⟩ := h.ex
  have := h.hij
  exact ⟨h.turn, h.lt, ⟨cur, h1, h2, by rw [hk]; exact h3, fun x hx => h4 x (by omega)⟩, by rw [hk]; exact h.len, by omega, hj, h.hnc⟩
theorem DS.keep (h : DS w W r cap xs p i j) (hj : j < xs.length) (hp : p xs[j] = false) : DS w (W.setCell ⟨r, i, none⟩ (.int .i64 xs[j])) r cap xs p (i + 1) (j + 1) := by
  have hk : keepL p xs (j + 1) = keepL p xs j ++ [xs[j]] := by rw [keepL_step p xs j hj, if_neg (by rw [hp]; exact Bool.false_ne_true)]
  obtain ⟨cur, h1, h2, h3, h4⟩ := h.ex
  have hij := h.hij
  have hnc := h.hnc
  have hl := h.len
  refine ⟨h.turn.setCell (.inl rfl) _, h.lt, ⟨_, heap_setCell_at h1 _, by simpa using h2, fun x hx => ?_, fun x hx hxn => ?_⟩, by rw [hk, List.length_append, ← hl]; rfl, by omega, hj, hnc⟩
  · rw [hk, Array.getElem?_setIfInBounds, List.map_append]
    by_cases e : i = x
    · subst e
      rw [if_pos rfl, if_pos (by omega), List.getElem?_append_right (by simp; omega)]
      simp [← hl]
    · rw [if_neg e, h3 x (by omega), List.getElem?_append_left (by simp; omega)]
  · rw [Array.getElem?_setIfInBounds, if_neg (by omega)]
    exact h4 x (by omega) hxn
theorem DS.clear (h : DS w W r cap xs p i xs.length) {base : Nat} (hb : base ≤ r) (hcm : cap ≤ maxLen) : OwnZ (W.setCells r i (List.replicate (xs.length - i) (.int .i64 0))) base (.slice (some ⟨r, 0, none⟩) i cap) (keepL p xs xs.length) ∧ Turn (fun k => k = r) w (W.setCells r i (List.replicate (xs.length - i) (.int .i64 0))) := by
  obtain ⟨cur, h1, h2, h3, _⟩ := h.ex
  have hij := h.hij
  have hnc := h.hnc
  have hl := h.len
  obtain ⟨cur', g1, g2, g3⟩ := heap_setCells r 3 (0, 0) (List.replicate (xs.length - i) (.int .i64 0)) i W cur h1
  refine ⟨?_, Turn.setCells (F := fun k => k = r) rfl _ _ _ h.turn⟩
  unfold OwnZ
  rw [← hl]
  refine ⟨by simp [hl], .inr ⟨r, cap, cur', rfl, hb, g1, by omega, hcm, by omega, ?_⟩⟩
  apply List.ext_getElem?
  intro x
  by_cases hx : x < i
  · rw [List.getElem?_take_of_lt (by omega), Array.getElem?_toList, g3 x (by omega), if_neg (by omega)]
    exact h3 x hx
  · rw [List.getElem?_eq_none (by rw [List.length_take]; omega), List.getElem?_eq_none (by rw [List.length_map]; omega)]
end

set_option maxRecDepth 1000000 in
set_option maxHeartbeats 2000000 in
theorem idxf_any {w : World} {ao : Option Addr} {cap m c1 c2 : Nat} {xs : List Int} (p : Int → Bool) (hm : xs.length = m) (hm6 : m ≤ 1000000)
    (hx : NIn w ao xs)
    (kf : ∀ (k : Nat) (x : Int), x ∈ xs → Calls Tryd.prog 28 #[.int .i64 x, ptr c1, ptr c2] (w.drewN k) fun e w' => e = .returned (.bool (p x)) ∧ ∃ q, w' = w.drewN q) :
    Calls Tryd.prog 33 #[.slice ao m cap, .func (.func 28) #[] #[ptr c1, ptr c2]] w fun e w' => (∃ z : Int, e = .returned (.int .i64 z) ∧ Hid ((z = -1 ∧ keepL p xs xs.length = xs) ∨ ∃ k : Nat, z = k ∧ ∃ h : k < xs.length, p xs[k] = true ∧ keepL p xs k = xs.take k)) ∧ ∃ q, w' = w.drewN q := by
  have HX := hide_it hm
  have HC := hide_it hx
  clear hm hx
  go_enter Tryd.func33, Tryd.ntmps33
  go_wp2
  go_loopw [8] (fun i W => (∃ q, W = w.drewN q) ∧ ∃ k : Nat, k ≤ m ∧ i = .int .i64 k ∧ Hid (∀ i (hi : i < xs.length), i < k → p xs[i] = false)) (fun i _ => m - (intOf i).toNat)
  case atStart => exact ⟨⟨0, rfl⟩, 0, Nat.zero_le _, rfl, fun i hi h => absurd h (by omega)⟩
  case round =>
    obtain ⟨⟨q, rfl⟩, k, hk, rfl, HR⟩ := hrel
    by_cases hlt : k < m
    · have hlx : k < xs.length := by rw [HX.out]; exact hlt
      obtain ⟨r, o, rfl, -, hcx0⟩ := HC.out k hlx
      have hcx : (w.drewN q).cell? ⟨r, o + k, none⟩ = some (.int .i64 xs[k]) := hcx0
      clear hcx0
      have kk := kf q xs[k] (List.getElem_mem hlx)
      cases hp : p xs[k] with
      | true =>
        rw [hp] at kk
        have HE : Hid (p xs[k] = true ∧ keepL p xs k = xs.take k) := ⟨hp, keepL_none (by omega) HR.out⟩
        have HE' : Hid (∃ h : k < xs.length, p xs[k] = true ∧ keepL p xs k = xs.take k) := ⟨hlx, HE.out⟩
        clear hp HE kf
        generalize xs[k] = x at *
        go_wp2_with (go_at_call 28; refine kk.mono ?_; rintro e w' ⟨rfl, q2, rfl⟩)
        go_ret
        exact ⟨⟨_, rfl, .inr ⟨k, rfl, HE'.out⟩⟩, q2, rfl⟩
      | false =>
        rw [hp] at kk
        have HR' : Hid (∀ i (hi : i < xs.length), i < k + 1 → p xs[i] = false) := fun i hi h => by
          by_cases e : i = k
          · subst e; exact hp
          · exact HR.out i hi (by omega)
        clear hp kf
        generalize xs[k] = x at *
        go_wp2_with (go_at_call 28; refine kk.mono ?_; rintro e w' ⟨rfl, q2, rfl⟩)
        go_roundw
        case rel => exact ⟨⟨q2, rfl⟩, k + 1, by omega, by go_num, HR'⟩
        case measure => simp [intOf]; omega
    · go_wp2
      go_ret
      refine ⟨⟨_, rfl, .inl ⟨rfl, ?_⟩⟩, q, rfl⟩
      rw [keepL_none (Nat.le_refl _) (fun i hi _ => HR.out i hi (by have := HX.out; omega)), List.take_length]
end Go.Proofs.YtipkgoghodkbfaaDoor
