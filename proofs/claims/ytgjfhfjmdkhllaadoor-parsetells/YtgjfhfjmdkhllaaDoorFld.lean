/- What configFields, opFields, set, get and opOf of package parse do: pointers to fields, and numbers through them. -/
import Derived.Test.YtgjfhfjmdkhllaaDoorNear
import Derived.BigRegion
namespace Go.Proofs.YtgjfhfjmdkhllaaDoor
open Go.RowKit
open M
set_option linter.unusedVariables false

abbrev ptr (b o : Nat) : Value := .pointer (some ⟨b, o, none⟩)

set_option maxRecDepth 1000000 in
set_option maxHeartbeats 4000000 in
theorem configFields_any (g : Nat) (w : World) (hg : (w.cell? ⟨g, 0, none⟩).isSome) :
    Calls Tryd.prog 39 #[ptr g 0] w fun e w' => ∃ h, e = .returned (.slice (some ⟨h, 0, none⟩) 10 10) ∧ w'.heap[h]? = some (.cells #[ptr g 0, ptr g 1, ptr g 2, ptr g 3, ptr g 4, ptr g 5, ptr g 6, ptr g 7, ptr g 8, ptr g 9] 113 (0, 0)) ∧ Below w.heap.size w w' := by
  go_enter Tryd.func39, Tryd.ntmps39
  go_wp2
  go_region
  all_goals go_wp2
  all_goals go_ret
  all_goals exact ⟨_, rfl, heap_alloc_new w _, ((Below.refl _ _).alloc (Nat.le_refl _) _).drew⟩

/-- The offset that the third number of a form tells. -/
def third (m : Fm) : Nat := if m.says = 0 then 3 else 4

set_option maxRecDepth 1000000 in
set_option maxHeartbeats 4000000 in
theorem opFields_any (m : Fm) (g : Nat) (w : World) (hn : nums m ≤ 3) :
    Calls Tryd.prog 41 #[formV m, ptr g 0] w fun e w' => ∃ h, e = .returned (.slice (some ⟨h, 0, none⟩) (nums m) 3) ∧ w'.heap[h]? = some (.cells #[ptr g 1, ptr g 2, ptr g (third m)] 113 (0, 0)) ∧ Below w.heap.size w w' := by
  have kC := count_any m
  generalize nums m = n at *
  have hn' : ¬ (3 : Int) < n := by omega
  by_cases hs : m.says = 0
  · have h3 : third m = 3 := by unfold third; rw [if_pos hs]
    rw [h3]
    clear h3
    go_enter Tryd.func41, Tryd.ntmps41
    go_wp2
    go_region
    all_goals go_wp2_with (go_at_call 56; refine (kC _).mono ?_; rintro e W1 ⟨rfl, rfl⟩)
    all_goals go_ret
    all_goals exact ⟨_, rfl, heap_alloc2_new w _ _, (((Below.refl _ _).alloc (Nat.le_refl _) _).alloc (by simp) _).drew⟩
  · have h3 : third m = 4 := by unfold third; rw [if_neg hs]
    rw [h3]
    have hs1 : (((m.says : Nat) : Int) != 0) = true := bne_iff_ne.2 (by omega)
    clear h3 hs
    go_enter Tryd.func41, Tryd.ntmps41
    go_wp2
    go_region
    all_goals go_wp2_with (go_at_call 56; refine (kC _).mono ?_; rintro e W1 ⟨rfl, rfl⟩)
    all_goals go_ret
    all_goals exact ⟨_, rfl, heap_alloc2_new w _ _, (((Below.refl _ _).alloc (Nat.le_refl _) _).alloc (by simp) _).drew⟩

/-- The world but for one block. -/
structure Only (g : Nat) (w w' : World) : Prop where
  os : w'.os = w.os
  tape : w'.tape = w.tape
  output : w'.output = w.output
  size : w'.heap.size = w.heap.size
  block : ∀ k, k ≠ g → w'.heap[k]? = w.heap[k]?
theorem Only.refl (g : Nat) (w : World) : Only g w w := ⟨rfl, rfl, rfl, rfl, fun _ _ => rfl⟩
theorem Only.setCell {g : Nat} {a w : World} (h : Only g a w) (o : Nat) (u : Value) : Only g a (w.setCell ⟨g, o, none⟩ u) :=
  ⟨h.os, h.tape, h.output, by simp [World.setCell]; exact h.size, fun k hk => by rw [Below.heap_setCell _ _ _ _ hk]; exact h.block k hk⟩
theorem Only.below {g B : Nat} {a w w' : World} (h : Below B a w) (ho : Only g w w') (hB : B ≤ g) : Below B a w' :=
  h.trans ⟨ho.os, ho.tape, ho.output, by rw [ho.size]; exact Nat.le_refl _, fun k hk => ho.block k (by omega)⟩
theorem Only.grown {g : Nat} {w w' : World} (ho : Only g w w') : w.grownBy w' (some g) := ⟨ho.os, ho.tape, ho.output, by rw [ho.size]; exact Nat.le_refl _, fun k _ hk => ho.block k (fun e => hk (by rw [e]))⟩

/-- Cells with numbers set at offsets. -/
def setL (cs : Array Value) (os : List Nat) (ns : List Int) : Nat → Array Value
  | 0 => cs
  | k + 1 => (setL cs os ns k).setIfInBounds (os.getD k 0) (.int .i64 (ns.getD k 0))
theorem setL_size (cs : Array Value) (os : List Nat) (ns : List Int) : ∀ k, (setL cs os ns k).size = cs.size
  | 0 => rfl
  | k + 1 => by unfold setL; rw [Array.size_setIfInBounds]; exact setL_size cs os ns k

set_option maxRecDepth 1000000 in
set_option maxHeartbeats 4000000 in
theorem set_any (hb g n cap : Nat) (ps : Array Value) (os : List Nat) (ns : List Int) (v : Value) (cs : Array Value) (T : TypeId) (base : Nat) (w : World)
    (hp : w.heap[hb]? = some (.cells ps 113 (0, 0))) (hg : w.heap[g]? = some (.cells cs T (0, 0))) (hne : hb ≠ g) (hT3 : T ≠ 3)
    (hps : ∀ k, k < n → ps[k]? = some (ptr g (os.getD k 0))) (hos : ∀ k, k < n → os.getD k 0 < cs.size) (hnc : n ≤ cap) (hn : n ≤ 1000)
    (ho : w.ownsRow base 3 1 v ns.length (ns.map intV)) (hnn : n ≤ ns.length) (hnl : ns.length ≤ 1000000) :
    Calls Tryd.prog 48 #[.slice (some ⟨hb, 0, none⟩) n cap, v] w fun e w' => e = .returned (.tuple #[]) ∧ w'.heap[g]? = some (.cells (setL cs os ns n) T (0, 0)) ∧ Only g w w' := by
  by_cases h0 : ns.length = 0
  · have hn0 : n = 0 := by omega
    subst hn0
    go_enter Tryd.func48, Tryd.ntmps48
    go_wp2
    go_loopw [8] (fun i wr => i = .int .i64 0 ∧ w = wr) (fun i _ => 0)
    case atStart => exact ⟨rfl, rfl⟩
    case round =>
      obtain ⟨rfl, rfl⟩ := hrel
      go_wp2
      go_end0
      exact ⟨rfl, hg, Only.refl _ _⟩
  · obtain ⟨vb, vc, rfl, hv1, hv2⟩ := ho.form (by omega)
    have hvg : vb ≠ g := fun e => own_ne ho hg hT3 (by simp [Value.ownBlock, e])
    have HO : Hid (w.ownsRow base 3 1 (.slice (some ⟨vb, 0, none⟩) ns.length vc) ns.length (ns.map intV)) := ho
    clear ho
    go_enter Tryd.func48, Tryd.ntmps48
    go_wp2
    go_loopw [8] (fun i wr => ∃ k : Nat, i = .int .i64 k ∧ k ≤ n ∧ wr.heap[g]? = some (.cells (setL cs os ns k) T (0, 0)) ∧ Only g w wr) (fun i _ => n - (intOf i).toNat)
    case atStart => exact ⟨0, rfl, by omega, hg, Only.refl _ _⟩
    case round =>
      obtain ⟨k, rfl, hk, hgk, hon⟩ := hrel
      by_cases hk' : k < n
      · have c1 : wr.cell? ⟨hb, k, none⟩ = some (ptr g (os.getD k 0)) := by
          rw [World.cell?_of_block (w := w) (hon.block hb hne), Lib.cell_of_heap hp]; exact hps k hk'
        have c2 : wr.cell? ⟨vb, k, none⟩ = some (.int .i64 (ns.getD k 0)) := by
          rw [World.cell?_of_block (w := w) (hon.block vb hvg), own_cell HO.out k (by simp; omega)]
          simp [List.getD_eq_getElem?_getD, List.getElem?_eq_getElem (show k < ns.length by omega)]
        have hsz := setL_size cs os ns k
        obtain ⟨u, hu⟩ : ∃ u, (setL cs os ns k)[os.getD k 0]? = some u := ⟨_, Array.getElem?_eq_getElem (by rw [hsz]; exact hos k hk')⟩
        have c3 : wr.cell? ⟨g, os.getD k 0, none⟩ = some u := by rw [Lib.cell_of_heap hgk]; exact hu
        have c4 : wr.frozen? ⟨g, os.getD k 0, none⟩ = false := Lib.frozen_of_heap hgk _
        have HG : Hid ((wr.setCell ⟨g, os.getD k 0, none⟩ (.int .i64 (ns.getD k 0))).heap[g]? = some (.cells (setL cs os ns (k + 1)) T (0, 0))) := Joins.block_setCell hgk _
        generalize os.getD k 0 = oo at *
        generalize ns.getD k 0 = nn at *
        clear hu hgk
        go_wp2
        go_roundw
        case rel => exact ⟨k + 1, by go_num, by omega, HG, hon.setCell _ _⟩
        case measure => simp [intOf]; omega
      · have hke : k = n := by omega
        rw [hke] at hgk
        clear hke
        go_wp2
        go_end0
        exact ⟨rfl, hgk, hon⟩

set_option maxRecDepth 1000000 in
set_option maxHeartbeats 4000000 in
theorem get_any (hb g n cap : Nat) (ps : Array Value) (os : List Nat) (xs : List Int) (w : World)
    (hp : w.heap[hb]? = some (.cells ps 113 (0, 0))) (hps : ∀ k, k < n → ps[k]? = some (ptr g (os.getD k 0))) (hxs : xs.length = n)
    (hcs : ∀ k (h : k < xs.length), w.cell? ⟨g, os.getD k 0, none⟩ = some (.int .i64 xs[k])) (hnc : n ≤ cap) (hn : n ≤ 1000) :
    Calls Tryd.prog 38 #[.slice (some ⟨hb, 0, none⟩) n cap] w fun e w' => ∃ v, e = .returned v ∧ w'.ownsRow w.heap.size 3 1 v xs.length (xs.map intV) ∧ Below w.heap.size w w' := by
  obtain ⟨i3, hi3, hz0, hz1, hz2⟩ := info_parts info3
  have hbl := block_lt hp
  have HX : Hid (xs.length = n) := hxs
  have HXT : Hid (xs.take n = xs) := List.take_of_length_le (by omega)
  clear hxs
  go_enter Tryd.func38, Tryd.ntmps38
  go_wp2
  go_loopw [3, 8] (fun v i wr => ∃ k : Nat, i = .int .i64 k ∧ k ≤ n ∧ Hid (wr.ownsRow w.heap.size 3 1 v k ((xs.take k).map intV)) ∧ Below w.heap.size w wr) (fun _ i _ => n - (intOf i).toNat)
  case atStart => exact ⟨0, rfl, by omega, World.ownsRow_nil _ _ _ _, Below.refl _ _⟩
  case round =>
    obtain ⟨k, rfl, hk, ho, hbw⟩ := hrel
    have hsz := hbw.size
    by_cases hk' : k < n
    · have hkx : k < xs.length := by rw [HX.out]; exact hk'
      have c1 : wr.cell? ⟨hb, k, none⟩ = some (ptr g (os.getD k 0)) := by
        rw [hbw.cell (p := ⟨hb, k, none⟩) hbl, Lib.cell_of_heap hp]; exact hps k hk'
      have c2 : wr.cell? ⟨g, os.getD k 0, none⟩ = some (.int .i64 xs[k]) := by
        have := hcs k hkx
        rw [hbw.cell (p := ⟨g, os.getD k 0, none⟩) (World.block_lt_of_cell? _ _ this)]; exact this
      have HS : Hid ((xs.take (k + 1)).map intV = (xs.take k).map intV ++ [intV xs[k]]) := by
        show _ = _
        rw [List.take_succ_eq_append_getElem hkx, List.map_append]; rfl
      generalize os.getD k 0 = oo at *
      generalize xs[k] = xx at *
      go_wp2_with (at_builtin; refine wpList_append_own _ rfl (.tmp 12) (.tmp 16) 64 rfl w.heap.size 3 i3 _ 1 8 Tryd.underlying64 hi3 hz0 hz1 hz2 rfl (by decide) _ _ _ rfl (ho.out.alloc _) ⟨wr.heap.size, 0, none⟩ 1 1 [intV xx] rfl rfl (World.news_of_block (heap_alloc_new wr _)) (by intro u hu; simp at hu; subst hu; rfl) (by unfold maxLen; omega) (by omega) (by simp; omega) ?_; intro v6 w6 ho6 hg6 _)
      go_roundw
      case rel => exact ⟨k + 1, by go_num, by omega, by rw [HS.out]; exact ho6, (hbw.alloc (by omega) _).grown hg6 (by simp; omega) (fun x hx => (ho.out.lt x hx).1)⟩
      case measure => simp [intOf]; omega
    · have hke : k = n := by omega
      have HO : Hid (wr.ownsRow w.heap.size 3 1 u3 xs.length (xs.map intV)) := by
        have := ho.out
        rw [hke, HXT.out] at this
        rw [HX.out]; exact this
      clear hke ho
      go_wp2
      go_ret
      exact ⟨_, rfl, HO, hbw⟩

def opA (o : Oz) : Array Value := #[.int .i64 o.kind, .int .i64 o.a, .int .i64 o.b, .int .i64 o.c, .int .i64 o.d]
theorem setL_op (m : Fm) (ns : List Int) (hn : nums m ≤ 3) : setL #[.int .i64 m.kind, .int .i64 0, .int .i64 0, .int .i64 m.says, .int .i64 0] [1, 2, third m] ns (nums m) = opA (opOf m ns) := by
  unfold opOf opA third
  generalize nums m = n at *
  have h : n = 0 ∨ n = 1 ∨ n = 2 ∨ n = 3 := by omega
  by_cases hs : m.says = 0
  · rcases h with rfl | rfl | rfl | rfl <;> simp [setL, hs]
  · rcases h with rfl | rfl | rfl | rfl <;> simp [setL, hs]

theorem own_below {w w' : World} {B base e size n : Nat} {v : Value} {xs : List Value} (h : w.ownsRow base e size v n xs) (hb : Below B w w') (hB : ∀ k, v.ownBlock = some k → k < B) : w'.ownsRow base e size v n xs := by
  obtain ⟨h1, h2⟩ := h
  refine ⟨h1, ?_⟩
  rcases h2 with h2 | ⟨g, c, cur, e1, e2, e3, e4⟩
  · exact .inl h2
  · exact .inr ⟨g, c, cur, e1, e2, by rw [hb.block g (hB g (by rw [e1]; rfl))]; exact e3, e4⟩

set_option maxRecDepth 1000000 in
set_option maxHeartbeats 4000000 in
theorem opOf_any (m : Fm) (v : Value) (ns : List Int) (base : Nat) (w : World) (hn : nums m ≤ 3) (hnn : nums m ≤ ns.length) (hnl : ns.length ≤ 1000000) (ho : w.ownsRow base 3 1 v ns.length (ns.map intV)) :
    Calls Tryd.prog 49 #[formV m, v] w fun e w' => e = .returned (.agg (opA (opOf m ns))) ∧ Below w.heap.size w w' := by
  obtain ⟨w2, hw2⟩ : ∃ w2, w2 = ((w.alloc (.cells #[strV m.text, .int .i64 m.part, .int .i64 m.kind, .int .i64 m.says] 86)).alloc (.cells #[.int .i64 0, .int .i64 0, .int .i64 0, .int .i64 0, .int .i64 0] 46)).alloc (.cells #[.int .i64 m.kind, .int .i64 0, .int .i64 0, .int .i64 m.says, .int .i64 0] 46) := ⟨_, rfl⟩
  have hs2 : w2.heap.size = w.heap.size + 3 := by rw [hw2]; simp
  have hb2 : Below w.heap.size w w2 := by rw [hw2]; exact Joins.below_alloc3 w _ _ _
  have hg2 : w2.heap[w.heap.size + 2]? = some (.cells #[.int .i64 m.kind, .int .i64 0, .int .i64 0, .int .i64 m.says, .int .i64 0] 46 (0, 0)) := by
    rw [hw2]
    have := heap_alloc_new ((w.alloc (.cells #[strV m.text, .int .i64 m.part, .int .i64 m.kind, .int .i64 m.says] 86)).alloc (.cells #[.int .i64 0, .int .i64 0, .int .i64 0, .int .i64 0, .int .i64 0] 46)) (.cells #[.int .i64 m.kind, .int .i64 0, .int .i64 0, .int .i64 m.says, .int .i64 0] 46)
    simpa using this
  have hg1 : w2.heap[w.heap.size + 1]? = some (.cells #[.int .i64 0, .int .i64 0, .int .i64 0, .int .i64 0, .int .i64 0] 46 (0, 0)) := by
    rw [hw2, Below.heap_alloc _ _ _ (by simp)]
    exact heap_alloc2_new w _ _
  have kF := opFields_any m (w.heap.size + 2) w2 hn
  have kS : ∀ (h : Nat) (W1 : World), W1.heap[h]? = some (.cells #[ptr (w.heap.size + 2) 1, ptr (w.heap.size + 2) 2, ptr (w.heap.size + 2) (third m)] 113 (0, 0)) → Below w2.heap.size w2 W1 →
      Calls Tryd.prog 48 #[.slice (some ⟨h, 0, none⟩) (nums m) 3, v] W1 fun e w' => e = .returned (.tuple #[]) ∧ Hid (w'.heap[w.heap.size + 2]? = some (.cells (opA (opOf m ns)) 46 (0, 0))) ∧ Hid (w'.heap[w.heap.size + 1]? = some (.cells #[.int .i64 0, .int .i64 0, .int .i64 0, .int .i64 0, .int .i64 0] 46 (0, 0))) ∧ Below w.heap.size w w' := by
    intro h W1 hh hb1
    have hgW : W1.heap[w.heap.size + 2]? = some (.cells #[.int .i64 m.kind, .int .i64 0, .int .i64 0, .int .i64 m.says, .int .i64 0] 46 (0, 0)) := by rw [hb1.block _ (by omega)]; exact hg2
    have hgW1 : W1.heap[w.heap.size + 1]? = some (.cells #[.int .i64 0, .int .i64 0, .int .i64 0, .int .i64 0, .int .i64 0] 46 (0, 0)) := by rw [hb1.block _ (by omega)]; exact hg1
    have hbW : Below w.heap.size w W1 := hb2.trans (hb1.mono (by omega))
    have hne : h ≠ w.heap.size + 2 := by
      intro e
      rw [e, hgW] at hh
      simp at hh
    have h3 : third m < 5 := by unfold third; split <;> omega
    refine (set_any h (w.heap.size + 2) (nums m) 3 _ [1, 2, third m] ns v _ 46 base W1 hh hgW hne (by decide) ?_ ?_ hn (by omega) (own_below ho hbW (fun k hk => (ho.lt k hk).2)) hnn hnl).mono ?_
    · intro k hk
      have : k = 0 ∨ k = 1 ∨ k = 2 := by omega
      rcases this with rfl | rfl | rfl <;> rfl
    · intro k hk
      have : k = 0 ∨ k = 1 ∨ k = 2 := by omega
      rcases this with rfl | rfl | rfl
      · show 1 < 5; omega
      · show 2 < 5; omega
      · exact h3
    · rintro e w' ⟨rfl, h1, h2⟩
      refine ⟨rfl, ?_, ?_, h2.below hbW (by omega)⟩
      · show _ = _
        rw [h1, setL_op m ns hn]
      · show _ = _
        rw [h2.block _ (by omega)]; exact hgW1
  clear hg2 hg1
  subst hw2
  generalize nums m = n at *
  generalize opOf m ns = R at *
  go_enter Tryd.func49, Tryd.ntmps49
  go_wp2_with (first | (go_at_call 41; refine kF.mono ?_; rintro e W1 ⟨h, rfl, hh, hb1⟩) | (go_at_call 48; refine (kS h W1 hh hb1).mono ?_; rintro e W2 ⟨rfl, g2, g1, hb3⟩; have c2 := fun j => Lib.cell_of_heap g2.out j; have c20 := c2 0; have c21 := c2 1; have c22 := c2 2; have c23 := c2 3; have c24 := c2 4; have c1 := fun j => Lib.cell_of_heap g1.out j; have c10 := c1 0; have c11 := c1 1; have c12 := c1 2; have c13 := c1 3; have c14 := c1 4; have f1 : ∀ j, W2.frozen? ⟨w.heap.size + 1, j, none⟩ = false := fun j => Lib.frozen_of_heap g1.out j; simp [opA] at c20 c21 c22 c23 c24 c10 c11 c12 c13 c14; clear c1 c2))
  have b0 := Joins.block_setCell (i := 0) g1.out (.int .i64 R.kind)
  have b1 := Joins.block_setCell (i := 1) b0 (.int .i64 R.a)
  have b2 := Joins.block_setCell (i := 2) b1 (.int .i64 R.b)
  have b3 := Joins.block_setCell (i := 3) b2 (.int .i64 R.c)
  have b4 := Joins.block_setCell (i := 4) b3 (.int .i64 R.d)
  refine bodyPost_ret (results_cell_row Tryd.results49 _ _ (w.heap.size + 1) 46 (opA R) (0, 0) _ rfl b4 Tryd.underlying46 rfl (by kernel_rfl)) rfl ⟨rfl, ?_⟩
  exact ((((hb3.setCell (p := ⟨w.heap.size + 1, 0, none⟩) (by simp) _).setCell (p := ⟨w.heap.size + 1, 1, none⟩) (by simp) _).setCell (p := ⟨w.heap.size + 1, 2, none⟩) (by simp) _).setCell (p := ⟨w.heap.size + 1, 3, none⟩) (by simp) _).setCell (p := ⟨w.heap.size + 1, 4, none⟩) (by simp) _

end Go.Proofs.YtgjfhfjmdkhllaaDoor
