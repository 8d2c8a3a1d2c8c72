/- What readLine of package parse does with an operation's line, and with a config's. -/
import Derived.Test.YtgjfhfjmdkhllaaDoorLine
namespace Go.Proofs.YtgjfhfjmdkhllaaDoor
open Go.RowKit
open M
set_option linter.unusedVariables false
set_option linter.unusedSimpArgs false

set_option maxRecDepth 1000000 in
set_option maxHeartbeats 8000000 in
theorem readLine_op (g B b o cap : Nat) (f : Fl) (vt vo : Value) (line : List Tok) (first : Bool) (w : World) (hT : Tabs w) (hf : FileAt w g B f vt vo) (hgB : g < B) (hBw : B ≤ w.heap.size) (hl : LineOk line) (hcap : line.length ≤ cap) (hn : line.length ≤ 1000000) (ht : TAt w b o line) (hbw : b < w.heap.size) (hol : f.ops.length ≤ 4096)
    (N : Nr) (hN : near line = N) (hx : N.ns.length = nums N.m) (hn3 : nums N.m ≤ 3) (hp : N.m.part = 3) (he : N.err = 0) (hR1 : mayStand f N.m.part first = true) (hR2 : isFull f N.m.part = false) :
    Calls Tryd.prog 30 #[ptr g 0, .slice (some ⟨b, o, none⟩) line.length cap, .bool first] w fun e w' => e = .returned (.tuple #[]) ∧ (∃ vo', FileAt w' g B { f with ops := f.ops ++ [opOf N.m N.ns] } vt vo') ∧ But g B w w' := by
  obtain ⟨i5, hi5, hz0, hz1, hz2⟩ := info_parts info46
  have kN := nearest_any b o cap line w hT hl hcap hn ht hbw N hN
  obtain ⟨at1, ct1, rfl⟩ := own_slice hf.ts
  obtain ⟨ao1, co1, rfl⟩ := own_slice hf.os
  have kM : ∀ W, Below w.heap.size w W → Calls Tryd.prog 46 #[ptr g 0, .int .i64 N.m.part, .bool first] W fun e w' => e = .returned (.bool true) ∧ w' = W := fun W hW =>
    mayStand_any g N.m.part first f ao1 co1 W (by rw [Lib.cell_of_heap (hf.below hW).blk]; exact (fileA_at hf.cfg _ _).2.1) _ hR1
  have kF : ∀ W, Below w.heap.size w W → Calls Tryd.prog 47 #[ptr g 0, .int .i64 N.m.part] W fun e w' => e = .returned (.bool false) ∧ w' = W := fun W hW =>
    isFull_any g N.m.part f at1 ao1 ct1 co1 W (by rw [Lib.cell_of_heap (hf.below hW).blk]; exact (fileA_at hf.cfg _ _).1) (by rw [Lib.cell_of_heap (hf.below hW).blk]; exact (fileA_at hf.cfg _ _).2.1) _ hR2
  obtain ⟨R, hR⟩ : ∃ R, opOf N.m N.ns = R := ⟨_, rfl⟩
  have kO : ∀ (W1 W : World) (v : Value), Below w.heap.size w W1 → W1.ownsRow w.heap.size 3 1 v N.ns.length (N.ns.map intV) → Below W1.heap.size W1 W → Calls Tryd.prog 49 #[formV N.m, v] W fun e w' => e = .returned (.agg #[.int .i64 R.kind, .int .i64 R.a, .int .i64 R.b, .int .i64 R.c, .int .i64 R.d]) ∧ Hid (FileAt w' g B f (.slice at1 f.tasks.length ct1) (.slice ao1 f.ops.length co1)) ∧ Hid (w'.ownsRow B 46 5 (.slice ao1 f.ops.length co1) f.ops.length (opCells f.ops)) ∧ Below w.heap.size w w' ∧ (∀ ob : Obj, (w'.alloc ob).cell? ⟨g, 11, none⟩ = some (.slice ao1 f.ops.length co1)) ∧ (∀ ob : Obj, (w'.alloc ob).frozen? ⟨g, 11, none⟩ = false) ∧ w'.cell? ⟨g, 11, none⟩ = some (.slice ao1 f.ops.length co1) ∧ g < w'.heap.size ∧ B ≤ w'.heap.size := by
    intro W1 W v hW1 ho hW
    refine (opOf_any N.m v N.ns w.heap.size W hn3 (by omega) (by omega) (own_below ho hW (fun k hk => (ho.lt k hk).2))).mono ?_
    rintro e w' ⟨rfl, hb'⟩
    have hb2 : Below w.heap.size w w' := (hW1.trans (hW.mono hW1.size)).trans (hb'.mono (Nat.le_trans hW1.size hW.size))
    have hf2 := hf.below hb2
    have hlt := block_lt hf2.blk
    have c11 : w'.cell? ⟨g, 11, none⟩ = some (.slice ao1 f.ops.length co1) := by rw [Lib.cell_of_heap hf2.blk]; exact (fileA_at hf.cfg _ _).2.1
    refine ⟨by rw [hR]; rfl, hf2, hf2.os, hb2, fun ob => ?_, fun ob => ?_, c11, hlt, Nat.le_trans hBw hb2.size⟩
    · rw [((Below.refl w'.heap.size w').alloc (Nat.le_refl _) ob).cell (p := ⟨g, 11, none⟩) hlt]; exact c11
    · rw [((Below.refl w'.heap.size w').alloc (Nat.le_refl _) ob).frozen (p := ⟨g, 11, none⟩) hlt]; exact Lib.frozen_of_heap hf2.blk 11
  have hfb : ∀ W, Below w.heap.size w W → FileAt W g B f (.slice at1 f.tasks.length ct1) (.slice ao1 f.ops.length co1) := fun W hW => hf.below hW
  have hglt := block_lt hf.blk
  have hcfg := hf.cfg
  have hbk : ∀ k, (Value.slice ao1 f.ops.length co1).ownBlock = some k → B ≤ k := fun k hk => (hf.os.lt k hk).1
  have ag : (Value.slice ao1 f.ops.length co1).ownBlock ≠ some g := own_ne hf.os hf.blk (by decide)
  rw [hp] at kM kF
  have kM2 : ∀ W, Below w.heap.size w W → Calls Tryd.prog 46 #[ptr g 0, .int .i64 3, .bool first] W fun e w' => e = .returned (.bool true) ∧ w' = W := kM
  have kF2 : ∀ W, Below w.heap.size w W → Calls Tryd.prog 47 #[ptr g 0, .int .i64 3] W fun e w' => e = .returned (.bool false) ∧ w' = W := kF
  have kN2 : Calls Tryd.prog 45 #[.slice (some ⟨b, o, none⟩) line.length cap] w fun e w' => ∃ v, e = .returned (.tuple #[formV N.m, v, .int .i64 0]) ∧ Hid (w'.ownsRow w.heap.size 3 1 v N.ns.length (N.ns.map intV)) ∧ Below w.heap.size w w' := by
    refine kN.mono ?_
    rintro e w' ⟨v, rfl, h1, h2⟩
    exact ⟨v, by rw [he], h1, h2⟩
  have HP : Hid (N.m.part = 3) := hp
  rw [hR]
  clear hf hT ht hl hR1 hR2 kN he hN kM kF hx hn3 hR hp
  generalize hfm : N.m = m at *
  obtain ⟨mt, mp, mk, ms⟩ := m
  simp only at HP
  have HP' := HP.out
  subst HP'
  clear HP
  go_enter Tryd.func30, Tryd.ntmps30
  go_wp2_with (first | (go_at_call 45; refine kN2.mono ?_; rintro e w1 ⟨v, rfl, ho, hb1⟩; have hs1 := hb1.size; have hb2 : ∀ ob, Below w.heap.size w (w1.alloc ob) := fun ob => hb1.alloc hb1.size ob) | (go_at_call 46; refine (kM2 _ (hb2 _)).mono ?_; rintro e W1 ⟨rfl, rfl⟩) | (go_at_call 47; refine (kF2 _ (hb2 _)).mono ?_; rintro e W1 ⟨rfl, rfl⟩))
  generalize hwz : World.alloc w1 _ = wz
  have e5 : wz.heap[w1.heap.size]? = some (.cells #[strV mt, .int .i64 3, .int .i64 mk, .int .i64 ms] 86 (0, 0)) := by rw [← hwz]; exact heap_alloc_new w1 _
  obtain ⟨x0, x1, x2, x3, _⟩ := cells4 e5
  have hb1z : Below w1.heap.size w1 wz := by rw [← hwz]; exact (Below.refl _ _).alloc (Nat.le_refl _) _
  have hbz : Below w.heap.size w wz := hb1.trans (hb1z.mono hs1)
  have hfz := hfb wz hbz
  have hsz := hbz.size
  have mg : wz.cell? ⟨g, 11, none⟩ = some (.slice ao1 f.ops.length co1) := by rw [Lib.cell_of_heap hfz.blk]; exact (fileA_at hcfg _ _).2.1
  have hbd : Below w1.heap.size w1 wz.drew := hb1z.drew
  have kO2 := kO w1 wz.drew v hb1 ho.out hbd
  clear hfz hfb hwz hb2 kM2 kF2 kN2 kO e5
  generalize hnt : f.ops.length = nt at *
  go_region_law
    (first
      | (refine step_append_lies _ (by rfl) _ _ _ (by rfl) B 46 i5 _ 5 40 Tryd.underlying27 hi5 hz0 hz1 hz2 rfl (by omega) (.slice ao1 nt co1) nt (opCells f.ops) (by rfl) (HO5.out.alloc _) ⟨w5.heap.size, 0, none⟩ 1 1 [.int .i64 R.kind, .int .i64 R.a, .int .i64 R.b, .int .i64 R.c, .int .i64 R.d] (by rfl) (by rfl) (World.news_of_block (cs := #[.int .i64 R.kind, .int .i64 R.a, .int .i64 R.b, .int .i64 R.c, .int .i64 R.d]) (t := 46) (fr := (0, 0)) (heap_alloc_new w5 _)) (by simp [Value.oneCell']) (by omega) (by unfold maxLen; omega) (by omega) (by simp; omega) (w5.heap.size + 1) (by simp) ?_; intro gg cg w2 hown1 hgrow hat hlt; have q1 : w2.cell? ⟨g, 11, none⟩ = some (.slice ao1 nt co1) := (by rw [hgrow.cell_far ⟨g, 11, none⟩ (by simp; omega) (Ne.symm ag)]; simp [c5]); have q2 : w2.frozen? ⟨g, 11, none⟩ = false := (by rw [hgrow.frozen_far ⟨g, 11, none⟩ (by simp; omega) (Ne.symm ag)]; simp [f5]))
      | (go_simp; go_at_call 49; refine kO2.mono ?_; rintro e w5 ⟨rfl, HF5, HO5, hb5, c5, f5, d5, g5, B5⟩))
  all_goals go_wp2
  all_goals go_end0
  all_goals (
    have hB2 : Below B w w2 := ((hb5.mono hBw).alloc B5 _).grown hgrow (by simp; omega) hbk
    have hblk : w2.heap[g]? = some (.cells (fileA f (.slice at1 f.tasks.length ct1) (.slice ao1 nt co1)) 29 (0, 0)) := by
      rw [hgrow.block g (by simp; omega) (Ne.symm ag), Below.heap_alloc _ _ _ (by omega)]; exact HF5.out.blk
    have hset := Joins.block_setCell (i := 11) hblk (.slice (some ⟨gg, 0, none⟩) (nt + 1) cg)
    rw [fileA_set11 hcfg _ _ _ (f.ops ++ [R])] at hset
    refine ⟨rfl, ⟨_, ⟨hset, ?_, ?_, hcfg⟩⟩, (But.of hB2).setCell _ _⟩
    · have h1 : w2.ownsRow B 51 2 (.slice at1 f.tasks.length ct1) f.tasks.length (taskCells f.tasks) := own_other (HF5.out.ts.alloc _) (HO5.out.alloc _) (by decide) hgrow
      exact own_set h1 hblk (by decide) 11 _
    · have := own_set hown1 hblk (by decide) 11 (.slice (some ⟨gg, 0, none⟩) (nt + 1) cg)
      simpa [opCells, opA, hnt] using this)

theorem list_succ {α : Type} {l : List α} {n : Nat} (h : l.length = n + 1) : ∃ a t, l = a :: t ∧ t.length = n := by
  cases l with
  | nil => simp at h
  | cons a t => exact ⟨a, t, rfl, by simpa using h⟩
theorem list10 {α : Type} {l : List α} (h : l.length = 10) : ∃ a0 a1 a2 a3 a4 a5 a6 a7 a8 a9, l = [a0, a1, a2, a3, a4, a5, a6, a7, a8, a9] := by
  obtain ⟨a0, l0, rfl, h1⟩ := list_succ h
  obtain ⟨a1, l1, rfl, h2⟩ := list_succ h1
  obtain ⟨a2, l2, rfl, h3⟩ := list_succ h2
  obtain ⟨a3, l3, rfl, h4⟩ := list_succ h3
  obtain ⟨a4, l4, rfl, h5⟩ := list_succ h4
  obtain ⟨a5, l5, rfl, h6⟩ := list_succ h5
  obtain ⟨a6, l6, rfl, h7⟩ := list_succ h6
  obtain ⟨a7, l7, rfl, h8⟩ := list_succ h7
  obtain ⟨a8, l8, rfl, h9⟩ := list_succ h8
  obtain ⟨a9, l9, rfl, h10⟩ := list_succ h9
  have := List.eq_nil_of_length_eq_zero h10
  subst this
  exact ⟨_, _, _, _, _, _, _, _, _, _, rfl⟩

theorem setL_cfg {f : Fl} (h : f.cfg.length = 10) {ns : List Int} (hn : ns.length = 10) (vt vo : Value) : setL (fileA f vt vo) [0, 1, 2, 3, 4, 5, 6, 7, 8, 9] ns 10 = fileA { f with cfg := ns } vt vo := by
  obtain ⟨a0, a1, a2, a3, a4, a5, a6, a7, a8, a9, rfl⟩ := list10 hn
  obtain ⟨b0, b1, b2, b3, b4, b5, b6, b7, b8, b9, hb⟩ := list10 h
  unfold fileA
  rw [hb]
  simp [setL]

set_option maxRecDepth 1000000 in
set_option maxHeartbeats 8000000 in
theorem readLine_cfg (g B b o cap : Nat) (f : Fl) (vt vo : Value) (line : List Tok) (first : Bool) (w : World) (hT : Tabs w) (hf : FileAt w g B f vt vo) (hgB : g < B) (hBw : B ≤ w.heap.size) (hl : LineOk line) (hcap : line.length ≤ cap) (hn : line.length ≤ 1000000) (ht : TAt w b o line) (hbw : b < w.heap.size)
    (N : Nr) (hN : near line = N) (hx : N.ns.length = 10) (hp : N.m.part = 1) (he : N.err = 0) (hR1 : mayStand f N.m.part first = true) (hR2 : isFull f N.m.part = false) :
    Calls Tryd.prog 30 #[ptr g 0, .slice (some ⟨b, o, none⟩) line.length cap, .bool first] w fun e w' => e = .returned (.tuple #[]) ∧ FileAt w' g B { f with cfg := N.ns } vt vo ∧ But g B w w' := by
  have kN := nearest_any b o cap line w hT hl hcap hn ht hbw N hN
  obtain ⟨at1, ct1, rfl⟩ := own_slice hf.ts
  obtain ⟨ao1, co1, rfl⟩ := own_slice hf.os
  have kM : ∀ W, Below w.heap.size w W → Calls Tryd.prog 46 #[ptr g 0, .int .i64 N.m.part, .bool first] W fun e w' => e = .returned (.bool true) ∧ w' = W := fun W hW =>
    mayStand_any g N.m.part first f ao1 co1 W (by rw [Lib.cell_of_heap (hf.below hW).blk]; exact (fileA_at hf.cfg _ _).2.1) _ hR1
  have kF : ∀ W, Below w.heap.size w W → Calls Tryd.prog 47 #[ptr g 0, .int .i64 N.m.part] W fun e w' => e = .returned (.bool false) ∧ w' = W := fun W hW =>
    isFull_any g N.m.part f at1 ao1 ct1 co1 W (by rw [Lib.cell_of_heap (hf.below hW).blk]; exact (fileA_at hf.cfg _ _).1) (by rw [Lib.cell_of_heap (hf.below hW).blk]; exact (fileA_at hf.cfg _ _).2.1) _ hR2
  have hc0 : ∀ W, Below w.heap.size w W → (W.cell? ⟨g, 0, none⟩).isSome := fun W hW => by
    rw [Lib.cell_of_heap (hf.below hW).blk, Array.getElem?_eq_getElem (by rw [(fileA_at hf.cfg _ _).2.2]; omega)]; rfl
  have kC : ∀ W, Below w.heap.size w W → Calls Tryd.prog 39 #[ptr g 0] W fun e w' => ∃ h, e = .returned (.slice (some ⟨h, 0, none⟩) 10 10) ∧ w'.heap[h]? = some (.cells #[ptr g 0, ptr g 1, ptr g 2, ptr g 3, ptr g 4, ptr g 5, ptr g 6, ptr g 7, ptr g 8, ptr g 9] 113 (0, 0)) ∧ Below W.heap.size W w' := fun W hW => configFields_any g W (hc0 W hW)
  have kS : ∀ (W1 W : World) (v : Value) (h : Nat), Below w.heap.size w W1 → W1.ownsRow w.heap.size 3 1 v N.ns.length (N.ns.map intV) → Below W1.heap.size W1 W → W.heap[h]? = some (.cells #[ptr g 0, ptr g 1, ptr g 2, ptr g 3, ptr g 4, ptr g 5, ptr g 6, ptr g 7, ptr g 8, ptr g 9] 113 (0, 0)) → Calls Tryd.prog 48 #[.slice (some ⟨h, 0, none⟩) 10 10, v] W fun e w' => e = .returned (.tuple #[]) ∧ FileAt w' g B { f with cfg := N.ns } (.slice at1 f.tasks.length ct1) (.slice ao1 f.ops.length co1) ∧ But g B w w' := by
    intro W1 W v h hW1 ho hW hh
    have hbW : Below w.heap.size w W := hW1.trans (hW.mono hW1.size)
    have hf2 := hf.below hbW
    have hne : h ≠ g := by
      intro e
      rw [e, hf2.blk] at hh
      simp at hh
    refine (set_any h g 10 10 _ [0, 1, 2, 3, 4, 5, 6, 7, 8, 9] N.ns v _ 29 w.heap.size W hh hf2.blk hne (by decide) ?_ ?_ (by omega) (by omega) (own_below ho hW (fun k hk => (ho.lt k hk).2)) (by omega) (by omega)).mono ?_
    · intro k hk
      have : k = 0 ∨ k = 1 ∨ k = 2 ∨ k = 3 ∨ k = 4 ∨ k = 5 ∨ k = 6 ∨ k = 7 ∨ k = 8 ∨ k = 9 := by omega
      rcases this with rfl | rfl | rfl | rfl | rfl | rfl | rfl | rfl | rfl | rfl <;> rfl
    · intro k hk
      rw [(fileA_at hf.cfg _ _).2.2]
      have : k = 0 ∨ k = 1 ∨ k = 2 ∨ k = 3 ∨ k = 4 ∨ k = 5 ∨ k = 6 ∨ k = 7 ∨ k = 8 ∨ k = 9 := by omega
      rcases this with rfl | rfl | rfl | rfl | rfl | rfl | rfl | rfl | rfl | rfl <;> decide
    · rintro e w' ⟨rfl, h1, h2⟩
      rw [setL_cfg hf.cfg hx] at h1
      refine ⟨rfl, ⟨h1, ?_, ?_, hx⟩, (But.of (hbW.mono hBw)).trans (But.only h2)⟩
      · exact hf2.ts.kept h2.grown (.inr (own_ne hf2.ts hf2.blk (by decide)))
      · exact hf2.os.kept h2.grown (.inr (own_ne hf2.os hf2.blk (by decide)))
  rw [hp] at kM kF
  have kM2 : ∀ W, Below w.heap.size w W → Calls Tryd.prog 46 #[ptr g 0, .int .i64 1, .bool first] W fun e w' => e = .returned (.bool true) ∧ w' = W := kM
  have kF2 : ∀ W, Below w.heap.size w W → Calls Tryd.prog 47 #[ptr g 0, .int .i64 1] W fun e w' => e = .returned (.bool false) ∧ w' = W := kF
  have kN2 : Calls Tryd.prog 45 #[.slice (some ⟨b, o, none⟩) line.length cap] w fun e w' => ∃ v, e = .returned (.tuple #[formV N.m, v, .int .i64 0]) ∧ Hid (w'.ownsRow w.heap.size 3 1 v N.ns.length (N.ns.map intV)) ∧ Below w.heap.size w w' := by
    refine kN.mono ?_
    rintro e w' ⟨v, rfl, h1, h2⟩
    exact ⟨v, by rw [he], h1, h2⟩
  have HP : Hid (N.m.part = 1) := hp
  clear hf hT ht hl hR1 hR2 kN he hN kM kF hx hp hc0
  generalize hfm : N.m = m at *
  obtain ⟨mt, mp, mk, ms⟩ := m
  simp only at HP
  have HP' := HP.out
  subst HP'
  clear HP
  go_enter Tryd.func30, Tryd.ntmps30
  go_wp2_with (first | (go_at_call 45; refine kN2.mono ?_; rintro e w1 ⟨v, rfl, ho, hb1⟩; have hs1 := hb1.size; have hb2 : ∀ ob, Below w.heap.size w (w1.alloc ob) := fun ob => hb1.alloc hb1.size ob; have hb3 : ∀ ob, Below w1.heap.size w1 (w1.alloc ob) := fun ob => (Below.refl _ _).alloc (Nat.le_refl _) ob) | (go_at_call 46; refine (kM2 _ (hb2 _)).mono ?_; rintro e W1 ⟨rfl, rfl⟩) | (go_at_call 47; refine (kF2 _ (hb2 _)).mono ?_; rintro e W1 ⟨rfl, rfl⟩) | (go_at_call 39; refine (kC _ (hb2 _)).mono ?_; rintro e W2 ⟨h, rfl, hh, hbh⟩) | (go_at_call 48; refine (kS w1 W2 v h hb1 ho.out ((hb3 _).trans (hbh.mono (by simp))) hh).mono ?_; rintro e W3 ⟨rfl, hF3, hB3⟩))
  go_end0
  exact ⟨rfl, hF3, hB3⟩

end Go.Proofs.YtgjfhfjmdkhllaaDoor
