/- What mayStand, isFull and readLine of package parse do. -/
import Derived.Test.YtgjfhfjmdkhllaaDoorFld
import Derived.Deep.RegionHeld3
import Derived.Deep.RegionLaw
import Derived.Deep.AppendLies
namespace Go.Proofs.YtgjfhfjmdkhllaaDoor
open Go.RowKit
open M
set_option linter.unusedVariables false
set_option linter.unusedSimpArgs false

theorem ret_bool {a b : Bool} (h : a = b) : Ending.returned (.bool a) = .returned (.bool b) := by rw [h]

set_option maxRecDepth 1000000 in
set_option maxHeartbeats 2000000 in
theorem mayStand_any (g part : Nat) (first : Bool) (f : Fl) (a : Option Addr) (c : Nat) (w : World) (h11 : w.cell? ⟨g, 11, none⟩ = some (.slice a f.ops.length c)) (R : Bool) (hR : mayStand f part first = R) :
    Calls Tryd.prog 46 #[ptr g 0, .int .i64 part, .bool first] w fun e w' => e = .returned (.bool R) ∧ w' = w := by
  unfold mayStand at hR
  by_cases h1 : part = 1
  · subst h1
    rw [if_pos rfl] at hR
    subst hR
    go_enter Tryd.func46, Tryd.ntmps46
    go_wp2
    go_ret
    exact ⟨rfl, rfl⟩
  · rw [if_neg h1] at hR
    have k1 : ((part : Int) == 1) = false := beq_eq_false_iff_ne.2 (by omega)
    by_cases h2 : part = 2
    · subst h2
      rw [if_pos rfl] at hR
      clear h1 k1
      cases first with
      | true =>
        simp at hR
        subst hR
        go_enter Tryd.func46, Tryd.ntmps46
        go_wp2
        go_ret
        exact ⟨rfl, rfl⟩
      | false =>
        have hR' : Hid (((f.ops.length : Int) == 0) = R) := by
          show _ = _
          rw [← hR]
          cases f.ops with
          | nil => rfl
          | cons x y => simp; omega
        clear hR
        generalize f.ops.length = n at *
        go_enter Tryd.func46, Tryd.ntmps46
        go_wp2
        go_ret
        exact ⟨ret_bool hR'.out, rfl⟩
    · rw [if_neg h2] at hR
      have k2 : ((part : Int) == 2) = false := beq_eq_false_iff_ne.2 (by omega)
      by_cases h3 : part = 3
      · subst h3
        rw [if_pos rfl] at hR
        subst hR
        clear h1 h2 k1 k2
        go_enter Tryd.func46, Tryd.ntmps46
        go_wp2
        go_ret
        exact ⟨rfl, rfl⟩
      · rw [if_neg h3] at hR
        have k3 : ((part : Int) == 3) = false := beq_eq_false_iff_ne.2 (by omega)
        subst hR
        clear h1 h2 h3
        go_enter Tryd.func46, Tryd.ntmps46
        go_wp2
        go_ret
        exact ⟨rfl, rfl⟩

set_option maxRecDepth 1000000 in
set_option maxHeartbeats 2000000 in
theorem isFull_any (g part : Nat) (f : Fl) (a a' : Option Addr) (c c' : Nat) (w : World) (h10 : w.cell? ⟨g, 10, none⟩ = some (.slice a f.tasks.length c)) (h11 : w.cell? ⟨g, 11, none⟩ = some (.slice a' f.ops.length c')) (R : Bool) (hR : isFull f part = R) :
    Calls Tryd.prog 47 #[ptr g 0, .int .i64 part] w fun e w' => e = .returned (.bool R) ∧ w' = w := by
  unfold isFull at hR
  by_cases h2 : part = 2
  · subst h2
    have hR' : Hid (((f.tasks.length : Int) == 64) = R) := by
      show _ = _
      rw [← hR]
      simp only [beq_self_eq_true, Bool.true_and, show (2 == 3) = false from rfl, Bool.false_and, Bool.or_false]
      by_cases h : f.tasks.length = 64
      · simp [h]
      · rw [beq_eq_false_iff_ne.2 h, beq_eq_false_iff_ne.2 (by omega)]
    clear hR
    generalize f.tasks.length = n at *
    generalize f.ops.length = n' at *
    by_cases h64 : ((n : Int) == 64) = true
    · rw [h64] at hR'
      go_enter Tryd.func47, Tryd.ntmps47
      go_wp2
      go_ret
      exact ⟨ret_bool hR'.out, rfl⟩
    · have h64' : ((n : Int) == 64) = false := by simpa using h64
      rw [h64'] at hR'
      clear h64
      go_enter Tryd.func47, Tryd.ntmps47
      go_wp2
      go_ret
      exact ⟨ret_bool hR'.out, rfl⟩
  · have k2 : ((part : Int) == 2) = false := beq_eq_false_iff_ne.2 (by omega)
    have e2 : (part == 2) = false := beq_eq_false_iff_ne.2 h2
    rw [e2] at hR
    by_cases h3 : part = 3
    · subst h3
      have hR' : Hid (((f.ops.length : Int) == 4096) = R) := by
        show _ = _
        rw [← hR]
        simp only [beq_self_eq_true, Bool.true_and, Bool.false_and, Bool.false_or]
        by_cases h : f.ops.length = 4096
        · simp [h]
        · rw [beq_eq_false_iff_ne.2 h, beq_eq_false_iff_ne.2 (by omega)]
      clear hR h2 k2 e2
      generalize f.tasks.length = n' at *
      generalize f.ops.length = n at *
      go_enter Tryd.func47, Tryd.ntmps47
      go_wp2
      go_ret
      exact ⟨ret_bool hR'.out, rfl⟩
    · have k3 : ((part : Int) == 3) = false := beq_eq_false_iff_ne.2 (by omega)
      have e3 : (part == 3) = false := beq_eq_false_iff_ne.2 h3
      rw [e3] at hR
      simp at hR
      subst hR
      clear h2 h3 e2 e3
      go_enter Tryd.func47, Tryd.ntmps47
      go_wp2
      go_ret
      exact ⟨rfl, rfl⟩

/-! ### A file in memory -/
def taskCells (l : List (Int × Int)) : List Value := l.flatMap fun t => [.int .i64 t.1, .int .i64 t.2]
def opCells (l : List Oz) : List Value := l.flatMap fun o => (opA o).toList
def fileA (f : Fl) (vt vo : Value) : Array Value := (f.cfg.map intV ++ [vt, vo]).toArray
/-- A file in block g; its rows are from B on. -/
structure FileAt (w : World) (g B : Nat) (f : Fl) (vt vo : Value) : Prop where
  blk : w.heap[g]? = some (.cells (fileA f vt vo) 29 (0, 0))
  ts : w.ownsRow B 51 2 vt f.tasks.length (taskCells f.tasks)
  os : w.ownsRow B 46 5 vo f.ops.length (opCells f.ops)
  cfg : f.cfg.length = 10
/-- Below B all is as it was, but block g. -/
structure But (g B : Nat) (w w' : World) : Prop where
  os : w'.os = w.os
  tape : w'.tape = w.tape
  output : w'.output = w.output
  size : w.heap.size ≤ w'.heap.size
  block : ∀ k, k < B → k ≠ g → w'.heap[k]? = w.heap[k]?
theorem But.refl (g B : Nat) (w : World) : But g B w w := ⟨rfl, rfl, rfl, Nat.le_refl _, fun _ _ _ => rfl⟩
theorem But.trans {g B : Nat} {a b c : World} (h : But g B a b) (k : But g B b c) : But g B a c :=
  ⟨k.os.trans h.os, k.tape.trans h.tape, k.output.trans h.output, Nat.le_trans h.size k.size, fun i hi hg => (k.block i hi hg).trans (h.block i hi hg)⟩
theorem But.of {g B : Nat} {w w' : World} (h : Below B w w') : But g B w w' := ⟨h.os, h.tape, h.output, h.size, fun k hk _ => h.block k hk⟩
theorem But.only {g B : Nat} {w w' : World} (h : Only g w w') : But g B w w' := ⟨h.os, h.tape, h.output, by rw [h.size]; exact Nat.le_refl _, fun k _ hg => h.block k hg⟩
theorem But.cell {g B : Nat} {w w' : World} (h : But g B w w') {p : Addr} (hp : p.block < B) (hg : p.block ≠ g) : w'.cell? p = w.cell? p := World.cell?_of_block (w := w) (h.block p.block hp hg)

theorem fileA_at {f : Fl} (h : f.cfg.length = 10) (vt vo : Value) : (fileA f vt vo)[10]? = some vt ∧ (fileA f vt vo)[11]? = some vo ∧ (fileA f vt vo).size = 12 := by
  unfold fileA
  refine ⟨?_, ?_, by simp [h]⟩
  · simp [List.getElem?_append_right, h]
  · simp [List.getElem?_append_right, h]

theorem FileAt.below {w w' : World} {g B : Nat} {f : Fl} {vt vo : Value} (h : FileAt w g B f vt vo) (hb : Below w.heap.size w w') : FileAt w' g B f vt vo :=
  ⟨by rw [hb.block g (block_lt h.blk)]; exact h.blk, own_below h.ts hb (fun k hk => (h.ts.lt k hk).2), own_below h.os hb (fun k hk => (h.os.lt k hk).2), h.cfg⟩

/-- What a line that is wrong is panicked with. -/
abbrev faultV (l e : Int) : List PanicEntry := [{ v := .iface 69 (.agg #[.int .i64 l, .int .i64 e]), recovered := false }]

set_option maxRecDepth 1000000 in
set_option maxHeartbeats 4000000 in
theorem readLine_err (g B b o cap : Nat) (f : Fl) (vt vo : Value) (line : List Tok) (first : Bool) (w : World) (hT : Tabs w) (hf : FileAt w g B f vt vo) (hl : LineOk line) (hcap : line.length ≤ cap) (hn : line.length ≤ 1000000) (ht : TAt w b o line) (hbw : b < w.heap.size) (hn0 : 0 < line.length)
    (E : Int) (hE : lineErr f line first = E) (hE0 : E ≠ 0) :
    Calls Tryd.prog 30 #[ptr g 0, .slice (some ⟨b, o, none⟩) line.length cap, .bool first] w fun e w' => e = .panicked (faultV line[0].line E) ∧ Below w.heap.size w w' := by
  obtain ⟨N, hN⟩ : ∃ N, near line = N := ⟨_, rfl⟩
  have kN := nearest_any b o cap line w hT hl hcap hn ht hbw N hN
  obtain ⟨R1, hR1⟩ : ∃ R1, mayStand f N.m.part first = R1 := ⟨_, rfl⟩
  obtain ⟨R2, hR2⟩ : ∃ R2, isFull f N.m.part = R2 := ⟨_, rfl⟩
  obtain ⟨at1, ct1, rfl⟩ := own_slice hf.ts
  obtain ⟨ao1, co1, rfl⟩ := own_slice hf.os
  have kM : ∀ W, Below w.heap.size w W → Calls Tryd.prog 46 #[ptr g 0, .int .i64 N.m.part, .bool first] W fun e w' => e = .returned (.bool R1) ∧ w' = W := fun W hW =>
    mayStand_any g N.m.part first f ao1 co1 W (by rw [Lib.cell_of_heap (hf.below hW).blk]; exact (fileA_at hf.cfg _ _).2.1) R1 hR1
  have kF : ∀ W, Below w.heap.size w W → Calls Tryd.prog 47 #[ptr g 0, .int .i64 N.m.part] W fun e w' => e = .returned (.bool R2) ∧ w' = W := fun W hW =>
    isFull_any g N.m.part f at1 ao1 ct1 co1 W (by rw [Lib.cell_of_heap (hf.below hW).blk]; exact (fileA_at hf.cfg _ _).1) (by rw [Lib.cell_of_heap (hf.below hW).blk]; exact (fileA_at hf.cfg _ _).2.1) R2 hR2
  have hc : ∀ W, Below w.heap.size w W → W.cell? ⟨b, o + 2, none⟩ = some (.int .i64 line[0].line) := fun W hW => by
    have := ((ht.below hW hbw) 0 hn0).2.2
    simpa using this
  unfold lineErr at hE
  rw [hN, hR1, hR2] at hE
  generalize ((line[0].line : Nat) : Int) = ll at *
  have hne : ((line.length : Int)) > 0 := by omega
  clear hf hT ht hl hR1 hR2
  cases R1 with
  | false =>
    rw [if_pos rfl] at hE
    subst hE
    go_enter Tryd.func30, Tryd.ntmps30
    go_wp2_with (first | (go_at_call 45; refine kN.mono ?_; rintro e w1 ⟨v, rfl, ho, hb1⟩; have hc1 := hc w1 hb1; have hb2 := hb1.alloc hb1.size (.cells #[strV N.m.text, .int .i64 N.m.part, .int .i64 N.m.kind, .int .i64 N.m.says] 86); have hs1 := hb1.size) | (go_at_call 46; refine (kM _ hb2).mono ?_; rintro e W1 ⟨rfl, rfl⟩))
    exact ⟨rfl, rfl, hb2⟩
  | true =>
    rw [if_neg (by simp)] at hE
    cases R2 with
    | true =>
      rw [if_pos rfl] at hE
      subst hE
      go_enter Tryd.func30, Tryd.ntmps30
      go_wp2_with (first | (go_at_call 45; refine kN.mono ?_; rintro e w1 ⟨v, rfl, ho, hb1⟩; have hc1 := hc w1 hb1; have hb2 := hb1.alloc hb1.size (.cells #[strV N.m.text, .int .i64 N.m.part, .int .i64 N.m.kind, .int .i64 N.m.says] 86); have hs1 := hb1.size) | (go_at_call 46; refine (kM _ hb2).mono ?_; rintro e W1 ⟨rfl, rfl⟩) | (go_at_call 47; refine (kF _ hb2).mono ?_; rintro e W1 ⟨rfl, rfl⟩))
      exact ⟨rfl, rfl, hb2⟩
    | false =>
      rw [if_neg (by simp)] at hE
      subst hE
      have hE1 : (N.err != 0) = true := bne_iff_ne.2 hE0
      clear hE0
      go_enter Tryd.func30, Tryd.ntmps30
      go_wp2_with (first | (go_at_call 45; refine kN.mono ?_; rintro e w1 ⟨v, rfl, ho, hb1⟩; have hc1 := hc w1 hb1; have hb2 := hb1.alloc hb1.size (.cells #[strV N.m.text, .int .i64 N.m.part, .int .i64 N.m.kind, .int .i64 N.m.says] 86); have hs1 := hb1.size) | (go_at_call 46; refine (kM _ hb2).mono ?_; rintro e W1 ⟨rfl, rfl⟩) | (go_at_call 47; refine (kF _ hb2).mono ?_; rintro e W1 ⟨rfl, rfl⟩))
      exact ⟨rfl, rfl, hb2⟩

theorem fileA_set10 {f : Fl} (h : f.cfg.length = 10) (vt vo u : Value) (ts : List (Int × Int)) : (fileA f vt vo).setIfInBounds 10 u = fileA { f with tasks := ts } u vo := by
  unfold fileA
  simp [List.set_append_right, h]
theorem fileA_set11 {f : Fl} (h : f.cfg.length = 10) (vt vo u : Value) (os : List Oz) : (fileA f vt vo).setIfInBounds 11 u = fileA { f with ops := os } vt u := by
  unfold fileA
  simp [List.set_append_right, h]
theorem But.setCell {g B : Nat} {a w : World} (h : But g B a w) (o : Nat) (u : Value) : But g B a (w.setCell ⟨g, o, none⟩ u) :=
  h.trans ⟨rfl, rfl, rfl, by simp [World.setCell], fun k _ hg => Below.heap_setCell _ _ _ _ hg⟩
theorem But.drew {g B : Nat} {a w : World} (h : But g B a w) : But g B a w.drew := ⟨h.os, h.tape, h.output, h.size, h.block⟩

theorem info51 : (Tryd.prog.info? 51).map (fun i => (i.zero, i.size, i.bytes)) = some (some (.agg #[.int .i64 0, .int .i64 0]), 2, 16) := by kernel_rfl
theorem info46 : (Tryd.prog.info? 46).map (fun i => (i.zero, i.size, i.bytes)) = some (some (.agg #[.int .i64 0, .int .i64 0, .int .i64 0, .int .i64 0, .int .i64 0]), 5, 40) := by kernel_rfl

set_option maxRecDepth 1000000 in
set_option maxHeartbeats 8000000 in
theorem readLine_task (g B b o cap : Nat) (f : Fl) (vt vo : Value) (line : List Tok) (first : Bool) (w : World) (hT : Tabs w) (hf : FileAt w g B f vt vo) (hgB : g < B) (hBw : B ≤ w.heap.size) (hl : LineOk line) (hcap : line.length ≤ cap) (hn : line.length ≤ 1000000) (ht : TAt w b o line) (hbw : b < w.heap.size) (htl : f.tasks.length ≤ 64)
    (N : Nr) (hN : near line = N) (x0 x1 : Int) (hx : N.ns = [x0, x1]) (hp : N.m.part = 2) (he : N.err = 0) (hR1 : mayStand f N.m.part first = true) (hR2 : isFull f N.m.part = false) :
    Calls Tryd.prog 30 #[ptr g 0, .slice (some ⟨b, o, none⟩) line.length cap, .bool first] w fun e w' => e = .returned (.tuple #[]) ∧ (∃ vt', FileAt w' g B { f with tasks := f.tasks ++ [(x0, x1)] } vt' vo) ∧ But g B w w' := by
  obtain ⟨i5, hi5, hz0, hz1, hz2⟩ := info_parts info51
  have kN := nearest_any b o cap line w hT hl hcap hn ht hbw N hN
  obtain ⟨at1, ct1, rfl⟩ := own_slice hf.ts
  obtain ⟨ao1, co1, rfl⟩ := own_slice hf.os
  have kM : ∀ W, Below w.heap.size w W → Calls Tryd.prog 46 #[ptr g 0, .int .i64 N.m.part, .bool first] W fun e w' => e = .returned (.bool true) ∧ w' = W := fun W hW =>
    mayStand_any g N.m.part first f ao1 co1 W (by rw [Lib.cell_of_heap (hf.below hW).blk]; exact (fileA_at hf.cfg _ _).2.1) _ hR1
  have kF : ∀ W, Below w.heap.size w W → Calls Tryd.prog 47 #[ptr g 0, .int .i64 N.m.part] W fun e w' => e = .returned (.bool false) ∧ w' = W := fun W hW =>
    isFull_any g N.m.part f at1 ao1 ct1 co1 W (by rw [Lib.cell_of_heap (hf.below hW).blk]; exact (fileA_at hf.cfg _ _).1) (by rw [Lib.cell_of_heap (hf.below hW).blk]; exact (fileA_at hf.cfg _ _).2.1) _ hR2
  have kN2 : Calls Tryd.prog 45 #[.slice (some ⟨b, o, none⟩) line.length cap] w fun e w' => ∃ vb vc, e = .returned (.tuple #[formV N.m, .slice (some ⟨vb, 0, none⟩) 2 vc, .int .i64 0]) ∧ Below w.heap.size w w' ∧ w'.cell? ⟨vb, 0, none⟩ = some (.int .i64 x0) ∧ w'.cell? ⟨vb, 1, none⟩ = some (.int .i64 x1) ∧ w.heap.size ≤ vb ∧ vb < w'.heap.size ∧ 2 ≤ vc ∧ Hid (∃ cs, w'.heap[vb]? = some (.cells cs 3 (0, 0))) := by
    refine kN.mono ?_
    rintro e w1 ⟨v, rfl, ho, hb1⟩
    rw [hx] at ho
    obtain ⟨vb, vc, rfl, h1, h2⟩ := ho.form (by simp)
    have hvc : 2 ≤ vc ∧ ∃ cs, w1.heap[vb]? = some (.cells cs 3 (0, 0)) := by
      rcases ho.2 with ⟨hv, _⟩ | ⟨g', c', cur, hv, _, h3, h4, _⟩
      · cases hv
      · cases hv; exact ⟨h4, _, h3⟩
    exact ⟨vb, vc, by rw [he]; rfl, hb1, own_cell ho 0 (by simp), own_cell ho 1 (by simp), h1, h2, hvc.1, hvc.2⟩
  have hfb : ∀ W, Below w.heap.size w W → FileAt W g B f (.slice at1 f.tasks.length ct1) (.slice ao1 f.ops.length co1) := fun W hW => hf.below hW
  have hglt := block_lt hf.blk
  have hcfg := hf.cfg
  have hbk : ∀ k, (Value.slice at1 f.tasks.length ct1).ownBlock = some k → B ≤ k := fun k hk => (hf.ts.lt k hk).1
  rw [hp] at kM kF
  have kM2 : ∀ W, Below w.heap.size w W → Calls Tryd.prog 46 #[ptr g 0, .int .i64 2, .bool first] W fun e w' => e = .returned (.bool true) ∧ w' = W := kM
  have kF2 : ∀ W, Below w.heap.size w W → Calls Tryd.prog 47 #[ptr g 0, .int .i64 2] W fun e w' => e = .returned (.bool false) ∧ w' = W := kF
  clear hf hT ht hl hR1 hR2 kN hx he hN kM kF
  go_enter Tryd.func30, Tryd.ntmps30
  go_wp2_with (first | (go_at_call 45; refine kN2.mono ?_; rintro e w1 ⟨vb, vc, rfl, hb1, n0, n1, hv0, hv1, hvc, hv3⟩; have hs1 := hb1.size; have hb2 : ∀ ob, Below w.heap.size w (w1.alloc ob) := fun ob => hb1.alloc hb1.size ob) | (go_at_call 46; refine (kM2 _ (hb2 _)).mono ?_; rintro e W1 ⟨rfl, rfl⟩) | (go_at_call 47; refine (kF2 _ (hb2 _)).mono ?_; rintro e W1 ⟨rfl, rfl⟩))
  generalize hwz : World.alloc w1 _ = wz
  have hb1z : Below w1.heap.size w1 wz := by rw [← hwz]; exact (Below.refl _ _).alloc (Nat.le_refl _) _
  have hbz : Below w.heap.size w wz := hb1.trans (hb1z.mono hs1)
  have hfz := hfb wz hbz
  have hsz := hbz.size
  have m0 : wz.cell? ⟨vb, 0, none⟩ = some (.int .i64 x0) := by rw [hb1z.cell (p := ⟨vb, 0, none⟩) hv1]; exact n0
  have m1 : wz.cell? ⟨vb, 1, none⟩ = some (.int .i64 x1) := by rw [hb1z.cell (p := ⟨vb, 1, none⟩) hv1]; exact n1
  have mg : wz.cell? ⟨g, 10, none⟩ = some (.slice at1 f.tasks.length ct1) := by rw [Lib.cell_of_heap hfz.blk]; exact (fileA_at hcfg _ _).1
  have mf : wz.frozen? ⟨g, 10, none⟩ = false := Lib.frozen_of_heap hfz.blk 10
  have hfrz : ∀ ob : Obj, (wz.alloc ob).frozen? ⟨g, 10, none⟩ = false := fun ob => by
    rw [((Below.refl wz.heap.size wz).alloc (Nat.le_refl _) ob).frozen (p := ⟨g, 10, none⟩) (block_lt hfz.blk)]; exact mf
  have mgz : ∀ ob : Obj, (wz.alloc ob).cell? ⟨g, 10, none⟩ = some (.slice at1 f.tasks.length ct1) := fun ob => by
    rw [((Below.refl wz.heap.size wz).alloc (Nat.le_refl _) ob).cell (p := ⟨g, 10, none⟩) (block_lt hfz.blk)]; exact mg
  have hvz : ∃ cs, wz.heap[vb]? = some (.cells cs 3 (0, 0)) := by obtain ⟨cs, h⟩ := hv3.out; exact ⟨cs, by rw [hb1z.block _ hv1]; exact h⟩
  have hvlt : vb < wz.heap.size := by have := hb1z.size; omega
  have ag : (Value.slice at1 f.tasks.length ct1).ownBlock ≠ some g := own_ne hfz.ts hfz.blk (by decide)
  have av : (Value.slice at1 f.tasks.length ct1).ownBlock ≠ some vb := by obtain ⟨cs, h⟩ := hvz; exact own_ne hfz.ts h (by decide)
  have HF : Hid (FileAt wz g B f (.slice at1 f.tasks.length ct1) (.slice ao1 f.ops.length co1)) := hfz
  have HOT : Hid (wz.ownsRow B 51 2 (.slice at1 f.tasks.length ct1) f.tasks.length (taskCells f.tasks)) := hfz.ts
  clear hfz n0 n1 hfb hv3 hvz hwz hb1z hb1 hb2 kM2 kF2 kN2
  have hx0 : (0 : Int) < 2 := by omega
  generalize hnt : f.tasks.length = nt at *
  go_region_law
    ((refine step_append_lies _ (by rfl) _ _ _ (by rfl) B 51 i5 _ 2 16 Tryd.underlying26 hi5 hz0 hz1 hz2 rfl (by omega) (.slice at1 nt ct1) nt (taskCells f.tasks) (by rfl) ((HOT.out.alloc _).drew)
        ⟨wz.heap.size, 0, none⟩ 1 1 [.int .i64 x0, .int .i64 x1] (by rfl) (by rfl) (World.news_of_block (cs := #[.int .i64 x0, .int .i64 x1]) (t := 51) (fr := (0, 0)) (heap_alloc_new wz _)) (by simp [Value.oneCell'])
        (by omega) (by unfold maxLen; omega) (by omega) (by simp; omega) (wz.heap.size + 1) (by simp) ?_; intro gg cg w2 hown1 hgrow hat hlt; have q1 : w2.cell? ⟨g, 10, none⟩ = some (.slice at1 nt ct1) := (by rw [hgrow.cell_far ⟨g, 10, none⟩ (by simp; omega) (Ne.symm ag)]; simp [mgz]); have q2 : w2.frozen? ⟨g, 10, none⟩ = false := (by rw [hgrow.frozen_far ⟨g, 10, none⟩ (by simp; omega) (Ne.symm ag)]; simp [hfrz])))
  all_goals go_wp2
  all_goals go_end0
  all_goals (
    have hB2 : Below B w w2 := ((hbz.mono hBw).alloc (by omega) _).drew.grown hgrow (by simp; omega) hbk
    have hblk : w2.heap[g]? = some (.cells (fileA f (.slice at1 nt ct1) (.slice ao1 f.ops.length co1)) 29 (0, 0)) := by
      rw [hgrow.block g (by simp; omega) (Ne.symm ag)]
      show (World.alloc wz _).heap[g]? = _
      rw [Below.heap_alloc _ _ _ (by omega)]; exact HF.out.blk
    have hset := Joins.block_setCell (i := 10) hblk (.slice (some ⟨gg, 0, none⟩) (nt + 1) cg)
    rw [fileA_set10 hcfg _ _ _ (f.tasks ++ [(x0, x1)])] at hset
    refine ⟨rfl, ⟨_, ⟨hset, ?_, ?_, hcfg⟩⟩, (But.of hB2).setCell _ _⟩
    · have := own_set hown1 hblk (by decide) 10 (.slice (some ⟨gg, 0, none⟩) (nt + 1) cg)
      simpa [taskCells, hnt] using this
    · have h1 : w2.ownsRow B 46 5 (.slice ao1 f.ops.length co1) f.ops.length (opCells f.ops) := own_other ((HF.out.os.alloc _).drew) ((HOT.out.alloc _).drew) (by decide) hgrow
      exact own_set h1 hblk (by decide) 10 _)

end Go.Proofs.YtgjfhfjmdkhllaaDoor
