/- ParseBack: the walk. -/
import Derived.Test.YtgjfhfjmdkhllaaDoorBakC
namespace Go.Proofs.YtgjfhfjmdkhllaaDoor
open Go.RowKit
open M
set_option linter.unusedVariables false
set_option linter.unusedSimpArgs false

set_option maxRecDepth 1000000 in
set_option maxHeartbeats 1500000 in
theorem back_some_ok (x0 x1 x2 x3 x4 x5 x6 x7 x8 x9 : Int) (f : Fl) (ta oa : Option Addr) (tc oc : Nat) (w : World) (v : Value) (hT : Tabs w) (hI : InF w v f x0 x1 x2 x3 x4 x5 x6 x7 x8 x9 ta oa tc oc) (ba : Option Addr) (bs : List UInt8) (bc : Nat) (hbl0 : bs.length ≤ bc) (hbc : bc ≤ maxLen) (hby0 : Bytes w ba bs) (x : Fl) (z0 z1 z2 z3 z4 z5 z6 z7 z8 z9 : Int) (hxc : x.cfg = [z0, z1, z2, z3, z4, z5, z6, z7, z8, z9]) (hxo : FileOk x) (hxt : textF x = some (fileB x)) (hPE : parseF (bs.take 4000) = ⟨x, 0, 0⟩) (hxl : (fileB x).length ≤ 65536) (hxb : parseF (fileB x) = ⟨x, 0, 0⟩) (r : List UInt8) (hno : textF (fewF f) = some r) :
    Calls Tryd.prog 5 #[v, .slice ba bs.length bc] w fun e w' => e = .returned (.bool true) ∧ Below w.heap.size w w' := by
  have hmin : ∀ ts t W, (Builtin.min_ ts t #[.int .i64 (bs.length : Int), .int .i64 4000]).run Tryd.prog W = .ok (.int .i64 ((min 4000 bs.length : Nat) : Int)) W := min_is bs.length 4000
  have hby : Bytes w ba (bs.take 4000) := hby0.take 4000
  have hbl : (bs.take 4000).length ≤ bc := by simp; omega
  obtain ⟨mb, hmb⟩ : ∃ mb, (bs.take 4000).length = mb := ⟨_, rfl⟩
  have hmb2 : min 4000 bs.length = mb := by rw [← hmb]; simp
  rw [hmb2] at hmin
  have hmbc : mb ≤ bc := by omega
  have hbcI : bc ≤ 9223372036854775807 := by unfold maxLen at hbc; omega
  obtain ⟨rfl, hcf, hti0, hoi0, ⟨tl1, tl2⟩, ⟨ol1, ol2⟩, _, _, _⟩ := hI
  obtain ⟨hg1, hg2⟩ := fewF_len f
  have hgc : (fewF f).cfg = [x0, x1, x2, x3, x4, x5, x6, x7, x8, x9] := hcf
  have hti : TasksIn w ta (fewF f).tasks := hti0.take 70
  have hoi : OpsIn w oa (fewF f).ops := hoi0.take 200
  have hm1 : (fewF f).tasks.length ≤ 70 := by omega
  have hm2 : (fewF f).ops.length ≤ 200 := by omega
  have hbx : Below w.heap.size w (w.alloc (.cells #[.int .i64 x0, .int .i64 x1, .int .i64 x2, .int .i64 x3, .int .i64 x4, .int .i64 x5, .int .i64 x6, .int .i64 x7, .int .i64 x8, .int .i64 x9, .slice ta f.tasks.length tc, .slice oa f.ops.length oc] 29)) := (Below.refl _ _).alloc (Nat.le_refl _) _
  have kS : Calls Tryd.prog 9 #[] (w.alloc (.cells #[.int .i64 x0, .int .i64 x1, .int .i64 x2, .int .i64 x3, .int .i64 x4, .int .i64 x5, .int .i64 x6, .int .i64 x7, .int .i64 x8, .int .i64 x9, .slice ta f.tasks.length tc, .slice oa f.ops.length oc] 29)) fun e w1 => e = .returned (.bool true) ∧ Hid (Below w.heap.size w w1) ∧ Hid (w1.heap[w.heap.size]? = some (.cells #[.int .i64 x0, .int .i64 x1, .int .i64 x2, .int .i64 x3, .int .i64 x4, .int .i64 x5, .int .i64 x6, .int .i64 x7, .int .i64 x8, .int .i64 x9, .slice ta f.tasks.length tc, .slice oa f.ops.length oc] 29 (0, 0))) := by
    refine (shown_any _ (hT.alloc _)).mono ?_
    rintro e w1 ⟨rfl, hb⟩
    exact ⟨rfl, hbx.trans (hb.mono hbx.size), by show _ = _; rw [hb.block _ (by simp)]; exact heap_alloc_new w _⟩
  have kF : ∀ w1, Below w.heap.size w w1 → w1.heap[w.heap.size]? = some (.cells #[.int .i64 x0, .int .i64 x1, .int .i64 x2, .int .i64 x3, .int .i64 x4, .int .i64 x5, .int .i64 x6, .int .i64 x7, .int .i64 x8, .int .i64 x9, .slice ta f.tasks.length tc, .slice oa f.ops.length oc] 29 (0, 0)) → Calls Tryd.prog 13 #[.agg #[.int .i64 x0, .int .i64 x1, .int .i64 x2, .int .i64 x3, .int .i64 x4, .int .i64 x5, .int .i64 x6, .int .i64 x7, .int .i64 x8, .int .i64 x9, .slice ta f.tasks.length tc, .slice oa f.ops.length oc]] w1 fun e w2 => e = .returned (.agg #[.int .i64 x0, .int .i64 x1, .int .i64 x2, .int .i64 x3, .int .i64 x4, .int .i64 x5, .int .i64 x6, .int .i64 x7, .int .i64 x8, .int .i64 x9, .slice ta (fewF f).tasks.length tc, .slice oa (fewF f).ops.length oc]) ∧ Hid (Below w.heap.size w w2) ∧ Hid (w2.heap[w.heap.size]? = some (.cells #[.int .i64 x0, .int .i64 x1, .int .i64 x2, .int .i64 x3, .int .i64 x4, .int .i64 x5, .int .i64 x6, .int .i64 x7, .int .i64 x8, .int .i64 x9, .slice ta f.tasks.length tc, .slice oa f.ops.length oc] 29 (0, 0))) := fun w1 h1 h2 => by
    rw [hg1, hg2]
    refine (few_any x0 x1 x2 x3 x4 x5 x6 x7 x8 x9 f.tasks.length f.ops.length ta oa tc oc w1 tl1 ol1 tl2 ol2).mono ?_
    rintro e w2 ⟨rfl, hb⟩
    exact ⟨rfl, h1.trans (hb.mono h1.size), by show _ = _; rw [hb.block _ (block_lt h2)]; exact h2⟩
  have hfO : (fewF f).ops.length ≤ 4096 := by omega
  have hR := hno
  clear hno
  generalize fewF f = g at *
  clear hg1 hg2 hti0 hoi0 hbx hcf
  generalize f.tasks.length = n1 at *
  generalize f.ops.length = n2 at *
  clear tl1 tl2 ol1 ol2
  have kT : ∀ w2, Below w.heap.size w w2 → w2.heap[w.heap.size]? = some (.cells #[.int .i64 x0, .int .i64 x1, .int .i64 x2, .int .i64 x3, .int .i64 x4, .int .i64 x5, .int .i64 x6, .int .i64 x7, .int .i64 x8, .int .i64 x9, .slice ta n1 tc, .slice oa n2 oc] 29 (0, 0)) → Calls Tryd.prog 14 #[.agg #[.int .i64 x0, .int .i64 x1, .int .i64 x2, .int .i64 x3, .int .i64 x4, .int .i64 x5, .int .i64 x6, .int .i64 x7, .int .i64 x8, .int .i64 x9, .slice ta g.tasks.length tc, .slice oa g.ops.length oc]] (put12 w2 w.heap.size (.int .i64 x0) (.int .i64 x1) (.int .i64 x2) (.int .i64 x3) (.int .i64 x4) (.int .i64 x5) (.int .i64 x6) (.int .i64 x7) (.int .i64 x8) (.int .i64 x9) (.slice ta g.tasks.length tc) (.slice oa g.ops.length oc)) fun e w4 => e = .returned (.tuple #[.string ⟨r.toArray⟩, .int .i64 0]) ∧ Hid (Below w.heap.size w w4) ∧ Hid (w4.heap[w.heap.size]? = some (.cells #[.int .i64 x0, .int .i64 x1, .int .i64 x2, .int .i64 x3, .int .i64 x4, .int .i64 x5, .int .i64 x6, .int .i64 x7, .int .i64 x8, .int .i64 x9, .slice ta g.tasks.length tc, .slice oa g.ops.length oc] 29 (0, 0))) := fun w2 h1 h2 => by
    obtain ⟨p1, p2⟩ := put_file (Nat.le_refl _) h1 h2 (.int .i64 x0) (.int .i64 x1) (.int .i64 x2) (.int .i64 x3) (.int .i64 x4) (.int .i64 x5) (.int .i64 x6) (.int .i64 x7) (.int .i64 x8) (.int .i64 x9) (.slice ta g.tasks.length tc) (.slice oa g.ops.length oc)
    refine (text_some x0 x1 x2 x3 x4 x5 x6 x7 x8 x9 g hgc ta oa tc oc _ (hT.on p2 hT.big) (hti.below p2 (Nat.le_refl _)) (hoi.below p2 (Nat.le_refl _)) r hR).mono ?_
    rintro e w4 ⟨rfl, hb⟩
    exact ⟨rfl, p2.trans (hb.mono p2.size), by show _ = _; rw [hb.block _ (block_lt p1)]; exact p1⟩
  have hG0 : g.tasks.length ≤ 64 ∧ fileOut g = some r := by
    unfold textF at hR
    split at hR
    · cases hR
    · exact ⟨by omega, hR⟩
  obtain ⟨hgt, hfo⟩ := hG0
  obtain ⟨hG, hrB⟩ := fileOut_gd (by rw [hgc]; rfl) hfo
  have hrl := fileB_len hG
  have hrl2 : r.length ≤ 20000 := by rw [hrB]; omega
  have hRA : parseF r = ⟨g, 0, 0⟩ := by rw [hrB]; exact parse_back hG hgt (by omega) (by omega)
  obtain ⟨capA, wFA, hcvA, hprA⟩ := conv_all ⟨r.toArray⟩ r rfl (by omega)
  have HPA := hide_it hprA
  obtain ⟨nA, hnA⟩ : ∃ n, r.length = n := ⟨_, rfl⟩
  rw [hnA] at hcvA
  clear hprA
  have kPA : ∀ w4, Below w.heap.size w w4 → w4.heap[w.heap.size]? = some (.cells #[.int .i64 x0, .int .i64 x1, .int .i64 x2, .int .i64 x3, .int .i64 x4, .int .i64 x5, .int .i64 x6, .int .i64 x7, .int .i64 x8, .int .i64 x9, .slice ta g.tasks.length tc, .slice oa g.ops.length oc] 29 (0, 0)) → Calls Tryd.prog 10 #[.slice (some ⟨w4.heap.size, 0, none⟩) nA (capA w4)] (wFA w4) fun e w5 => ∃ t5 c5 o5 d5, e = .returned (.tuple #[.agg #[.int .i64 x0, .int .i64 x1, .int .i64 x2, .int .i64 x3, .int .i64 x4, .int .i64 x5, .int .i64 x6, .int .i64 x7, .int .i64 x8, .int .i64 x9, .slice t5 g.tasks.length c5, .slice o5 g.ops.length d5], .int .i64 0, .int .i64 0]) ∧ Hid (Below w.heap.size w w5) ∧ Hid (w5.heap[w.heap.size]? = some (.cells #[.int .i64 x0, .int .i64 x1, .int .i64 x2, .int .i64 x3, .int .i64 x4, .int .i64 x5, .int .i64 x6, .int .i64 x7, .int .i64 x8, .int .i64 x9, .slice ta g.tasks.length tc, .slice oa g.ops.length oc] 29 (0, 0))) ∧ Hid (TasksIn w5 t5 g.tasks) ∧ Hid (OpsIn w5 o5 g.ops) := fun w4 h0 hE => by
    obtain ⟨p1, p2, p3, p4⟩ := HPA.out w4
    have hb : Below w.heap.size w (wFA w4) := h0.trans (p4.mono h0.size)
    have := parse_file x0 x1 x2 x3 x4 x5 x6 x7 x8 x9 _ _ _ (wFA w4) (hT.on hb hT.big) p2 p3 p1 g hgc 0 0 hRA
    rw [hnA] at this
    refine this.mono ?_
    rintro e w' ⟨a1, a2, a3, a4, rfl, h1, h2, h⟩
    exact ⟨a1, a2, a3, a4, rfl, hb.trans (h.mono hb.size), by show _ = _; rw [h.block _ (Nat.lt_of_lt_of_le (block_lt hE) p4.size), p4.block _ (block_lt hE)]; exact hE, h1, h2⟩
  have kMA : ∀ (w5 : World) t5 c5 o5 d5, Below w.heap.size w w5 → TasksIn w5 t5 g.tasks → OpsIn w5 o5 g.ops → ∀ ob1 : Obj, Calls Tryd.prog 12 #[.agg #[.int .i64 x0, .int .i64 x1, .int .i64 x2, .int .i64 x3, .int .i64 x4, .int .i64 x5, .int .i64 x6, .int .i64 x7, .int .i64 x8, .int .i64 x9, .slice t5 g.tasks.length c5, .slice o5 g.ops.length d5], .agg #[.int .i64 x0, .int .i64 x1, .int .i64 x2, .int .i64 x3, .int .i64 x4, .int .i64 x5, .int .i64 x6, .int .i64 x7, .int .i64 x8, .int .i64 x9, .slice ta g.tasks.length tc, .slice oa g.ops.length oc]] (w5.alloc ob1) fun e w6 => e = .returned (.bool true) ∧ Hid (Below w.heap.size w w6) := fun w5 t5 c5 o5 d5 h0 h1 h2 ob1 => by
    have hb := alloc_bel w5 ob1
    have hb0 : Below w.heap.size w (w5.alloc ob1) := h0.trans (hb.mono h0.size)
    refine (same_true x0 x1 x2 x3 x4 x5 x6 x7 x8 x9 g _ _ rfl rfl t5 o5 ta oa c5 d5 tc oc (w5.alloc ob1) (h1.below hb (Nat.le_refl _)) (h2.below hb (Nat.le_refl _)) (hti.below hb0 (Nat.le_refl _)) (hoi.below hb0 (Nat.le_refl _)) (by omega) (by omega)).mono ?_
    rintro e w6 ⟨rfl, h⟩
    exact ⟨rfl, hb0.trans (h.mono hb0.size)⟩
  obtain ⟨capX, wFX, hcvX, hprX⟩ := conv_all ⟨(fileB x).toArray⟩ (fileB x) rfl (by omega)
  have HPX := hide_it hprX
  obtain ⟨nx, hnx⟩ : ∃ n, (fileB x).length = n := ⟨_, rfl⟩
  have HNX := hide_it hnx
  rw [hnx] at hcvX
  clear hprX hnx
  obtain ⟨hxo1, hxo2⟩ := hxo
  have kB : ∀ W, Below w.heap.size w W → Calls Tryd.prog 10 #[.slice ba mb bc] W fun e w7 => ∃ tb td ob od, e = .returned (.tuple #[.agg #[.int .i64 z0, .int .i64 z1, .int .i64 z2, .int .i64 z3, .int .i64 z4, .int .i64 z5, .int .i64 z6, .int .i64 z7, .int .i64 z8, .int .i64 z9, .slice tb x.tasks.length td, .slice ob x.ops.length od], .int .i64 0, .int .i64 0]) ∧ Hid (Below w.heap.size w w7) ∧ Hid (TasksIn w7 tb x.tasks) ∧ Hid (OpsIn w7 ob x.ops) := fun W hW => by
    have := parse_file z0 z1 z2 z3 z4 z5 z6 z7 z8 z9 ba bc _ W (hT.on hW hT.big) hbl hbc (hby.below hW) x hxc 0 0 hPE
    rw [hmb] at this
    refine this.mono ?_
    rintro e w' ⟨a1, a2, a3, a4, rfl, h1, h2, h⟩
    exact ⟨a1, a2, a3, a4, rfl, hW.trans (h.mono hW.size), h1, h2⟩
  have kT2 : ∀ w7 tb td ob od, Below w.heap.size w w7 → TasksIn w7 tb x.tasks → OpsIn w7 ob x.ops → Calls Tryd.prog 14 #[.agg #[.int .i64 z0, .int .i64 z1, .int .i64 z2, .int .i64 z3, .int .i64 z4, .int .i64 z5, .int .i64 z6, .int .i64 z7, .int .i64 z8, .int .i64 z9, .slice tb x.tasks.length td, .slice ob x.ops.length od]] (w7.alloc (.cells #[.int .i64 z0, .int .i64 z1, .int .i64 z2, .int .i64 z3, .int .i64 z4, .int .i64 z5, .int .i64 z6, .int .i64 z7, .int .i64 z8, .int .i64 z9, .slice tb x.tasks.length td, .slice ob x.ops.length od] 29)) fun e w8 => e = .returned (.tuple #[.string ⟨(fileB x).toArray⟩, .int .i64 0]) ∧ Hid (Below w.heap.size w w8) ∧ Hid (FAt w8 w7.heap.size x z0 z1 z2 z3 z4 z5 z6 z7 z8 z9 tb ob td od) := fun w7 tb td ob od h0 h1 h2 => by
    have hA := FAt.mk29 z0 z1 z2 z3 z4 z5 z6 z7 z8 z9 td od h1 h2
    have hb7 : Below w.heap.size w (w7.alloc (.cells #[.int .i64 z0, .int .i64 z1, .int .i64 z2, .int .i64 z3, .int .i64 z4, .int .i64 z5, .int .i64 z6, .int .i64 z7, .int .i64 z8, .int .i64 z9, .slice tb x.tasks.length td, .slice ob x.ops.length od] 29)) := h0.alloc h0.size _
    refine (text_some z0 z1 z2 z3 z4 z5 z6 z7 z8 z9 x hxc tb ob td od _ (hT.on hb7 hT.big) hA.ts hA.os (fileB x) hxt).mono ?_
    rintro e w8 ⟨rfl, hb⟩
    exact ⟨rfl, hb7.trans (hb.mono hb7.size), hA.below hb⟩
  have kP2 : ∀ w8 g7 tb td ob od, Below w.heap.size w w8 → FAt w8 g7 x z0 z1 z2 z3 z4 z5 z6 z7 z8 z9 tb ob td od → Calls Tryd.prog 10 #[.slice (some ⟨w8.heap.size, 0, none⟩) nx (capX w8)] (wFX w8) fun e w9 => ∃ tb' td' ob' od', e = .returned (.tuple #[.agg #[.int .i64 z0, .int .i64 z1, .int .i64 z2, .int .i64 z3, .int .i64 z4, .int .i64 z5, .int .i64 z6, .int .i64 z7, .int .i64 z8, .int .i64 z9, .slice tb' x.tasks.length td', .slice ob' x.ops.length od'], .int .i64 0, .int .i64 0]) ∧ Hid (Below w.heap.size w w9) ∧ Hid (FAt w9 g7 x z0 z1 z2 z3 z4 z5 z6 z7 z8 z9 tb ob td od) ∧ Hid (TasksIn w9 tb' x.tasks) ∧ Hid (OpsIn w9 ob' x.ops) := fun w8 g7 tb td ob od h0 hA => by
    obtain ⟨p1, p2, p3, p4⟩ := HPX.out w8
    have hb : Below w.heap.size w (wFX w8) := h0.trans (p4.mono h0.size)
    have := parse_file z0 z1 z2 z3 z4 z5 z6 z7 z8 z9 _ _ _ (wFX w8) (hT.on hb hT.big) p2 p3 p1 x hxc 0 0 hxb
    rw [HNX.out] at this
    refine this.mono ?_
    rintro e w' ⟨a1, a2, a3, a4, rfl, h1, h2, h⟩
    exact ⟨a1, a2, a3, a4, rfl, hb.trans (h.mono hb.size), (hA.below p4).below h, h1, h2⟩
  have kM : ∀ (w9 : World) (g7 : Nat) tb td ob od tb' td' ob' od', Below w.heap.size w w9 → FAt w9 g7 x z0 z1 z2 z3 z4 z5 z6 z7 z8 z9 tb ob td od → TasksIn w9 tb' x.tasks → OpsIn w9 ob' x.ops → ∀ ob1 : Obj, Calls Tryd.prog 12 #[.agg #[.int .i64 z0, .int .i64 z1, .int .i64 z2, .int .i64 z3, .int .i64 z4, .int .i64 z5, .int .i64 z6, .int .i64 z7, .int .i64 z8, .int .i64 z9, .slice tb' x.tasks.length td', .slice ob' x.ops.length od'], .agg #[.int .i64 z0, .int .i64 z1, .int .i64 z2, .int .i64 z3, .int .i64 z4, .int .i64 z5, .int .i64 z6, .int .i64 z7, .int .i64 z8, .int .i64 z9, .slice tb x.tasks.length td, .slice ob x.ops.length od]] (w9.alloc ob1) fun e w10 => e = .returned (.bool true) ∧ Hid (Below w.heap.size w w10) := fun w9 g7 tb td ob od tb' td' ob' od' h0 hA h1 h2 ob1 => by
    have hb := alloc_bel w9 ob1
    refine (same_true z0 z1 z2 z3 z4 z5 z6 z7 z8 z9 x _ _ rfl rfl tb' ob' tb ob td' od' td od (w9.alloc ob1) (h1.below hb (Nat.le_refl _)) (h2.below hb (Nat.le_refl _)) (hA.below hb).ts (hA.below hb).os (by omega) (by omega)).mono ?_
    rintro e w10 ⟨rfl, h⟩
    exact ⟨rfl, (h0.trans (hb.mono h0.size)).trans (h.mono (by simp; have := h0.size; omega))⟩
  clear hgc hti hoi hR hby hby0 hPE hmb hmb2 hbl hbl0 hG hrB hrl hfo HPA hRA hnA hxt hxb hxl HPX HNX hxc
  generalize (⟨r.toArray⟩ : ByteArray) = sR at *
  generalize (⟨(fileB x).toArray⟩ : ByteArray) = sX at *
  generalize g.tasks.length = t1 at *
  generalize g.ops.length = t2 at *
  generalize bs.length = nb at *
  go_enter Tryd.func5, Tryd.ntmps5
  go_wp2_with (first | (go_at_call 9; refine kS.mono ?_; rintro e w1 ⟨rfl, hB1, hE1⟩; obtain ⟨a0, a1, a2, a3, a4, a5, a6, a7, a8, a9, a10, a11, fz⟩ := cells12 hE1.out) | (go_at_call 13; refine (kF w1 hB1.out hE1.out).mono ?_; rintro e w2 ⟨rfl, hB2, hE2⟩; clear a0 a1 a2 a3 a4 a5 a6 a7 a8 a9 a10 a11 fz; obtain ⟨a0, a1, a2, a3, a4, a5, a6, a7, a8, a9, a10, a11, fz⟩ := cells12 hE2.out) | (go_at_call 14; refine (kT w2 hB2.out hE2.out).mono ?_; rintro e w4 ⟨rfl, hB4, hE4⟩; clear a0 a1 a2 a3 a4 a5 a6 a7 a8 a9 a10 a11 fz; obtain ⟨a0, a1, a2, a3, a4, a5, a6, a7, a8, a9, a10, a11, fz⟩ := cells12 hE4.out; refine Hid.out ?_))
  clear a0 a1 a2 a3 a4 a5 a6 a7 a8 a9 a10 a11 fz
  refine hide_it ?_
  go_wp2_with (go_at_call 10; refine (kPA w4 hB4.out hE4.out).mono ?_; rintro e w5 ⟨t5, c5, o5, d5, rfl, hB5, hE5, hT5, hO5⟩; refine Hid.out ?_)
  obtain ⟨a0, a1, a2, a3, a4, a5, a6, a7, a8, a9, a10, a11, fz⟩ := cells12 hE5.out
  have hlt5 := block_lt hE5.out
  clear kPA kS kF kT
  refine hide_it ?_
  go_wp2_with (go_at_call 12; refine (kMA w5 t5 c5 o5 d5 hB5.out hT5.out hO5.out _).mono ?_; rintro e w6 ⟨rfl, hB6⟩; refine Hid.out ?_)
  clear kMA hlt5 a0 a1 a2 a3 a4 a5 a6 a7 a8 a9 a10 a11 fz
  refine hide_it ?_
  go_wp2_with (go_at_call 10; refine (kB _ hB6.out).mono ?_; rintro e w7 ⟨tb, td, ob, od, rfl, hB7, hT7, hO7⟩; refine Hid.out ?_)
  clear kB
  refine hide_it ?_
  go_wp2_with (go_at_call 14; refine (kT2 w7 tb td ob od hB7.out hT7.out hO7.out).mono ?_; rintro e w8 ⟨rfl, hB8, hA8⟩; refine Hid.out ?_)
  clear kT2
  refine hide_it ?_
  go_wp2_with (go_at_call 10; refine (kP2 w8 _ tb td ob od hB8.out hA8.out).mono ?_; rintro e w9 ⟨te, tf, og, oh, rfl, hB9, hA9, hT9, hO9⟩; refine Hid.out ?_)
  obtain ⟨a0, a1, a2, a3, a4, a5, a6, a7, a8, a9, a10, a11, fz⟩ := cells12 hA9.out.blk
  have hlt9 := block_lt hA9.out.blk
  clear kP2
  refine hide_it ?_
  go_wp2_with (go_at_call 12; refine (kM w9 _ tb td ob od te tf og oh hB9.out hA9.out hT9.out hO9.out _).mono ?_; rintro e w10 ⟨rfl, hB10⟩)
  go_ret
  exact ⟨rfl, hB10.out⟩

end Go.Proofs.YtgjfhfjmdkhllaaDoor
