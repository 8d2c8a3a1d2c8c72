/- What Parse of package parse answers, for every bytes. -/
import Derived.Test.YtgjfhfjmdkhllaaDoorReaF
import Derived.Test.YtgjfhfjmdkhllaaDoorLexK
import Derived.Test.YtgjfhfjmdkhllaaDoorLexS
namespace Go.Proofs.YtgjfhfjmdkhllaaDoor
open Go.RowKit
open M
set_option linter.unusedVariables false
set_option linter.unusedSimpArgs false

/-- What holds of a file that is handed back. -/
structure Back (w w' : World) (f : Fl) (vt vo : Value) : Prop where
  ts : w'.ownsRow w.heap.size 51 2 vt f.tasks.length (taskCells f.tasks)
  os : w'.ownsRow w.heap.size 46 5 vo f.ops.length (opCells f.ops)
  cfg : f.cfg.length = 10
  bel : Below w.heap.size w w'

theorem own_tat {w : World} {base g cap : Nat} {ts : List Tok} (h : Own w base (.slice (some ⟨g, 0, none⟩) ts.length cap) ts) : TAt w g 0 ts := by
  intro i hi
  have := Own.cellsAt h i hi
  simpa using this

set_option maxRecDepth 1000000 in
set_option maxHeartbeats 4000000 in
theorem parse_bytes (a : Option Addr) (cap : Nat) (bs : List UInt8) (w : World) (hT : Tabs w) (hcap : bs.length ≤ cap) (hcm : cap ≤ maxLen) (hb : Bytes w a bs) :
    Calls Tryd.prog 10 #[.slice a bs.length cap] w fun e w' => ∃ vt vo, e = .returned (.tuple #[.agg (fileA (parseF bs).file vt vo), .int .i64 (parseF bs).line, .int .i64 (parseF bs).err]) ∧ Back w w' (parseF bs).file vt vo := by
  obtain ⟨hk1, hk2, hk3⟩ := lexF_toks bs
  have hbz : Bytes (w.alloc (.cells #[.int .i64 0, .int .i64 0, .int .i64 0, .int .i64 0, .int .i64 0, .int .i64 0, .int .i64 0, .int .i64 0, .int .i64 0, .int .i64 0, .slice none 0 0, .slice none 0 0] 29)) a bs := hb.below ((Below.refl _ _).alloc (Nat.le_refl _) _)
  have kL := lex_any a cap bs (w.alloc (.cells #[.int .i64 0, .int .i64 0, .int .i64 0, .int .i64 0, .int .i64 0, .int .i64 0, .int .i64 0, .int .i64 0, .int .i64 0, .int .i64 0, .slice none 0 0, .slice none 0 0] 29)) hcap hcm hbz
  unfold parseF
  generalize hlx : lexF bs = lx at *
  obtain ⟨ts, ln, er⟩ := lx
  simp only at *
  have hm : cap ≤ 9223372036854775807 := by unfold maxLen at hcm; omega
  by_cases he : er = 0
  · subst he
    rw [if_pos rfl]
    by_cases hts : ts = []
    · subst hts
      rw [if_pos rfl]
      clear hlx
      go_enter Tryd.func10, Tryd.ntmps10
      go_wp2_with (go_at_call 18; refine kL.mono ?_; rintro e w1 ⟨v, rfl, ho, hb1⟩; obtain ⟨va, vc, rfl⟩ := own_slice ho; have g1 : w1.heap[w.heap.size]? = some (.cells #[.int .i64 0, .int .i64 0, .int .i64 0, .int .i64 0, .int .i64 0, .int .i64 0, .int .i64 0, .int .i64 0, .int .i64 0, .int .i64 0, .slice none 0 0, .slice none 0 0] 29 (0, 0)) := (by rw [hb1.block _ (by simp)]; exact heap_alloc_new w _); obtain ⟨a0, a1, a2, a3, a4, a5, a6, a7, a8, a9, a10, a11, fz⟩ := cells12 g1)
      change bodyPost _ _ _ _ _ (put12 w1 w.heap.size (.int .i64 0) (.int .i64 0) (.int .i64 0) (.int .i64 0) (.int .i64 0) (.int .i64 0) (.int .i64 0) (.int .i64 0) (.int .i64 0) (.int .i64 0) (.slice none 0 0) (.slice none 0 0))
      have hp := put12_block g1 (.int .i64 0) (.int .i64 0) (.int .i64 0) (.int .i64 0) (.int .i64 0) (.int .i64 0) (.int .i64 0) (.int .i64 0) (.int .i64 0) (.int .i64 0) (.slice none 0 0) (.slice none 0 0)
      have hon := put12_only w1 w.heap.size (.int .i64 0) (.int .i64 0) (.int .i64 0) (.int .i64 0) (.int .i64 0) (.int .i64 0) (.int .i64 0) (.int .i64 0) (.int .i64 0) (.int .i64 0) (.slice none 0 0) (.slice none 0 0)
      have hbl : Below w.heap.size w (put12 w1 w.heap.size (.int .i64 0) (.int .i64 0) (.int .i64 0) (.int .i64 0) (.int .i64 0) (.int .i64 0) (.int .i64 0) (.int .i64 0) (.int .i64 0) (.int .i64 0) (.slice none 0 0) (.slice none 0 0)) := hon.below (((Below.refl _ _).alloc (Nat.le_refl _) _).trans (hb1.mono (by simp))) (Nat.le_refl _)
      generalize put12 w1 w.heap.size (.int .i64 0) (.int .i64 0) (.int .i64 0) (.int .i64 0) (.int .i64 0) (.int .i64 0) (.int .i64 0) (.int .i64 0) (.int .i64 0) (.int .i64 0) (.slice none 0 0) (.slice none 0 0) = W at *
      obtain ⟨z0, z1, z2, z3, z4, z5, z6, z7, z8, z9, z10, z11, _⟩ := cells12 hp
      refine bodyPost_ret (v := .tuple #[.agg #[.int .i64 0, .int .i64 0, .int .i64 0, .int .i64 0, .int .i64 0, .int .i64 0, .int .i64 0, .int .i64 0, .int .i64 0, .int .i64 0, .slice none 0 0, .slice none 0 0], .int .i64 0, .int .i64 2]) ?_ rfl ⟨_, _, rfl, World.ownsRow_nil _ _ _ _, World.ownsRow_nil _ _ _ _, rfl, hbl⟩
      simp [results, Tryd.results10, go_sem, z0, z1, z2, z3, z4, z5, z6, z7, z8, z9, z10, z11]
    · rw [if_neg hts]
      have hpos : 0 < ts.length := by
        cases ts with
        | nil => exact absurd rfl hts
        | cons x y => simp
      obtain ⟨R, hR⟩ : ∃ R, readOf (fileGo ts.length noFile true ts) = R := ⟨_, rfl⟩
      rw [hR]
      have kL2 : Calls Tryd.prog 18 #[.slice a bs.length cap] (w.alloc (.cells #[.int .i64 0, .int .i64 0, .int .i64 0, .int .i64 0, .int .i64 0, .int .i64 0, .int .i64 0, .int .i64 0, .int .i64 0, .int .i64 0, .slice none 0 0, .slice none 0 0] 29)) fun e w1 => ∃ vg vc, e = .returned (.tuple #[.slice (some ⟨vg, 0, none⟩) ts.length vc, .int .i64 ln, .int .i64 0]) ∧ Hid (TAt w1 vg 0 ts) ∧ vg < w1.heap.size ∧ ts.length ≤ vc ∧ Hid (vc ≤ maxLen) ∧ Hid (Tabs w1) ∧ Hid (Below w.heap.size w w1) ∧ Hid (w1.heap[w.heap.size]? = some (.cells #[.int .i64 0, .int .i64 0, .int .i64 0, .int .i64 0, .int .i64 0, .int .i64 0, .int .i64 0, .int .i64 0, .int .i64 0, .int .i64 0, .slice none 0 0, .slice none 0 0] 29 (0, 0))) ∧ w.heap.size < w1.heap.size := by
        refine kL.mono ?_
        rintro e w1 ⟨v, rfl, ho, hb1⟩
        obtain ⟨vg, vc, rfl, h1, h2⟩ := ho.form hpos
        have hvc : ts.length ≤ vc ∧ vc ≤ maxLen := by
          rcases ho.2 with ⟨hv, _⟩ | ⟨g', c', cur, hv, _, h3, h4, h5, _⟩
          · cases hv
          · cases hv; exact ⟨h4, h5⟩
        have hs := hb1.size
        simp at hs
        exact ⟨vg, vc, rfl, own_tat ho, h2, hvc.1, hvc.2, (hT.alloc _).on hb1 (by simp; have := hT.big; omega), ((Below.refl _ _).alloc (Nat.le_refl _) _).trans (hb1.mono (by simp)), (by show _ = _; rw [hb1.block _ (by simp)]; exact heap_alloc_new w _), by omega⟩
      have kR : ∀ (w1 : World) (vg vc : Nat), Tabs w1 → TAt w1 vg 0 ts → vg < w1.heap.size → ts.length ≤ vc → vc ≤ maxLen → Calls Tryd.prog 19 #[.slice (some ⟨vg, 0, none⟩) ts.length vc] w1 fun e w' => ∃ x0 x1 x2 x3 x4 x5 x6 x7 x8 x9 vt vo, e = .returned (.tuple #[.agg #[.int .i64 x0, .int .i64 x1, .int .i64 x2, .int .i64 x3, .int .i64 x4, .int .i64 x5, .int .i64 x6, .int .i64 x7, .int .i64 x8, .int .i64 x9, vt, vo], .int .i64 R.line, .int .i64 R.err]) ∧ Hid (R.file.cfg = [x0, x1, x2, x3, x4, x5, x6, x7, x8, x9]) ∧ Hid (w'.ownsRow w1.heap.size 51 2 vt R.file.tasks.length (taskCells R.file.tasks)) ∧ Hid (w'.ownsRow w1.heap.size 46 5 vo R.file.ops.length (opCells R.file.ops)) ∧ Below w1.heap.size w1 w' := by
        intro w1 vg vc q1 q2 q3 q4 q5
        refine (readFile_any vg 0 vc ts w1 q1 ⟨hk1, hk2⟩ q4 q5 (by omega) q2 q3 R hR).mono ?_
        rintro e w' ⟨vt, vo, rfl, o1, o2, o3, o4⟩
        obtain ⟨x0, x1, x2, x3, x4, x5, x6, x7, x8, x9, hx⟩ := list10 o3
        refine ⟨_, _, _, _, _, _, _, _, _, _, vt, vo, ?_, hx, o1, o2, o4⟩
        unfold fileA
        rw [hx]
        rfl
      clear hlx kL hk1 hk2 hR hts hbz hb
      have hpz : (((ts.length : Nat) : Int) == 0) = false := beq_eq_false_iff_ne.2 (by omega)
      go_enter Tryd.func10, Tryd.ntmps10
      go_wp2_with (first | (go_at_call 18; refine kL2.mono ?_; rintro e w1 ⟨vg, vc, rfl, t1, t2, t3, t4, t5, t6, t7, t8⟩) | (go_at_call 19; refine (kR w1 vg vc t5.out t1.out t2 t3 t4.out).mono ?_; rintro e w2 ⟨x0, x1, x2, x3, x4, x5, x6, x7, x8, x9, vt, vo, rfl, hcf, o1, o2, hb2⟩; obtain ⟨ta, tc, rfl⟩ := own_slice o1.out; obtain ⟨oa, oc, rfl⟩ := own_slice o2.out; have g1 : w2.heap[w.heap.size]? = some (.cells #[.int .i64 0, .int .i64 0, .int .i64 0, .int .i64 0, .int .i64 0, .int .i64 0, .int .i64 0, .int .i64 0, .int .i64 0, .int .i64 0, .slice none 0 0, .slice none 0 0] 29 (0, 0)) := (by rw [hb2.block _ t8]; exact t7.out); obtain ⟨a0, a1, a2, a3, a4, a5, a6, a7, a8, a9, a10, a11, fz⟩ := cells12 g1))
      change bodyPost _ _ _ _ _ (put12 w2 w.heap.size (.int .i64 x0) (.int .i64 x1) (.int .i64 x2) (.int .i64 x3) (.int .i64 x4) (.int .i64 x5) (.int .i64 x6) (.int .i64 x7) (.int .i64 x8) (.int .i64 x9) (.slice ta R.file.tasks.length tc) (.slice oa R.file.ops.length oc))
      have hp := put12_block g1 (.int .i64 x0) (.int .i64 x1) (.int .i64 x2) (.int .i64 x3) (.int .i64 x4) (.int .i64 x5) (.int .i64 x6) (.int .i64 x7) (.int .i64 x8) (.int .i64 x9) (.slice ta R.file.tasks.length tc) (.slice oa R.file.ops.length oc)
      have hon := put12_only w2 w.heap.size (.int .i64 x0) (.int .i64 x1) (.int .i64 x2) (.int .i64 x3) (.int .i64 x4) (.int .i64 x5) (.int .i64 x6) (.int .i64 x7) (.int .i64 x8) (.int .i64 x9) (.slice ta R.file.tasks.length tc) (.slice oa R.file.ops.length oc)
      have hbl := hon.below (t6.out.trans (hb2.mono (by omega))) (Nat.le_refl _)
      have p1 := o1.out.kept hon.grown (.inr (own_ne o1.out g1 (by decide)))
      have p2 := o2.out.kept hon.grown (.inr (own_ne o2.out g1 (by decide)))
      generalize put12 w2 w.heap.size (.int .i64 x0) (.int .i64 x1) (.int .i64 x2) (.int .i64 x3) (.int .i64 x4) (.int .i64 x5) (.int .i64 x6) (.int .i64 x7) (.int .i64 x8) (.int .i64 x9) (.slice ta R.file.tasks.length tc) (.slice oa R.file.ops.length oc) = W at *
      obtain ⟨z0, z1, z2, z3, z4, z5, z6, z7, z8, z9, z10, z11, _⟩ := cells12 hp
      refine bodyPost_ret (v := .tuple #[.agg #[.int .i64 x0, .int .i64 x1, .int .i64 x2, .int .i64 x3, .int .i64 x4, .int .i64 x5, .int .i64 x6, .int .i64 x7, .int .i64 x8, .int .i64 x9, .slice ta R.file.tasks.length tc, .slice oa R.file.ops.length oc], .int .i64 R.line, .int .i64 R.err]) ?_ rfl ⟨_, _, by unfold fileA; rw [hcf.out]; rfl, own_base p1 (by omega), own_base p2 (by omega), by rw [hcf.out]; rfl, hbl⟩
      simp [results, Tryd.results10, go_sem, z0, z1, z2, z3, z4, z5, z6, z7, z8, z9, z10, z11]
  · rw [if_neg (by omega)]
    have he1 : (((er : Nat) : Int) != 0) = true := bne_iff_ne.2 (by omega)
    clear hlx he
    go_enter Tryd.func10, Tryd.ntmps10
    go_wp2_with (go_at_call 18; refine kL.mono ?_; rintro e w1 ⟨v, rfl, ho, hb1⟩; obtain ⟨va, vc, rfl⟩ := own_slice ho; have g1 : w1.heap[w.heap.size]? = some (.cells #[.int .i64 0, .int .i64 0, .int .i64 0, .int .i64 0, .int .i64 0, .int .i64 0, .int .i64 0, .int .i64 0, .int .i64 0, .int .i64 0, .slice none 0 0, .slice none 0 0] 29 (0, 0)) := (by rw [hb1.block _ (by simp)]; exact heap_alloc_new w _); obtain ⟨a0, a1, a2, a3, a4, a5, a6, a7, a8, a9, a10, a11, fz⟩ := cells12 g1)
    change bodyPost _ _ _ _ _ (put12 w1 w.heap.size (.int .i64 0) (.int .i64 0) (.int .i64 0) (.int .i64 0) (.int .i64 0) (.int .i64 0) (.int .i64 0) (.int .i64 0) (.int .i64 0) (.int .i64 0) (.slice none 0 0) (.slice none 0 0))
    have hp := put12_block g1 (.int .i64 0) (.int .i64 0) (.int .i64 0) (.int .i64 0) (.int .i64 0) (.int .i64 0) (.int .i64 0) (.int .i64 0) (.int .i64 0) (.int .i64 0) (.slice none 0 0) (.slice none 0 0)
    have hon := put12_only w1 w.heap.size (.int .i64 0) (.int .i64 0) (.int .i64 0) (.int .i64 0) (.int .i64 0) (.int .i64 0) (.int .i64 0) (.int .i64 0) (.int .i64 0) (.int .i64 0) (.slice none 0 0) (.slice none 0 0)
    have hbl : Below w.heap.size w (put12 w1 w.heap.size (.int .i64 0) (.int .i64 0) (.int .i64 0) (.int .i64 0) (.int .i64 0) (.int .i64 0) (.int .i64 0) (.int .i64 0) (.int .i64 0) (.int .i64 0) (.slice none 0 0) (.slice none 0 0)) := hon.below (((Below.refl _ _).alloc (Nat.le_refl _) _).trans (hb1.mono (by simp))) (Nat.le_refl _)
    generalize put12 w1 w.heap.size (.int .i64 0) (.int .i64 0) (.int .i64 0) (.int .i64 0) (.int .i64 0) (.int .i64 0) (.int .i64 0) (.int .i64 0) (.int .i64 0) (.int .i64 0) (.slice none 0 0) (.slice none 0 0) = W at *
    obtain ⟨z0, z1, z2, z3, z4, z5, z6, z7, z8, z9, z10, z11, _⟩ := cells12 hp
    refine bodyPost_ret (v := .tuple #[.agg #[.int .i64 0, .int .i64 0, .int .i64 0, .int .i64 0, .int .i64 0, .int .i64 0, .int .i64 0, .int .i64 0, .int .i64 0, .int .i64 0, .slice none 0 0, .slice none 0 0], .int .i64 ln, .int .i64 er]) ?_ rfl ⟨_, _, rfl, World.ownsRow_nil _ _ _ _, World.ownsRow_nil _ _ _ _, rfl, hbl⟩
    simp [results, Tryd.results10, go_sem, z0, z1, z2, z3, z4, z5, z6, z7, z8, z9, z10, z11]

end Go.Proofs.YtgjfhfjmdkhllaaDoor
