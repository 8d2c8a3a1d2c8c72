/-
  take of the document's own Parse: a task; an operation.
-/
import Derived.Test.YtgjfhfjmdkhllaaDoorTakA
import Derived.Test.YtgjfhfjmdkhllaaDoorReaF
namespace Go.Proofs.YtgjfhfjmdkhllaaDoor
open Go.RowKit
open M
set_option linter.unusedVariables false
set_option linter.unusedSimpArgs false

set_option maxRecDepth 1000000 in
set_option maxHeartbeats 16000000 in
theorem take_task (g B b o n cap nt no tc oc : Nat) (ta oa : Option Addr) (ahead : Int) (F : List UInt8) (f : Fl) (w : World) (hgB : g < B) (hBw : B ≤ w.heap.size) (hn0 : 0 < n) (hn1 : n ≤ cap) (hn2 : cap ≤ maxLen) (c0 : w.cell? ⟨b, o, none⟩ = some (.int .i64 1)) (c1 : w.cell? ⟨b, o + 1, none⟩ = some (strV wTask)) (h3 : H3 w b o n F)
    (hf0 : FileR w g B f (.slice ta nt tc) (.slice oa no oc)) (hnt : f.tasks.length = nt) (hno : f.ops.length = no) (m : Fm) (hm : refFm wTask F = m) (hws : 0 < (words m).length) (hz : (ahead == 0) = false) (hno0 : no = 0) (hnt64 : nt < 64)
    (l : List Tok) (hl : l.length = n) (hn : n ≤ 1000000) (ht : TAt w b o l) (hwl : (words m).length ≤ 100) (htx : ∀ t ∈ l, t.text.length ≤ 65536) (x0 x1 : Int) (hR : numF (words m) l [] = ([x0, x1], 0)) :
    Calls Tryd.prog 21 #[ptr g 0, .slice (some ⟨b, o, none⟩) n cap, .int .i64 ahead] w fun e w' => e = .returned (.int .i64 0) ∧ (∃ vt', FileR w' g B { f with tasks := f.tasks ++ [(x0, x1)] } vt' (.slice oa no oc)) ∧ But g B w w' := by
  unfold maxLen at hn2
  obtain ⟨i5, hi5, hz0, hz1, hz2⟩ := info_parts info51
  have kF := form_some wTask F w m hm hws
  obtain ⟨ws, hwsE⟩ : ∃ ws, words m = ws := ⟨_, rfl⟩
  rw [hwsE] at kF hws
  have kN : ∀ w1 gx cx, FormOk w w1 gx cx ws → Calls Tryd.prog 34 #[.slice (some ⟨b, o, none⟩) n cap, .slice (some ⟨gx, 0, none⟩) ws.length cx] w1 fun e w2 => ∃ vb vc, e = .returned (.tuple #[.slice (some ⟨vb, 0, none⟩) 2 vc, .int .i64 0]) ∧ Hid (Below w.heap.size w w2) ∧ w2.cell? ⟨vb, 0, none⟩ = some (.int .i64 x0) ∧ w2.cell? ⟨vb, 1, none⟩ = some (.int .i64 x1) ∧ vb < w2.heap.size ∧ Hid (∃ cs, w2.heap[vb]? = some (.cells cs 3 (0, 0))) := fun w1 gx cx hf => by
    subst hwsE
    have hbw : b < w.heap.size := World.block_lt_of_cell? w _ c0
    have := numbers_any b o cap w.heap.size gx cx l (words m) w1 (by omega) (by omega) (ht.below hf.bel hbw) (Nat.lt_of_lt_of_le hbw hf.bel.size) hf.own hf.lt hwl htx _ hR
    rw [hl] at this
    refine this.mono ?_
    rintro e w2 ⟨v, rfl, ho, hb⟩
    obtain ⟨vb, vc, rfl, h1, h2⟩ := ho.form (by simp)
    have hvc : ∃ cs, w2.heap[vb]? = some (.cells cs 3 (0, 0)) := by
      rcases ho.2 with ⟨hv, _⟩ | ⟨g', c', cur, hv, _, h3, h4, _⟩
      · cases hv
      · cases hv; exact ⟨_, h3⟩
    exact ⟨vb, vc, rfl, hf.bel.trans (hb.mono hf.bel.size), own_cell ho 0 (by simp), own_cell ho 1 (by simp), h2, hvc⟩
  clear hm hwsE hR ht hl htx hwl
  have hK : ((ws.length : Int) == 0) = false := by simp; intro h; simp [h] at hws
  have HW : ∃ kk, ws.length = kk := ⟨_, rfl⟩
  obtain ⟨kk, hkk⟩ := HW
  rw [hkk] at kN kF hK hws
  have hno2 : ¬ (0 : Int) < (no : Int) := by omega
  have hno3 : decide ((0 : Int) < (no : Int)) = false := by simp; omega
  have hnt2 : ¬ (64 : Int) ≤ (nt : Int) := by omega
  have hnt3 : decide ((64 : Int) ≤ (nt : Int)) = false := by simp; omega
  have m10 : w.cell? ⟨g, 10, none⟩ = some (.slice ta nt tc) := by rw [Lib.cell_of_heap hf0.blk]; exact (fileA_at hf0.cfg _ _).1
  have m11 : w.cell? ⟨g, 11, none⟩ = some (.slice oa no oc) := by rw [Lib.cell_of_heap hf0.blk]; exact (fileA_at hf0.cfg _ _).2.1
  have hcfg := hide_it hf0.cfg
  have hbk : Hid (∀ k, (Value.slice ta nt tc).ownBlock = some k → B ≤ k) := by
    have := hf0.ts
    rw [hnt] at this
    exact fun k hk => (this.lt k hk).1
  have HF0 := hide_it hf0
  have HNT := hide_it hnt
  have HNO := hide_it hno
  clear hf0 hnt hno hno0
  unfold wTask at *
  clear hkk
  rcases h3 with ⟨h3, rfl⟩ | ⟨h3, k3, t3, c9, c10, ⟨rfl, rfl⟩ | ⟨d3, rfl⟩⟩
  all_goals (
    go_enter Tryd.func21, Tryd.ntmps21
    go_wp2_with (first | (go_at_call 33; refine kF.mono ?_; rintro e w1 ⟨gx, cx, rfl, hf⟩; have q0 : w1.cell? ⟨b, o, none⟩ = some (.int .i64 1) := (by rw [hf.out.bel.cell (p := ⟨b, o, none⟩) (World.block_lt_of_cell? w _ c0)]; exact c0); have q10 : w1.cell? ⟨g, 10, none⟩ = some (.slice ta nt tc) := (by rw [hf.out.bel.cell (p := ⟨g, 10, none⟩) (World.block_lt_of_cell? w _ m10)]; exact m10); have q11 : w1.cell? ⟨g, 11, none⟩ = some (.slice oa no oc) := (by rw [hf.out.bel.cell (p := ⟨g, 11, none⟩) (World.block_lt_of_cell? w _ m11)]; exact m11)) | (go_at_call 34; refine (kN _ _ _ hf.out).mono ?_; rintro e wz ⟨vb, vc, rfl, hb, m0, m1, hvlt, hvz⟩))
    have hbz := hb.out
    have hfz : FileR wz g B f (.slice ta nt tc) (.slice oa no oc) := HF0.out.below hbz
    have hsz := hbz.size
    have mg : wz.cell? ⟨g, 10, none⟩ = some (.slice ta nt tc) := by rw [Lib.cell_of_heap hfz.blk]; exact (fileA_at hcfg.out _ _).1
    have mf : wz.frozen? ⟨g, 10, none⟩ = false := Lib.frozen_of_heap hfz.blk 10
    have hglt := block_lt hfz.blk
    have hfrz : ∀ ob : Obj, (wz.alloc ob).frozen? ⟨g, 10, none⟩ = false := fun ob => by
      rw [((Below.refl wz.heap.size wz).alloc (Nat.le_refl _) ob).frozen (p := ⟨g, 10, none⟩) hglt]; exact mf
    have mgz : ∀ ob : Obj, (wz.alloc ob).cell? ⟨g, 10, none⟩ = some (.slice ta nt tc) := fun ob => by
      rw [((Below.refl wz.heap.size wz).alloc (Nat.le_refl _) ob).cell (p := ⟨g, 10, none⟩) hglt]; exact mg
    have hots : wz.ownsRow B 51 2 (.slice ta nt tc) nt (taskCells f.tasks) := by have := hfz.ts; rw [HNT.out] at this; exact this
    have hoos : wz.ownsRow B 46 5 (.slice oa no oc) no (opCells f.ops) := by have := hfz.os; rw [HNO.out] at this; exact this
    have ag : (Value.slice ta nt tc).ownBlock ≠ some g := own_ne hots hfz.blk (by decide)
    have HF : Hid (FileR wz g B f (.slice ta nt tc) (.slice oa no oc)) := hfz
    have HOT := hide_it hots
    have HOO := hide_it hoos
    have HBZ := hide_it hbz
    clear hfz hots hoos hbz hb hvz kF kN hf q0 q10 q11
    have hx0 : (0 : Int) < 2 := by omega
    go_region_law
      ((refine step_append_lies _ (by rfl) _ _ _ (by rfl) B 51 i5 _ 2 16 Tryd.underlying26 hi5 hz0 hz1 hz2 rfl (by omega) (.slice ta nt tc) nt (taskCells f.tasks) (by rfl) ((HOT.out.alloc _).drew)
            ⟨wz.heap.size, 0, none⟩ 1 1 [.int .i64 x0, .int .i64 x1] (by rfl) (by rfl) (World.news_of_block (cs := #[.int .i64 x0, .int .i64 x1]) (t := 51) (fr := (0, 0)) (heap_alloc_new wz _)) (by simp [Value.oneCell'])
            (by omega) (by unfold maxLen; omega) (by omega) (by simp; omega) (wz.heap.size + 1) (by simp) ?_; intro gg cg w2 hown1 hgrow hat hlt; have q1 : w2.cell? ⟨g, 10, none⟩ = some (.slice ta nt tc) := (by rw [hgrow.cell_far ⟨g, 10, none⟩ (by simp; omega) (Ne.symm ag)]; simp [mgz]); have q2 : w2.frozen? ⟨g, 10, none⟩ = false := (by rw [hgrow.frozen_far ⟨g, 10, none⟩ (by simp; omega) (Ne.symm ag)]; simp [hfrz])))
    all_goals go_wp2
    all_goals go_ret
    all_goals (
      have hB2 : Below B w w2 := ((HBZ.out.mono hBw).alloc (by omega) _).drew.grown hgrow (by simp; omega) hbk.out
      have hblk : w2.heap[g]? = some (.cells (fileA f (.slice ta nt tc) (.slice oa no oc)) 33 (0, 0)) := by
        rw [hgrow.block g (by simp; omega) (Ne.symm ag)]
        show (World.alloc wz _).heap[g]? = _
        rw [Below.heap_alloc _ _ _ (by omega)]; exact HF.out.blk
      have hset := Joins.block_setCell (i := 10) hblk (.slice (some ⟨gg, 0, none⟩) (nt + 1) cg)
      rw [fileA_set10 hcfg.out _ _ _ (f.tasks ++ [(x0, x1)])] at hset
      refine ⟨rfl, ⟨_, ⟨hset, ?_, ?_, hcfg.out⟩⟩, (But.of hB2).setCell _ _⟩
      · have := own_set hown1 hblk (by decide) 10 (.slice (some ⟨gg, 0, none⟩) (nt + 1) cg)
        simpa [taskCells, HNT.out] using this
      · have h1 : w2.ownsRow B 46 5 (.slice oa no oc) no (opCells f.ops) := own_other ((HOO.out.alloc _).drew) ((HOT.out.alloc _).drew) (by decide) hgrow
        have h2 := own_set h1 hblk (by decide) 10 (.slice (some ⟨gg, 0, none⟩) (nt + 1) cg)
        rw [← HNO.out] at h2 ⊢
        exact h2))
end Go.Proofs.YtgjfhfjmdkhllaaDoor
namespace Go.Proofs.YtgjfhfjmdkhllaaDoor
open Go.RowKit
open M
set_option linter.unusedVariables false
set_option linter.unusedSimpArgs false

theorem numF_len : ∀ (ws : List (List UInt8)) (ts : List Tok) (acc ns : List Int), numF ws ts acc = (ns, 0) → ns.length = acc.length + (ws.filter (· == [78])).length := by
  intro ws
  induction ws with
  | nil =>
    intro ts acc ns h
    cases ts with
    | nil => simp [numF] at h; simp [h]
    | cons t ts => simp [numF] at h
  | cons w ws ih =>
    intro ts acc ns h
    cases ts with
    | nil => simp [numF] at h
    | cons t ts =>
      unfold numF at h
      by_cases hw : w = [78]
      · rw [if_pos hw] at h
        by_cases hk : t.kind = 2
        · rw [if_pos hk] at h
          by_cases he : pE t.text = 0
          · rw [if_pos he] at h
            have := ih ts _ ns h
            subst hw
            simp at this ⊢
            omega
          · rw [if_neg he] at h
            exact absurd (Prod.mk.inj h).2 he
        · rw [if_neg hk] at h
          simp at h
      · rw [if_neg hw] at h
        have hb : (w == [78]) = false := by simp [hw]
        split at h
        · have := ih ts acc ns h
          simp [List.filter_cons, hb] at this ⊢
          exact this
        · simp at h
theorem len_0 {l : List Int} (h : l.length = 0) : l = [] := List.eq_nil_of_length_eq_zero h
theorem len_1 {l : List Int} (h : l.length = 1) : ∃ a, l = [a] := by
  match l, h with
  | [a], _ => exact ⟨a, rfl⟩
theorem len_2 {l : List Int} (h : l.length = 2) : ∃ a b, l = [a, b] := by
  match l, h with
  | [a, b], _ => exact ⟨a, b, rfl⟩
theorem len_3 {l : List Int} (h : l.length = 3) : ∃ a b c, l = [a, b, c] := by
  match l, h with
  | [a, b, c], _ => exact ⟨a, b, c, rfl⟩
def agO (o : Oz) : Value := .agg #[.int .i64 o.kind, .int .i64 o.a, .int .i64 o.b, .int .i64 o.c, .int .i64 o.d]

/-- What op answers. -/
theorem op_all (X F : List UInt8) (m : Fm) (ns : List Int) (v : Value) (base : Nat) (w : World) (hm : refFm X F = m) (hp : m.part = 3) (hn : ns.length = ((words m).filter (· == [78])).length) (ho : w.ownsRow base 3 1 v ns.length (ns.map intV)) :
    Calls Tryd.prog 35 #[strV X, strV F, v] w fun e w' => e = .returned (agO (opOf m ns)) ∧ Below w.heap.size w w' := by
  unfold refFm at hm
  by_cases h0 : X = wConfig
  · rw [if_pos h0] at hm; subst hm; cases hp
  rw [if_neg h0] at hm
  by_cases h1 : X = wTask
  · rw [if_pos h1] at hm; subst hm; cases hp
  rw [if_neg h1] at hm
  by_cases h2 : X = wSubmit
  · rw [if_pos h2] at hm
    subst hm h2
    have hl : ((words forms[2]).filter (· == [78])).length = 3 := by decide +kernel
    rw [hl] at hn
    obtain ⟨x0, x1, x2, rfl⟩ := len_3 hn
    obtain ⟨vb, vc, rfl, q1, q2⟩ := ho.form (by simp)
    exact op_submit F x0 x1 x2 vb 0 vc w q2 (own_cell ho 0 (by simp)) (own_cell ho 1 (by simp)) (own_cell ho 2 (by simp))
  rw [if_neg h2] at hm
  by_cases h3 : X = wCancel
  · rw [if_pos h3] at hm
    subst hm h3
    have hl : ((words forms[3]).filter (· == [78])).length = 1 := by decide +kernel
    rw [hl] at hn
    obtain ⟨x0, rfl⟩ := len_1 hn
    obtain ⟨vb, vc, rfl, q1, q2⟩ := ho.form (by simp)
    exact op_cancel F x0 vb 0 vc w q2 (own_cell ho 0 (by simp))
  rw [if_neg h3] at hm
  by_cases h4 : X = wQuery
  · rw [if_pos h4] at hm
    subst hm h4
    have hl : ((words forms[9]).filter (· == [78])).length = 1 := by decide +kernel
    rw [hl] at hn
    obtain ⟨x0, rfl⟩ := len_1 hn
    obtain ⟨vb, vc, rfl, q1, q2⟩ := ho.form (by simp)
    exact op_query F x0 vb 0 vc w q2 (own_cell ho 0 (by simp))
  rw [if_neg h4] at hm
  by_cases h5 : X = wTick
  · rw [if_pos h5] at hm
    subst hm h5
    have hl : ((words forms[4]).filter (· == [78])).length = 0 := by decide +kernel
    rw [hl] at hn
    obtain rfl := len_0 hn
    obtain ⟨a, cap, rfl⟩ := own_slice ho
    exact op_tick F a _ cap w
  rw [if_neg h5] at hm
  by_cases h6 : X = wDispatch
  · rw [if_pos h6] at hm
    subst hm h6
    have hl : ((words forms[5]).filter (· == [78])).length = 0 := by decide +kernel
    rw [hl] at hn
    obtain rfl := len_0 hn
    obtain ⟨a, cap, rfl⟩ := own_slice ho
    exact op_dispatch F a _ cap w
  rw [if_neg h6] at hm
  by_cases h7 : X = wAnswer
  · rw [if_pos h7] at hm
    subst h7
    by_cases g1 : F = wNeed
    · rw [if_pos g1] at hm
      subst hm g1
      have hl : ((words forms[8]).filter (· == [78])).length = 3 := by decide +kernel
      rw [hl] at hn
      obtain ⟨x0, x1, x2, rfl⟩ := len_3 hn
      obtain ⟨vb, vc, rfl, q1, q2⟩ := ho.form (by simp)
      exact op_need wNeed x0 x1 x2 vb 0 vc w q2 (own_cell ho 0 (by simp)) (own_cell ho 1 (by simp)) (own_cell ho 2 (by simp))
    · rw [if_neg g1] at hm
      by_cases g2 : F = wFail
      · rw [if_pos g2] at hm
        subst hm g2
        have hl : ((words forms[7]).filter (· == [78])).length = 2 := by decide +kernel
        rw [hl] at hn
        obtain ⟨x0, x1, rfl⟩ := len_2 hn
        obtain ⟨vb, vc, rfl, q1, q2⟩ := ho.form (by simp)
        exact op_fail wFail x0 x1 vb 0 vc w q2 (own_cell ho 0 (by simp)) (own_cell ho 1 (by simp))
      · rw [if_neg g2] at hm
        subst hm
        have hl : ((words forms[6]).filter (· == [78])).length = 2 := by decide +kernel
        rw [hl] at hn
        obtain ⟨x0, x1, rfl⟩ := len_2 hn
        obtain ⟨vb, vc, rfl, q1, q2⟩ := ho.form (by simp)
        exact op_did F x0 x1 vb 0 vc w q2 (own_cell ho 0 (by simp)) (own_cell ho 1 (by simp)) g2 g1
  rw [if_neg h7] at hm
  subst hm
  cases hp

set_option maxRecDepth 1000000 in
set_option maxHeartbeats 16000000 in
theorem take_op (g B b o n cap nt no tc oc : Nat) (ta oa : Option Addr) (ahead : Int) (X F : List UInt8) (f : Fl) (w : World) (hgB : g < B) (hBw : B ≤ w.heap.size) (hn0 : 0 < n) (hn1 : n ≤ cap) (hn2 : cap ≤ maxLen) (c0 : w.cell? ⟨b, o, none⟩ = some (.int .i64 1)) (c1 : w.cell? ⟨b, o + 1, none⟩ = some (strV X)) (h3 : H3 w b o n F)
    (hf0 : FileR w g B f (.slice ta nt tc) (.slice oa no oc)) (hnt : f.tasks.length = nt) (hno : f.ops.length = no) (m : Fm) (hm : refFm X F = m) (hp : m.part = 3) (hws : 0 < (words m).length) (d1 : (X == [99, 111, 110, 102, 105, 103]) = false) (d2 : (X == [116, 97, 115, 107]) = false) (hz : (ahead == 0) = false) (hno4096 : no < 4096)
    (l : List Tok) (hl : l.length = n) (hn : n ≤ 1000000) (ht : TAt w b o l) (hwl : (words m).length ≤ 100) (htx : ∀ t ∈ l, t.text.length ≤ 65536) (ns : List Int) (hR : numF (words m) l [] = (ns, 0)) :
    Calls Tryd.prog 21 #[ptr g 0, .slice (some ⟨b, o, none⟩) n cap, .int .i64 ahead] w fun e w' => e = .returned (.int .i64 0) ∧ (∃ vo', FileR w' g B { f with ops := f.ops ++ [opOf m ns] } (.slice ta nt tc) vo') ∧ But g B w w' := by
  unfold maxLen at hn2
  obtain ⟨i5, hi5, hz0, hz1, hz2⟩ := info_parts info46
  have kF := form_some X F w m hm hws
  obtain ⟨ws, hwsE⟩ : ∃ ws, words m = ws := ⟨_, rfl⟩
  rw [hwsE] at kF hws
  have kN : ∀ w1 gx cx, FormOk w w1 gx cx ws → Calls Tryd.prog 34 #[.slice (some ⟨b, o, none⟩) n cap, .slice (some ⟨gx, 0, none⟩) ws.length cx] w1 fun e w2 => ∃ v, e = .returned (.tuple #[v, .int .i64 0]) ∧ Hid (Below w.heap.size w w2) ∧ Hid (w2.ownsRow w1.heap.size 3 1 v ns.length (ns.map intV)) := fun w1 gx cx hf => by
    subst hwsE
    have hbw : b < w.heap.size := World.block_lt_of_cell? w _ c0
    have := numbers_any b o cap w.heap.size gx cx l (words m) w1 (by omega) (by omega) (ht.below hf.bel hbw) (Nat.lt_of_lt_of_le hbw hf.bel.size) hf.own hf.lt hwl htx _ hR
    rw [hl] at this
    refine this.mono ?_
    rintro e w2 ⟨v, rfl, ho, hb⟩
    exact ⟨v, rfl, hf.bel.trans (hb.mono hf.bel.size), ho⟩
  have hnl := numF_len _ _ _ _ hR
  rw [List.length_nil, Nat.zero_add] at hnl
  obtain ⟨R, hRR⟩ : ∃ R, opOf m ns = R := ⟨_, rfl⟩
  have hcfg := hide_it hf0.cfg
  have hots : w.ownsRow B 51 2 (.slice ta nt tc) nt (taskCells f.tasks) := by have := hf0.ts; rw [hnt] at this; exact this
  have hoos : w.ownsRow B 46 5 (.slice oa no oc) no (opCells f.ops) := by have := hf0.os; rw [hno] at this; exact this
  have kO : ∀ (W W0 : World) (B0 : Nat) (v : Value), Below w.heap.size w W0 → W0.ownsRow B0 3 1 v ns.length (ns.map intV) → Below W0.heap.size W0 W → Calls Tryd.prog 35 #[strV X, strV F, v] W fun e w' => e = .returned (.agg #[.int .i64 R.kind, .int .i64 R.a, .int .i64 R.b, .int .i64 R.c, .int .i64 R.d]) ∧ Hid (FileR w' g B f (.slice ta nt tc) (.slice oa no oc)) ∧ Hid (w'.ownsRow B 46 5 (.slice oa no oc) no (opCells f.ops)) ∧ Hid (w'.ownsRow B 51 2 (.slice ta nt tc) nt (taskCells f.tasks)) ∧ Hid (Below w.heap.size w w') ∧ (∀ ob : Obj, (w'.alloc ob).cell? ⟨g, 11, none⟩ = some (.slice oa no oc)) ∧ (∀ ob : Obj, (w'.alloc ob).frozen? ⟨g, 11, none⟩ = false) ∧ w'.cell? ⟨g, 11, none⟩ = some (.slice oa no oc) ∧ g < w'.heap.size ∧ B ≤ w'.heap.size := by
    intro W W0 B0 v hW0 ho hW
    refine (op_all X F m ns v B0 W hm hp hnl (own_below ho hW (fun k hk => (ho.lt k hk).2))).mono ?_
    rintro e w' ⟨rfl, hb'⟩
    have hb2 : Below w.heap.size w w' := (hW0.trans (hW.mono hW0.size)).trans (hb'.mono (Nat.le_trans hW0.size hW.size))
    have hf2 := hf0.below hb2
    have hlt := block_lt hf2.blk
    have c11 : w'.cell? ⟨g, 11, none⟩ = some (.slice oa no oc) := by rw [Lib.cell_of_heap hf2.blk]; exact (fileA_at hf0.cfg _ _).2.1
    refine ⟨by rw [hRR]; rfl, hf2, own_below hoos hb2 (fun k hk => (hoos.lt k hk).2), own_below hots hb2 (fun k hk => (hots.lt k hk).2), hb2, fun ob => ?_, fun ob => ?_, c11, hlt, Nat.le_trans hBw hb2.size⟩
    · rw [((Below.refl w'.heap.size w').alloc (Nat.le_refl _) ob).cell (p := ⟨g, 11, none⟩) hlt]; exact c11
    · rw [((Below.refl w'.heap.size w').alloc (Nat.le_refl _) ob).frozen (p := ⟨g, 11, none⟩) hlt]; exact Lib.frozen_of_heap hf2.blk 11
  rw [hRR]
  have m10 : w.cell? ⟨g, 10, none⟩ = some (.slice ta nt tc) := by rw [Lib.cell_of_heap hf0.blk]; exact (fileA_at hf0.cfg _ _).1
  have m11 : w.cell? ⟨g, 11, none⟩ = some (.slice oa no oc) := by rw [Lib.cell_of_heap hf0.blk]; exact (fileA_at hf0.cfg _ _).2.1
  have hbk : Hid (∀ k, (Value.slice oa no oc).ownBlock = some k → B ≤ k) := fun k hk => (hoos.lt k hk).1
  have ag : (Value.slice oa no oc).ownBlock ≠ some g := own_ne hoos hf0.blk (by decide)
  clear hm hwsE hR ht hl htx hwl hRR hnl hp hf0 hots hoos
  have hK : ((ws.length : Int) == 0) = false := by simp; intro h; simp [h] at hws
  have HW : ∃ kk, ws.length = kk := ⟨_, rfl⟩
  obtain ⟨kk, hkk⟩ := HW
  rw [hkk] at kN kF hK hws
  have hno4 : ¬ (4096 : Int) ≤ (no : Int) := by omega
  have hno5 : decide ((4096 : Int) ≤ (no : Int)) = false := by simp; omega
  have HNT := hide_it hnt
  have HNO := hide_it hno
  clear hnt hno hkk
  rcases h3 with ⟨h3, rfl⟩ | ⟨h3, k3, t3, c9, c10, ⟨rfl, rfl⟩ | ⟨d3, rfl⟩⟩
  all_goals (
    go_enter Tryd.func21, Tryd.ntmps21
    go_wp2_with (first | (go_at_call 33; refine kF.mono ?_; rintro e w1 ⟨gx, cx, rfl, hf⟩; have q0 : w1.cell? ⟨b, o, none⟩ = some (.int .i64 1) := (by rw [hf.out.bel.cell (p := ⟨b, o, none⟩) (World.block_lt_of_cell? w _ c0)]; exact c0); have q10 : w1.cell? ⟨g, 10, none⟩ = some (.slice ta nt tc) := (by rw [hf.out.bel.cell (p := ⟨g, 10, none⟩) (World.block_lt_of_cell? w _ m10)]; exact m10); have q11 : w1.cell? ⟨g, 11, none⟩ = some (.slice oa no oc) := (by rw [hf.out.bel.cell (p := ⟨g, 11, none⟩) (World.block_lt_of_cell? w _ m11)]; exact m11)) | (go_at_call 34; refine (kN _ _ _ hf.out).mono ?_; rintro e wz ⟨v, rfl, hb, hov⟩))
    have mg : wz.cell? ⟨g, 11, none⟩ = some (.slice oa no oc) := by rw [hb.out.cell (p := ⟨g, 11, none⟩) (World.block_lt_of_cell? w _ m11)]; exact m11
    have kO2 := kO wz.drew wz _ v hb.out hov.out ((Below.refl _ _).drew)
    clear kF kN kO hf q0 q10 q11 hov
    go_region_law
      (first
        | (refine step_append_lies _ (by rfl) _ _ _ (by rfl) B 46 i5 _ 5 40 Tryd.underlying27 hi5 hz0 hz1 hz2 rfl (by omega) (.slice oa no oc) no (opCells f.ops) (by rfl) (HO5.out.alloc _) ⟨w5.heap.size, 0, none⟩ 1 1 [.int .i64 R.kind, .int .i64 R.a, .int .i64 R.b, .int .i64 R.c, .int .i64 R.d] (by rfl) (by rfl) (World.news_of_block (cs := #[.int .i64 R.kind, .int .i64 R.a, .int .i64 R.b, .int .i64 R.c, .int .i64 R.d]) (t := 46) (fr := (0, 0)) (heap_alloc_new w5 _)) (by simp [Value.oneCell']) (by omega) (by unfold maxLen; omega) (by omega) (by simp; omega) (w5.heap.size + 1) (by simp) ?_; intro gg cg w2 hown1 hgrow hat hlt; have q1 : w2.cell? ⟨g, 11, none⟩ = some (.slice oa no oc) := (by rw [hgrow.cell_far ⟨g, 11, none⟩ (by simp; omega) (Ne.symm ag)]; simp [c5]); have q2 : w2.frozen? ⟨g, 11, none⟩ = false := (by rw [hgrow.frozen_far ⟨g, 11, none⟩ (by simp; omega) (Ne.symm ag)]; simp [f5]))
        | (go_simp; go_at_call 35; refine kO2.mono ?_; rintro e w5 ⟨rfl, HF5, HO5, HT5, hb5, c5, f5, d5, g5, B5⟩))
    all_goals go_wp2
    all_goals go_ret
    all_goals (
      have hB2 : Below B w w2 := ((hb5.out.mono hBw).alloc B5 _).grown hgrow (by simp; omega) hbk.out
      have hblk : w2.heap[g]? = some (.cells (fileA f (.slice ta nt tc) (.slice oa no oc)) 33 (0, 0)) := by
        rw [hgrow.block g (by simp; omega) (Ne.symm ag), Below.heap_alloc _ _ _ (by omega)]; exact HF5.out.blk
      have hset := Joins.block_setCell (i := 11) hblk (.slice (some ⟨gg, 0, none⟩) (no + 1) cg)
      rw [fileA_set11 hcfg.out _ _ _ (f.ops ++ [R])] at hset
      refine ⟨rfl, ⟨_, ⟨hset, ?_, ?_, hcfg.out⟩⟩, (But.of hB2).setCell _ _⟩
      · have h1 : w2.ownsRow B 51 2 (.slice ta nt tc) nt (taskCells f.tasks) := own_other (HT5.out.alloc _) (HO5.out.alloc _) (by decide) hgrow
        have h2 := own_set h1 hblk (by decide) 11 (.slice (some ⟨gg, 0, none⟩) (no + 1) cg)
        rw [← HNT.out] at h2 ⊢
        exact h2
      · have := own_set hown1 hblk (by decide) 11 (.slice (some ⟨gg, 0, none⟩) (no + 1) cg)
        simpa [opCells, opA, HNO.out] using this))
end Go.Proofs.YtgjfhfjmdkhllaaDoor
