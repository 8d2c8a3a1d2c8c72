/- some, isTask, and Of of package prio. -/
import Derived.Test.YtmeeimfjibcncaaDoorZro
import Derived.Lib.MinMax
import Derived.Deep.OwnRows
import Derived.Deep.DeepCutAuto
namespace Go.Proofs.YtmeeimfjibcncaaDoor
open Go.RowKit
open M
set_option linter.unusedVariables false
set_option linter.unusedSimpArgs false

theorem some_any (g : Nat) (w : World) : Calls Tryd.prog 26 #[ptr g] w fun e w' => e = .returned (ptr g) ∧ w' = w := by
  go_enter Tryd.func26, Tryd.ntmps26
  go_wp2
  go_ret
  exact ⟨rfl, rfl⟩

set_option maxRecDepth 1000000 in
set_option maxHeartbeats 2000000 in
theorem isTask_any (g eb n : Nat) (x : Int) (w : World) (hn : n ≤ 64) (h1 : w.cell? ⟨g, 1, none⟩ = some (.slice (some ⟨eb, 0, none⟩) n n)) :
    Calls Tryd.prog 29 #[ptr g, .int .i64 x] w fun e w' => e = .returned (.bool (!offB n x)) ∧ w' = w := by
  have k := n_any g eb n w hn h1
  unfold offB
  by_cases h0 : 0 ≤ x
  · have h2 : decide (x < 0) = false := by simpa using h0
    go_enter Tryd.func29, Tryd.ntmps29
    go_wp2_with (go_at_call 19; refine k.mono ?_; rintro e w' ⟨rfl, rfl⟩)
    go_ret
    exact ⟨ret_bool (by rw [h2]; by_cases hx : x < n <;> simp [hx] <;> omega), rfl⟩
  · have h0' : decide (0 ≤ x) = false := by simpa using h0
    have h2 : decide (x < 0) = true := by simp; omega
    go_enter Tryd.func29, Tryd.ntmps29
    go_wp2
    go_ret
    exact ⟨rfl, rfl⟩

/-- A row of numbers. -/
def iRow (f : Nat → Int) (n : Nat) : Array Value := ((List.range n).map fun i => Value.int .i64 (f i)).toArray
theorem iRow_at (f : Nat → Int) (n i : Nat) (h : i < n) : (iRow f n)[i]? = some (.int .i64 (f i)) := by simp [iRow, h]
theorem iRow_size (f : Nat → Int) (n : Nat) : (iRow f n).size = n := by simp [iRow]
theorem iRow_set (f : Nat → Int) (n j : Nat) (x : Int) : (iRow f n).setIfInBounds j (.int .i64 x) = iRow (fun i => if i = j then x else f i) n := by
  apply Array.ext_getElem?
  intro i
  rw [Array.getElem?_setIfInBounds]
  by_cases hi : i < n
  · rw [iRow_at _ n i hi, iRow_at _ n i hi]
    by_cases hij : j = i
    · subst hij
      simp [iRow_size, hi]
    · have : ¬ i = j := fun e => hij e.symm
      simp [hij, this]
  · have h1 : (iRow f n)[i]? = none := Array.getElem?_eq_none (by rw [iRow_size]; omega)
    have h2 : (iRow (fun i => if i = j then x else f i) n)[i]? = none := Array.getElem?_eq_none (by rw [iRow_size]; omega)
    rw [h2]
    by_cases hij : j = i
    · subst hij
      simp [iRow_size, hi]
    · simp [hij, h1]
theorem iRow_new (n : Nat) : madeCells #[.int .i64 0] n = iRow (fun _ => 0) n := by
  rw [← Array.toList_inj, toList_madeCells_one]
  rw [iRow, List.toList_toArray]
  show List.replicate n (Value.int .i64 0) = (List.range n).map fun _ => Value.int .i64 0
  rw [List.map_const', List.length_range]
theorem iRow_congr {f g : Nat → Int} {n : Nat} (h : ∀ i, i < n → f i = g i) : iRow f n = iRow g n := by
  unfold iRow
  congr 1
  exact List.map_congr_left fun i hi => by rw [h i (List.mem_range.1 hi)]
theorem zat_iRow {W : World} {b n : Nat} {f : Nat → Int} (h : W.heap[b]? = some (.cells (iRow f n) 3)) : ZAt W (.slice (some ⟨b, 0, none⟩) n n) ((List.range n).map f) := by
  refine ⟨some ⟨b, 0, none⟩, n, by simp, fun i hi => ⟨b, rfl, block_lt h, ?_⟩⟩
  have hi' : i < n := by simpa using hi
  rw [cell_of_row W b i _ _ _ h, iRow_at f n i hi']
  simp

/-- The row of priorities under way. -/
structure OS (w W : World) (b n : Nat) (P : Nat → Int) : Prop where
  bel : Below w.heap.size w W
  blk : W.heap[b]? = some (.cells (iRow P n) 3)
  le : w.heap.size ≤ b
section
variable {w W W' : World} {b n : Nat} {P : Nat → Int}
theorem OS.cell (h : OS w W b n P) (i : Nat) (hi : i < n) : W.cell? ⟨b, i, none⟩ = some (.int .i64 (P i)) := by
  rw [cell_of_row W _ i _ _ _ h.blk]; exact iRow_at P n i hi
theorem OS.fro (h : OS w W b n P) (i : Nat) : W.frozen? ⟨b, i, none⟩ = false := by simp [World.frozen?, h.blk]
theorem OS.set (h : OS w W b n P) (j : Nat) (x : Int) (R : Nat → Int) (hR : ∀ i, i < n → R i = if i = j then x else P i) : OS w (W.setCell ⟨b, j, none⟩ (.int .i64 x)) b n R := by
  refine ⟨h.bel.setCell h.le _, ?_, h.le⟩
  rw [heap_setCell_at h.blk, iRow_set, iRow_congr hR]
theorem OS.step (h : OS w W b n P) (hb : Below W.heap.size W W') : OS w W' b n P :=
  ⟨h.bel.trans (hb.mono h.bel.size), by rw [hb.block b (block_lt h.blk)]; exact h.blk, h.le⟩
theorem OS.congr (h : OS w W b n P) {R : Nat → Int} (hR : ∀ i, i < n → P i = R i) : OS w W b n R := ⟨h.bel, by rw [← iRow_congr hR]; exact h.blk, h.le⟩
theorem OS.drew (h : OS w W b n P) : OS w W.drew b n P := ⟨h.bel.drew, h.blk, h.le⟩
end

set_option maxRecDepth 1000000 in
set_option maxHeartbeats 4000000 in
theorem of_any {w : World} {g eb n : Nat} {v : Value} {es : List E} (h : GM w g eb n v es) (hT : Tab w) (h0 : 0 < w.heap.size) {qa : Option Addr} {Q : List Rq} (hq : QIn w qa Q) (hm : Q.length ≤ 1000000) (qc : Nat) :
    Calls Tryd.prog 15 #[ptr g, .slice qa Q.length qc] w fun e w' => ∃ b, e = .returned (.slice (some ⟨b, 0, none⟩) n n) ∧ Hid ((w.heap.size ≤ b ∧ b < w'.heap.size) ∧ ZAt w' (.slice (some ⟨b, 0, none⟩) n n) (ofL n es Q)) ∧ Below w.heap.size w w' := by
  have hn := h.hn
  have k1 := some_any g w
  have k2 := n_any g eb n w hn h.c1
  have hk : ∀ W : World, (Instr.makeSlice 38 (.int .i64 n) (.int .i64 n)).run Tryd.prog W = .ok (.slice (some ⟨W.heap.size, 0, none⟩) n n) (W.alloc (.cells (madeCells #[.int .i64 0] n) 3)) := fun W =>
    run_make_row' 38 3 (.int .i64 0) 8 Tryd.underlying38 info3 rfl .i64 .i64 n (by omega) (by omega) W
  simp only [iRow_new] at hk
  have s0 : Hid (OS w (w.alloc (.cells (iRow (fun _ => 0) n) 3)) w.heap.size n (fun _ => 0)) :=
    ⟨(Below.refl _ _).alloc (Nat.le_refl _) _, heap_alloc_at rfl _, Nat.le_refl _⟩
  have kr : ∀ (W : World) (a : Int), Below w.heap.size w W → Calls Tryd.prog 28 #[ptr g, .int .i64 a] W fun e w' => ∃ ao cap, e = .returned (.slice ao (reachL n es a).length cap) ∧ Hid (ZAt w' (.slice ao (reachL n es a).length cap) (zs (reachL n es a)) ∧ (∀ k, (Value.slice ao (reachL n es a).length cap).ownBlock = some k → W.heap.size ≤ k) ∧ Below W.heap.size W w') := fun W a hb => by
    refine (reach_any (h.below hb) (tab_below hT h0 hb) (Nat.lt_of_lt_of_le h0 hb.size) a).mono ?_
    rintro e w' ⟨u, rfl, ho, hb2⟩
    obtain ⟨ao, cap, rfl⟩ := (own_zat (own_z ho)).form
    rw [zs_len] at ho ⊢
    have hz := own_zat (own_z ho)
    exact ⟨ao, cap, rfl, hz, fun k hk => (ho.lt k hk).1, hb2⟩
  have HQ := hide_it hq
  have HG := hide_it (fun k hk => raise_all (n := n) (es := es) hn h.good Q k hk)
  have HL := hide_it (fun a => reachL_lt (n := n) (es := es) hn h.good a)
  have HLn := hide_it (fun a => reachL_len n es a)
  obtain ⟨m, hmm⟩ : ∃ m, Q.length = m := ⟨_, rfl⟩
  have HM := hide_it hmm
  rw [hmm] at hm ⊢
  clear h hT h0 hq hmm
  go_enter Tryd.func15, Tryd.ntmps15
  go_upto_region 3 with (first | (go_at_call 26; refine k1.mono ?_; rintro e w1 ⟨rfl, hw1⟩; rw [hw1]; clear hw1 w1) | (go_at_call 19; refine k2.mono ?_; rintro e w1 ⟨rfl, hw1⟩; rw [hw1]; clear hw1 w1))
  obtain ⟨w2, hw2⟩ : ∃ w2, w.alloc (.cells (iRow (fun _ => 0) n) 3) = w2 := ⟨_, rfl⟩
  obtain ⟨b, hb⟩ : ∃ b, w.heap.size = b := ⟨_, rfl⟩
  have HB := hide_it hb
  rw [hw2, hb] at s0
  rw [hw2, hb]
  clear hw2 hk k1 k2
  have s1 : Hid (OS w w2 b n (fun t => if t < 0 then -1 else 0)) := s0.out.congr (fun i _ => by simp)
  clear s0
  go_wp2
  go_loopw [18] (fun i W => ∃ k : Nat, k ≤ n ∧ i = .int .i64 k ∧ Hid (OS w W b n (fun t => if t < k then -1 else 0))) (fun i _ => n - (intOf i).toNat)
  case atStart => exact ⟨0, Nat.zero_le _, rfl, s1⟩
  case round =>
    obtain ⟨k, hk, rfl, s2⟩ := hrel
    clear s1
    by_cases hlt : k < n
    · have c := s2.out.cell k hlt
      have f := s2.out.fro k
      have s3 := hide_it (s2.out.set k (-1) (fun t => if t < k + 1 then -1 else 0) (fun i _ => by by_cases e : i = k <;> simp [e] <;> (repeat' split) <;> omega))
      clear s2
      simp only [Nat.lt_irrefl, if_false] at c
      go_wp2
      go_roundw
      case rel => exact ⟨k + 1, by omega, by go_num, s3⟩
      case measure => simp [intOf]; omega
    · obtain rfl : k = n := by omega
      have s3 : Hid (OS w wr b k (prioOf k es (Q.take 0))) := s2.out.congr (fun i hi => by simp [hi, prioOf_nil])
      clear s2
      go_wp2
      go_loopw [27] (fun i W => ∃ j : Nat, j ≤ m ∧ i = .int .i64 j ∧ Hid (OS w W b k (prioOf k es (Q.take j)))) (fun i _ => m - (intOf i).toNat)
      case atStart => exact ⟨0, Nat.zero_le _, rfl, s3⟩
      case round =>
        obtain ⟨j, hj, rfl, s4⟩ := hrel
        clear s3
        obtain ⟨w4, rfl⟩ : ∃ W, W = wr := ⟨_, rfl⟩
        by_cases hjm : j < m
        · have hjx : j < Q.length := by rw [HM.out]; exact hjm
          obtain ⟨rb, o, rfl, hrb, c0, c1, c2⟩ := (HQ.out.below s4.out.bel (Nat.le_refl _)) j hjx
          have HN := hide_it (HG.out j hjx)
          generalize Q[j] = q at *
          obtain ⟨rt, wt, pr⟩ := q
          simp only at c0 c1 c2 HN
          have HL' := hide_it (HL.out rt)
          have hl64 := HLn.out rt
          have kr' := kr (w4.alloc (.cells #[.int .i64 rt, .int .i64 wt, .int .i64 pr] 49)) rt (s4.out.bel.alloc (Nat.le_trans (Nat.le_refl _) s4.out.bel.size) _)
          generalize reachL k es rt = L at *
          obtain ⟨P, hP⟩ : ∃ P, prioOf k es (Q.take j) = P := ⟨_, rfl⟩
          rw [hP] at s4 HN
          clear hP
          go_upto_region 11 with fail
          obtain ⟨w5, hw5⟩ : ∃ w5, w4.alloc (.cells #[.int .i64 rt, .int .i64 wt, .int .i64 pr] 49) = w5 := ⟨_, rfl⟩
          obtain ⟨c, hc⟩ : ∃ c, w4.heap.size = c := ⟨_, rfl⟩
          have d0 : w5.cell? ⟨c, 0, none⟩ = some (.int .i64 rt) := by rw [← hw5, ← hc]; simp
          have hblk : Hid (w5.heap[c]? = some (.cells #[.int .i64 rt, .int .i64 wt, .int .i64 pr] 49)) := by unfold Hid; rw [← hw5]; exact heap_alloc_at hc _
          have s5 : Hid (OS w w5 b k P) := by unfold Hid; rw [← hw5]; exact s4.out.step ((Below.refl _ _).alloc (Nat.le_refl _) _)
          have hcb : Hid (c ≠ b) := fun e => by have := block_lt s4.out.blk; omega
          rw [hw5, hc]
          rw [hw5] at kr'
          clear hw5 hc s4 c0 c1 c2 hrb kr HL HLn HG HQ
          go_wp2_with (go_at_call 28; refine kr'.mono ?_; rintro e w6 ⟨ao, cap, rfl, t6⟩)
          have s6 := hide_it (s5.out.step t6.out.2.2)
          have hcc : Hid (w6.cell? ⟨c, 2, none⟩ = some (.int .i64 pr)) := by
            unfold Hid
            rw [World.cell?_of_block (w := w5) (t6.out.2.2.block c (block_lt hblk.out)), cell_of_row w5 c 2 _ _ _ hblk.out]
            rfl
          have hcl : Hid (c < w6.heap.size) := Nat.lt_of_lt_of_le (block_lt hblk.out) t6.out.2.2.size
          have hbl : Hid (b < w5.heap.size) := block_lt s5.out.blk
          have s7 : Hid (OS w w6 b k (raiseL P (L.take 0) pr)) := by unfold Hid; rw [List.take_zero, raiseL_nil]; exact s6.out
          obtain ⟨l, hl⟩ : ∃ l, L.length = l := ⟨_, rfl⟩
          have HLl := hide_it hl
          rw [hl] at t6 hl64 ⊢
          clear hl s5 s6 d0 hblk kr'
          go_wp2
          go_loopw [36] (fun i W => ∃ x : Nat, x ≤ l ∧ i = .int .i64 x ∧ Hid (OS w W b k (raiseL P (L.take x) pr)) ∧ Hid (Turn (fun y => y = b) w6 W)) (fun i _ => l - (intOf i).toNat)
          case atStart => exact ⟨0, Nat.zero_le _, rfl, s7, Turn.refl _ _⟩
          case round =>
            obtain ⟨x, hx, rfl, s8, t8⟩ := hrel
            clear s7
            obtain ⟨w7, rfl⟩ : ∃ W, W = wr := ⟨_, rfl⟩
            by_cases hxl : x < l
            · have hxx : x < L.length := by rw [HLl.out]; exact hxl
              obtain ⟨ra, rfl, hra, e1⟩ := (t6.out.1).at x (by rw [zs_len]; exact hxx)
              rw [zs_at] at e1
              have hne : ra ≠ b := fun e => by have := t6.out.2.1 ra rfl; have := hbl.out; omega
              rw [← World.cell?_of_block (w := w6) (t8.out.block ra hra hne)] at e1
              have e2 : w7.cell? ⟨c, 2, none⟩ = some (.int .i64 pr) := by rw [World.cell?_of_block (w := w6) (t8.out.block c hcl.out hcb.out)]; exact hcc.out
              have hy := HL'.out _ (List.getElem_mem hxx)
              have HR := hide_it (raiseL_step P L pr x hxx)
              generalize L[x] = y at *
              have f1 := s8.out.cell y hy
              have f2 := s8.out.fro y
              obtain ⟨pv, hpv⟩ : ∃ pv, raiseL P (L.take x) pr y = pv := ⟨_, rfl⟩
              have HPV := hide_it hpv
              rw [hpv] at f1
              have s9 := hide_it (s8.out.set y (max pv pr) (raiseL P (L.take (x + 1)) pr) (fun i _ => by rw [HR.out]; show (if i = y then _ else _) = _; by_cases e : i = y <;> simp [e, HPV.out]))
              have t9 := hide_it (t8.out.setCell (p := ⟨b, y, none⟩) (.inl rfl) (.int .i64 (max pv pr)))
              clear hpv hra hne s8
              clear HPV HR
              go_wp2
              go_region
              all_goals
                go_wp2
                go_roundw
                case rel => exact ⟨x + 1, by omega, by go_num, s9.out.drew, t9.out.drew⟩
                case measure => simp [intOf]; omega
            · have hx2 : L.take x = L := List.take_of_length_le (by rw [HLl.out]; omega)
              rw [hx2, HN.out] at s8
              clear hx2
              go_wp2
              go_roundw
              case rel => exact ⟨j + 1, by omega, by go_num, s8⟩
              case measure => simp [intOf]; omega
        · have e : Q.take j = Q := List.take_of_length_le (by rw [HM.out]; omega)
          rw [e] at s4
          clear e
          go_wp2
          go_ret
          exact ⟨b, rfl, ⟨⟨s4.out.le, block_lt s4.out.blk⟩, zat_iRow s4.out.blk⟩, s4.out.bel⟩
end Go.Proofs.YtmeeimfjibcncaaDoor
