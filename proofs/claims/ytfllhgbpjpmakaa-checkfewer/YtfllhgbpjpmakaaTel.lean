/- A config in its cells; CheckTells: the walk. -/
import Derived.Test.YtfllhgbpjpmakaaSho
namespace Go.Proofs.Ytfllhgbpjpmakaa
open Go.RowKit
open M
set_option linter.unusedVariables false
set_option linter.unusedSimpArgs false

/-- A world on the way, with the config in the cells that the call has made for it. -/
structure Cx (w : World) (c : Cf) (W : World) : Prop where
  bel : Below w.heap.size w W
  lt : w.heap.size < W.heap.size
  a0 : W.cell? ⟨w.heap.size, 0, none⟩ = some (.int .i64 c.x0)
  a1 : W.cell? ⟨w.heap.size, 1, none⟩ = some (.int .i64 c.x1)
  a2 : W.cell? ⟨w.heap.size, 2, none⟩ = some (.int .i64 c.x2)
  a3 : W.cell? ⟨w.heap.size, 3, none⟩ = some (.int .i64 c.x3)
  a4 : W.cell? ⟨w.heap.size, 4, none⟩ = some (.int .i64 c.x4)
  a5 : W.cell? ⟨w.heap.size, 5, none⟩ = some (.int .i64 c.x5)
  a6 : W.cell? ⟨w.heap.size, 6, none⟩ = some (.int .i64 c.x6)
  a7 : W.cell? ⟨w.heap.size, 7, none⟩ = some (.int .i64 c.x7)
  a8 : W.cell? ⟨w.heap.size, 8, none⟩ = some (.int .i64 c.x8)
  a9 : W.cell? ⟨w.heap.size, 9, none⟩ = some (.int .i64 c.x9)
theorem Cx.below {w W W' : World} {c : Cf} (h : Cx w c W) (hb : Below W.heap.size W W') : Cx w c W' :=
  ⟨h.bel.trans (hb.mono h.bel.size), Nat.lt_of_lt_of_le h.lt hb.size, by rw [hb.cell (p := ⟨w.heap.size, 0, none⟩) h.lt]; exact h.a0, by rw [hb.cell (p := ⟨w.heap.size, 1, none⟩) h.lt]; exact h.a1, by rw [hb.cell (p := ⟨w.heap.size, 2, none⟩) h.lt]; exact h.a2, by rw [hb.cell (p := ⟨w.heap.size, 3, none⟩) h.lt]; exact h.a3, by rw [hb.cell (p := ⟨w.heap.size, 4, none⟩) h.lt]; exact h.a4, by rw [hb.cell (p := ⟨w.heap.size, 5, none⟩) h.lt]; exact h.a5, by rw [hb.cell (p := ⟨w.heap.size, 6, none⟩) h.lt]; exact h.a6, by rw [hb.cell (p := ⟨w.heap.size, 7, none⟩) h.lt]; exact h.a7, by rw [hb.cell (p := ⟨w.heap.size, 8, none⟩) h.lt]; exact h.a8, by rw [hb.cell (p := ⟨w.heap.size, 9, none⟩) h.lt]; exact h.a9⟩
theorem Cx.alloc {w W : World} {c : Cf} (h : Cx w c W) (ob : Obj) : Cx w c (W.alloc ob) := h.below ((Below.refl _ _).alloc (Nat.le_refl _) _)
theorem Cx.new (w : World) (c : Cf) : Cx w c (w.alloc (.cells #[.int .i64 c.x0, .int .i64 c.x1, .int .i64 c.x2, .int .i64 c.x3, .int .i64 c.x4, .int .i64 c.x5, .int .i64 c.x6, .int .i64 c.x7, .int .i64 c.x8, .int .i64 c.x9] 23)) :=
  ⟨(Below.refl _ _).alloc (Nat.le_refl _) _, by simp, by simp, by simp, by simp, by simp, by simp, by simp, by simp, by simp, by simp, by simp⟩
theorem Cx.cells {w W : World} {x0 x1 x2 x3 x4 x5 x6 x7 x8 x9 : Int} (h : Cx w ⟨x0, x1, x2, x3, x4, x5, x6, x7, x8, x9⟩ W) : W.cell? ⟨w.heap.size, 0, none⟩ = some (.int .i64 x0) ∧ W.cell? ⟨w.heap.size, 1, none⟩ = some (.int .i64 x1) ∧ W.cell? ⟨w.heap.size, 2, none⟩ = some (.int .i64 x2) ∧ W.cell? ⟨w.heap.size, 3, none⟩ = some (.int .i64 x3) ∧ W.cell? ⟨w.heap.size, 4, none⟩ = some (.int .i64 x4) ∧ W.cell? ⟨w.heap.size, 5, none⟩ = some (.int .i64 x5) ∧ W.cell? ⟨w.heap.size, 6, none⟩ = some (.int .i64 x6) ∧ W.cell? ⟨w.heap.size, 7, none⟩ = some (.int .i64 x7) ∧ W.cell? ⟨w.heap.size, 8, none⟩ = some (.int .i64 x8) ∧ W.cell? ⟨w.heap.size, 9, none⟩ = some (.int .i64 x9) :=
  ⟨h.a0, h.a1, h.a2, h.a3, h.a4, h.a5, h.a6, h.a7, h.a8, h.a9⟩

/-- The cells of one task. -/
def T1 (W : World) (b o k : Nat) (u v : Int) : Prop := W.cell? ⟨b, o + k * 2, none⟩ = some (.int .i64 u) ∧ W.cell? ⟨b, o + k * 2 + 1, none⟩ = some (.int .i64 v) ∧ b < W.heap.size
theorem T1.below {W W' : World} {b o k : Nat} {u v : Int} (h : T1 W b o k u v) (hb : Below W.heap.size W W') : T1 W' b o k u v :=
  ⟨by rw [hb.cell (p := ⟨b, _, none⟩) h.2.2]; exact h.1, by rw [hb.cell (p := ⟨b, _, none⟩) h.2.2]; exact h.2.1, Nat.lt_of_lt_of_le h.2.2 hb.size⟩

theorem minN (n K : Nat) (L : Int) (hL : L = (K : Int)) (ts : Array TypeId) (t : TypeId) (W : World) : (Builtin.min_ ts t #[.int .i64 (n : Int), .int .i64 L]).run Try.prog W = .ok (.int .i64 ((min K n : Nat) : Int)) W := by
  subst hL
  simp [Builtin.min_, Builtin.min2]
  split <;> omega

set_option maxRecDepth 1000000 in
set_option maxHeartbeats 8000000 in
theorem tells_true (c : Cf) (ts : List (Int × Int)) (ta : Option Addr) (tc : Nat) (w : World) (hl : ts.length ≤ tc) (hm : tc ≤ maxLen) (ht : TasksIn w ta ts) (hv : cfgB c = true) :
    Calls Try.prog 3 #[cfV c, .slice ta ts.length tc] w fun e w' => e = .returned (.bool true) ∧ Below w.heap.size w w' := by
  unfold maxLen at hm
  have hus : TasksIn w ta (ts.take 80) := ht.take 80
  have hlen : (ts.take 80).length = min 80 ts.length := by simp
  have hmin := minN ts.length 80 80 rfl
  have hm1 : min 80 ts.length ≤ ts.length := by omega
  have hm2 : min 80 ts.length ≤ 80 := by omega
  have kF : ∀ (W : World) (oa : Option Addr), Cx w c W → Calls Try.prog 9 #[fiV c ta oa (min 80 ts.length) tc 1 1] W fun e w' => e = .returned (.tuple #[.int .i64 (fileN c (ts.take 80)).1, .int .i64 (fileN c (ts.take 80)).2]) ∧ Hid (Cx w c w') := fun W oa hW => by
    have := file_any c (ts.take 80) ta oa tc 1 1 W (by unfold maxLen; omega) (hus.below hW.bel (Nat.le_refl _))
    rw [hlen] at this
    exact this.mono (fun e w' h => ⟨h.1, hW.below h.2⟩)
  have kR : ∀ (W : World), Cx w c W → Calls Try.prog 10 #[cfV c, .slice ta (min 80 ts.length) tc] W fun e w' => e = .returned (.tuple #[.int .i64 (fileN c (ts.take 80)).1, .int .i64 (fileN c (ts.take 80)).2]) ∧ Hid (Cx w c w') := fun W hW => by
    have := refFile_any c (ts.take 80) ta tc W (by unfold maxLen; omega) (hus.below hW.bel (Nat.le_refl _))
    rw [hlen] at this
    exact this.mono (fun e w' h => ⟨h.1, hW.below h.2⟩)
  have kQ : ∀ (W : World), Cx w c W → Calls Try.prog 11 #[cfV c] W fun e w' => e = .returned (.bool true) ∧ Hid (Cx w c w') := fun W hW => by
    have := refConfig_any c W
    rw [hv] at this
    exact this.mono (fun e w' h => ⟨h.1, hW.below h.2⟩)
  have kC : ∀ (W : World), Cx w c W → Calls Try.prog 12 #[cfV c] W fun e w' => e = .returned (.int .i64 0) ∧ Hid (Cx w c w') := fun W hW => by
    have := config_any c W
    rw [hv] at this
    exact this.mono (fun e w' h => ⟨h.1, hW.below h.2⟩)
  have kS : Calls Try.prog 8 #[] (w.alloc (.cells #[.int .i64 c.x0, .int .i64 c.x1, .int .i64 c.x2, .int .i64 c.x3, .int .i64 c.x4, .int .i64 c.x5, .int .i64 c.x6, .int .i64 c.x7, .int .i64 c.x8, .int .i64 c.x9] 23)) fun e w' => e = .returned (.bool true) ∧ Hid (Cx w c w') := (shown_any _).mono (fun e w' h => ⟨h.1, (Cx.new w c).below h.2⟩)
  generalize fileN c (ts.take 80) = R at *
  obtain ⟨p, q⟩ := R
  have HU : Hid (TasksIn w ta (ts.take 80)) := hus
  have HL : Hid ((ts.take 80).length = min 80 ts.length) := hlen
  clear hus hlen ht hv
  generalize ts.take 80 = us at *
  generalize min 80 ts.length = m at *
  generalize ts.length = n at *
  unfold fiV at kF
  unfold cfV at *
  obtain ⟨x0, x1, x2, x3, x4, x5, x6, x7, x8, x9⟩ := c
  simp only [] at *
  go_enter Try.func3, Try.ntmps3
  go_wp2_with (first | (go_at_call 8; refine kS.mono ?_; rintro e w1 ⟨rfl, hX1⟩; obtain ⟨a0, a1, a2, a3, a4, a5, a6, a7, a8, a9⟩ := hX1.out.cells) | (go_at_call 9; refine (kF _ _ (hX1.out.alloc _)).mono ?_; rintro e w2 ⟨rfl, hX2⟩; clear a0 a1 a2 a3 a4 a5 a6 a7 a8 a9; obtain ⟨a0, a1, a2, a3, a4, a5, a6, a7, a8, a9⟩ := hX2.out.cells) | (go_at_call 10; refine (kR _ hX2.out).mono ?_; rintro e w3 ⟨rfl, hX3⟩; clear a0 a1 a2 a3 a4 a5 a6 a7 a8 a9; obtain ⟨a0, a1, a2, a3, a4, a5, a6, a7, a8, a9⟩ := hX3.out.cells) | (go_at_call 11; refine (kQ _ hX3.out).mono ?_; rintro e w4 ⟨rfl, hX4⟩; clear a0 a1 a2 a3 a4 a5 a6 a7 a8 a9; obtain ⟨a0, a1, a2, a3, a4, a5, a6, a7, a8, a9⟩ := hX4.out.cells; refine Hid.out ?_))
  refine hide_it ?_
  go_wp2_with (go_at_call 12; refine (kC _ hX4.out).mono ?_; rintro e w5 ⟨rfl, hX5⟩; clear a0 a1 a2 a3 a4 a5 a6 a7 a8 a9; obtain ⟨a0, a1, a2, a3, a4, a5, a6, a7, a8, a9⟩ := hX5.out.cells; refine Hid.out ?_)
  refine hide_it ?_
  go_wp2_with (go_at_call 12; refine (kC _ hX5.out).mono ?_; rintro e w6 ⟨rfl, hX6⟩; clear a0 a1 a2 a3 a4 a5 a6 a7 a8 a9)
  clear kS kF kR kQ kC hX1 hX2 hX3 hX4 hX5
  go_loopw [11] (fun i W => Hid (Below w.heap.size w W) ∧ ∃ k : Nat, k ≤ m ∧ i = .int .i64 k) (fun i _ => m - (intOf i).toNat)
  case atStart => exact ⟨hX6.out.bel, 0, Nat.zero_le _, rfl⟩
  case round =>
    obtain ⟨hBr, k, hk, rfl⟩ := hrel
    by_cases hlt : k < m
    · have hlx : k < us.length := by rw [HL.out]; exact hlt
      obtain ⟨b, o, hta, hbw, c1, c2⟩ := (HU.out.below hBr.out (Nat.le_refl _)) k hlx
      have kT := fun W => task_any us[k] W
      have kU := fun W => refTask_any us[k] W
      generalize us[k] = t at *
      obtain ⟨u, v⟩ := t
      subst hta
      have kT' : ∀ W, Below w.heap.size w W → T1 W b o k u v → Calls Try.prog 14 #[.agg #[.int .i64 u, .int .i64 v]] W fun e w' => e = .returned (.int .i64 (errN (taskB (u, v)))) ∧ Hid (Below w.heap.size w w') ∧ Hid (T1 w' b o k u v) := fun W hW hT => (kT W).mono (fun e w' h => ⟨h.1, hW.trans (h.2.mono hW.size), hT.below h.2⟩)
      have kU' : ∀ W, Below w.heap.size w W → T1 W b o k u v → Calls Try.prog 13 #[.agg #[.int .i64 u, .int .i64 v]] W fun e w' => e = .returned (.bool (taskB (u, v))) ∧ Hid (Below w.heap.size w w') ∧ Hid (T1 w' b o k u v) := fun W hW hT => (kU W).mono (fun e w' h => ⟨h.1, hW.trans (h.2.mono hW.size), hT.below h.2⟩)
      have HT1 : Hid (T1 _ b o k u v) := ⟨c1, c2, hbw⟩
      clear kT kU
      cases hb : taskB (u, v) with
      | false =>
        rw [hb] at kT' kU'
        have kT2 : ∀ W, Below w.heap.size w W → T1 W b o k u v → Calls Try.prog 14 #[.agg #[.int .i64 u, .int .i64 v]] W fun e w' => e = .returned (.int .i64 3) ∧ Hid (Below w.heap.size w w') ∧ Hid (T1 w' b o k u v) := kT'
        clear hb kT'
        go_wp2_with (go_at_call 13; refine (kU' _ hBr.out HT1.out).mono ?_; rintro e w7 ⟨rfl, hB7, hT7⟩; clear c1 c2; obtain ⟨c1, c2, _⟩ := hT7.out; refine Hid.out ?_)
        refine hide_it ?_
        go_wp2_with (go_at_call 14; refine (kT2 _ hB7.out hT7.out).mono ?_; rintro e w8 ⟨rfl, hB8, hT8⟩; clear c1 c2; obtain ⟨c1, c2, _⟩ := hT8.out; refine Hid.out ?_)
        refine hide_it ?_
        go_wp2_with (go_at_call 14; refine (kT2 _ hB8.out hT8.out).mono ?_; rintro e w9 ⟨rfl, hB9, hT9⟩)
        go_roundw
        case rel => exact ⟨hB9, k + 1, by omega, by go_num⟩
        case measure => simp [intOf]; omega
      | true =>
        rw [hb] at kT' kU'
        have kT2 : ∀ W, Below w.heap.size w W → T1 W b o k u v → Calls Try.prog 14 #[.agg #[.int .i64 u, .int .i64 v]] W fun e w' => e = .returned (.int .i64 0) ∧ Hid (Below w.heap.size w w') ∧ Hid (T1 w' b o k u v) := kT'
        clear hb kT'
        go_wp2_with (go_at_call 13; refine (kU' _ hBr.out HT1.out).mono ?_; rintro e w7 ⟨rfl, hB7, hT7⟩; clear c1 c2; obtain ⟨c1, c2, _⟩ := hT7.out; refine Hid.out ?_)
        refine hide_it ?_
        go_wp2_with (go_at_call 14; refine (kT2 _ hB7.out hT7.out).mono ?_; rintro e w8 ⟨rfl, hB8, hT8⟩; clear c1 c2; obtain ⟨c1, c2, _⟩ := hT8.out; refine Hid.out ?_)
        refine hide_it ?_
        go_wp2_with (go_at_call 14; refine (kT2 _ hB8.out hT8.out).mono ?_; rintro e w9 ⟨rfl, hB9, hT9⟩)
        go_roundw
        case rel => exact ⟨hB9, k + 1, by omega, by go_num⟩
        case measure => simp [intOf]; omega
    · go_wp2
      go_ret
      exact ⟨rfl, hBr.out⟩

set_option maxRecDepth 1000000 in
set_option maxHeartbeats 8000000 in
theorem tells_false (c : Cf) (ts : List (Int × Int)) (ta : Option Addr) (tc : Nat) (w : World) (hl : ts.length ≤ tc) (hm : tc ≤ maxLen) (ht : TasksIn w ta ts) (hv : cfgB c = false) :
    Calls Try.prog 3 #[cfV c, .slice ta ts.length tc] w fun e w' => e = .returned (.bool true) ∧ Below w.heap.size w w' := by
  unfold maxLen at hm
  have hus : TasksIn w ta (ts.take 80) := ht.take 80
  have hlen : (ts.take 80).length = min 80 ts.length := by simp
  have hmin := minN ts.length 80 80 rfl
  have hm1 : min 80 ts.length ≤ ts.length := by omega
  have hm2 : min 80 ts.length ≤ 80 := by omega
  have kF : ∀ (W : World) (oa : Option Addr), Cx w c W → Calls Try.prog 9 #[fiV c ta oa (min 80 ts.length) tc 1 1] W fun e w' => e = .returned (.tuple #[.int .i64 (fileN c (ts.take 80)).1, .int .i64 (fileN c (ts.take 80)).2]) ∧ Hid (Cx w c w') := fun W oa hW => by
    have := file_any c (ts.take 80) ta oa tc 1 1 W (by unfold maxLen; omega) (hus.below hW.bel (Nat.le_refl _))
    rw [hlen] at this
    exact this.mono (fun e w' h => ⟨h.1, hW.below h.2⟩)
  have kR : ∀ (W : World), Cx w c W → Calls Try.prog 10 #[cfV c, .slice ta (min 80 ts.length) tc] W fun e w' => e = .returned (.tuple #[.int .i64 (fileN c (ts.take 80)).1, .int .i64 (fileN c (ts.take 80)).2]) ∧ Hid (Cx w c w') := fun W hW => by
    have := refFile_any c (ts.take 80) ta tc W (by unfold maxLen; omega) (hus.below hW.bel (Nat.le_refl _))
    rw [hlen] at this
    exact this.mono (fun e w' h => ⟨h.1, hW.below h.2⟩)
  have kQ : ∀ (W : World), Cx w c W → Calls Try.prog 11 #[cfV c] W fun e w' => e = .returned (.bool false) ∧ Hid (Cx w c w') := fun W hW => by
    have := refConfig_any c W
    rw [hv] at this
    exact this.mono (fun e w' h => ⟨h.1, hW.below h.2⟩)
  have kC : ∀ (W : World), Cx w c W → Calls Try.prog 12 #[cfV c] W fun e w' => e = .returned (.int .i64 3) ∧ Hid (Cx w c w') := fun W hW => by
    have := config_any c W
    rw [hv] at this
    exact this.mono (fun e w' h => ⟨h.1, hW.below h.2⟩)
  have kS : Calls Try.prog 8 #[] (w.alloc (.cells #[.int .i64 c.x0, .int .i64 c.x1, .int .i64 c.x2, .int .i64 c.x3, .int .i64 c.x4, .int .i64 c.x5, .int .i64 c.x6, .int .i64 c.x7, .int .i64 c.x8, .int .i64 c.x9] 23)) fun e w' => e = .returned (.bool true) ∧ Hid (Cx w c w') := (shown_any _).mono (fun e w' h => ⟨h.1, (Cx.new w c).below h.2⟩)
  generalize fileN c (ts.take 80) = R at *
  obtain ⟨p, q⟩ := R
  have HU : Hid (TasksIn w ta (ts.take 80)) := hus
  have HL : Hid ((ts.take 80).length = min 80 ts.length) := hlen
  clear hus hlen ht hv
  generalize ts.take 80 = us at *
  generalize min 80 ts.length = m at *
  generalize ts.length = n at *
  unfold fiV at kF
  unfold cfV at *
  obtain ⟨x0, x1, x2, x3, x4, x5, x6, x7, x8, x9⟩ := c
  simp only [] at *
  go_enter Try.func3, Try.ntmps3
  go_wp2_with (first | (go_at_call 8; refine kS.mono ?_; rintro e w1 ⟨rfl, hX1⟩; obtain ⟨a0, a1, a2, a3, a4, a5, a6, a7, a8, a9⟩ := hX1.out.cells) | (go_at_call 9; refine (kF _ _ (hX1.out.alloc _)).mono ?_; rintro e w2 ⟨rfl, hX2⟩; clear a0 a1 a2 a3 a4 a5 a6 a7 a8 a9; obtain ⟨a0, a1, a2, a3, a4, a5, a6, a7, a8, a9⟩ := hX2.out.cells) | (go_at_call 10; refine (kR _ hX2.out).mono ?_; rintro e w3 ⟨rfl, hX3⟩; clear a0 a1 a2 a3 a4 a5 a6 a7 a8 a9; obtain ⟨a0, a1, a2, a3, a4, a5, a6, a7, a8, a9⟩ := hX3.out.cells) | (go_at_call 11; refine (kQ _ hX3.out).mono ?_; rintro e w4 ⟨rfl, hX4⟩; clear a0 a1 a2 a3 a4 a5 a6 a7 a8 a9; obtain ⟨a0, a1, a2, a3, a4, a5, a6, a7, a8, a9⟩ := hX4.out.cells; refine Hid.out ?_))
  refine hide_it ?_
  go_wp2_with (go_at_call 12; refine (kC _ hX4.out).mono ?_; rintro e w5 ⟨rfl, hX5⟩; clear a0 a1 a2 a3 a4 a5 a6 a7 a8 a9; obtain ⟨a0, a1, a2, a3, a4, a5, a6, a7, a8, a9⟩ := hX5.out.cells; refine Hid.out ?_)
  refine hide_it ?_
  go_wp2_with (go_at_call 12; refine (kC _ hX5.out).mono ?_; rintro e w6 ⟨rfl, hX6⟩; clear a0 a1 a2 a3 a4 a5 a6 a7 a8 a9)
  clear kS kF kR kQ kC hX1 hX2 hX3 hX4 hX5
  go_loopw [11] (fun i W => Hid (Below w.heap.size w W) ∧ ∃ k : Nat, k ≤ m ∧ i = .int .i64 k) (fun i _ => m - (intOf i).toNat)
  case atStart => exact ⟨hX6.out.bel, 0, Nat.zero_le _, rfl⟩
  case round =>
    obtain ⟨hBr, k, hk, rfl⟩ := hrel
    by_cases hlt : k < m
    · have hlx : k < us.length := by rw [HL.out]; exact hlt
      obtain ⟨b, o, hta, hbw, c1, c2⟩ := (HU.out.below hBr.out (Nat.le_refl _)) k hlx
      have kT := fun W => task_any us[k] W
      have kU := fun W => refTask_any us[k] W
      generalize us[k] = t at *
      obtain ⟨u, v⟩ := t
      subst hta
      have kT' : ∀ W, Below w.heap.size w W → T1 W b o k u v → Calls Try.prog 14 #[.agg #[.int .i64 u, .int .i64 v]] W fun e w' => e = .returned (.int .i64 (errN (taskB (u, v)))) ∧ Hid (Below w.heap.size w w') ∧ Hid (T1 w' b o k u v) := fun W hW hT => (kT W).mono (fun e w' h => ⟨h.1, hW.trans (h.2.mono hW.size), hT.below h.2⟩)
      have kU' : ∀ W, Below w.heap.size w W → T1 W b o k u v → Calls Try.prog 13 #[.agg #[.int .i64 u, .int .i64 v]] W fun e w' => e = .returned (.bool (taskB (u, v))) ∧ Hid (Below w.heap.size w w') ∧ Hid (T1 w' b o k u v) := fun W hW hT => (kU W).mono (fun e w' h => ⟨h.1, hW.trans (h.2.mono hW.size), hT.below h.2⟩)
      have HT1 : Hid (T1 _ b o k u v) := ⟨c1, c2, hbw⟩
      clear kT kU
      cases hb : taskB (u, v) with
      | false =>
        rw [hb] at kT' kU'
        have kT2 : ∀ W, Below w.heap.size w W → T1 W b o k u v → Calls Try.prog 14 #[.agg #[.int .i64 u, .int .i64 v]] W fun e w' => e = .returned (.int .i64 3) ∧ Hid (Below w.heap.size w w') ∧ Hid (T1 w' b o k u v) := kT'
        clear hb kT'
        go_wp2_with (go_at_call 13; refine (kU' _ hBr.out HT1.out).mono ?_; rintro e w7 ⟨rfl, hB7, hT7⟩; clear c1 c2; obtain ⟨c1, c2, _⟩ := hT7.out; refine Hid.out ?_)
        refine hide_it ?_
        go_wp2_with (go_at_call 14; refine (kT2 _ hB7.out hT7.out).mono ?_; rintro e w8 ⟨rfl, hB8, hT8⟩; clear c1 c2; obtain ⟨c1, c2, _⟩ := hT8.out; refine Hid.out ?_)
        refine hide_it ?_
        go_wp2_with (go_at_call 14; refine (kT2 _ hB8.out hT8.out).mono ?_; rintro e w9 ⟨rfl, hB9, hT9⟩)
        go_roundw
        case rel => exact ⟨hB9, k + 1, by omega, by go_num⟩
        case measure => simp [intOf]; omega
      | true =>
        rw [hb] at kT' kU'
        have kT2 : ∀ W, Below w.heap.size w W → T1 W b o k u v → Calls Try.prog 14 #[.agg #[.int .i64 u, .int .i64 v]] W fun e w' => e = .returned (.int .i64 0) ∧ Hid (Below w.heap.size w w') ∧ Hid (T1 w' b o k u v) := kT'
        clear hb kT'
        go_wp2_with (go_at_call 13; refine (kU' _ hBr.out HT1.out).mono ?_; rintro e w7 ⟨rfl, hB7, hT7⟩; clear c1 c2; obtain ⟨c1, c2, _⟩ := hT7.out; refine Hid.out ?_)
        refine hide_it ?_
        go_wp2_with (go_at_call 14; refine (kT2 _ hB7.out hT7.out).mono ?_; rintro e w8 ⟨rfl, hB8, hT8⟩; clear c1 c2; obtain ⟨c1, c2, _⟩ := hT8.out; refine Hid.out ?_)
        refine hide_it ?_
        go_wp2_with (go_at_call 14; refine (kT2 _ hB8.out hT8.out).mono ?_; rintro e w9 ⟨rfl, hB9, hT9⟩)
        go_roundw
        case rel => exact ⟨hB9, k + 1, by omega, by go_num⟩
        case measure => simp [intOf]; omega
    · go_wp2
      go_ret
      exact ⟨rfl, hBr.out⟩

theorem checkTells_walk (c : Cf) (ts : List (Int × Int)) (ta : Option Addr) (tc : Nat) (w : World) (hl : ts.length ≤ tc) (hm : tc ≤ maxLen) (ht : TasksIn w ta ts) :
    Calls Try.prog 3 #[cfV c, .slice ta ts.length tc] w fun e w' => e = .returned (.bool true) ∧ Below w.heap.size w w' := by
  cases hv : cfgB c with
  | true => exact tells_true c ts ta tc w hl hm ht hv
  | false => exact tells_false c ts ta tc w hl hm ht hv
end Go.Proofs.Ytfllhgbpjpmakaa
