/- What the statements' own look 'shown' answers: true. -/
import Derived.Test.YtfllhgbpjpmakaaRef
namespace Go.Proofs.Ytfllhgbpjpmakaa
open Go.RowKit
open M
set_option linter.unusedVariables false
set_option linter.unusedSimpArgs false

def goodC : Cf := ⟨9, 2, 2, 0, 1, 0, 3, 1, 4, 5⟩
theorem good_ok : cfgB goodC = true := by decide

theorem tasks_at (w : World) (b : Nat) (hb : w.heap.size = b) (arr : Array Value) (t : TypeId) (ts : List (Int × Int)) (ha : arr = (ts.flatMap (fun t => [Value.int .i64 t.1, .int .i64 t.2])).toArray) : TasksIn (w.alloc (.cells arr t)) (some ⟨b, 0, none⟩) ts := by
  subst hb ha
  intro i hi
  have hc : ∀ (l : List (Int × Int)) (j : Nat) (hj : j < l.length), (l.flatMap (fun t => [Value.int .i64 t.1, Value.int .i64 t.2]))[j * 2]? = some (.int .i64 l[j].1) ∧ (l.flatMap (fun t => [Value.int .i64 t.1, Value.int .i64 t.2]))[j * 2 + 1]? = some (.int .i64 l[j].2) := by
    intro l
    induction l with
    | nil => intro j hj; simp at hj
    | cons t l ih =>
      intro j hj
      have e : (t :: l).flatMap (fun t => [Value.int .i64 t.1, Value.int .i64 t.2]) = [.int .i64 t.1, .int .i64 t.2] ++ l.flatMap (fun t => [Value.int .i64 t.1, Value.int .i64 t.2]) := by simp
      cases j with
      | zero => rw [e]; exact ⟨rfl, rfl⟩
      | succ j =>
        obtain ⟨q1, q2⟩ := ih j (by simpa using hj)
        rw [e]
        refine ⟨?_, ?_⟩
        · rw [List.getElem?_append_right (by simp; omega)]
          simpa [show (j + 1) * 2 - 2 = j * 2 by omega] using q1
        · rw [List.getElem?_append_right (by simp; omega)]
          simpa [show (j + 1) * 2 + 1 - 2 = j * 2 + 1 by omega] using q2
  obtain ⟨q1, q2⟩ := hc ts i hi
  refine ⟨w.heap.size, 0, rfl, by simp, ?_, ?_⟩
  · simpa using q1
  · simpa using q2
theorem tasks_nil (w : World) (a : Option Addr) : TasksIn w a [] := fun i h => by simp at h


set_option maxRecDepth 1000000 in
set_option maxHeartbeats 4000000 in
theorem shown_any (w : World) :
    Calls Try.prog 8 #[] w fun e w' => e = .returned (.bool true) ∧ Below w.heap.size w w' := by
  have kG : ∀ W, Below w.heap.size w W → Calls Try.prog 15 #[] W fun e w' => e = .returned (.agg #[.int .i64 9, .int .i64 2, .int .i64 2, .int .i64 0, .int .i64 1, .int .i64 0, .int .i64 3, .int .i64 1, .int .i64 4, .int .i64 5]) ∧ Hid (Below w.heap.size w w') := fun W hW => (good_any W).mono (fun e w' h => ⟨h.1, hW.trans (h.2.mono hW.size)⟩)
  have kF1 : ∀ (W : World) b, W.heap.size = b → Below w.heap.size w W → Calls Try.prog 9 #[.agg #[.int .i64 9, .int .i64 2, .int .i64 2, .int .i64 0, .int .i64 1, .int .i64 0, .int .i64 3, .int .i64 1, .int .i64 4, .int .i64 5, .slice (some ⟨b, 0, none⟩) 2 2, .slice none 0 0]] (W.alloc (.cells #[.int .i64 1, .int .i64 1, .int .i64 1, .int .i64 0] 39)) fun e w' => e = .returned (.tuple #[.int .i64 2, .int .i64 3]) ∧ Hid (Below w.heap.size w w') := fun W b hb hW =>
    (file_any goodC [(1, 1), (1, 0)] (some ⟨b, 0, none⟩) none 2 0 0 _ (by decide) (tasks_at W b hb _ 39 _ rfl)).mono (fun e w' h => ⟨h.1, (hW.alloc hW.size _).trans (h.2.mono (by simp; have := hW.size; omega))⟩)
  have kF2 : ∀ (W : World), Below w.heap.size w W → Calls Try.prog 9 #[.agg #[.int .i64 9, .int .i64 2, .int .i64 2, .int .i64 0, .int .i64 1, .int .i64 0, .int .i64 3, .int .i64 1, .int .i64 4, .int .i64 5, .slice none 0 0, .slice none 0 0]] W fun e w' => e = .returned (.tuple #[.int .i64 (-1), .int .i64 0]) ∧ Hid (Below w.heap.size w w') := fun W hW =>
    (file_any goodC [] none none 0 0 0 _ (by decide) (tasks_nil _ _)).mono (fun e w' h => ⟨h.1, hW.trans (h.2.mono hW.size)⟩)
  have kC1 : ∀ (W : World), Below w.heap.size w W → Calls Try.prog 12 #[.agg #[.int .i64 9, .int .i64 2, .int .i64 2, .int .i64 0, .int .i64 1, .int .i64 0, .int .i64 3, .int .i64 1, .int .i64 4, .int .i64 5]] W fun e w' => e = .returned (.int .i64 0) ∧ Hid (Below w.heap.size w w') := fun W hW =>
    (config_any goodC W).mono (fun e w' h => ⟨h.1, hW.trans (h.2.mono hW.size)⟩)
  have kC2 : ∀ (W : World), Below w.heap.size w W → Calls Try.prog 12 #[.agg #[.int .i64 0, .int .i64 0, .int .i64 0, .int .i64 0, .int .i64 0, .int .i64 0, .int .i64 0, .int .i64 0, .int .i64 0, .int .i64 0]] W fun e w' => e = .returned (.int .i64 3) ∧ Hid (Below w.heap.size w w') := fun W hW =>
    (config_any ⟨0, 0, 0, 0, 0, 0, 0, 0, 0, 0⟩ W).mono (fun e w' h => ⟨h.1, hW.trans (h.2.mono hW.size)⟩)
  have kT : ∀ (W : World), Below w.heap.size w W → Calls Try.prog 14 #[.agg #[.int .i64 1, .int .i64 1]] W fun e w' => e = .returned (.int .i64 0) ∧ Hid (Below w.heap.size w w') := fun W hW =>
    (task_any (1, 1) W).mono (fun e w' h => ⟨h.1, hW.trans (h.2.mono hW.size)⟩)
  go_enter Try.func8, Try.ntmps8
  go_wp2_with (first | (go_at_call 15; refine (kG _ (Below.refl _ _)).mono ?_; rintro e w1 ⟨rfl, hB1⟩) | (go_at_call 9; refine (kF1 _ _ rfl hB1.out).mono ?_; rintro e w2 ⟨rfl, hB2⟩; refine Hid.out ?_))
  refine hide_it ?_
  go_wp2_with (first | (go_at_call 15; refine (kG _ hB2.out).mono ?_; rintro e w3 ⟨rfl, hB3⟩) | (go_at_call 9; refine (kF2 _ hB3.out).mono ?_; rintro e w4 ⟨rfl, hB4⟩; refine Hid.out ?_))
  refine hide_it ?_
  go_wp2_with (first | (go_at_call 15; refine (kG _ hB4.out).mono ?_; rintro e w5 ⟨rfl, hB5⟩) | (go_at_call 12; refine (kC1 _ hB5.out).mono ?_; rintro e w6 ⟨rfl, hB6⟩; refine Hid.out ?_))
  refine hide_it ?_
  go_wp2_with (first | (go_at_call 12; refine (kC2 _ hB6.out).mono ?_; rintro e w7 ⟨rfl, hB7⟩) | (go_at_call 14; refine (kT _ hB7.out).mono ?_; rintro e w8 ⟨rfl, hB8⟩))
  go_ret
  exact ⟨rfl, hB8.out⟩

set_option maxRecDepth 1000000 in
set_option maxHeartbeats 4000000 in
theorem refFile_any (c : Cf) (ts : List (Int × Int)) (ta : Option Addr) (tc : Nat) (w : World) (hn : ts.length ≤ maxLen) (hts : TasksIn w ta ts) :
    Calls Try.prog 10 #[cfV c, .slice ta ts.length tc] w fun e w' => e = .returned (.tuple #[.int .i64 (fileN c ts).1, .int .i64 (fileN c ts).2]) ∧ Below w.heap.size w w' := by
  unfold maxLen at hn
  have hb0 : ∀ ob, Below w.heap.size w (w.alloc ob) := fun ob => (Below.refl _ _).alloc (Nat.le_refl _) _
  have kC : Calls Try.prog 11 #[cfV c] (w.alloc (.cells #[.int .i64 c.x0, .int .i64 c.x1, .int .i64 c.x2, .int .i64 c.x3, .int .i64 c.x4, .int .i64 c.x5, .int .i64 c.x6, .int .i64 c.x7, .int .i64 c.x8, .int .i64 c.x9] 23)) fun e w1 => e = .returned (.bool (cfgB c)) ∧ Hid (Below w.heap.size w w1) := by
    refine (refConfig_any c _).mono ?_
    rintro e w1 ⟨rfl, hb⟩
    exact ⟨rfl, (hb0 _).trans (hb.mono (hb0 _).size)⟩
  unfold cfV at *
  unfold fileN
  obtain ⟨x0, x1, x2, x3, x4, x5, x6, x7, x8, x9⟩ := c
  simp only [] at *
  cases hc : cfgB ⟨x0, x1, x2, x3, x4, x5, x6, x7, x8, x9⟩ with
  | false =>
    rw [hc] at kC
    clear hc
    go_enter Try.func10, Try.ntmps10
    go_wp2_with (go_at_call 11; refine kC.mono ?_; rintro e w1 ⟨rfl, hB1⟩)
    go_ret2
    exact ⟨rfl, hB1.out⟩
  | true =>
    rw [hc] at kC
    clear hc
    by_cases h64 : 64 < ts.length
    · rw [if_pos rfl, if_pos h64]
      generalize ts.length = n at *
      go_enter Try.func10, Try.ntmps10
      go_wp2_with (go_at_call 11; refine kC.mono ?_; rintro e w1 ⟨rfl, hB1⟩)
      go_ret2
      exact ⟨rfl, hB1.out⟩
    · rw [if_pos rfl, if_neg h64]
      have HG : ∃ G : Int × Int, G = goN 0 ts := ⟨_, rfl⟩
      obtain ⟨G, hG⟩ := HG
      rw [← hG]
      have HTS : Hid (TasksIn w ta ts) := hts
      have HGG : Hid (G = goN 0 (ts.drop 0)) := hG
      obtain ⟨n, hnn⟩ : ∃ n, ts.length = n := ⟨_, rfl⟩
      have HN : Hid (ts.length = n) := hnn
      rw [hnn] at h64 hn
      rw [hnn]
      clear hnn hts hG
      go_enter Try.func10, Try.ntmps10
      go_wp2_with (go_at_call 11; refine kC.mono ?_; rintro e w1 ⟨rfl, hB1⟩)
      clear kC
      go_loopw [7] (fun i W => Hid (Below w.heap.size w W) ∧ ∃ k : Nat, k ≤ n ∧ i = .int .i64 k ∧ Hid (G = goN k (ts.drop k))) (fun i _ => n - (intOf i).toNat)
      case atStart => exact ⟨hB1, 0, Nat.zero_le _, rfl, HGG⟩
      case round =>
        obtain ⟨hBr, k, hk, rfl, HK⟩ := hrel
        by_cases hlt : k < n
        · have hlx : k < ts.length := by rw [HN.out]; exact hlt
          obtain ⟨b, o, hta, hbw, c1, c2⟩ := (HTS.out.below hBr.out (Nat.le_refl _)) k hlx
          have HA := hide_it (goN_at hlx k)
          have kT := fun W => refTask_any ts[k] W
          generalize ts[k] = t at *
          obtain ⟨u, v⟩ := t
          subst hta
          cases hb : taskB (u, v) with
          | false =>
            rw [hb] at kT
            have kT' : ∀ W, Calls Try.prog 13 #[.agg #[.int .i64 u, .int .i64 v]] W fun e w' => e = .returned (.bool false) ∧ Hid (Below W.heap.size W w') := kT
            have HA' : Hid (G = ((k : Int) + 1, 3)) := by show G = _; rw [HK.out, HA.out, hb]; rfl
            clear HA kT hb HK
            go_wp2_with (go_at_call 13; refine (kT' _).mono ?_; rintro e w3 ⟨rfl, hB3⟩)
            go_ret2
            exact ⟨ret_two (by rw [HA'.out]) (by rw [HA'.out]), hBr.out.trans (hB3.out.mono hBr.out.size)⟩
          | true =>
            rw [hb] at kT
            have kT' : ∀ W, Calls Try.prog 13 #[.agg #[.int .i64 u, .int .i64 v]] W fun e w' => e = .returned (.bool true) ∧ Hid (Below W.heap.size W w') := kT
            have HA' : Hid (G = goN (k + 1) (ts.drop (k + 1))) := by show G = _; rw [HK.out, HA.out, hb]; rfl
            clear HA kT hb HK
            go_wp2_with (go_at_call 13; refine (kT' _).mono ?_; rintro e w3 ⟨rfl, hB3⟩)
            go_roundw
            case rel => exact ⟨hBr.out.trans (hB3.out.mono hBr.out.size), k + 1, by omega, by go_num, HA'⟩
            case measure => simp [intOf]; omega
        · have HE : Hid (G = (-1, 0)) := by show G = _; rw [HK.out, goN_end (by rw [HN.out]; omega)]
          go_wp2
          go_ret2
          exact ⟨ret_two (by rw [HE.out]) (by rw [HE.out]), hBr.out⟩

/-- A number between two others. -/
def midN (a b y : Int) : Int := if max a b - min a b ≤ 9223372036854775807 then min a b + (max a b - min a b) / 255 * y else min a b
theorem midN_in (a b y : Int) (hy0 : 0 ≤ y) (hy1 : y ≤ 255) : min a b ≤ midN a b y ∧ midN a b y ≤ max a b := by
  unfold midN
  split
  · obtain ⟨q, hq⟩ : ∃ q, q = (max a b - min a b) / 255 := ⟨_, rfl⟩
    have h0 : 0 ≤ q := by omega
    have h1 : q * 255 ≤ max a b - min a b := by omega
    rw [← hq]
    have h2 : q * y ≤ q * 255 := Int.mul_le_mul_of_nonneg_left hy1 h0
    have h3 : 0 ≤ q * y := Int.mul_nonneg h0 hy0
    omega
  · omega
end Go.Proofs.Ytfllhgbpjpmakaa
