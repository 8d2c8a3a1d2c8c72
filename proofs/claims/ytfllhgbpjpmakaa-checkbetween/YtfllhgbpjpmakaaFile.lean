/- What Config and File of package check answer. -/
import Derived.Test.YtfllhgbpjpmakaaCore
namespace Go.Proofs.Ytfllhgbpjpmakaa
open Go.RowKit
open M
set_option linter.unusedVariables false

def cfV (c : Cf) : Value := .agg #[.int .i64 c.x0, .int .i64 c.x1, .int .i64 c.x2, .int .i64 c.x3, .int .i64 c.x4, .int .i64 c.x5, .int .i64 c.x6, .int .i64 c.x7, .int .i64 c.x8, .int .i64 c.x9]

set_option maxRecDepth 1000000 in
set_option maxHeartbeats 4000000 in
theorem config_any (c : Cf) (w : World) :
    Calls Try.prog 12 #[cfV c] w fun e w' => e = .returned (.int .i64 (errN (cfgB c))) ∧ Below w.heap.size w w' := by
  obtain ⟨x0, x1, x2, x3, x4, x5, x6, x7, x8, x9⟩ := c
  have k1 : ∀ W : World, ∀ b, W.heap.size = b → Calls Try.prog 17 #[.int .i64 1, .int .i64 1048576, .slice (some ⟨b, 0, none⟩) 7 7] (W.alloc (.cells #[.int .i64 x0, .int .i64 x2, .int .i64 x4, .int .i64 x6, .int .i64 x7, .int .i64 x8, .int .i64 x9] 3)) fun e w' => e = .returned (.bool (rowB 1 1048576 [x0, x2, x4, x6, x7, x8, x9])) ∧ w' = (W.alloc (.cells #[.int .i64 x0, .int .i64 x2, .int .i64 x4, .int .i64 x6, .int .i64 x7, .int .i64 x8, .int .i64 x9] 3)) := fun W b hb => within_any _ _ [x0, x2, x4, x6, x7, x8, x9] b 7 7 _ rfl (by omega) (ints_at W b hb _ _ 3 rfl)
  have k2 : ∀ W : World, ∀ b, W.heap.size = b → Calls Try.prog 17 #[.int .i64 0, .int .i64 1048576, .slice (some ⟨b, 0, none⟩) 2 2] (W.alloc (.cells #[.int .i64 x3, .int .i64 x5] 3)) fun e w' => e = .returned (.bool (rowB 0 1048576 [x3, x5])) ∧ w' = (W.alloc (.cells #[.int .i64 x3, .int .i64 x5] 3)) := fun W b hb => within_any _ _ [x3, x5] b 2 2 _ rfl (by omega) (ints_at W b hb _ _ 3 rfl)
  have k3 : ∀ W : World, ∀ b, W.heap.size = b → Calls Try.prog 17 #[.int .i64 1, .int .i64 16, .slice (some ⟨b, 0, none⟩) 1 1] (W.alloc (.cells #[.int .i64 x1] 3)) fun e w' => e = .returned (.bool (rowB 1 16 [x1])) ∧ w' = (W.alloc (.cells #[.int .i64 x1] 3)) := fun W b hb => within_any _ _ [x1] b 1 1 _ rfl (by omega) (ints_at W b hb _ _ 3 rfl)
  unfold cfV cfgB
  simp only []
  generalize rowB 1 1048576 [x0, x2, x4, x6, x7, x8, x9] = r1 at *
  generalize rowB 0 1048576 [x3, x5] = r2 at *
  generalize rowB 1 16 [x1] = r3 at *
  cases r1 with
  | false =>
    go_enter Try.func12, Try.ntmps12
    go_wp2_with (go_at_call 17; refine (k1 _ _ (by simp)).mono ?_; rintro e w' ⟨rfl, rfl⟩; refine Hid.out ?_)
    refine hide_it ?_
    go_wp2
    go_ret
    exact ⟨rfl, ((Below.refl _ _).alloc (Nat.le_refl _) _).alloc (by simp) _⟩
  | true =>
    cases r2 with
    | false =>
      go_enter Try.func12, Try.ntmps12
      go_wp2_with (go_at_call 17; refine (k1 _ _ (by simp)).mono ?_; rintro e w' ⟨rfl, rfl⟩; refine Hid.out ?_)
      refine hide_it ?_
      go_wp2_with (go_at_call 17; refine (k2 _ _ (by simp)).mono ?_; rintro e w' ⟨rfl, rfl⟩; refine Hid.out ?_)
      refine hide_it ?_
      go_wp2
      go_ret
      exact ⟨rfl, (((Below.refl _ _).alloc (Nat.le_refl _) _).alloc (by simp) _).alloc (by simp; omega) _⟩
    | true =>
      cases r3 with
      | false =>
        go_enter Try.func12, Try.ntmps12
        go_wp2_with (go_at_call 17; refine (k1 _ _ (by simp)).mono ?_; rintro e w' ⟨rfl, rfl⟩; refine Hid.out ?_)
        refine hide_it ?_
        go_wp2_with (go_at_call 17; refine (k2 _ _ (by simp)).mono ?_; rintro e w' ⟨rfl, rfl⟩; refine Hid.out ?_)
        refine hide_it ?_
        go_wp2_with (go_at_call 17; refine (k3 _ _ (by simp)).mono ?_; rintro e w' ⟨rfl, rfl⟩; refine Hid.out ?_)
        refine hide_it ?_
        go_wp2
        go_ret
        exact ⟨rfl, ((((Below.refl _ _).alloc (Nat.le_refl _) _).alloc (by simp) _).alloc (by simp; omega) _).alloc (by simp; omega) _⟩
      | true =>
        go_enter Try.func12, Try.ntmps12
        go_wp2_with (go_at_call 17; refine (k1 _ _ (by simp)).mono ?_; rintro e w' ⟨rfl, rfl⟩; refine Hid.out ?_)
        refine hide_it ?_
        go_wp2_with (go_at_call 17; refine (k2 _ _ (by simp)).mono ?_; rintro e w' ⟨rfl, rfl⟩; refine Hid.out ?_)
        refine hide_it ?_
        go_wp2_with (go_at_call 17; refine (k3 _ _ (by simp)).mono ?_; rintro e w' ⟨rfl, rfl⟩; refine Hid.out ?_)
        refine hide_it ?_
        go_wp2
        go_ret
        exact ⟨rfl, ((((Below.refl _ _).alloc (Nat.le_refl _) _).alloc (by simp) _).alloc (by simp; omega) _).alloc (by simp; omega) _⟩

theorem block_lt {w : World} {b : Nat} {o : Obj} (h : w.heap[b]? = some o) : b < w.heap.size := by
  rcases Nat.lt_or_ge b w.heap.size with h' | h'
  · exact h'
  · simp [Array.getElem?_eq_none h'] at h
/-- The tasks of a slice: each in its two cells. -/
def TasksIn (w : World) (a : Option Addr) (ts : List (Int × Int)) : Prop :=
  ∀ i (h : i < ts.length), ∃ b o, a = some ⟨b, o, none⟩ ∧ b < w.heap.size ∧ w.cell? ⟨b, o + i * 2, none⟩ = some (.int .i64 ts[i].1) ∧ w.cell? ⟨b, o + i * 2 + 1, none⟩ = some (.int .i64 ts[i].2)
theorem TasksIn.below {w w' : World} {a : Option Addr} {ts : List (Int × Int)} (h : TasksIn w a ts) {B : Nat} (hb : Below B w w') (hB : w.heap.size ≤ B) : TasksIn w' a ts := by
  intro i hi
  obtain ⟨b, o, h1, h2, h3, h4⟩ := h i hi
  exact ⟨b, o, h1, Nat.lt_of_lt_of_le h2 hb.size, by rw [hb.cell (p := ⟨b, _, none⟩) (Nat.lt_of_lt_of_le h2 hB)]; exact h3, by rw [hb.cell (p := ⟨b, _, none⟩) (Nat.lt_of_lt_of_le h2 hB)]; exact h4⟩
theorem TasksIn.take {w : World} {a : Option Addr} {ts : List (Int × Int)} (h : TasksIn w a ts) (k : Nat) : TasksIn w a (ts.take k) := by
  intro i hi
  obtain ⟨b, o, h1, h2, h3, h4⟩ := h i (by simp at hi; omega)
  exact ⟨b, o, h1, h2, by simpa using h3, by simpa using h4⟩

def fiV (c : Cf) (ta oa : Option Addr) (tn tc on oc : Nat) : Value := .agg #[.int .i64 c.x0, .int .i64 c.x1, .int .i64 c.x2, .int .i64 c.x3, .int .i64 c.x4, .int .i64 c.x5, .int .i64 c.x6, .int .i64 c.x7, .int .i64 c.x8, .int .i64 c.x9, .slice ta tn tc, .slice oa on oc]

theorem ret_two {a b c d : Int} (h : a = c) (h' : b = d) : Ending.returned (.tuple #[.int .i64 a, .int .i64 b]) = .returned (.tuple #[.int .i64 c, .int .i64 d]) := by rw [h, h']

set_option maxRecDepth 1000000 in
set_option maxHeartbeats 4000000 in
theorem file_any (c : Cf) (ts : List (Int × Int)) (ta oa : Option Addr) (tc on oc : Nat) (w : World) (hn : ts.length ≤ maxLen) (hts : TasksIn w ta ts) :
    Calls Try.prog 9 #[fiV c ta oa ts.length tc on oc] w fun e w' => e = .returned (.tuple #[.int .i64 (fileN c ts).1, .int .i64 (fileN c ts).2]) ∧ Below w.heap.size w w' := by
  unfold maxLen at hn
  have hb0 : ∀ ob, Below w.heap.size w (w.alloc ob) := fun ob => (Below.refl _ _).alloc (Nat.le_refl _) _
  have kC : Calls Try.prog 12 #[cfV c] (w.alloc (.cells #[.int .i64 c.x0, .int .i64 c.x1, .int .i64 c.x2, .int .i64 c.x3, .int .i64 c.x4, .int .i64 c.x5, .int .i64 c.x6, .int .i64 c.x7, .int .i64 c.x8, .int .i64 c.x9, .slice ta ts.length tc, .slice oa on oc] 33)) fun e w1 => e = .returned (.int .i64 (errN (cfgB c))) ∧ Hid (Below w.heap.size w w1) ∧ w1.cell? ⟨w.heap.size, 10, none⟩ = some (.slice ta ts.length tc) := by
    refine (config_any c _).mono ?_
    rintro e w1 ⟨rfl, hb⟩
    exact ⟨rfl, (hb0 _).trans (hb.mono (hb0 _).size), by rw [hb.cell (p := ⟨w.heap.size, 10, none⟩) (by simp)]; simp⟩
  unfold cfV at kC
  unfold fiV
  unfold fileN
  obtain ⟨x0, x1, x2, x3, x4, x5, x6, x7, x8, x9⟩ := c
  simp only [] at *
  cases hc : cfgB ⟨x0, x1, x2, x3, x4, x5, x6, x7, x8, x9⟩ with
  | false =>
    rw [hc] at kC
    have kC' : Calls Try.prog 12 _ _ fun e w1 => e = .returned (.int .i64 3) ∧ _ := kC
    clear kC hc
    go_enter Try.func9, Try.ntmps9
    go_wp2_with (go_at_call 12; refine kC'.mono ?_; rintro e w1 ⟨rfl, hB1, q1⟩)
    go_ret2
    exact ⟨rfl, hB1.out⟩
  | true =>
    rw [hc] at kC
    have kC' : Calls Try.prog 12 _ _ fun e w1 => e = .returned (.int .i64 0) ∧ _ := kC
    clear kC hc
    by_cases h64 : 64 < ts.length
    · rw [if_pos rfl, if_pos h64]
      generalize ts.length = n at *
      go_enter Try.func9, Try.ntmps9
      go_wp2_with (go_at_call 12; refine kC'.mono ?_; rintro e w1 ⟨rfl, hB1, q1⟩)
      go_ret2
      exact ⟨rfl, hB1.out⟩
    · rw [if_pos rfl, if_neg h64]
      have HG : ∃ G : Int × Int, G = goN 0 ts := ⟨_, rfl⟩
      obtain ⟨G, hG⟩ := HG
      rw [← hG]
      have HTS : Hid (TasksIn w ta ts) := hts
      have HGG : Hid (G = goN 0 (ts.drop 0)) := hG
      obtain ⟨n, hnn⟩ : ∃ n, ts.length = n := ⟨_, rfl⟩
      have HN : Hid (ts.length = n) := hnn
      rw [hnn] at kC' h64 hn
      rw [hnn]
      clear hnn hts hG
      go_enter Try.func9, Try.ntmps9
      go_wp2_with (go_at_call 12; refine kC'.mono ?_; rintro e w1 ⟨rfl, hB1, q1⟩)
      clear kC'
      go_loopw [21] (fun i W => Hid (Below w.heap.size w W) ∧ ∃ k : Nat, k ≤ n ∧ i = .int .i64 k ∧ Hid (G = goN k (ts.drop k))) (fun i _ => n - (intOf i).toNat)
      case atStart => exact ⟨hB1, 0, Nat.zero_le _, rfl, HGG⟩
      case round =>
        obtain ⟨hBr, k, hk, rfl, HK⟩ := hrel
        by_cases hlt : k < n
        · have hlx : k < ts.length := by rw [HN.out]; exact hlt
          obtain ⟨b, o, hta, hbw, c1, c2⟩ := (HTS.out.below hBr.out (Nat.le_refl _)) k hlx
          have HA := hide_it (goN_at hlx k)
          have kT := fun W => task_any ts[k] W
          generalize ts[k] = t at *
          obtain ⟨u, v⟩ := t
          subst hta
          cases hb : taskB (u, v) with
          | false =>
            rw [hb] at kT
            have kT' : ∀ W, Calls Try.prog 14 #[.agg #[.int .i64 u, .int .i64 v]] W fun e w' => e = .returned (.int .i64 3) ∧ Hid (Below W.heap.size W w') := kT
            have HA' : Hid (G = ((k : Int) + 1, 3)) := by show G = _; rw [HK.out, HA.out, hb]; rfl
            clear HA kT hb HK
            go_wp2_with (go_at_call 14; refine (kT' _).mono ?_; rintro e w3 ⟨rfl, hB3⟩)
            go_ret2
            exact ⟨ret_two (by rw [HA'.out]) (by rw [HA'.out]), (hBr.out.alloc hBr.out.size _).trans (hB3.out.mono (by simp; have := hBr.out.size; omega))⟩
          | true =>
            rw [hb] at kT
            have kT' : ∀ W, Calls Try.prog 14 #[.agg #[.int .i64 u, .int .i64 v]] W fun e w' => e = .returned (.int .i64 0) ∧ Hid (Below W.heap.size W w') := kT
            have HA' : Hid (G = goN (k + 1) (ts.drop (k + 1))) := by show G = _; rw [HK.out, HA.out, hb]; rfl
            clear HA kT hb HK
            go_wp2_with (go_at_call 14; refine (kT' _).mono ?_; rintro e w3 ⟨rfl, hB3⟩)
            go_roundw
            case rel => exact ⟨(hBr.out.alloc hBr.out.size _).trans (hB3.out.mono (by simp; have := hBr.out.size; omega)), k + 1, by omega, by go_num, HA'⟩
            case measure => simp [intOf]; omega
        · have HE : Hid (G = (-1, 0)) := by show G = _; rw [HK.out, goN_end (by rw [HN.out]; omega)]
          go_wp2
          go_ret2
          exact ⟨ret_two (by rw [HE.out]) (by rw [HE.out]), hBr.out⟩
end Go.Proofs.Ytfllhgbpjpmakaa
