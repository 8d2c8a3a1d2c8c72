/- CheckFewer: a row of tasks that the call appends to; the walk. -/
import Derived.Test.YtfllhgbpjpmakaaTel
import Derived.Test.YtfllhgbpjpmakaaFst
import Derived.Deep.RegionHeld3
import Derived.Deep.AppendLies
namespace Go.Proofs.Ytfllhgbpjpmakaa
open Go.RowKit
open M
set_option linter.unusedVariables false
set_option linter.unusedSimpArgs false

def tcs (ts : List (Int × Int)) : List Value := ts.flatMap (fun t => [Value.int .i64 t.1, .int .i64 t.2])
theorem tcs_snoc (ts : List (Int × Int)) (t : Int × Int) : tcs (ts ++ [t]) = tcs ts ++ [.int .i64 t.1, .int .i64 t.2] := by simp [tcs]
theorem tasks_own {w : World} {base g cap : Nat} {ts : List (Int × Int)} {n : Nat} (hn : ts.length = n) (h : w.ownsRow base 39 2 (.slice (some ⟨g, 0, none⟩) n cap) n (tcs ts)) (hlt : g < w.heap.size) : TasksIn w (some ⟨g, 0, none⟩) ts := by
  subst hn
  intro i hi
  have hc : ∀ (l : List (Int × Int)) (j : Nat) (hj : j < l.length), (tcs l)[j * 2]? = some (.int .i64 l[j].1) ∧ (tcs l)[j * 2 + 1]? = some (.int .i64 l[j].2) := by
    intro l
    induction l with
    | nil => intro j hj; simp at hj
    | cons t l ih =>
      intro j hj
      have e : tcs (t :: l) = [.int .i64 t.1, .int .i64 t.2] ++ tcs l := by simp [tcs]
      cases j with
      | zero => rw [e]; exact ⟨rfl, rfl⟩
      | succ j =>
        obtain ⟨q1, q2⟩ := ih j (by simpa using hj)
        rw [e]
        refine ⟨?_, ?_⟩
        · rw [List.getElem?_append_right (by simp; omega)]
          simpa [show (j + 1) * 2 - 2 = j * 2 by omega] using q1
        · rw [List.getElem?_append_right (by simp; omega)]
          simpa [show (j + 1) * 2 + 1 - 2 = j * 2 + 1 by omega] using q2
  obtain ⟨q1, q2⟩ := hc ts i hi
  have r1 := h.cells (g := g) rfl _ _ q1
  have r2 := h.cells (g := g) rfl _ _ q2
  rw [Addr.add_lit] at r1 r2
  exact ⟨g, 0, rfl, hlt, r1, by rw [show 0 + i * 2 + 1 = 0 + (i * 2 + 1) by omega]; exact r2⟩

theorem goN_or (ts : List (Int × Int)) : ((∀ t ∈ ts, taskB t = true) ∧ ∀ a, goN a ts = (-1, 0)) ∨ ∃ k, ∃ hk : k < ts.length, taskB ts[k] = false ∧ (∀ i (h : i < ts.length), i < k → taskB ts[i] = true) ∧ ∀ a : Nat, goN a ts = ((a : Int) + k + 1, 3) := by
  induction ts with
  | nil => exact Or.inl ⟨fun t h => by simp at h, fun a => rfl⟩
  | cons t ts ih =>
    cases ht : taskB t with
    | false => exact Or.inr ⟨0, by simp, ht, fun i _ h => by omega, fun a => by simp [goN, ht]⟩
    | true =>
      rcases ih with ⟨h1, h2⟩ | ⟨k, hk, h1, h2, h3⟩
      · refine Or.inl ⟨fun x hx => ?_, fun a => by simp [goN, ht, h2]⟩
        rcases List.mem_cons.1 hx with rfl | hx
        · exact ht
        · exact h1 x hx
      · refine Or.inr ⟨k + 1, by simpa using hk, h1, fun i hi hlt => ?_, fun a => ?_⟩
        · cases i with
          | zero => exact ht
          | succ i => exact h2 i (by simpa using hi) (by omega)
        · simp only [goN, ht, if_true, h3]
          simp
          omega
theorem goN_bad {ts : List (Int × Int)} {t : Int × Int} (h : t ∈ ts) (ht : taskB t = false) (a : Nat) : ∃ p, goN a ts = (p, 3) := by
  rcases goN_or ts with ⟨h1, _⟩ | ⟨k, _, _, _, h3⟩
  · rw [h1 t h] at ht; cases ht
  · exact ⟨_, h3 a⟩
theorem few_math (c : Cf) (us : List (Int × Int)) (a : Nat) (hl : us.length ≤ 64) : ∃ p q x g y h : Int, fileN c us = (p, q) ∧ fileN c (us.take a) = (x, g) ∧ fileN c us.reverse = (y, h) ∧ ((q = 0 ∧ h = 0 ∧ g = 0 ∧ x = -1) ∨ (q = 3 ∧ h = 3 ∧ g = 0 ∧ (a : Int) < p) ∨ (q = 3 ∧ h = 3 ∧ g = 3 ∧ x = p ∧ p ≤ (a : Int))) := by
  unfold fileN
  by_cases hc : cfgB c = true
  · rw [if_pos hc, if_pos hc, if_pos hc, if_neg (by omega), if_neg (by rw [List.length_take]; omega), if_neg (by rw [List.length_reverse]; omega)]
    rcases goN_or us with ⟨h1, h2⟩ | ⟨k, hk, h1, h2, h3⟩
    · exact ⟨_, _, _, _, _, _, h2 0, goN_none 0 (fun t ht => h1 t (List.mem_of_mem_take ht)), goN_none 0 (fun t ht => h1 t (by simpa using ht)), Or.inl ⟨rfl, rfl, rfl, rfl⟩⟩
    · obtain ⟨y, hy⟩ := goN_bad (ts := us.reverse) (t := us[k]) (by simp) h1 0
      by_cases hak : a ≤ k
      · refine ⟨_, _, _, _, _, _, h3 0, goN_none 0 (fun t ht => ?_), hy, Or.inr (Or.inl ⟨rfl, rfl, rfl, by simp; omega⟩)⟩
        obtain ⟨i, hi, rfl⟩ := List.getElem_of_mem ht
        rw [List.getElem_take]
        exact h2 i (by simp at hi; omega) (by simp at hi; omega)
      · have hk' : k < (us.take a).length := by simp; omega
        refine ⟨_, _, _, _, _, _, h3 0, goN_first (ts := us.take a) k 0 hk' (fun i hi hlt => ?_) (by rw [List.getElem_take]; exact h1), hy, Or.inr (Or.inr ⟨rfl, rfl, rfl, rfl, by simp; omega⟩)⟩
        rw [List.getElem_take]
        exact h2 i (by simp at hi; omega) hlt
  · rw [if_neg hc, if_neg hc, if_neg hc]
    exact ⟨_, _, _, _, _, _, rfl, rfl, rfl, Or.inr (Or.inr ⟨rfl, rfl, rfl, rfl, by omega⟩)⟩
theorem rev_drop {us : List (Int × Int)} {j : Nat} (h : j < us.length) : (us.drop j).reverse = (us.drop (j + 1)).reverse ++ [us[j]] := by
  rw [List.drop_eq_getElem_cons h]
  simp

set_option maxRecDepth 1000000 in
set_option maxHeartbeats 8000000 in
theorem fewer_ok (c : Cf) (us : List (Int × Int)) (ta oa : Option Addr) (n m tc on oc a : Nat) (p y : Int) (at0 : Int) (w : World) (hmn : m ≤ n) (hl : n ≤ tc) (hm : tc ≤ 9223372036854775807) (hm64 : m ≤ 64) (hlen : us.length = m) (ht : TasksIn w ta us)
    (hmin : ∀ (ts : Array TypeId) (t : TypeId) (W : World), (Builtin.min_ ts t #[.int .i64 (n : Int), .int .i64 64]).run Try.prog W = .ok (.int .i64 (m : Int)) W) (ham : a ≤ m) (hz0 : 0 ≤ bits .and .i64 at0 65535) (hz1 : bits .and .i64 at0 65535 ≤ 65535) (eA : bits .and .i64 at0 65535 % ((m : Int) + 1) = (a : Int))
    (f1 : fileN c us = (p, 0)) (f2 : fileN c (us.take a) = ((-1), 0)) (f3 : fileN c us.reverse = (y, 0))  :
    Calls Try.prog 6 #[cfV c, .slice ta n tc, .int .i64 at0, .slice oa on oc] w fun e w' => e = .returned (.bool true) ∧ Below w.heap.size w w' := by
  have hi : (Try.prog.info? 39).map (fun i => (i.zero, i.size, i.bytes)) = some (some (.agg #[.int .i64 0, .int .i64 0]), 2, 16) := by kernel_rfl
  obtain ⟨i0, hi1, hi2⟩ := Option.map_eq_some_iff.1 hi
  simp only [Prod.mk.injEq] at hi2
  obtain ⟨hy0, hy1, hy2⟩ := hi2
  have kF1 : ∀ (W : World), Cx w c W → Calls Try.prog 9 #[fiV c ta oa m tc on oc] W fun e w' => e = .returned (.tuple #[.int .i64 p, .int .i64 0]) ∧ Hid (Cx w c w') := fun W hW => by
    have := file_any c us ta oa tc on oc W (by unfold maxLen; omega) (ht.below hW.bel (Nat.le_refl _))
    rw [f1, hlen] at this
    exact this.mono (fun e w' h => ⟨h.1, hW.below h.2⟩)
  have kF2 : ∀ (W : World), Cx w c W → Calls Try.prog 9 #[fiV c ta none m tc 0 0] W fun e w' => e = .returned (.tuple #[.int .i64 p, .int .i64 0]) ∧ Hid (Cx w c w') := fun W hW => by
    have := file_any c us ta none tc 0 0 W (by unfold maxLen; omega) (ht.below hW.bel (Nat.le_refl _))
    rw [f1, hlen] at this
    exact this.mono (fun e w' h => ⟨h.1, hW.below h.2⟩)
  have kF3 : ∀ (W : World) (B : Nat) (ga cap : Nat), Cx w c W → W.ownsRow B 39 2 (.slice (some ⟨ga, 0, none⟩) m cap) m (tcs us.reverse) → ga < W.heap.size → Calls Try.prog 9 #[fiV c ta none a tc 0 0] W fun e w' => e = .returned (.tuple #[.int .i64 (-1), .int .i64 0]) ∧ Hid (Cx w c w') ∧ Hid (TasksIn w' (some ⟨ga, 0, none⟩) us.reverse) := fun W B ga cap hW ho hlt => by
    have := file_any c (us.take a) ta none tc 0 0 W (by unfold maxLen; rw [List.length_take]; omega) ((ht.take a).below hW.bel (Nat.le_refl _))
    rw [f2, List.length_take, hlen, Nat.min_eq_left ham] at this
    exact this.mono (fun e w' h => ⟨h.1, hW.below h.2, (tasks_own (by rw [List.length_reverse]; exact hlen) ho hlt).below h.2 (Nat.le_refl _)⟩)
  have kF4 : ∀ (W : World) (ga cap : Nat), Cx w c W → TasksIn W (some ⟨ga, 0, none⟩) us.reverse → Calls Try.prog 9 #[fiV c (some ⟨ga, 0, none⟩) none m cap 0 0] W fun e w' => e = .returned (.tuple #[.int .i64 y, .int .i64 0]) ∧ Hid (Cx w c w') := fun W ga cap hW hT => by
    have := file_any c us.reverse (some ⟨ga, 0, none⟩) none cap 0 0 W (by unfold maxLen; rw [List.length_reverse]; omega) hT
    rw [f3, List.length_reverse, hlen] at this
    exact this.mono (fun e w' h => ⟨h.1, hW.below h.2⟩)
  have kS : Calls Try.prog 8 #[] (w.alloc (.cells #[.int .i64 c.x0, .int .i64 c.x1, .int .i64 c.x2, .int .i64 c.x3, .int .i64 c.x4, .int .i64 c.x5, .int .i64 c.x6, .int .i64 c.x7, .int .i64 c.x8, .int .i64 c.x9] 23)) fun e w' => e = .returned (.bool true) ∧ Hid (Cx w c w') := (shown_any _).mono (fun e w' h => ⟨h.1, (Cx.new w c).below h.2⟩)
  have HU : Hid (TasksIn w ta us) := ht
  have HL : Hid (us.length = m) := hlen
  clear ht hlen f1 f2 f3 hi
  unfold fiV at kF1 kF2 kF3 kF4
  unfold cfV at *
  obtain ⟨x0, x1, x2, x3, x4, x5, x6, x7, x8, x9⟩ := c
  simp only [] at *
  go_enter Try.func6, Try.ntmps6
  go_wp2_with (first | (go_at_call 8; refine kS.mono ?_; rintro e w1 ⟨rfl, hX1⟩; obtain ⟨a0, a1, a2, a3, a4, a5, a6, a7, a8, a9⟩ := hX1.out.cells) | (go_at_call 9; refine (kF1 _ hX1.out).mono ?_; rintro e w2 ⟨rfl, hX2⟩; clear a0 a1 a2 a3 a4 a5 a6 a7 a8 a9; obtain ⟨a0, a1, a2, a3, a4, a5, a6, a7, a8, a9⟩ := hX2.out.cells; refine Hid.out ?_))
  refine hide_it ?_
  go_wp2_with (go_at_call 9; refine (kF2 _ hX2.out).mono ?_; rintro e w3 ⟨rfl, hX3⟩; clear a0 a1 a2 a3 a4 a5 a6 a7 a8 a9)
  clear kS kF1 kF2 hX1 hX2
  have hs3 := hX3.out.lt
  go_loopw [14, 15] (fun t i W => Hid (Below w3.heap.size w3 W) ∧ ∃ k ga cap : Nat, k ≤ m ∧ i = .int .i64 k ∧ t = .slice (some ⟨ga, 0, none⟩) (m - k) cap ∧ Hid (W.ownsRow w3.heap.size 39 2 (.slice (some ⟨ga, 0, none⟩) (m - k) cap) (m - k) (tcs (us.drop k).reverse)) ∧ ga < W.heap.size) (fun _ i _ => (intOf i).toNat)
  case atStart =>
    refine ⟨(Below.refl _ _).alloc (Nat.le_refl _) _, m, w3.heap.size, 0, Nat.le_refl _, rfl, by simp, ?_, by simp⟩
    rw [Nat.sub_self, List.drop_eq_nil_of_le (by rw [HL.out]; omega)]
    exact ⟨rfl, Or.inr ⟨w3.heap.size, 0, #[], rfl, Nat.le_refl _, heap_alloc_new w3 _, Nat.le_refl _, Nat.zero_le _, rfl, rfl⟩⟩
  case round =>
    obtain ⟨hBr, k, ga, cap, hk, rfl, rfl, hO, hga⟩ := hrel
    have hsr := hBr.out.size
    by_cases hlt : 0 < k
    · obtain ⟨j, rfl⟩ : ∃ j, k = j + 1 := ⟨k - 1, by omega⟩
      have hlx : j < us.length := by rw [HL.out]; omega
      obtain ⟨b, o, hta, hbw, c1, c2⟩ := (HU.out.below (hX3.out.below hBr.out).bel (Nat.le_refl _)) j hlx
      have HR := hide_it (rev_drop hlx)
      generalize us[j] = t at *
      obtain ⟨u, v⟩ := t
      subst hta
      have hpos : (0 : Int) < (j : Int) + 1 := by omega
      go_wp2_with (at_builtin; refine wpList_append_lies _ rfl (.tmp 56) (.tmp 62) 24 rfl w3.heap.size 39 i0 _ 2 16 Try.underlying24 hi1 hy0 hy1 hy2 rfl (by omega) _ _ _ rfl (hO.out.alloc _) ⟨wr.heap.size, 0, none⟩ 1 1 [.int .i64 u, .int .i64 v] rfl rfl (World.news_of_block (heap_alloc_new wr _)) (by simp [Value.oneCell']) (by omega) (by unfold maxLen; omega) (by omega) (by simp; omega) _ rfl ?_; intro gg cg w5 hown5 hgrow hat hlt5; have hbel5 : Below w3.heap.size w3 w5 := (hBr.out.alloc hsr _).grown hgrow (by simp; omega) (fun q hq => (hO.out.lt q hq).1))
      go_roundw
      case rel =>
        refine ⟨hbel5, j, gg, cg, by omega, by simp, by rw [show m - j = m - (j + 1) + 1 by omega], ?_, hlt5⟩
        rw [HR.out, tcs_snoc, show m - j = m - (j + 1) + 1 by omega]
        exact hown5
      case measure => simp [intOf]
    · obtain rfl : k = 0 := by omega
      have hX5 := hide_it (hX3.out.below hBr.out)
      have HO : Hid (World.ownsRow _ w3.heap.size 39 2 (.slice (some ⟨ga, 0, none⟩) m cap) m (tcs us.reverse)) := hO.out
      obtain ⟨a0, a1, a2, a3, a4, a5, a6, a7, a8, a9⟩ := hX5.out.cells
      rw [Nat.sub_zero]
      have hm1 : (0 : Int) < (m : Int) + 1 := by omega
      have hA1 : (0 : Int) ≤ (a : Int) := by omega
      have hA2 : (a : Int) ≤ (tc : Int) := by omega
      go_wp2
      go_region_held3 (fun W => W.cell? ⟨w.heap.size, 0, none⟩ = some (.int .i64 x0) ∧ W.cell? ⟨w.heap.size, 1, none⟩ = some (.int .i64 x1) ∧ W.cell? ⟨w.heap.size, 2, none⟩ = some (.int .i64 x2) ∧ W.cell? ⟨w.heap.size, 3, none⟩ = some (.int .i64 x3) ∧ W.cell? ⟨w.heap.size, 4, none⟩ = some (.int .i64 x4) ∧ W.cell? ⟨w.heap.size, 5, none⟩ = some (.int .i64 x5) ∧ W.cell? ⟨w.heap.size, 6, none⟩ = some (.int .i64 x6) ∧ W.cell? ⟨w.heap.size, 7, none⟩ = some (.int .i64 x7) ∧ W.cell? ⟨w.heap.size, 8, none⟩ = some (.int .i64 x8) ∧ W.cell? ⟨w.heap.size, 9, none⟩ = some (.int .i64 x9)) (first | go_keep | exact hX6.out.cells) ((go_at_call 9; refine (kF3 _ _ _ _ (by first | exact hX5.out | exact hX5.out.below ((Below.refl _ _).drew)) (by first | exact HO.out | exact HO.out.drew) (by exact hga)).mono ?_; rintro e w6 ⟨rfl, hX6, hT6⟩))
      all_goals (
        clear a0 a1 a2 a3 a4 a5 a6 a7 a8 a9
        obtain ⟨a0, a1, a2, a3, a4, a5, a6, a7, a8, a9⟩ := hX6.out.cells
        go_wp2_with (go_at_call 9; refine (kF4 _ _ _ hX6.out hT6.out).mono ?_; rintro e w7 ⟨rfl, hX7⟩)
        go_ret
        exact ⟨rfl, hX7.out.bel⟩)

set_option maxRecDepth 1000000 in
set_option maxHeartbeats 8000000 in
theorem fewer_mid (c : Cf) (us : List (Int × Int)) (ta oa : Option Addr) (n m tc on oc a : Nat) (p x y : Int) (at0 : Int) (w : World) (hmn : m ≤ n) (hl : n ≤ tc) (hm : tc ≤ 9223372036854775807) (hm64 : m ≤ 64) (hlen : us.length = m) (ht : TasksIn w ta us)
    (hmin : ∀ (ts : Array TypeId) (t : TypeId) (W : World), (Builtin.min_ ts t #[.int .i64 (n : Int), .int .i64 64]).run Try.prog W = .ok (.int .i64 (m : Int)) W) (ham : a ≤ m) (hz0 : 0 ≤ bits .and .i64 at0 65535) (hz1 : bits .and .i64 at0 65535 ≤ 65535) (eA : bits .and .i64 at0 65535 % ((m : Int) + 1) = (a : Int))
    (f1 : fileN c us = (p, 3)) (f2 : fileN c (us.take a) = (x, 0)) (f3 : fileN c us.reverse = (y, 3)) (hp : (a : Int) < p) :
    Calls Try.prog 6 #[cfV c, .slice ta n tc, .int .i64 at0, .slice oa on oc] w fun e w' => e = .returned (.bool true) ∧ Below w.heap.size w w' := by
  have hi : (Try.prog.info? 39).map (fun i => (i.zero, i.size, i.bytes)) = some (some (.agg #[.int .i64 0, .int .i64 0]), 2, 16) := by kernel_rfl
  obtain ⟨i0, hi1, hi2⟩ := Option.map_eq_some_iff.1 hi
  simp only [Prod.mk.injEq] at hi2
  obtain ⟨hy0, hy1, hy2⟩ := hi2
  have kF1 : ∀ (W : World), Cx w c W → Calls Try.prog 9 #[fiV c ta oa m tc on oc] W fun e w' => e = .returned (.tuple #[.int .i64 p, .int .i64 3]) ∧ Hid (Cx w c w') := fun W hW => by
    have := file_any c us ta oa tc on oc W (by unfold maxLen; omega) (ht.below hW.bel (Nat.le_refl _))
    rw [f1, hlen] at this
    exact this.mono (fun e w' h => ⟨h.1, hW.below h.2⟩)
  have kF2 : ∀ (W : World), Cx w c W → Calls Try.prog 9 #[fiV c ta none m tc 0 0] W fun e w' => e = .returned (.tuple #[.int .i64 p, .int .i64 3]) ∧ Hid (Cx w c w') := fun W hW => by
    have := file_any c us ta none tc 0 0 W (by unfold maxLen; omega) (ht.below hW.bel (Nat.le_refl _))
    rw [f1, hlen] at this
    exact this.mono (fun e w' h => ⟨h.1, hW.below h.2⟩)
  have kF3 : ∀ (W : World) (B : Nat) (ga cap : Nat), Cx w c W → W.ownsRow B 39 2 (.slice (some ⟨ga, 0, none⟩) m cap) m (tcs us.reverse) → ga < W.heap.size → Calls Try.prog 9 #[fiV c ta none a tc 0 0] W fun e w' => e = .returned (.tuple #[.int .i64 x, .int .i64 0]) ∧ Hid (Cx w c w') ∧ Hid (TasksIn w' (some ⟨ga, 0, none⟩) us.reverse) := fun W B ga cap hW ho hlt => by
    have := file_any c (us.take a) ta none tc 0 0 W (by unfold maxLen; rw [List.length_take]; omega) ((ht.take a).below hW.bel (Nat.le_refl _))
    rw [f2, List.length_take, hlen, Nat.min_eq_left ham] at this
    exact this.mono (fun e w' h => ⟨h.1, hW.below h.2, (tasks_own (by rw [List.length_reverse]; exact hlen) ho hlt).below h.2 (Nat.le_refl _)⟩)
  have kF4 : ∀ (W : World) (ga cap : Nat), Cx w c W → TasksIn W (some ⟨ga, 0, none⟩) us.reverse → Calls Try.prog 9 #[fiV c (some ⟨ga, 0, none⟩) none m cap 0 0] W fun e w' => e = .returned (.tuple #[.int .i64 y, .int .i64 3]) ∧ Hid (Cx w c w') := fun W ga cap hW hT => by
    have := file_any c us.reverse (some ⟨ga, 0, none⟩) none cap 0 0 W (by unfold maxLen; rw [List.length_reverse]; omega) hT
    rw [f3, List.length_reverse, hlen] at this
    exact this.mono (fun e w' h => ⟨h.1, hW.below h.2⟩)
  have kS : Calls Try.prog 8 #[] (w.alloc (.cells #[.int .i64 c.x0, .int .i64 c.x1, .int .i64 c.x2, .int .i64 c.x3, .int .i64 c.x4, .int .i64 c.x5, .int .i64 c.x6, .int .i64 c.x7, .int .i64 c.x8, .int .i64 c.x9] 23)) fun e w' => e = .returned (.bool true) ∧ Hid (Cx w c w') := (shown_any _).mono (fun e w' h => ⟨h.1, (Cx.new w c).below h.2⟩)
  have HU : Hid (TasksIn w ta us) := ht
  have HL : Hid (us.length = m) := hlen
  clear ht hlen f1 f2 f3 hi
  unfold fiV at kF1 kF2 kF3 kF4
  unfold cfV at *
  obtain ⟨x0, x1, x2, x3, x4, x5, x6, x7, x8, x9⟩ := c
  simp only [] at *
  go_enter Try.func6, Try.ntmps6
  go_wp2_with (first | (go_at_call 8; refine kS.mono ?_; rintro e w1 ⟨rfl, hX1⟩; obtain ⟨a0, a1, a2, a3, a4, a5, a6, a7, a8, a9⟩ := hX1.out.cells) | (go_at_call 9; refine (kF1 _ hX1.out).mono ?_; rintro e w2 ⟨rfl, hX2⟩; clear a0 a1 a2 a3 a4 a5 a6 a7 a8 a9; obtain ⟨a0, a1, a2, a3, a4, a5, a6, a7, a8, a9⟩ := hX2.out.cells; refine Hid.out ?_))
  refine hide_it ?_
  go_wp2_with (go_at_call 9; refine (kF2 _ hX2.out).mono ?_; rintro e w3 ⟨rfl, hX3⟩; clear a0 a1 a2 a3 a4 a5 a6 a7 a8 a9)
  clear kS kF1 kF2 hX1 hX2
  have hs3 := hX3.out.lt
  go_loopw [14, 15] (fun t i W => Hid (Below w3.heap.size w3 W) ∧ ∃ k ga cap : Nat, k ≤ m ∧ i = .int .i64 k ∧ t = .slice (some ⟨ga, 0, none⟩) (m - k) cap ∧ Hid (W.ownsRow w3.heap.size 39 2 (.slice (some ⟨ga, 0, none⟩) (m - k) cap) (m - k) (tcs (us.drop k).reverse)) ∧ ga < W.heap.size) (fun _ i _ => (intOf i).toNat)
  case atStart =>
    refine ⟨(Below.refl _ _).alloc (Nat.le_refl _) _, m, w3.heap.size, 0, Nat.le_refl _, rfl, by simp, ?_, by simp⟩
    rw [Nat.sub_self, List.drop_eq_nil_of_le (by rw [HL.out]; omega)]
    exact ⟨rfl, Or.inr ⟨w3.heap.size, 0, #[], rfl, Nat.le_refl _, heap_alloc_new w3 _, Nat.le_refl _, Nat.zero_le _, rfl, rfl⟩⟩
  case round =>
    obtain ⟨hBr, k, ga, cap, hk, rfl, rfl, hO, hga⟩ := hrel
    have hsr := hBr.out.size
    by_cases hlt : 0 < k
    · obtain ⟨j, rfl⟩ : ∃ j, k = j + 1 := ⟨k - 1, by omega⟩
      have hlx : j < us.length := by rw [HL.out]; omega
      obtain ⟨b, o, hta, hbw, c1, c2⟩ := (HU.out.below (hX3.out.below hBr.out).bel (Nat.le_refl _)) j hlx
      have HR := hide_it (rev_drop hlx)
      generalize us[j] = t at *
      obtain ⟨u, v⟩ := t
      subst hta
      have hpos : (0 : Int) < (j : Int) + 1 := by omega
      go_wp2_with (at_builtin; refine wpList_append_lies _ rfl (.tmp 56) (.tmp 62) 24 rfl w3.heap.size 39 i0 _ 2 16 Try.underlying24 hi1 hy0 hy1 hy2 rfl (by omega) _ _ _ rfl (hO.out.alloc _) ⟨wr.heap.size, 0, none⟩ 1 1 [.int .i64 u, .int .i64 v] rfl rfl (World.news_of_block (heap_alloc_new wr _)) (by simp [Value.oneCell']) (by omega) (by unfold maxLen; omega) (by omega) (by simp; omega) _ rfl ?_; intro gg cg w5 hown5 hgrow hat hlt5; have hbel5 : Below w3.heap.size w3 w5 := (hBr.out.alloc hsr _).grown hgrow (by simp; omega) (fun q hq => (hO.out.lt q hq).1))
      go_roundw
      case rel =>
        refine ⟨hbel5, j, gg, cg, by omega, by simp, by rw [show m - j = m - (j + 1) + 1 by omega], ?_, hlt5⟩
        rw [HR.out, tcs_snoc, show m - j = m - (j + 1) + 1 by omega]
        exact hown5
      case measure => simp [intOf]
    · obtain rfl : k = 0 := by omega
      have hX5 := hide_it (hX3.out.below hBr.out)
      have HO : Hid (World.ownsRow _ w3.heap.size 39 2 (.slice (some ⟨ga, 0, none⟩) m cap) m (tcs us.reverse)) := hO.out
      obtain ⟨a0, a1, a2, a3, a4, a5, a6, a7, a8, a9⟩ := hX5.out.cells
      rw [Nat.sub_zero]
      have hm1 : (0 : Int) < (m : Int) + 1 := by omega
      have hA1 : (0 : Int) ≤ (a : Int) := by omega
      have hA2 : (a : Int) ≤ (tc : Int) := by omega
      go_wp2
      go_region_held3 (fun W => W.cell? ⟨w.heap.size, 0, none⟩ = some (.int .i64 x0) ∧ W.cell? ⟨w.heap.size, 1, none⟩ = some (.int .i64 x1) ∧ W.cell? ⟨w.heap.size, 2, none⟩ = some (.int .i64 x2) ∧ W.cell? ⟨w.heap.size, 3, none⟩ = some (.int .i64 x3) ∧ W.cell? ⟨w.heap.size, 4, none⟩ = some (.int .i64 x4) ∧ W.cell? ⟨w.heap.size, 5, none⟩ = some (.int .i64 x5) ∧ W.cell? ⟨w.heap.size, 6, none⟩ = some (.int .i64 x6) ∧ W.cell? ⟨w.heap.size, 7, none⟩ = some (.int .i64 x7) ∧ W.cell? ⟨w.heap.size, 8, none⟩ = some (.int .i64 x8) ∧ W.cell? ⟨w.heap.size, 9, none⟩ = some (.int .i64 x9)) (first | go_keep | exact hX6.out.cells) ((go_at_call 9; refine (kF3 _ _ _ _ (by first | exact hX5.out | exact hX5.out.below ((Below.refl _ _).drew)) (by first | exact HO.out | exact HO.out.drew) (by exact hga)).mono ?_; rintro e w6 ⟨rfl, hX6, hT6⟩))
      all_goals (
        clear a0 a1 a2 a3 a4 a5 a6 a7 a8 a9
        obtain ⟨a0, a1, a2, a3, a4, a5, a6, a7, a8, a9⟩ := hX6.out.cells
        go_wp2_with (go_at_call 9; refine (kF4 _ _ _ hX6.out hT6.out).mono ?_; rintro e w7 ⟨rfl, hX7⟩)
        go_ret
        exact ⟨rfl, hX7.out.bel⟩)

set_option maxRecDepth 1000000 in
set_option maxHeartbeats 8000000 in
theorem fewer_bad (c : Cf) (us : List (Int × Int)) (ta oa : Option Addr) (n m tc on oc a : Nat) (p y : Int) (at0 : Int) (w : World) (hmn : m ≤ n) (hl : n ≤ tc) (hm : tc ≤ 9223372036854775807) (hm64 : m ≤ 64) (hlen : us.length = m) (ht : TasksIn w ta us)
    (hmin : ∀ (ts : Array TypeId) (t : TypeId) (W : World), (Builtin.min_ ts t #[.int .i64 (n : Int), .int .i64 64]).run Try.prog W = .ok (.int .i64 (m : Int)) W) (ham : a ≤ m) (hz0 : 0 ≤ bits .and .i64 at0 65535) (hz1 : bits .and .i64 at0 65535 ≤ 65535) (eA : bits .and .i64 at0 65535 % ((m : Int) + 1) = (a : Int))
    (f1 : fileN c us = (p, 3)) (f2 : fileN c (us.take a) = (p, 3)) (f3 : fileN c us.reverse = (y, 3)) (hp : p ≤ (a : Int)) (hd : decide ((a : Int) < p) = false) :
    Calls Try.prog 6 #[cfV c, .slice ta n tc, .int .i64 at0, .slice oa on oc] w fun e w' => e = .returned (.bool true) ∧ Below w.heap.size w w' := by
  have hi : (Try.prog.info? 39).map (fun i => (i.zero, i.size, i.bytes)) = some (some (.agg #[.int .i64 0, .int .i64 0]), 2, 16) := by kernel_rfl
  obtain ⟨i0, hi1, hi2⟩ := Option.map_eq_some_iff.1 hi
  simp only [Prod.mk.injEq] at hi2
  obtain ⟨hy0, hy1, hy2⟩ := hi2
  have kF1 : ∀ (W : World), Cx w c W → Calls Try.prog 9 #[fiV c ta oa m tc on oc] W fun e w' => e = .returned (.tuple #[.int .i64 p, .int .i64 3]) ∧ Hid (Cx w c w') := fun W hW => by
    have := file_any c us ta oa tc on oc W (by unfold maxLen; omega) (ht.below hW.bel (Nat.le_refl _))
    rw [f1, hlen] at this
    exact this.mono (fun e w' h => ⟨h.1, hW.below h.2⟩)
  have kF2 : ∀ (W : World), Cx w c W → Calls Try.prog 9 #[fiV c ta none m tc 0 0] W fun e w' => e = .returned (.tuple #[.int .i64 p, .int .i64 3]) ∧ Hid (Cx w c w') := fun W hW => by
    have := file_any c us ta none tc 0 0 W (by unfold maxLen; omega) (ht.below hW.bel (Nat.le_refl _))
    rw [f1, hlen] at this
    exact this.mono (fun e w' h => ⟨h.1, hW.below h.2⟩)
  have kF3 : ∀ (W : World) (B : Nat) (ga cap : Nat), Cx w c W → W.ownsRow B 39 2 (.slice (some ⟨ga, 0, none⟩) m cap) m (tcs us.reverse) → ga < W.heap.size → Calls Try.prog 9 #[fiV c ta none a tc 0 0] W fun e w' => e = .returned (.tuple #[.int .i64 p, .int .i64 3]) ∧ Hid (Cx w c w') ∧ Hid (TasksIn w' (some ⟨ga, 0, none⟩) us.reverse) := fun W B ga cap hW ho hlt => by
    have := file_any c (us.take a) ta none tc 0 0 W (by unfold maxLen; rw [List.length_take]; omega) ((ht.take a).below hW.bel (Nat.le_refl _))
    rw [f2, List.length_take, hlen, Nat.min_eq_left ham] at this
    exact this.mono (fun e w' h => ⟨h.1, hW.below h.2, (tasks_own (by rw [List.length_reverse]; exact hlen) ho hlt).below h.2 (Nat.le_refl _)⟩)
  have kF4 : ∀ (W : World) (ga cap : Nat), Cx w c W → TasksIn W (some ⟨ga, 0, none⟩) us.reverse → Calls Try.prog 9 #[fiV c (some ⟨ga, 0, none⟩) none m cap 0 0] W fun e w' => e = .returned (.tuple #[.int .i64 y, .int .i64 3]) ∧ Hid (Cx w c w') := fun W ga cap hW hT => by
    have := file_any c us.reverse (some ⟨ga, 0, none⟩) none cap 0 0 W (by unfold maxLen; rw [List.length_reverse]; omega) hT
    rw [f3, List.length_reverse, hlen] at this
    exact this.mono (fun e w' h => ⟨h.1, hW.below h.2⟩)
  have kS : Calls Try.prog 8 #[] (w.alloc (.cells #[.int .i64 c.x0, .int .i64 c.x1, .int .i64 c.x2, .int .i64 c.x3, .int .i64 c.x4, .int .i64 c.x5, .int .i64 c.x6, .int .i64 c.x7, .int .i64 c.x8, .int .i64 c.x9] 23)) fun e w' => e = .returned (.bool true) ∧ Hid (Cx w c w') := (shown_any _).mono (fun e w' h => ⟨h.1, (Cx.new w c).below h.2⟩)
  have HU : Hid (TasksIn w ta us) := ht
  have HL : Hid (us.length = m) := hlen
  clear ht hlen f1 f2 f3 hi
  unfold fiV at kF1 kF2 kF3 kF4
  unfold cfV at *
  obtain ⟨x0, x1, x2, x3, x4, x5, x6, x7, x8, x9⟩ := c
  simp only [] at *
  go_enter Try.func6, Try.ntmps6
  go_wp2_with (first | (go_at_call 8; refine kS.mono ?_; rintro e w1 ⟨rfl, hX1⟩; obtain ⟨a0, a1, a2, a3, a4, a5, a6, a7, a8, a9⟩ := hX1.out.cells) | (go_at_call 9; refine (kF1 _ hX1.out).mono ?_; rintro e w2 ⟨rfl, hX2⟩; clear a0 a1 a2 a3 a4 a5 a6 a7 a8 a9; obtain ⟨a0, a1, a2, a3, a4, a5, a6, a7, a8, a9⟩ := hX2.out.cells; refine Hid.out ?_))
  refine hide_it ?_
  go_wp2_with (go_at_call 9; refine (kF2 _ hX2.out).mono ?_; rintro e w3 ⟨rfl, hX3⟩; clear a0 a1 a2 a3 a4 a5 a6 a7 a8 a9)
  clear kS kF1 kF2 hX1 hX2
  have hs3 := hX3.out.lt
  go_loopw [14, 15] (fun t i W => Hid (Below w3.heap.size w3 W) ∧ ∃ k ga cap : Nat, k ≤ m ∧ i = .int .i64 k ∧ t = .slice (some ⟨ga, 0, none⟩) (m - k) cap ∧ Hid (W.ownsRow w3.heap.size 39 2 (.slice (some ⟨ga, 0, none⟩) (m - k) cap) (m - k) (tcs (us.drop k).reverse)) ∧ ga < W.heap.size) (fun _ i _ => (intOf i).toNat)
  case atStart =>
    refine ⟨(Below.refl _ _).alloc (Nat.le_refl _) _, m, w3.heap.size, 0, Nat.le_refl _, rfl, by simp, ?_, by simp⟩
    rw [Nat.sub_self, List.drop_eq_nil_of_le (by rw [HL.out]; omega)]
    exact ⟨rfl, Or.inr ⟨w3.heap.size, 0, #[], rfl, Nat.le_refl _, heap_alloc_new w3 _, Nat.le_refl _, Nat.zero_le _, rfl, rfl⟩⟩
  case round =>
    obtain ⟨hBr, k, ga, cap, hk, rfl, rfl, hO, hga⟩ := hrel
    have hsr := hBr.out.size
    by_cases hlt : 0 < k
    · obtain ⟨j, rfl⟩ : ∃ j, k = j + 1 := ⟨k - 1, by omega⟩
      have hlx : j < us.length := by rw [HL.out]; omega
      obtain ⟨b, o, hta, hbw, c1, c2⟩ := (HU.out.below (hX3.out.below hBr.out).bel (Nat.le_refl _)) j hlx
      have HR := hide_it (rev_drop hlx)
      generalize us[j] = t at *
      obtain ⟨u, v⟩ := t
      subst hta
      have hpos : (0 : Int) < (j : Int) + 1 := by omega
      go_wp2_with (at_builtin; refine wpList_append_lies _ rfl (.tmp 56) (.tmp 62) 24 rfl w3.heap.size 39 i0 _ 2 16 Try.underlying24 hi1 hy0 hy1 hy2 rfl (by omega) _ _ _ rfl (hO.out.alloc _) ⟨wr.heap.size, 0, none⟩ 1 1 [.int .i64 u, .int .i64 v] rfl rfl (World.news_of_block (heap_alloc_new wr _)) (by simp [Value.oneCell']) (by omega) (by unfold maxLen; omega) (by omega) (by simp; omega) _ rfl ?_; intro gg cg w5 hown5 hgrow hat hlt5; have hbel5 : Below w3.heap.size w3 w5 := (hBr.out.alloc hsr _).grown hgrow (by simp; omega) (fun q hq => (hO.out.lt q hq).1))
      go_roundw
      case rel =>
        refine ⟨hbel5, j, gg, cg, by omega, by simp, by rw [show m - j = m - (j + 1) + 1 by omega], ?_, hlt5⟩
        rw [HR.out, tcs_snoc, show m - j = m - (j + 1) + 1 by omega]
        exact hown5
      case measure => simp [intOf]
    · obtain rfl : k = 0 := by omega
      have hX5 := hide_it (hX3.out.below hBr.out)
      have HO : Hid (World.ownsRow _ w3.heap.size 39 2 (.slice (some ⟨ga, 0, none⟩) m cap) m (tcs us.reverse)) := hO.out
      obtain ⟨a0, a1, a2, a3, a4, a5, a6, a7, a8, a9⟩ := hX5.out.cells
      rw [Nat.sub_zero]
      have hm1 : (0 : Int) < (m : Int) + 1 := by omega
      have hA1 : (0 : Int) ≤ (a : Int) := by omega
      have hA2 : (a : Int) ≤ (tc : Int) := by omega
      go_wp2
      go_region_held3 (fun W => W.cell? ⟨w.heap.size, 0, none⟩ = some (.int .i64 x0) ∧ W.cell? ⟨w.heap.size, 1, none⟩ = some (.int .i64 x1) ∧ W.cell? ⟨w.heap.size, 2, none⟩ = some (.int .i64 x2) ∧ W.cell? ⟨w.heap.size, 3, none⟩ = some (.int .i64 x3) ∧ W.cell? ⟨w.heap.size, 4, none⟩ = some (.int .i64 x4) ∧ W.cell? ⟨w.heap.size, 5, none⟩ = some (.int .i64 x5) ∧ W.cell? ⟨w.heap.size, 6, none⟩ = some (.int .i64 x6) ∧ W.cell? ⟨w.heap.size, 7, none⟩ = some (.int .i64 x7) ∧ W.cell? ⟨w.heap.size, 8, none⟩ = some (.int .i64 x8) ∧ W.cell? ⟨w.heap.size, 9, none⟩ = some (.int .i64 x9)) (first | go_keep | exact hX6.out.cells) ((go_at_call 9; refine (kF3 _ _ _ _ (by first | exact hX5.out | exact hX5.out.below ((Below.refl _ _).drew)) (by first | exact HO.out | exact HO.out.drew) (by exact hga)).mono ?_; rintro e w6 ⟨rfl, hX6, hT6⟩))
      all_goals (
        clear a0 a1 a2 a3 a4 a5 a6 a7 a8 a9
        obtain ⟨a0, a1, a2, a3, a4, a5, a6, a7, a8, a9⟩ := hX6.out.cells
        go_wp2_with (go_at_call 9; refine (kF4 _ _ _ hX6.out hT6.out).mono ?_; rintro e w7 ⟨rfl, hX7⟩)
        go_ret
        exact ⟨ret_bool (by simp_all), hX7.out.bel⟩)

theorem checkFewer_walk (c : Cf) (ts : List (Int × Int)) (ta oa : Option Addr) (tc on oc : Nat) (at0 : Int) (w : World) (hl : ts.length ≤ tc) (hm : tc ≤ maxLen) (ht : TasksIn w ta ts) :
    Calls Try.prog 6 #[cfV c, .slice ta ts.length tc, .int .i64 at0, .slice oa on oc] w fun e w' => e = .returned (.bool true) ∧ Below w.heap.size w w' := by
  unfold maxLen at hm
  have hus := ht.take 64
  have hlen : (ts.take 64).length = min 64 ts.length := by simp
  have hmin := minN ts.length 64 64 rfl
  have z0 : 0 ≤ bits .and .i64 at0 65535 ∧ bits .and .i64 at0 65535 ≤ 65535 := by rw [and16]; omega
  have m1 := Int.emod_nonneg (bits .and .i64 at0 65535) (b := ((min 64 ts.length : Nat) : Int) + 1) (by omega)
  have m2 := Int.emod_lt_of_pos (bits .and .i64 at0 65535) (b := ((min 64 ts.length : Nat) : Int) + 1) (by omega)
  obtain ⟨a, ha⟩ : ∃ a : Nat, bits .and .i64 at0 65535 % (((min 64 ts.length : Nat) : Int) + 1) = (a : Int) := ⟨(bits .and .i64 at0 65535 % (((min 64 ts.length : Nat) : Int) + 1)).toNat, by omega⟩
  have ham : a ≤ min 64 ts.length := by omega
  obtain ⟨p, q, x, g, y, h, f1, f2, f3, hor⟩ := few_math c (ts.take 64) a (by omega)
  rcases hor with ⟨rfl, rfl, rfl, rfl⟩ | ⟨rfl, rfl, rfl, hp⟩ | ⟨rfl, rfl, rfl, rfl, hp⟩
  · exact fewer_ok c (ts.take 64) ta oa ts.length (min 64 ts.length) tc on oc a p y at0 w (by omega) hl (by omega) (by omega) hlen hus hmin ham z0.1 z0.2 ha f1 f2 f3
  · exact fewer_mid c (ts.take 64) ta oa ts.length (min 64 ts.length) tc on oc a p x y at0 w (by omega) hl (by omega) (by omega) hlen hus hmin ham z0.1 z0.2 ha f1 f2 f3 hp
  · exact fewer_bad c (ts.take 64) ta oa ts.length (min 64 ts.length) tc on oc a x y at0 w (by omega) hl (by omega) (by omega) hlen hus hmin ham z0.1 z0.2 ha f1 f2 f3 hp (by simp; omega)
end Go.Proofs.Ytfllhgbpjpmakaa
