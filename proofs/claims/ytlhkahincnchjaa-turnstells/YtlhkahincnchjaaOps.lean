/- isCost, gain, where a member stands, whether anything is wanted. -/
import Derived.Test.YtlhkahincnchjaaMem
import Derived.BigQuiet
import Derived.Deep.RegionHeld3
namespace Go.Proofs.Ytlhkahincnchjaa
open Go.RowKit
open M
set_option linter.unusedVariables false
set_option linter.unusedSimpArgs false

theorem below_drewN {B : Nat} {a w : World} (h : Below B a w) (n : Nat) : Below B a (w.drewN n) := ⟨h.os, h.tape, h.output, h.size, h.block⟩

set_option maxRecDepth 1000000 in
set_option maxHeartbeats 2000000 in
theorem isCost_any (w : World) (c : Int) : Calls Try.prog 28 #[.int .i64 c] w fun e w' => e = .returned (.bool (decide (1 ≤ c ∧ c ≤ 1048576))) ∧ w' = w := by
  by_cases h1 : 1 ≤ c
  · have e : decide (1 ≤ c ∧ c ≤ 1048576) = decide (c ≤ 1048576) := by simp [h1]
    rw [e]
    clear e
    generalize hz : decide (c ≤ 1048576) = z
    go_enter Try.func28, Try.ntmps28
    go_wp2
    go_ret
    exact ⟨rfl, rfl⟩
  · have e : decide (1 ≤ c ∧ c ≤ 1048576) = false := by simp [h1]
    rw [e]
    have hd : decide (1 ≤ c) = false := by simp [h1]
    clear e h1
    go_enter Try.func28, Try.ntmps28
    go_wp2
    go_ret
    exact ⟨rfl, rfl⟩

set_option maxRecDepth 1000000 in
set_option maxHeartbeats 2000000 in
theorem gain_any {w : World} {t : Nat} {q : Int} (hc : w.cell? ⟨t, 0, none⟩ = some (.int .i64 q)) (ht : t < w.heap.size) (i W c : Int) (h1 : 1 ≤ q ∧ q ≤ 1048576) (h2 : 1 ≤ W ∧ W ≤ 100) :
    Calls Try.prog 36 #[ptr t, .agg #[.int .i64 i, .int .i64 W, .int .i64 c]] w fun e w' => e = .returned (.int .i64 (q * W)) ∧ Hid (Below w.heap.size w w') := by
  have hg := gain_bnd h1.1 h1.2 h2.1 h2.2
  have hw : IntKind.i64.wrap (q * W) = q * W := by rw [IntKind.wrap_i64]; omega
  have hw2 : wrap64 (q * W) = q * W := by unfold wrap64; omega
  have hc2 : (w.alloc (.cells #[.int .i64 i, .int .i64 W, .int .i64 c] 64)).cell? ⟨t, 0, none⟩ = some (.int .i64 q) := by rw [((Below.refl w.heap.size w).alloc (Nat.le_refl _) _).cell (p := ⟨t, 0, none⟩) ht]; exact hc
  have HB : Hid (∀ j : Nat, Below w.heap.size w ((w.alloc (.cells #[.int .i64 i, .int .i64 W, .int .i64 c] 64)).drewN j)) := fun j => below_drewN ((Below.refl _ _).alloc (Nat.le_refl _) _) j
  clear hg h1 h2
  have hne : t ≠ w.heap.size := by omega
  clear ht hc
  go_enter Try.func36, Try.ntmps36
  go_wp2_with (go_big_quiet (fail))
  go_ret
  exact ⟨rfl, HB.out _⟩

set_option maxRecDepth 1000000 in
set_option maxHeartbeats 2000000 in
theorem place1_any {w : World} {b : Nat} (id : Int) (hc : w.cell? ⟨b, 0, none⟩ = some (.int .i64 id)) (hb : b < w.heap.size) (i W c : Int) :
    Calls Try.prog 34 #[.agg #[.int .i64 i, .int .i64 W, .int .i64 c], ptr b] w fun e w' => e = .returned (.bool (i == id)) ∧ Hid (Below w.heap.size w w') := by
  have HB : Hid (Below w.heap.size w (w.alloc (.cells #[.int .i64 i, .int .i64 W, .int .i64 c] 64))) := (Below.refl _ _).alloc (Nat.le_refl _) _
  have hc2 : (w.alloc (.cells #[.int .i64 i, .int .i64 W, .int .i64 c] 64)).cell? ⟨b, 0, none⟩ = some (.int .i64 id) := by rw [((Below.refl w.heap.size w).alloc (Nat.le_refl _) _).cell (p := ⟨b, 0, none⟩) hb]; exact hc
  have hne : b ≠ w.heap.size := by omega
  clear hb hc
  go_enter Try.func34, Try.ntmps34
  go_wp2
  go_ret
  exact ⟨rfl, HB⟩

/-- Where an id stands; -1: nowhere. -/
def plc (x : Tn) (id : Int) : Int := match (List.range x.n).find? (fun j => decide (x.I j = id)) with
  | some j => j
  | none => -1
theorem plc_is {x : Tn} {id : Int} {k : Nat} (hk : k < x.n) (h : x.I k = id) (hb : ∀ j, j < k → x.I j ≠ id) : plc x id = k := by
  have : (List.range x.n).find? (fun j => decide (x.I j = id)) = some k := by
    rw [List.find?_range_eq_some]
    exact ⟨by simpa using h, by simpa using hk, fun j hj => by simpa using hb j hj⟩
  unfold plc
  rw [this]
theorem plc_not {x : Tn} {id : Int} (h : ∀ j, j < x.n → x.I j ≠ id) : plc x id = -1 := by
  have : (List.range x.n).find? (fun j => decide (x.I j = id)) = none := by
    rw [List.find?_range_eq_none]
    intro j hj
    simpa using h j hj
  unfold plc
  rw [this]
theorem plc_cases (x : Tn) (id : Int) : (∃ k, k < x.n ∧ x.I k = id ∧ (∀ j, j < k → x.I j ≠ id) ∧ plc x id = (k : Int)) ∨ ((∀ j, j < x.n → x.I j ≠ id) ∧ plc x id = -1) := by
  by_cases h : ∃ k, k < x.n ∧ x.I k = id ∧ ∀ j, j < k → x.I j ≠ id
  · obtain ⟨k, h1, h2, h3⟩ := h
    exact .inl ⟨k, h1, h2, h3, plc_is h1 h2 h3⟩
  · have hn : ∀ j, j < x.n → x.I j ≠ id := by
      intro j
      induction j using Nat.strongRecOn with
      | _ j ih => exact fun hj e => h ⟨j, hj, e, fun i hi => ih i hi (by omega)⟩
    exact .inr ⟨hn, plc_not hn⟩

/-- What a call reads: members in a row. -/
def Mbs (w : World) (ao : Option Addr) (n : Nat) (I W C : Nat → Int) : Prop := ∀ j, j < n → ∃ g, ao = some ⟨g, 0, none⟩ ∧ g < w.heap.size ∧ w.cell? ⟨g, j * 3, none⟩ = some (.int .i64 (I j)) ∧ w.cell? ⟨g, j * 3 + 1, none⟩ = some (.int .i64 (W j)) ∧ w.cell? ⟨g, j * 3 + 2, none⟩ = some (.int .i64 (C j))
theorem Mbs.below {w w' : World} {ao : Option Addr} {n : Nat} {I W C : Nat → Int} (h : Mbs w ao n I W C) (hb : Below w.heap.size w w') : Mbs w' ao n I W C := fun j hj => by
  obtain ⟨g, e, hg, c0, c1, c2⟩ := h j hj
  exact ⟨g, e, Nat.lt_of_lt_of_le hg hb.size, by rw [hb.cell (p := ⟨g, _, none⟩) hg]; exact c0, by rw [hb.cell (p := ⟨g, _, none⟩) hg]; exact c1, by rw [hb.cell (p := ⟨g, _, none⟩) hg]; exact c2⟩
theorem TM.mbs {e tt : TypeId} {w : World} {t : Nat} {x : Tn} {v : Value} (h : TM e tt w t x v) : ∃ ao cap, v = .slice ao x.n cap ∧ x.n ≤ cap ∧ cap ≤ maxLen ∧ Mbs w ao x.n x.I x.W x.C := by
  obtain ⟨ao, cap, e1, e2, e3, e4⟩ := h.form
  exact ⟨ao, cap, e1, e2, e3, fun j hj => by obtain ⟨g, a1, _, a2, a3, a4, a5, _⟩ := e4 j hj; exact ⟨g, a1, a2, a3, a4, a5⟩⟩

set_option maxRecDepth 1000000 in
set_option maxHeartbeats 2000000 in
theorem index_any {w : World} {ao : Option Addr} {cap b : Nat} {x : Tn} (h : Mbs w ao x.n x.I x.W x.C) (hn : x.n ≤ 1000000) (id : Int) (hc : w.cell? ⟨b, 0, none⟩ = some (.int .i64 id)) (hb : b < w.heap.size) :
    Calls Try.prog 33 #[.slice ao x.n cap, .func (Fn.func 34) #[] #[ptr b]] w fun e w' => e = .returned (.int .i64 (plc x id)) ∧ Hid (Below w.heap.size w w') := by
  have HM := hide_it h
  have HP := hide_it (plc_cases x id)
  have HC := hide_it (fun W (hW : Below w.heap.size w W) => show W.cell? ⟨b, 0, none⟩ = some (.int .i64 id) ∧ b < W.heap.size from ⟨by rw [hW.cell (p := ⟨b, _, none⟩) hb]; exact hc, Nat.lt_of_lt_of_le hb hW.size⟩)
  clear h hc hb
  generalize plc x id = z at *
  generalize x.n = n at *
  go_enter Try.func33, Try.ntmps33
  go_wp2
  go_loopw [8] (fun i wr => ∃ k : Nat, k ≤ n ∧ i = .int .i64 k ∧ Hid (Below w.heap.size w wr) ∧ Hid (∀ j, j < k → x.I j ≠ id)) (fun i _ => n - (intOf i).toNat)
  case atStart => exact ⟨0, Nat.zero_le _, rfl, Below.refl _ _, fun j hj => by omega⟩
  case round =>
    obtain ⟨k, hk, rfl, HB, HN⟩ := hrel
    by_cases hlt : k < n
    · obtain ⟨g, rfl, hg, c0, c1, c2⟩ := (HM.out.below HB.out) k hlt
      obtain ⟨cb, hbl⟩ := HC.out _ HB.out
      have k1 := place1_any id cb hbl (x.I k) (x.W k) (x.C k)
      clear cb hbl hg
      by_cases he : x.I k = id
      · have HZ : Hid (z = k) := by
          rcases HP.out with ⟨k', h1, h2, h3, h4⟩ | ⟨h1, _⟩
          · rw [h4]
            have : k' = k := by
              rcases Nat.lt_trichotomy k' k with q | q | q
              · exact absurd h2 (HN.out k' q)
              · exact q
              · exact absurd he (h3 k q)
            show (k' : Int) = k; rw [this]
          · exact absurd he (h1 k hlt)
        rw [show (x.I k == id) = true by simpa using he] at k1
        clear he HN HP HC HM
        generalize x.I k = i0 at *
        generalize x.W k = w0 at *
        generalize x.C k = c0' at *
        go_wp2_with (go_at_call 34; refine k1.mono ?_; rintro e w2 ⟨rfl, b2⟩)
        go_ret
        exact ⟨ret_int HZ.out.symm, HB.out.trans (b2.out.mono HB.out.size)⟩
      · have HN2 : Hid (∀ j, j < k + 1 → x.I j ≠ id) := fun j hj => by
          by_cases q : j = k
          · subst q; exact he
          · exact HN.out j (by omega)
        rw [show (x.I k == id) = false by simpa using he] at k1
        clear he HN HP HC HM
        generalize x.I k = i0 at *
        generalize x.W k = w0 at *
        generalize x.C k = c0' at *
        go_wp2_with (go_at_call 34; refine k1.mono ?_; rintro e w2 ⟨rfl, b2⟩)
        go_roundw
        case rel => exact ⟨k + 1, by omega, by go_num, HB.out.trans (b2.out.mono HB.out.size), HN2⟩
        case measure => simp [intOf]; omega
    · have HZ : Hid (z = -1) := by
        rcases HP.out with ⟨k', h1, h2, h3, h4⟩ | ⟨_, h⟩
        · exact absurd h2 (HN.out k' (by omega))
        · exact h
      clear HN HP HC HM
      go_wp2
      go_ret
      exact ⟨ret_int HZ.out.symm, HB⟩

set_option maxRecDepth 1000000 in
set_option maxHeartbeats 2000000 in
theorem place_any {w : World} {F : Nat → Prop} {t : Nat} {x : Tn} (h : MO 64 62 w F t x) (hn : x.n ≤ 1000000) (id : Int) :
    Calls Try.prog 24 #[ptr t, .int .i64 id] w fun e w' => e = .returned (.int .i64 (plc x id)) ∧ Hid (Below w.heap.size w w') := by
  obtain ⟨v, h1, _⟩ := h
  have hc1 := h1.c1
  have ht := block_lt h1.blk
  obtain ⟨ao, cap, rfl, hcap, hm, hmb⟩ := h1.mbs
  have B0 := (Below.refl w.heap.size w).alloc (Nat.le_refl _) (.cells #[.int .i64 id] 3)
  have k1 := index_any (cap := cap) (b := w.heap.size) (hmb.below B0) hn id (by rw [cell_of_row _ _ 0 _ _ _ (heap_alloc_new w _)]; rfl) (by simp)
  have HB := hide_it B0
  have hc2 : (w.alloc (.cells #[.int .i64 id] 3)).cell? ⟨t, 1, none⟩ = some (.slice ao x.n cap) := by rw [B0.cell (p := ⟨t, 1, none⟩) ht]; exact hc1
  have hne : t ≠ w.heap.size := by omega
  clear hmb h1 B0 ht hc1
  generalize plc x id = z at *
  generalize x.n = n at *
  go_enter Try.func24, Try.ntmps24
  go_wp2_with (go_at_call 33; refine k1.mono ?_; rintro e w2 ⟨rfl, b2⟩)
  go_ret
  exact ⟨rfl, HB.out.trans (b2.out.mono HB.out.size)⟩
end Go.Proofs.Ytlhkahincnchjaa
