/- The document's own heap: Remove, First, Pop. -/
import Derived.Test.YtpcjaleogeoabaaRfC
import Derived.Deep.CutRange
namespace Go.Proofs.Ytpcjaleogeoabaa
open Go.RowKit
open M
set_option linter.unusedVariables false
set_option linter.unusedSimpArgs false

set_option maxRecDepth 1000000 in
set_option maxHeartbeats 2000000 in
theorem rrem_bad {w : World} {rb : Nat} {n : Int} {v : Value} {L : List It} (h : RM w rb n v L) (id : Int) (hid : isId (hsz n) id = false) :
    Calls Try.prog 18 #[ptr rb, .int .i64 id] w fun e w' => e = .returned (.tuple #[.int .i64 0, .int .i64 1]) ∧ w' = w := by
  have k := known_any h id
  rw [hid] at k
  clear h hid
  go_enter Try.func18, Try.ntmps18
  go_wp2_with (go_at_call 29; refine k.mono ?_; rintro e w' ⟨rfl, rfl⟩)
  go_ret2
  exact ⟨rfl, rfl⟩
set_option maxRecDepth 1000000 in
set_option maxHeartbeats 2000000 in
theorem rrem_none {w : World} {rb : Nat} {n : Int} {v : Value} {L : List It} (h : RM w rb n v L) (hlen : L.length ≤ 1000000) (id : Int) (hid : isId (hsz n) id = true) (hn : ∀ p ∈ L, p.1 ≠ id) :
    Calls Try.prog 18 #[ptr rb, .int .i64 id] w fun e w' => e = .returned (.tuple #[.int .i64 0, .int .i64 6]) ∧ w' = w := by
  have k := known_any h id
  rw [hid] at k
  have k2 := find_none h hlen id hn
  clear h hid hn
  go_enter Try.func18, Try.ntmps18
  go_wp2_with (first | (go_at_call 29; refine k.mono ?_; rintro e w' ⟨rfl, rfl⟩) | (go_at_call 30; refine k2.mono ?_; rintro e w' ⟨rfl, rfl⟩))
  go_ret2
  exact ⟨rfl, rfl⟩
set_option maxRecDepth 1000000 in
set_option maxHeartbeats 2000000 in
theorem rrem_new {w : World} {rb : Nat} {n : Int} {v : Value} {L : List It} (h : RM w rb n v L) (hlen : L.length ≤ 1000000) (ho : Once L) (id y : Int) (hid : isId (hsz n) id = true) {i : Nat} (hi : i < L.length) (e : L[i].1 = id) (e2 : L[i].2 = y) :
    Calls Try.prog 18 #[ptr rb, .int .i64 id] w fun e w' => e = .returned (.tuple #[.int .i64 y, .int .i64 0]) ∧ ∃ v', RM w' rb n v' (L.eraseIdx i) ∧ Turn (RFoot rb v) w w' ∧ ∀ k, RFoot rb v' k → k = rb ∨ w.heap.size ≤ k := by
  have k := known_any h id
  rw [hid] at k
  have k2 := find_some h hlen ho hi id e
  have k3 := cut_any h hlen hi
  have q1 := h.c1
  obtain ⟨ib, cap, hv, hc1, hc2, hc, hf⟩ := h.form (by omega)
  subst hv
  have ck := (hc i hi).2
  rw [e2] at ck
  have hlt : decide ((i : Int) < 0) = false := decide_eq_false (by omega)
  obtain ⟨L2, hL2⟩ : ∃ L2, L.eraseIdx i = L2 := ⟨_, rfl⟩
  rw [hL2] at k3 ⊢
  clear h hc e e2 ho hid hf hL2
  generalize L.length = m at *
  go_enter Try.func18, Try.ntmps18
  go_wp2_with (first | (go_at_call 29; refine k.mono ?_; rintro e w1 ⟨rfl, rfl⟩) | (go_at_call 30; refine k2.mono ?_; rintro e w2 ⟨rfl, rfl⟩) | (go_at_call 35; refine k3.mono ?_; rintro e w3 ⟨rfl, v', z1, z2, z3⟩))
  go_ret2
  exact ⟨rfl, v', z1, z2, z3⟩

/-- The first one of a row. -/
def Bst (L : List It) (b : It) : Prop := b ∈ L ∧ ∀ p ∈ L, b.2 < p.2 ∨ (b.2 = p.2 ∧ b.1 ≤ p.1)
theorem Bst.one (p : It) : Bst [p] p := ⟨by simp, fun q hq => by simp at hq; subst hq; omega⟩
theorem Bst.keep {L : List It} {b p : It} (h : Bst L b) (hk : ¬ (p.2 < b.2 ∨ (p.2 = b.2 ∧ p.1 < b.1))) : Bst (L ++ [p]) b :=
  ⟨List.mem_append_left _ h.1, fun q hq => by
    rcases List.mem_append.1 hq with z | z
    · exact h.2 q z
    · simp at z; subst z; omega⟩
theorem Bst.turn {L : List It} {b p : It} (h : Bst L b) (hk : p.2 < b.2 ∨ (p.2 = b.2 ∧ p.1 < b.1)) : Bst (L ++ [p]) p :=
  ⟨by simp, fun q hq => by
    rcases List.mem_append.1 hq with z | z
    · have := h.2 q z; omega
    · simp at z; subst z; omega⟩

set_option maxRecDepth 1000000 in
set_option maxHeartbeats 2000000 in
theorem rfirst_none {w : World} {rb : Nat} {n : Int} {v : Value} (h : RM w rb n v []) :
    Calls Try.prog 22 #[ptr rb] w fun e w' => e = .returned (.tuple #[.agg #[.int .i64 0, .int .i64 0], .bool false]) ∧ Below w.heap.size w w' := by
  have hb := hide_it ((Below.refl w.heap.size w).alloc (Nat.le_refl _) (.cells #[.int .i64 0, .int .i64 0] 39))
  have q1 := (h.below hb.out).c1
  obtain ⟨ao, cap, hv, hc1, hc2⟩ := h.form0
  subst hv
  clear h
  go_enter Try.func22, Try.ntmps22
  go_wp2
  refine bodyPost_ret (v := .tuple #[.agg #[.int .i64 0, .int .i64 0], .bool false]) (by simp [results, Try.results22, go_sem]) rfl ⟨rfl, hb.out⟩

theorem Bst.uniq {L : List It} {a b : It} (h : Bst L a) (k : Bst L b) : a = b := by
  have h1 := h.2 b k.1
  have h2 := k.2 a h.1
  obtain ⟨a1, a2⟩ := a
  obtain ⟨b1, b2⟩ := b
  simp only at h1 h2
  have e1 : a1 = b1 := by omega
  have e2 : a2 = b2 := by omega
  rw [e1, e2]

/-- First's two blocks. -/
structure FW (w W : World) (bx bk : Int) : Prop where
  bel : Below w.heap.size w W
  r : W.heap[w.heap.size]? = some (.cells #[.int .i64 0, .int .i64 0] 39)
  b : W.heap[w.heap.size + 1]? = some (.cells #[.int .i64 bx, .int .i64 bk] 39)
theorem FW.alloc {w W : World} {bx bk : Int} (h : FW w W bx bk) (o : Obj) : FW w (W.alloc o) bx bk :=
  ⟨h.bel.alloc h.bel.size o, by rw [Below.heap_alloc _ _ _ (block_lt h.r)]; exact h.r, by rw [Below.heap_alloc _ _ _ (block_lt h.b)]; exact h.b⟩
theorem FW.put {w W : World} {bx bk x y : Int} (h : FW w W bx bk) : FW w ((W.setCell ⟨w.heap.size + 1, 0, none⟩ (.int .i64 x)).setCell ⟨w.heap.size + 1, 1, none⟩ (.int .i64 y)) x y := by
  refine ⟨(h.bel.setCell (by show w.heap.size ≤ w.heap.size + 1; omega) _).setCell (by show w.heap.size ≤ w.heap.size + 1; omega) _, ?_, ?_⟩
  · rw [Below.heap_setCell _ _ _ _ (by show w.heap.size ≠ w.heap.size + 1; omega), Below.heap_setCell _ _ _ _ (by show w.heap.size ≠ w.heap.size + 1; omega)]; exact h.r
  · have h1 := heap_setCell_at (o := 0) h.b (.int .i64 x)
    have h2 := heap_setCell_at (o := 1) h1 (.int .i64 y)
    simpa using h2
theorem FW.cells {w W : World} {bx bk : Int} (h : FW w W bx bk) : (W.cell? ⟨w.heap.size + 1, 0, none⟩ = some (.int .i64 bx) ∧ W.cell? ⟨w.heap.size + 1, 1, none⟩ = some (.int .i64 bk)) ∧ (W.frozen? ⟨w.heap.size + 1, 0, none⟩ = false ∧ W.frozen? ⟨w.heap.size + 1, 1, none⟩ = false) ∧ (W.cell? ⟨w.heap.size, 0, none⟩ = some (.int .i64 0) ∧ W.cell? ⟨w.heap.size, 1, none⟩ = some (.int .i64 0)) ∧ (W.frozen? ⟨w.heap.size, 0, none⟩ = false ∧ W.frozen? ⟨w.heap.size, 1, none⟩ = false) :=
  ⟨⟨by rw [cell_of_row W _ 0 _ _ _ h.b]; rfl, by rw [cell_of_row W _ 1 _ _ _ h.b]; rfl⟩, ⟨by simp [World.frozen?, h.b], by simp [World.frozen?, h.b]⟩, ⟨by rw [cell_of_row W _ 0 _ _ _ h.r]; rfl, by rw [cell_of_row W _ 1 _ _ _ h.r]; rfl⟩, ⟨by simp [World.frozen?, h.r], by simp [World.frozen?, h.r]⟩⟩

set_option maxRecDepth 1000000 in
set_option maxHeartbeats 4000000 in
theorem rfirst_some {w : World} {rb : Nat} {n : Int} {v : Value} {L : List It} (h : RM w rb n v L) (hlen : L.length ≤ 1000000) {b : It} (hb : Bst L b) :
    Calls Try.prog 22 #[ptr rb] w fun e w' => e = .returned (.tuple #[.agg #[.int .i64 b.1, .int .i64 b.2], .bool true]) ∧ Below w.heap.size w w' := by
  have h0 : 0 < L.length := by
    rcases Nat.eq_zero_or_pos L.length with q | q
    · have := List.eq_nil_of_length_eq_zero q; subst this; exact absurd hb.1 (by simp)
    · exact q
  obtain ⟨ib, cap, hv, hc1, hc2, hc, hf⟩ := h.form h0
  subst hv
  obtain ⟨m, hm⟩ : ∃ m, L.length = m := ⟨_, rfl⟩
  have HQ : Hid (∀ W, Below w.heap.size w W → W.cell? ⟨rb, 1, none⟩ = some (.slice (some ⟨ib, 0, none⟩) m cap)) := fun W hW => by rw [← hm]; exact (h.below hW).c1
  have HC : Hid (∀ W, Below w.heap.size w W → ∀ i (hi : i < L.length), W.cell? ⟨ib, i * 2, none⟩ = some (.int .i64 L[i].1) ∧ W.cell? ⟨ib, i * 2 + 1, none⟩ = some (.int .i64 L[i].2)) := fun W hW i hi => by
    have hl := h.lt ib (.inr rfl)
    exact ⟨by rw [hW.cell (p := ⟨ib, _, none⟩) hl]; exact (hc i hi).1, by rw [hW.cell (p := ⟨ib, _, none⟩) hl]; exact (hc i hi).2⟩
  have hA : Below w.heap.size w (w.alloc (.cells #[.int .i64 0, .int .i64 0] 39)) := (Below.refl _ _).alloc (Nat.le_refl _) _
  have q1 := HQ.out _ hA
  obtain ⟨d0, d1⟩ := HC.out _ hA 0 h0
  simp only [Nat.zero_mul, Nat.zero_add] at d0 d1
  have H0 : Hid (FW w ((w.alloc (.cells #[.int .i64 0, .int .i64 0] 39)).alloc (.cells #[.int .i64 L[0].1, .int .i64 L[0].2] 39)) L[0].1 L[0].2) := ⟨hA.alloc hA.size _, by rw [Below.heap_alloc _ _ _ (by simp)]; exact heap_alloc_new _ _, by
    have := heap_alloc_new (w.alloc (.cells #[.int .i64 0, .int .i64 0] 39)) (.cells #[.int .i64 L[0].1, .int .i64 L[0].2] 39)
    simpa using this⟩
  have HB0 : Hid (Bst (L.take 1) L[0]) := by
    have e : L.take 1 = [L[0]] := by
      rw [List.take_succ_eq_append_getElem h0]; simp
    rw [e]
    exact Bst.one _
  have HM := hide_it hm
  have HB := hide_it hb
  have hz : ((m : Int) == 0) = false := by rw [beq_eq_false_iff_ne]; omega
  have hz2 : ¬ m = 0 := by omega
  have hm0 : 0 < m := by omega
  rw [hm] at hlen hc1
  clear h hc hf hA hb
  obtain ⟨p0, hp0⟩ : ∃ p0, L[0] = p0 := ⟨_, rfl⟩
  rw [hp0] at d0 d1 H0 HB0
  obtain ⟨x0, y0⟩ := p0
  simp only at d0 d1 H0
  clear hp0 hm h0
  go_enter Try.func22, Try.ntmps22
  go_wp2
  generalize (w.alloc (.cells #[.int .i64 0, .int .i64 0] 39)).alloc (.cells #[.int .i64 x0, .int .i64 y0] 39) = w2 at *
  clear d0 d1 q1
  go_loopw [5] (fun iv W => ∃ (k : Nat) (bx bk : Int), iv = .int .i64 k ∧ 1 ≤ k ∧ k ≤ m ∧ Hid (FW w W bx bk) ∧ Hid (Bst (L.take k) (bx, bk))) (fun iv _ => m - (intOf iv).toNat)
  case atStart => exact ⟨1, x0, y0, rfl, Nat.le_refl _, hm0, H0, HB0⟩
  case round =>
    clear H0 HB0
    obtain ⟨k, bx, bk, rfl, hk1, hk, HF, HK⟩ := hrel
    have q1 := HQ.out _ HF.out.bel
    by_cases hlt : k < m
    · have hlx : k < L.length := by rw [HM.out]; exact hlt
      obtain ⟨d0, d1⟩ := HC.out _ HF.out.bel k hlx
      obtain ⟨⟨x, y⟩, hp⟩ : ∃ p, L[k] = p := ⟨_, rfl⟩
      rw [hp] at d0 d1
      simp only at d0 d1
      have HTK : Hid (L.take (k + 1) = L.take k ++ [(x, y)]) := by
        unfold Hid
        rw [List.take_succ_eq_append_getElem hlx, hp]
      clear hp
      obtain ⟨⟨c0, c1⟩, ⟨f0, f1⟩, _, _⟩ := (HF.out.alloc (.cells #[.int .i64 x, .int .i64 y] 39)).cells
      have c2 : (wr.alloc (.cells #[.int .i64 x, .int .i64 y] 39)).cell? ⟨wr.heap.size, 0, none⟩ = some (.int .i64 x) := by rw [cell_of_row _ _ 0 _ _ _ (heap_alloc_new wr _)]; rfl
      have c3 : (wr.alloc (.cells #[.int .i64 x, .int .i64 y] 39)).cell? ⟨wr.heap.size, 1, none⟩ = some (.int .i64 y) := by rw [cell_of_row _ _ 1 _ _ _ (heap_alloc_new wr _)]; rfl
      by_cases h1 : y < bk
      · have e1 : decide (y < bk) = true := decide_eq_true h1
        have HT : Hid (Bst (L.take (k + 1)) (x, y)) := by rw [HTK.out]; exact HK.out.turn (.inl h1)
        obtain ⟨⟨g0, g1⟩, ⟨j0, j1⟩, _, _⟩ := ((HF.out.alloc (.cells #[.int .i64 x, .int .i64 y] 39))).cells
        have g2 : ((wr.alloc (.cells #[.int .i64 x, .int .i64 y] 39)).setCell ⟨w.heap.size + 1, 0, none⟩ (.int .i64 x)).cell? ⟨w.heap.size + 1, 1, none⟩ = some (.int .i64 bk) := by
          have := heap_setCell_at (o := 0) (HF.out.alloc (.cells #[.int .i64 x, .int .i64 y] 39)).b (.int .i64 x)
          rw [cell_of_row _ _ 1 _ _ _ this]; rfl
        go_wp2
        go_roundw
        case rel => exact ⟨k + 1, x, y, by go_num, by omega, by omega, (HF.out.alloc _).put, HT.out⟩
        case measure => simp [intOf]; omega
      · have e1 : decide (y < bk) = false := decide_eq_false h1
        by_cases h2 : y = bk
        · have e2 : (y == bk) = true := by simp [h2]
          by_cases h3 : x < bx
          · have e3 : decide (x < bx) = true := decide_eq_true h3
            have HT : Hid (Bst (L.take (k + 1)) (x, y)) := by rw [HTK.out]; exact HK.out.turn (.inr ⟨h2, h3⟩)
            have g2 : ((wr.alloc (.cells #[.int .i64 x, .int .i64 y] 39)).setCell ⟨w.heap.size + 1, 0, none⟩ (.int .i64 x)).cell? ⟨w.heap.size + 1, 1, none⟩ = some (.int .i64 bk) := by
              have := heap_setCell_at (o := 0) (HF.out.alloc (.cells #[.int .i64 x, .int .i64 y] 39)).b (.int .i64 x)
              rw [cell_of_row _ _ 1 _ _ _ this]; rfl
            clear h2
            go_wp2
            go_roundw
            case rel => exact ⟨k + 1, x, y, by go_num, by omega, by omega, (HF.out.alloc _).put, HT.out⟩
            case measure => simp [intOf]; omega
          · have e3 : decide (x < bx) = false := decide_eq_false h3
            have HT : Hid (Bst (L.take (k + 1)) (bx, bk)) := by rw [HTK.out]; exact HK.out.keep (fun q => by simp only at q; omega)
            clear h2
            go_wp2
            go_roundw
            case rel => exact ⟨k + 1, bx, bk, by go_num, by omega, by omega, HF.out.alloc _, HT.out⟩
            case measure => simp [intOf]; omega
        · have e2 : (y == bk) = false := by simp [h2]
          have HT : Hid (Bst (L.take (k + 1)) (bx, bk)) := by rw [HTK.out]; exact HK.out.keep (fun q => by simp only at q; omega)
          go_wp2
          go_roundw
          case rel => exact ⟨k + 1, bx, bk, by go_num, by omega, by omega, HF.out.alloc _, HT.out⟩
          case measure => simp [intOf]; omega
    · have d : decide ((k : Int) < m) = false := decide_eq_false (by omega)
      have d' : decide (k < m) = false := decide_eq_false (by omega)
      have hE : Bst L (bx, bk) := by
        have := HK.out
        rw [List.take_of_length_le (by rw [HM.out]; omega)] at this
        exact this
      have he := hE.uniq HB.out
      obtain ⟨⟨c0, c1⟩, ⟨f0, f1⟩, ⟨r0, r1⟩, ⟨t0, t1⟩⟩ := HF.out.cells
      have g2 : (wr.setCell ⟨w.heap.size, 0, none⟩ (.int .i64 bx)).cell? ⟨w.heap.size, 1, none⟩ = some (.int .i64 0) := by
        have := heap_setCell_at (o := 0) HF.out.r (.int .i64 bx)
        rw [cell_of_row _ _ 1 _ _ _ this]; rfl
      have g3 : (wr.setCell ⟨w.heap.size, 0, none⟩ (.int .i64 bx)).frozen? ⟨w.heap.size, 1, none⟩ = false := by
        have := heap_setCell_at (o := 0) HF.out.r (.int .i64 bx)
        simp [World.frozen?, this]
      have g4 : ((wr.setCell ⟨w.heap.size, 0, none⟩ (.int .i64 bx)).setCell ⟨w.heap.size, 1, none⟩ (.int .i64 bk)).heap[w.heap.size]? = some (.cells #[.int .i64 bx, .int .i64 bk] 39) := by
        have h1 := heap_setCell_at (o := 0) HF.out.r (.int .i64 bx)
        have h2 := heap_setCell_at (o := 1) h1 (.int .i64 bk)
        simpa using h2
      have HBel := hide_it ((HF.out.bel.setCell (p := ⟨w.heap.size, 0, none⟩) (Nat.le_refl _) (.int .i64 bx)).setCell (p := ⟨w.heap.size, 1, none⟩) (Nat.le_refl _) (.int .i64 bk))
      have HG4 := hide_it g4
      have HE := hide_it he
      clear hE he g4 HB
      go_wp2
      have k0 : ((wr.setCell ⟨w.heap.size, 0, none⟩ (.int .i64 bx)).setCell ⟨w.heap.size, 1, none⟩ (.int .i64 bk)).cell? ⟨w.heap.size, 0, none⟩ = some (.int .i64 bx) := by rw [cell_of_row _ _ 0 _ _ _ HG4.out]; rfl
      have k1 : ((wr.setCell ⟨w.heap.size, 0, none⟩ (.int .i64 bx)).setCell ⟨w.heap.size, 1, none⟩ (.int .i64 bk)).cell? ⟨w.heap.size, 1, none⟩ = some (.int .i64 bk) := by rw [cell_of_row _ _ 1 _ _ _ HG4.out]; rfl
      refine bodyPost_ret (v := .tuple #[.agg #[.int .i64 bx, .int .i64 bk], .bool true]) (by simp [results, Try.results22, go_sem, k0, k1]) rfl ⟨?_, HBel.out⟩
      rw [← HE.out]
end Go.Proofs.Ytpcjaleogeoabaa
