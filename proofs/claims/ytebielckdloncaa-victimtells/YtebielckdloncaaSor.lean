/- slices.SortFunc of places, by order bound to what runs. -/
import Derived.Test.YtebielckdloncaaPdq
import Derived.Test.YtebielckdloncaaOrd
import Derived.Test.YtebielckdloncaaShelf
import Derived.Deep.LoopGhost
namespace Go.Proofs.Ytebielckdloncaa
open Go.Shelf Go.RowKit Go.Lib Go.Sort
open M
set_option linter.unusedVariables false
set_option linter.unusedSimpArgs false

theorem RunsIn.keep {w W : World} {a : Option Addr} {l : List R} (h : RunsIn w a l) (hs : w.heap.size ≤ W.heap.size) (hk : ∀ b o, a = some ⟨b, o, none⟩ → W.heap[b]? = w.heap[b]?) : RunsIn W a l := by
  intro i hi
  obtain ⟨b, o, e, hb, c0, c1, c2, c3, c4⟩ := h i hi
  have hq := hk b o e
  have hc : ∀ k, W.cell? ⟨b, k, none⟩ = w.cell? ⟨b, k, none⟩ := fun k => by unfold World.cell?; simp only [hq]
  exact ⟨b, o, e, by omega, by rw [hc]; exact c0, by rw [hc]; exact c1, by rw [hc]; exact c2, by rw [hc]; exact c3, by rw [hc]; exact c4⟩
theorem RunsIn.below {w W : World} {a : Option Addr} {l : List R} (h : RunsIn w a l) (hb : Go.RowKit.Below w.heap.size w W) : RunsIn W a l := by
  intro i hi
  obtain ⟨b, o, e, hl, c0, c1, c2, c3, c4⟩ := h i hi
  exact ⟨b, o, e, Nat.lt_of_lt_of_le hl hb.size, by rw [hb.cell (p := ⟨b, _, none⟩) hl]; exact c0, by rw [hb.cell (p := ⟨b, _, none⟩) hl]; exact c1, by rw [hb.cell (p := ⟨b, _, none⟩) hl]; exact c2, by rw [hb.cell (p := ⟨b, _, none⟩) hl]; exact c3, by rw [hb.cell (p := ⟨b, _, none⟩) hl]; exact c4⟩

section
variable {n : Nat}
/-- A place. -/
def encF (i : Fin (n + 1)) : Value := .int .i64 (i.val : Int)
def cfF (l : List R) (i j : Fin (n + 1)) : Int := cfN l i.val j.val
theorem ltF (l : List R) (i j : Fin (n + 1)) : ltOf (cfF l) i j = decide (plt l i.val j.val) := by
  unfold ltOf cfF
  rw [Bool.eq_iff_iff, decide_eq_true_eq, decide_eq_true_eq]
  exact cfN_lt l _ _
theorem swoF (l : List R) : SWO (ltOf (cfF (n := n) l)) where
  irrefl x := by rw [ltF]; simp [plt_irrefl]
  trans x y z h1 h2 := by
    rw [ltF, decide_eq_true_eq] at *
    exact plt_trans h1 h2
  ntrans x y z h1 h2 := by
    rw [ltF, decide_eq_false_iff_not] at *
    intro q
    by_cases e : x.val = y.val
    · rw [e] at q; exact h2 q
    · rcases plt_total (l := l) e with r | r
      · exact h1 r
      · exact h2 (plt_trans r q)
end

theorem row_block {w : World} {g cap m : Nat} {xs : List Value} (h : w.ownsRow 0 3 1 (.slice (some ⟨g, 0, none⟩) m cap) m xs) : ∃ cur, w.heap[g]? = some (.cells cur 3) ∧ m ≤ cap ∧ cap ≤ maxLen ∧ cur.size = cap * 1 ∧ cur.toList.take (m * 1) = xs := by
  rcases h.2 with ⟨e, _⟩ | ⟨g', c, cur, e, _, hg, h1, h2, h3, h4⟩
  · cases e
  · cases e
    exact ⟨cur, hg, h1, h2, h3, h4⟩

set_option maxRecDepth 100000 in
set_option maxHeartbeats 2000000 in
theorem sort_any (l : List R) (la : Option Addr) (n cap : Nat) (pr mo : Int) (D : List Nat) (g capg m : Nat) (w : World) (hl : l.length = n) (hn : n ≤ 1000000) (hR : RunsIn w la l) (hg : ∀ b o, la = some ⟨b, o, none⟩ → b ≠ g)
    (hD : ∀ p ∈ D, p < n) (nd : D.Nodup) (hm : D.length = m) (h0 : 0 < m) (h49 : m < 50) (ho : w.ownsRow 0 3 1 (.slice (some ⟨g, 0, none⟩) m capg) m (ints (D.map Int.ofNat))) :
    Calls Try.prog 20 #[.slice (some ⟨g, 0, none⟩) m capg, .func (.func 21) #[.agg #[.slice la n cap, .int .i64 pr, .int .i64 mo]] #[]] w fun e w' => e = .returned (.tuple #[]) ∧ ∃ S : List Nat, S.Perm D ∧ S.Pairwise (plt l) ∧ Turn (fun k => k = g) w w' ∧ w'.ownsRow 0 3 1 (.slice (some ⟨g, 0, none⟩) m capg) m (ints (S.map Int.ofNat)) := by
  obtain ⟨n', rfl⟩ : ∃ q, n = q + 1 := by
    cases D with
    | nil => simp at hm; omega
    | cons p _ => have := hD p (by simp); exact ⟨n - 1, by omega⟩
  obtain ⟨d, hd⟩ : ∃ d : List (Fin (n' + 1)), d.map Fin.val = D := by
    clear nd hm ho
    induction D with
    | nil => exact ⟨[], rfl⟩
    | cons p D ih =>
      obtain ⟨d, h⟩ := ih (fun q hq => hD q (by simp [hq]))
      exact ⟨⟨p, hD p (by simp)⟩ :: d, by simp [h]⟩
  obtain ⟨cur, hgw, hc1, hc2, hc3, hc4⟩ := row_block ho
  have hdl : d.toArray.size = m := by rw [← hm, ← hd]; simp
  have hcell : ∀ j, (h : j < m) → w.cell? ⟨g, j, none⟩ = some (.int .i64 (D[j]'(by omega) : Nat)) := fun j h => by
    rw [cell_of_row w g j _ _ _ hgw, ← Array.getElem?_toList]
    have e1 : cur.toList[j]? = (cur.toList.take (m * 1))[j]? := by rw [List.getElem?_take_of_lt (by omega)]
    rw [e1, hc4, ints_at _ (by simp; omega)]
    simp
  have hH : Holds (encF (n := n')) w g 0 d.toArray := fun j hj => by
    rw [hdl] at hj
    refine ⟨?_, by simp [World.frozen?, hgw]⟩
    rw [Nat.zero_add, hcell j hj]
    have hj2 : j < d.length := by rw [← List.size_toArray, hdl]; exact hj
    simp only [encF, ← hd, List.getElem_map]
    rw [getElem!_pos _ j (by simpa using hj2)]
    simp
  have hgl := block_lt hgw
  have R1 : Row1 (encF (n := n')) w g 0 d.toArray := ⟨fun _ => rfl, hH, hgl⟩
  have hC : CmpM (.agg #[.slice la (n' + 1) cap, .int .i64 pr, .int .i64 mo]) (encF (n := n')) (cfF l) g 0 d.toArray.size w := fun W dk _ hS x y => by
    have ht := below_sw hS
    exact order_any l la (n' + 1) cap x.val y.val pr mo W hl (hR.keep ht.size (fun b o e => by
      by_cases hb : b < w.heap.size
      · exact ht.block b hb (hg b o e)
      · exfalso
        cases l with
        | nil => simp at hl
        | cons r l =>
          obtain ⟨b', o', e', hb', _⟩ := hR 0 (by simp)
          rw [e] at e'; cases e'; exact hb hb')) x.isLt y.isLt hn
  have hP := fun lim (h : lim ≤ 100) => pdq_any (cap := capg) hC R1 (swoF l) (m + 1) 0 m lim d.toArray w (by omega) rfl (SW.start hH) (Nat.zero_le _) (by omega) (by omega) h (Or.inl rfl)
  rw [hdl] at hP
  obtain ⟨lim, hlim, hLen⟩ : ∃ lim : Nat, lim ≤ 62 ∧ Calls Try.prog 23 #[.int .u64 (m : Int)] w fun e w' => e = .returned (.int .i64 (lim : Nat)) ∧ w' = w := by
    have h := Any.bits_Len (SlLaysF0.n15.bits Try.lenL) (m : Int) w (by omega) (by omega)
    rw [Int.toNat_natCast] at h
    change Calls Try.prog 23 _ _ _ at h
    exact ⟨Lib.bitLen m, Lib.bitLen_le m 62 (by omega) (by omega), h⟩
  have hP2 := hP lim (by omega)
  have HG : Hid (0 < m ∧ m < 50) := ⟨h0, h49⟩
  have hm50 : (m : Int) < 50 := by omega
  clear hP hH R1 hC hgl hcell ho hR hg
  go_enter Try.func20, Try.ntmps20
  go_wp2_with (first | (go_at_call 23; refine hLen.mono ?_; rintro e w9 ⟨rfl, rfl⟩) | (go_at_call 22; refine hP2.mono ?_; rintro e w' ⟨rfl, d', p1, p2, hS⟩))
  go_end0
  have ht := below_sw hS
  have hs' : d'.size = m := p1.1.trans hdl
  refine ⟨rfl, d'.toList.map Fin.val, ?_, ?_, ht, ?_⟩
  · have e1 := p1.2.2
    have e2 : (d'.extract 0 m).toList = d'.toList := by rw [← hs']; simp
    have e3 : (d.toArray.extract 0 m).toList = d := by rw [← hdl]; simp
    rw [e2, e3] at e1
    rw [← hd]
    exact e1.map _
  · rw [List.pairwise_map, List.pairwise_iff_getElem]
    intro i j hi hj hij
    have h := p2 i j (Nat.zero_le _) hij (by simp at hj; omega)
    rw [getElem!_pos d' i (by simpa using hi), getElem!_pos d' j (by simpa using hj), ltF, decide_eq_false_iff_not] at h
    simp only [Array.getElem_toList]
    have ne : (d'[i]'(by simpa using hi)).val ≠ (d'[j]'(by simpa using hj)).val := by
      have e1 := p1.2.2
      have e2 : (d'.extract 0 m).toList = d'.toList := by rw [← hs']; simp
      have e3 : (d.toArray.extract 0 m).toList = d := by rw [← hdl]; simp
      rw [e2, e3] at e1
      have nd2 : (d'.toList.map Fin.val).Nodup := (e1.map Fin.val).symm.nodup (by rw [hd]; exact nd)
      intro q
      have := (List.getElem_inj (xs := d'.toList.map Fin.val) (i := i) (j := j) (h₀ := by simpa using hi) (h₁ := by simpa using hj) nd2).1 (by simpa using q)
      omega
    rcases plt_total (l := l) ne with z | z
    · exact z
    · exact absurd z h
  · obtain ⟨q, os, rfl⟩ := hS
    have hg2 : (sortWorld encF w9 g 0 q d' os).heap[g]? = some (.cells (putCells encF 0 d' cur) 3) := by
      unfold sortWorld
      have hgl := block_lt hgw
      rw [heap_grow_old _ os (by rw [size_putRow]; exact hgl)]
      have hq : (Sort.ahead w9 q).heap[g]? = some (.cells cur 3) := hgw
      show ((Sort.ahead w9 q).heap.modify g (onCells (putCells encF 0 d')))[g]? = _
      rw [Array.getElem?_modify, if_pos rfl, hq]
      rfl
    have hsz : (putCells encF 0 d' cur).size = cur.size := by simp [putCells]
    refine ⟨by simp [hs'], .inr ⟨g, capg, _, rfl, Nat.zero_le _, hg2, hc1, hc2, by rw [hsz]; exact hc3, ?_⟩⟩
    apply List.ext_getElem?
    intro k
    by_cases hk : k < m
    · rw [List.getElem?_take_of_lt (by omega), Array.getElem?_toList]
      have hk2 : k < d'.size := by omega
      have hk3 : k < cur.size := by omega
      simp only [putCells, Array.getElem?_mapIdx, Array.getElem?_eq_getElem hk3, Option.map_some]
      rw [if_pos ⟨Nat.zero_le _, by omega⟩]
      simp [encF, hk2]
    · rw [List.getElem?_eq_none (by simp; omega), List.getElem?_eq_none (by simp [hs']; omega)]
end Go.Proofs.Ytebielckdloncaa
