/- The document's own ledger: Free and Take. -/
import Derived.Test.YtkcbigmccplpiaaRfa
import Derived.Deep.RegionHeld3
import Derived.Deep.CutRange
import Derived.Deep.CutBlock
import Derived.BigQuiet
namespace Go.Proofs.Ytkcbigmccplpiaa
open Go.RowKit
open M
set_option linter.unusedVariables false
set_option linter.unusedSimpArgs false

/-- All items but those of an id. -/
def rmL (L : List It) (id : Int) : List It := L.filter fun p => !(p.1 == id)
theorem rmL_step {L : List It} {id : Int} {k : Nat} {p : It} (hp : L[k]? = some p) : rmL (L.take (k + 1)) id = rmL (L.take k) id ++ (if p.1 == id then [] else [p]) := by
  obtain ⟨h1, h2⟩ := List.getElem?_eq_some_iff.1 hp
  unfold rmL
  rw [List.take_succ_eq_append_getElem h1, List.filter_append, h2]
  by_cases e : p.1 == id <;> simp [e]
theorem rmL_len (L : List It) (id : Int) : (rmL L id).length ≤ L.length := List.length_filter_le _ _
theorem rmL_same {L : List It} {id : Int} (h : (rmL L id).length = L.length) : rmL L id = L := List.filter_eq_self.2 (List.length_filter_eq_length_iff.1 h)

/-- Another row laid in the place of the one that was there. -/
theorem RM.put {B : Nat} {w w2 : World} {rb : Nat} {bu mn : Int} {v v2 : Value} {L L2 : List It} (h : RM B w rb bu mn v L) (hb : Below w.heap.size w w2) (hr : w2.ownsRow w.heap.size 54 3 v2 L2.length (icells L2)) (hB : B ≤ w.heap.size) :
    RM B (w2.setCell ⟨rb, 2, none⟩ v2) rb bu mn v2 L2 ∧ Turn (fun k => k = rb) w (w2.setCell ⟨rb, 2, none⟩ v2) := by
  have lr := block_lt h.blk
  have hn : ∀ k, v2.ownBlock = some k → w.heap.size ≤ k := fun k hk => (hr.lt k hk).1
  have ne2 : v2.ownBlock ≠ some rb := fun q => by have := hn rb q; omega
  refine ⟨⟨?_, ?_, ne2⟩, Turn.setCell (F := fun k => k = rb) (Turn.of_below hb) (p := ⟨rb, 2, none⟩) (.inl rfl) _⟩
  · have := heap_setCell_at (o := 2) ((hb.block rb lr).trans h.blk) v2
    simpa using this
  · exact owns_keep (owns_base hr (fun k hk => Nat.le_trans hB (hn k hk))) (fun k hk => Below.heap_setCell _ _ _ _ (fun e => ne2 (by rw [hk, e])))

set_option maxRecDepth 1000000 in
set_option maxHeartbeats 4000000 in
theorem rfree_any {B : Nat} {w : World} {rb : Nat} {bu mn : Int} {v : Value} {L : List It} (h : RM B w rb bu mn v L) (hB0 : B ≤ w.heap.size) (hlen : L.length ≤ 100000) (id : Int) {was : Bool} (hw : was = decide ((rmL L id).length = L.length)) :
    Calls Try.prog 15 #[ptr rb, .int .i64 id] w fun e w' => e = .returned (.int .i64 (if was then 6 else 0)) ∧ ∃ v', RM B w' rb bu mn v' (rmL L id) ∧ Turn (fun k => k = rb) w w' ∧ ∀ k, v'.ownBlock = some k → v.ownBlock = some k ∨ w.heap.size ≤ k := by
  obtain ⟨i0, hi0, hz0, hz1, hz2⟩ := info_parts info54
  have q1 := h.c2
  obtain ⟨m, hm⟩ : ∃ m, L.length = m := ⟨_, rfl⟩
  have HC : Hid (∀ W, Below w.heap.size w W → ∀ i, i < m → ∃ (b o c : Nat) (p : It), v = .slice (some ⟨b, o, none⟩) m c ∧ L[i]? = some p ∧ W.cell? ⟨b, o + i * 3, none⟩ = some (.int .i64 p.1) ∧ W.cell? ⟨b, o + i * 3 + 1, none⟩ = some (.int .i64 p.2.1) ∧ W.cell? ⟨b, o + i * 3 + 2, none⟩ = some (.int .i64 p.2.2)) := fun W hW i hi => by
    have := (h.below hW).at_ i (by omega)
    rw [hm] at this
    exact this
  have HQ : Hid (∀ W, Below w.heap.size w W → W.cell? ⟨rb, 2, none⟩ = some v ∧ W.frozen? ⟨rb, 2, none⟩ = false) := fun W hW => ⟨(h.below hW).c2, (h.below hW).fr 2⟩
  have H := hide_it h
  obtain ⟨ao, cap, hv, hc1, hc2⟩ := h.form
  rw [hm] at hv
  subst hv
  have HM := hide_it hm
  have HW := hide_it hw
  clear h hw
  rw [hm] at hlen hc1
  clear hm
  have own0 : (w.alloc (.cells #[] 54)).ownsRow w.heap.size 54 3 (.slice (some ⟨w.heap.size, 0, none⟩) 0 0) 0 [] := World.ownsRow_lit w #[] 0 (Nat.le_refl _) (by simp [maxLen]) (by simp)
  have OW0 := hide_it own0
  have b0 : Below w.heap.size w (w.alloc (.cells #[] 54)) := (Below.refl _ _).alloc (Nat.le_refl _) _
  have B0 := hide_it b0
  clear own0 b0
  go_enter Try.func15, Try.ntmps15
  go_wp2
  go_loopw [5, 6] (fun ov iv W => ∃ (k : Nat) (ao' : Addr) (c' : Nat) (M : List It), ov = .slice (some ao') M.length c' ∧ iv = .int .i64 k ∧ k ≤ m ∧ M.length ≤ k ∧ Hid (Below w.heap.size w W) ∧ Hid (W.ownsRow w.heap.size 54 3 (.slice (some ao') M.length c') M.length (icells M)) ∧ Hid (M = rmL (L.take k) id)) (fun _ iv _ => m - (intOf iv).toNat)
  case atStart => exact ⟨0, _, _, [], rfl, rfl, Nat.zero_le _, Nat.zero_le _, B0, OW0, by simp [Hid, rmL]⟩
  case round =>
    clear OW0 B0 q1
    obtain ⟨k, ao', c', M, rfl, rfl, hk, hMk, hB, hO, hM⟩ := hrel
    have q1 := (HQ.out _ hB.out).1
    by_cases hlt : k < m
    · obtain ⟨b, o, c, p, e, e1, c1, c2, c3⟩ := HC.out _ hB.out k hlt
      obtain ⟨rfl, rfl⟩ : ao = some ⟨b, o, none⟩ ∧ cap = c := by simpa using e
      clear e
      have HST := hide_it (rmL_step (id := id) e1)
      obtain ⟨p1, p2, p3⟩ := p
      simp only at c1 c2 c3
      clear e1
      by_cases hid : p1 = id
      · have d : (p1 != id) = false := by simp [hid]
        have hM2 : Hid (M = rmL (L.take (k + 1)) id) := by
          have := HST.out
          rw [if_pos (by simp [hid]), List.append_nil] at this
          exact hM.out.trans this.symm
        clear hid HST
        go_wp2
        go_roundw
        case rel => exact ⟨k + 1, _, _, M, rfl, by go_num, by omega, by omega, hB, hO, hM2⟩
        case measure => simp [intOf]; omega
      · have d : (p1 != id) = true := by simp [hid]
        have hM2 : Hid (M ++ [(p1, p2, p3)] = rmL (L.take (k + 1)) id) := by
          have := HST.out
          rw [if_neg (by simp [hid])] at this
          show M ++ [(p1, p2, p3)] = _
          rw [this, ← hM.out]
        have hs := hB.out.size
        clear hid HST
        go_wp2_with (at_builtin; refine wpList_append_tell _ rfl (.tmp 27) (.tmp 35) 27 rfl w.heap.size 54 i0 _ 3 24 Try.underlying27 hi0 hz0 hz1 hz2 rfl (by decide) (.slice (some ao') M.length c') M.length (icells M) rfl (hO.out.alloc _) ⟨_, 0, none⟩ 1 1 [.int .i64 p1, .int .i64 p2, .int .i64 p3] rfl rfl (World.news_of_block (heap_alloc_new _ _)) (by simp [Value.oneCell']) (by unfold maxLen; omega) (by omega) (by simp; omega) ?_; intro v' w3 hown' hgrow hfr; have hB3 := hide_it (((hB.out.alloc hs (.cells #[.int .i64 p1, .int .i64 p2, .int .i64 p3] 54))).grown hgrow (by simp; omega) (fun q hq => (hO.out.lt q hq).1)); obtain ⟨ao2, c2', rfl, _⟩ := hown'.form (by omega); have hO3 : Hid (w3.ownsRow w.heap.size 54 3 (.slice (some ⟨ao2, 0, none⟩) (M ++ [(p1, p2, p3)]).length c2') (M ++ [(p1, p2, p3)]).length (icells (M ++ [(p1, p2, p3)]))) := (by rw [icells_app, List.length_append]; exact hown'); clear hown' hgrow hfr)
        go_roundw
        case rel => exact ⟨k + 1, ⟨ao2, 0, none⟩, c2', M ++ [(p1, p2, p3)], by simp, by go_num, by omega, by simp; omega, hB3, hO3, hM2⟩
        case measure => simp [intOf]; omega
    · have d1 : decide ((k : Int) < m) = false := by simp; omega
      have d2 : decide (k < m) = false := by simp; omega
      have f1 := (HQ.out _ hB.out).2
      have HE : Hid (M = rmL L id ∧ was = decide (M.length = m)) := by
        have h1 := hM.out
        rw [List.take_of_length_le (by have := HM.out; omega)] at h1
        refine ⟨h1, ?_⟩
        rw [HW.out, ← h1, HM.out]
      have HF := hide_it (H.out.put hB.out hO.out hB0)
      have HFr : Hid (∀ k, (Value.slice (some ao') M.length c').ownBlock = some k → w.heap.size ≤ k) := fun k hk => (hO.out.lt k hk).1
      have HS : Hid (M.length = m → RM B wr rb bu mn (.slice ao m cap) (rmL L id)) := fun e => by
        have := H.out.below hB.out
        rw [rmL_same (L := L) (id := id) (by rw [← HE.out.1, e, HM.out])]
        exact this
      have HT : Hid (Turn (fun k => k = rb) w wr) := Turn.of_below hB.out
      obtain ⟨ml, hml⟩ : ∃ ml, M.length = ml := ⟨_, rfl⟩
      rw [hml] at HE HF hMk HFr HS
      simp only [hml]
      clear hM hO hml HC HQ H HW
      by_cases hE : ml = m
      · have d3 : ((ml : Int) == m) = true := by simp [hE]
        have d4 : (ml == m) = true := by simp [hE]
        have e6 : was = true := by rw [HE.out.2]; simpa using hE
        have HS2 := hide_it (HS.out hE)
        subst e6
        clear hE HS HF HE
        go_wp2
        go_ret
        exact ⟨rfl, _, HS2, HT.out, fun k hk => .inl hk⟩
      · have d3 : ((ml : Int) == m) = false := by simp; omega
        have d4 : (ml == m) = false := by simp; omega
        have e6 : was = false := by rw [HE.out.2]; simpa using hE
        subst e6
        clear hE HS
        go_wp2
        go_ret
        refine ⟨rfl, _, ?_, HF.out.2, fun k hk => .inr (HFr.out k hk)⟩
        rw [← HE.out.1]
        exact HF.out.1
end Go.Proofs.Ytkcbigmccplpiaa
