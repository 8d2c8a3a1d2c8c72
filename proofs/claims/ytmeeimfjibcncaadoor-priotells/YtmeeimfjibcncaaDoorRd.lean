/- Has, Out and In of package graph; ints. -/
import Derived.Test.YtmeeimfjibcncaaDoorAdN
import Derived.Deep.QuietTactic
import Derived.BigQuiet
namespace Go.Proofs.YtmeeimfjibcncaaDoor
open Go.RowKit
open M
set_option linter.unusedVariables false
set_option linter.unusedSimpArgs false

def hasB (n : Nat) (es : List E) (a b : Int) : Bool := (!([a, b].any (offB n))) && decide ((a.toNat, b.toNat) ∈ es)

/-- Edges in a slice. -/
def EAt (w : World) (ao : Option Addr) (es : List E) : Prop := ∀ i (h : i < es.length), ∃ r, ao = some ⟨r, 0, none⟩ ∧ r < w.heap.size ∧ w.cell? ⟨r, i * 2, none⟩ = some (.int .i64 (es[i].1 : Nat)) ∧ w.cell? ⟨r, i * 2 + 1, none⟩ = some (.int .i64 (es[i].2 : Nat))
theorem EAt.below {w w' : World} {ao : Option Addr} {es : List E} (h : EAt w ao es) (hb : Below w.heap.size w w') : EAt w' ao es := by
  intro i hi
  obtain ⟨r, h1, h2, h3, h4⟩ := h i hi
  exact ⟨r, h1, Nat.lt_of_lt_of_le h2 hb.size, by rw [hb.cell (p := ⟨r, _, none⟩) h2]; exact h3, by rw [hb.cell (p := ⟨r, _, none⟩) h2]; exact h4⟩
theorem own_eat {w : World} {base : Nat} {v : Value} {es : List E} {T : TypeId} (h : w.ownsRow base T 2 v es.length (ecells es)) : ∃ ao cap, v = .slice ao es.length cap ∧ EAt w ao es := by
  rcases h.2 with ⟨rfl, hz⟩ | ⟨r, cap, cur, rfl, hb, hg, _⟩
  · exact ⟨none, 0, by rw [hz], fun i hi => by omega⟩
  · refine ⟨some ⟨r, 0, none⟩, cap, rfl, fun i hi => ⟨r, rfl, block_lt hg, ?_, ?_⟩⟩
    · have := h.cells (g := r) rfl (i * 2) _ (ecells_at es i hi).1
      simpa [Addr.add_lit] using this
    · have := h.cells (g := r) rfl (i * 2 + 1) _ (ecells_at es i hi).2
      simpa [Addr.add_lit] using this

theorem owns_nil (w : World) (base : Nat) : OwnI w base (.slice none 0 0) [] := World.ownsRow_nil _ _ _ _
theorem outs_take (es : List E) (a : Int) (k : Nat) (h : k < es.length) : outs (es.take (k + 1)) a = if (es[k].1 : Int) = a then outs (es.take k) a ++ [es[k].2] else outs (es.take k) a := by
  unfold outs
  rw [List.take_succ_eq_append_getElem h, List.filter_append, List.map_append]
  by_cases hc : (es[k].1 : Int) = a
  · simp [hc]
  · simp [hc]
theorem outs_len (es : List E) (a : Int) : (outs es a).length ≤ es.length := by unfold outs; simp; exact List.length_filter_le _ _
theorem own_snoc {w : World} {base : Nat} {v : Value} {xs : List Nat} {x : Nat} (h : w.ownsRow base 3 1 v (xs.length + 1) (xs.map (fun x => Value.int .i64 (x : Nat)) ++ [.int .i64 x])) : OwnI w base v (xs ++ [x]) := by
  show w.ownsRow base 3 1 v (xs ++ [x]).length ((xs ++ [x]).map _)
  rw [List.length_append, List.map_append]
  exact h

set_option maxRecDepth 1000000 in
set_option maxHeartbeats 2000000 in
theorem out_any {w : World} {g eb n : Nat} {v : Value} {es : List E} (h : GM w g eb n v es) (a : Int) (hle : es.length ≤ 1000000) :
    Calls Tryd.prog 20 #[ptr g, .int .i64 a] w fun e w' => ∃ u, e = .returned u ∧ OwnI w' w.heap.size u (outs es a) ∧ Below w.heap.size w w' := by
  obtain ⟨ao, cap, rfl, hE⟩ := own_eat h.own
  have c0 := h.c0
  have HE := hide_it hE
  obtain ⟨m, hm⟩ : ∃ m, es.length = m := ⟨_, rfl⟩
  have HN := hide_it hm
  rw [hm] at c0 hle
  obtain ⟨i0, hi, hz0, hz1, hz2⟩ := info_parts info3
  clear h hE hm
  go_enter Tryd.func20, Tryd.ntmps20
  go_wp2
  go_loopw [5, 13] (fun u i W => Hid (Below w.heap.size w W) ∧ ∃ k : Nat, k ≤ m ∧ i = .int .i64 k ∧ Hid (OwnI W w.heap.size u (outs (es.take k) a))) (fun _ i _ => m - (intOf i).toNat)
  case atStart => exact ⟨Below.refl _ _, 0, Nat.zero_le _, rfl, owns_nil _ _⟩
  case round =>
    obtain ⟨hBr, k, hk, rfl, HO⟩ := hrel
    by_cases hlt : k < m
    · have hlx : k < es.length := by rw [HN.out]; exact hlt
      obtain ⟨r, rfl, hrw, c1, c2⟩ := (HE.out.below hBr.out) k hlx
      have HT := hide_it (outs_take es a k hlx)
      have hl := outs_len (es.take k) a
      have hl2 : (es.take k).length ≤ k := List.length_take_le _ _
      generalize es[k] = ed at *
      obtain ⟨x, y⟩ := ed
      simp only at c1 c2 HT
      have hsz : w.heap.size ≤ wr.heap.size := hBr.out.size
      by_cases hxa : (x : Int) = a
      · rw [if_pos hxa] at HT
        subst hxa
        go_wp2_with (at_builtin; (refine wpList_append_tell _ rfl (.tmp 21) (.tmp 24) 38 rfl w.heap.size 3 i0 _ 1 8 Tryd.underlying38 hi hz0 hz1 hz2 rfl (by decide) _ (outs (es.take k) x).length ((outs (es.take k) x).map fun x => Value.int .i64 (x : Nat)) rfl ((HO.out.alloc _).alloc _) ⟨_, 0, none⟩ 1 1 [.int .i64 y] rfl rfl (World.news_of_block (heap_alloc_at (by simp) _)) (by simp [Value.oneCell']) (by unfold maxLen; omega) (by omega) (by simp; omega) ?_; intro v' w2 hown' hgrow hfr))
        go_roundw
        case rel =>
          refine ⟨?_, k + 1, by omega, by go_num, ?_⟩
          · exact (((hBr.out.alloc (by omega) _).alloc (by simp; omega) _).grown hgrow (by simp; omega) (fun k hk => (HO.out.lt k hk).1))
          · unfold Hid
            rw [HT.out]
            exact own_snoc hown'
        case measure => simp [intOf]; omega
      · rw [if_neg hxa] at HT
        have hxb : ((x : Int) == a) = false := by simpa using hxa
        go_wp2
        go_roundw
        case rel => exact ⟨hBr.out.alloc (by omega) _, k + 1, by omega, by go_num, by unfold Hid; rw [HT.out]; exact HO.out.alloc _⟩
        case measure => simp [intOf]; omega
    · go_wp2
      go_ret
      have e := HO.out
      rw [List.take_of_length_le (by rw [HN.out]; omega)] at e
      exact ⟨_, rfl, e, hBr.out⟩
theorem ins_take (es : List E) (a : Int) (k : Nat) (h : k < es.length) : ins (es.take (k + 1)) a = if (es[k].2 : Int) = a then ins (es.take k) a ++ [es[k].1] else ins (es.take k) a := by
  unfold ins
  rw [List.take_succ_eq_append_getElem h, List.filter_append, List.map_append]
  by_cases hc : (es[k].2 : Int) = a
  · simp [hc]
  · simp [hc]
theorem ins_len (es : List E) (a : Int) : (ins es a).length ≤ es.length := by unfold ins; simp; exact List.length_filter_le _ _

end Go.Proofs.YtmeeimfjibcncaaDoor
