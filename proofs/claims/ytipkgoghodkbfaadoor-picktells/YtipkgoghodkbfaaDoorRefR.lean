/- The document's own Reach and Reaches. -/
import Derived.Test.YtipkgoghodkbfaaDoorRefA
import Derived.Test.YtipkgoghodkbfaaDoorRfM
import Derived.Deep.OwnRows
import Derived.Deep.DeepCutAuto
namespace Go.Proofs.YtipkgoghodkbfaaDoor
open Go.RowKit
open M
set_option linter.unusedVariables false
set_option linter.unusedSimpArgs false

def sRow (n : Nat) (p : Nat → Bool) : Array Value := ((List.range n).map fun i => Value.bool (p i)).toArray
theorem sRow_at (n : Nat) (p : Nat → Bool) (i : Nat) (h : i < n) : (sRow n p)[i]? = some (.bool (p i)) := by simp [sRow, h]
theorem sRow_set (n : Nat) (p : Nat → Bool) (j : Nat) (hj : j < n) : (sRow n p).setIfInBounds j (.bool true) = sRow n (markB p j) := by
  apply Array.ext
  · simp [sRow]
  · intro i h1 h2
    have hi : i < n := by simpa [sRow] using h2
    have e2 : (sRow n (markB p j))[i] = .bool (markB p j i) := by
      have := sRow_at n (markB p j) i hi
      rw [Array.getElem?_eq_getElem h2] at this
      exact Option.some.inj this
    refine Eq.trans ?_ e2.symm
    rw [Array.getElem_setIfInBounds (by simpa using h1)]
    unfold markB
    by_cases he : j = i
    · subst he; simp
    · have e3 := sRow_at n p i hi
      rw [Array.getElem?_eq_getElem (by simpa using h1)] at e3
      have e4 : ¬ i = j := fun e => he e.symm
      simp only [he, if_false, e4, decide_false, Bool.or_false]
      exact Option.some.inj e3
theorem info4 : (Tryd.prog.info? 4).map (fun i => (i.zero, i.size, i.bytes)) = some (some (.bool false), 1, 1) := by kernel_rfl
theorem sRow_new (n : Nat) : madeCells #[.bool false] n = sRow n (fun _ => false) := by
  rw [← Array.toList_inj, toList_madeCells_one, sRow, List.toList_toArray]
  show List.replicate n (Value.bool false) = (List.range n).map fun _ => Value.bool false
  rw [List.map_const', List.length_range]

/-- What the document's Reach holds. -/
structure RS (w W : World) (n : Nat) (p : Nat → Bool) : Prop where
  bel : Below w.heap.size w W
  blk : W.heap[w.heap.size + 1]? = some (.cells (sRow n p) 4)
  own : OwnI W w.heap.size (.slice (some ⟨w.heap.size, 0, none⟩) 0 0) []
section
variable {w W : World} {n : Nat} {p : Nat → Bool}
theorem RS.cell (h : RS w W n p) (i : Nat) (hi : i < n) : W.cell? ⟨w.heap.size + 1, i, none⟩ = some (.bool (p i)) := by
  rw [cell_of_row W _ i _ _ _ h.blk]; exact sRow_at n p i hi
theorem RS.fro (h : RS w W n p) (i : Nat) : W.frozen? ⟨w.heap.size + 1, i, none⟩ = false := by simp [World.frozen?, h.blk]
theorem RS.set (h : RS w W n p) (j : Nat) (hj : j < n) : RS w (W.setCell ⟨w.heap.size + 1, j, none⟩ (.bool true)) n (markB p j) := by
  refine ⟨h.bel.setCell (by show w.heap.size ≤ w.heap.size + 1; omega) _, ?_, owns_keep h.own (fun k hk => Below.heap_setCell _ _ _ _ ?_)⟩
  · rw [heap_setCell_at h.blk, sRow_set n p j hj]
  · simp [Value.ownBlock] at hk
    show k ≠ w.heap.size + 1
    omega
end

/-- .. and while it tells. -/
structure T3 (w W : World) (n : Nat) (p : Nat → Bool) (u : Value) (L : List Nat) : Prop where
  bel : Below w.heap.size w W
  blk : W.heap[w.heap.size + 1]? = some (.cells (sRow n p) 4)
  own : OwnI W w.heap.size u L
  ne : u.ownBlock ≠ some (w.heap.size + 1)
theorem T3.app {w W : World} {n : Nat} {p : Nat → Bool} {u : Value} {L : List Nat} (h : T3 w W n p u L) {w2 : World} {u' : Value} {b : Nat} {o : Obj} (hown : w2.ownsRow w.heap.size 3 1 u' (L.length + 1) (L.map (fun x => Value.int .i64 (x : Nat)) ++ [.int .i64 b])) (hg : (W.alloc o).grownBy w2 u.ownBlock) (hf : Fresh (W.alloc o) u u') : T3 w w2 n p u' (L ++ [b]) := by
  have hs := block_lt h.blk
  refine ⟨(h.bel.alloc h.bel.size o).grown hg (by have := h.bel.size; simp; omega) (fun k hk => (h.own.lt k hk).1), ?_, own_snoc hown, ?_⟩
  · rw [hg.block _ (by simp; omega) (fun e => h.ne e.symm), Below.heap_alloc _ _ _ hs]; exact h.blk
  · rcases hf with q | ⟨k, q1, q2⟩
    · rw [q]; exact h.ne
    · rw [q1]; intro e; cases e; simp at q2; omega

set_option maxRecDepth 1000000 in
set_option maxHeartbeats 4000000 in
theorem rreach_off {w : World} {r n : Nat} {v : Value} {es : List E} (h : RM w r n v es) (hn : n ≤ 64) (a : Int) (ho : offB n a = true) :
    Calls Tryd.prog 40 #[ptr r, .int .i64 a] w fun e w' => ∃ u, e = .returned u ∧ OwnI w' w.heap.size u (reachL n es a) ∧ Below w.heap.size w w' := by
  have hL : reachL n es a = [] := by unfold reachL; rw [if_pos ho]
  rw [hL]
  have hb : Below w.heap.size w (w.alloc (.cells #[] 3)) := (Below.refl _ _).alloc (Nat.le_refl _) _
  have k1 := there_any r n a (w.alloc (.cells #[] 3)) hn (h.below hb).c0
  rw [ho] at k1
  have hst : Hid (OwnI (w.alloc (.cells #[] 3)) w.heap.size (.slice (some ⟨w.heap.size, 0, none⟩) 0 0) []) := World.ownsRow_made w #[] 0 (Nat.le_refl _) (by simp [maxLen]) (by simp)
  clear h hL ho
  go_enter Tryd.func40, Tryd.ntmps40
  go_wp2_with (go_at_call 24; refine k1.mono ?_; rintro e w1 ⟨rfl, rfl⟩)
  go_ret
  exact ⟨_, rfl, hst.out, hb⟩

set_option maxRecDepth 1000000 in
set_option maxHeartbeats 4000000 in
theorem rreach_in {w : World} {r n : Nat} {v : Value} {es : List E} (h : RM w r n v es) (hn : n ≤ 64) (a : Nat) (ha : a < n) (hg : ∀ e ∈ es, e.1 < n ∧ e.2 < n) (hle : es.length ≤ 1000000) :
    Calls Tryd.prog 40 #[ptr r, .int .i64 a] w fun e w' => ∃ u, e = .returned u ∧ OwnI w' w.heap.size u (rise (rset es a)) ∧ Below w.heap.size w w' := by
  have hb : Below w.heap.size w (w.alloc (.cells #[] 3)) := (Below.refl _ _).alloc (Nat.le_refl _) _
  have k1 := there_any r n a (w.alloc (.cells #[] 3)) hn (h.below hb).c0
  have o1 : (!offB n a) = true := by simp [offB]; omega
  rw [o1] at k1
  have hk : ∀ W : World, (Instr.makeSlice 82 (.int .i64 n) (.int .i64 n)).run Tryd.prog W = .ok (.slice (some ⟨W.heap.size, 0, none⟩) n n) (W.alloc (.cells (madeCells #[.bool false] n) 4)) := fun W =>
    run_make_row' 82 4 (.bool false) 1 Tryd.underlying82 info4 rfl .i64 .i64 n (by omega) (by omega) W
  simp only [sRow_new] at hk
  have hrs : Hid (RS w ((w.alloc (.cells #[] 3)).alloc (.cells (sRow n (fun _ => false)) 4)) n (fun _ => false)) := by
    refine ⟨hb.alloc (by simp) _, ?_, (World.ownsRow_made w #[] 0 (Nat.le_refl _) (by simp [maxLen]) (by simp) : OwnI (w.alloc (.cells #[] 3)) w.heap.size _ []).alloc _⟩
    exact heap_alloc_at (by simp) _
  have e0 := (h.below hb).c0
  obtain ⟨ao, cap, rfl, hE⟩ := h.eat
  obtain ⟨m, hm⟩ : ∃ m, es.length = m := ⟨_, rfl⟩
  have HN := hide_it hm
  have hcc : Hid (∀ W, Below w.heap.size w W → W.cell? ⟨r, 0, none⟩ = some (.int .i64 n) ∧ W.cell? ⟨r, 1, none⟩ = some (.slice ao m cap)) := fun W hb => ⟨(h.below hb).c0, by rw [(h.below hb).c1, hm]⟩
  have HE := hide_it hE
  have HG := hide_it hg
  have HU := hide_it (rise_upto ha hn hg)
  have HA := hide_it (rounds_all ha hg)
  rw [hm] at hle
  clear h hE hm hg o1
  go_enter Tryd.func40, Tryd.ntmps40
  go_upto_region 6 with (go_at_call 24; refine k1.mono ?_; rintro e w1 ⟨rfl, rfl⟩)
  obtain ⟨w2, hw2⟩ : ∃ w2, (w.alloc (.cells #[] 3)).alloc (.cells (sRow n (fun _ => false)) 4) = w2 := ⟨_, rfl⟩
  rw [hw2] at hrs
  rw [hw2]
  clear hw2 hk k1 e0 hb
  have cx := hrs.out.cell a ha
  have cf := hrs.out.fro a
  have hr2 := hide_it (hrs.out.set a ha)
  clear hrs
  obtain ⟨P0, hP0⟩ : ∃ P0, markB (fun _ => false) a = P0 := ⟨_, rfl⟩
  rw [hP0] at hr2 HA
  clear hP0
  obtain ⟨i0, hi, hz0, hz1, hz2⟩ := info_parts info3
  go_wp2
  go_loopw [8] (fun i W => ∃ k : Nat, k ≤ n ∧ i = .int .i64 k ∧ Hid (RS w W n (rounds es P0 k))) (fun i _ => n - (intOf i).toNat)
  case atStart => exact ⟨0, Nat.zero_le _, rfl, hr2⟩
  case round =>
    obtain ⟨k, hk, rfl, s⟩ := hrel
    obtain ⟨w3, rfl⟩ : ∃ W, W = wr := ⟨_, rfl⟩
    obtain ⟨d0, d1⟩ := hcc.out _ s.out.bel
    by_cases hlt : k < n
    · obtain ⟨Pk, hPk⟩ : ∃ Pk, rounds es P0 k = Pk := ⟨_, rfl⟩
      have hnext : Hid (rounds es P0 (k + 1) = pass es Pk) := by unfold Hid; rw [← hPk]; rfl
      rw [hPk] at s
      clear hPk
      go_wp2
      go_loopw [9] (fun i W => ∃ j : Nat, j ≤ m ∧ i = .int .i64 j ∧ Hid (RS w W n (pass (es.take j) Pk))) (fun i _ => m - (intOf i).toNat)
      case atStart => exact ⟨0, Nat.zero_le _, rfl, s⟩
      case round =>
        obtain ⟨j, hj, rfl, s⟩ := hrel
        obtain ⟨w4, rfl⟩ : ∃ W, W = wr := ⟨_, rfl⟩
        obtain ⟨f0, f1⟩ := hcc.out _ s.out.bel
        clear d0 d1
        by_cases hjm : j < m
        · have hjx : j < es.length := by rw [HN.out]; exact hjm
          obtain ⟨rb, rfl, hrw, e1, e2⟩ := (HE.out.below s.out.bel) j hjx
          have HT := hide_it (pass_take es Pk j hjx)
          have hxy := HG.out _ (List.getElem_mem hjx)
          generalize es[j] = ed at *
          obtain ⟨x, y⟩ := ed
          simp only at e1 e2 HT hxy
          obtain ⟨hxn, hyn⟩ := hxy
          obtain ⟨Pj, hPj⟩ : ∃ Pj, pass (es.take j) Pk = Pj := ⟨_, rfl⟩
          rw [hPj] at s HT
          clear hPj
          have cx := s.out.cell x hxn
          have cy := s.out.cell y hyn
          have fy := s.out.fro y
          have hset := hide_it (s.out.set y hyn)
          cases hp : Pj x with
          | true =>
            have HT2 : Hid (pass (es.take (j + 1)) Pk = markB Pj y) := by unfold Hid; rw [HT.out]; unfold onE; rw [if_pos hp]
            rw [hp] at cx
            generalize Pj y = py at cy
            clear HT hp
            go_wp2
            go_roundw
            case rel => exact ⟨j + 1, by omega, by go_num, by rw [HT2.out]; exact hset⟩
            case measure => simp [intOf]; omega
          | false =>
            have HT2 : Hid (pass (es.take (j + 1)) Pk = Pj) := by unfold Hid; rw [HT.out]; unfold onE; rw [if_neg (by rw [hp]; exact Bool.false_ne_true)]
            rw [hp] at cx
            clear HT hp cy fy hset
            go_wp2
            go_roundw
            case rel => exact ⟨j + 1, by omega, by go_num, by rw [HT2.out]; exact s⟩
            case measure => simp [intOf]; omega
        · have hx : es.take j = es := List.take_of_length_le (by rw [HN.out]; omega)
          rw [hx, ← hnext.out] at s
          clear hx
          go_wp2
          go_roundw
          case rel => exact ⟨k + 1, by omega, by go_num, s⟩
          case measure => simp [intOf]; omega
    · obtain rfl : k = n := by omega
      rw [HA.out] at s
      have t : Hid (T3 w w3 k (rB es a) (.slice (some ⟨w.heap.size, 0, none⟩) 0 0) ((List.range' 0 0).filter (rB es a))) := ⟨s.out.bel, s.out.blk, s.out.own, by simp [Value.ownBlock]⟩
      clear s HA
      obtain ⟨p, hp⟩ : ∃ p, rB es a = p := ⟨_, rfl⟩
      rw [hp] at HU t
      clear hp
      go_wp2
      go_loopw [5, 10] (fun u i W => ∃ q : Nat, q ≤ k ∧ i = .int .i64 q ∧ Hid (T3 w W k p u ((List.range' 0 q).filter p))) (fun _ i _ => k - (intOf i).toNat)
      case atStart => exact ⟨0, Nat.zero_le _, rfl, t⟩
      case round =>
        obtain ⟨q, hq, rfl, t⟩ := hrel
        obtain ⟨w5, rfl⟩ : ∃ W, W = wr := ⟨_, rfl⟩
        obtain ⟨f0, f1⟩ := hcc.out _ t.out.bel
        have hsz := t.out.bel.size
        by_cases hqk : q < k
        · have cq : w5.cell? ⟨w.heap.size + 1, q, none⟩ = some (.bool (p q)) := by rw [cell_of_row w5 _ q _ _ _ t.out.blk]; exact sRow_at k p q hqk
          have HT := hide_it (range_take p q)
          have hl := range_len p q
          cases hp : p q with
          | true =>
            rw [hp] at cq
            rw [if_pos hp] at HT
            clear hp
            go_wp2_with (at_builtin; (refine wpList_append_tell _ rfl (.tmp 76) (.tmp 78) 22 rfl w.heap.size 3 i0 _ 1 8 Tryd.underlying22 hi hz0 hz1 hz2 rfl (by decide) _ ((List.range' 0 q).filter p).length (((List.range' 0 q).filter p).map fun x => Value.int .i64 (x : Nat)) rfl (t.out.own.alloc _) ⟨_, 0, none⟩ 1 1 [.int .i64 q] rfl rfl (World.news_of_block (heap_alloc_at rfl _)) (by simp [Value.oneCell']) (by unfold maxLen; omega) (by omega) (by simp; omega) ?_; intro v' w6 hown' hgrow hfr; have t2 := hide_it (t.out.app hown' hgrow hfr)))
            go_roundw
            case rel => exact ⟨q + 1, by omega, by go_num, by rw [HT.out]; exact t2⟩
            case measure => simp [intOf]; omega
          | false =>
            rw [hp] at cq
            rw [if_neg (by rw [hp]; exact Bool.false_ne_true)] at HT
            clear hp
            go_wp2
            go_roundw
            case rel => exact ⟨q + 1, by omega, by go_num, by rw [HT.out]; exact t⟩
            case measure => simp [intOf]; omega
        · obtain rfl : q = k := by omega
          go_wp2
          go_ret
          exact ⟨_, rfl, by rw [HU.out]; exact t.out.own, t.out.bel⟩

theorem rreach_any {w : World} {r n : Nat} {v : Value} {es : List E} (h : RM w r n v es) (hn : n ≤ 64) (a : Int) (hg : ∀ e ∈ es, e.1 < n ∧ e.2 < n) (hle : es.length ≤ 1000000) :
    Calls Tryd.prog 40 #[ptr r, .int .i64 a] w fun e w' => ∃ u, e = .returned u ∧ OwnI w' w.heap.size u (reachL n es a) ∧ Below w.heap.size w w' := by
  cases ho : offB n a with
  | true => exact rreach_off h hn a ho
  | false =>
    have hr : 0 ≤ a ∧ a < n := by simp [offB] at ho; omega
    obtain ⟨x, rfl⟩ : ∃ x : Nat, a = x := ⟨a.toNat, by omega⟩
    have : reachL n es x = rise (rset es x) := by unfold reachL; rw [if_neg (by rw [ho]; exact Bool.false_ne_true)]; simp
    rw [this]
    exact rreach_in h hn x (by omega) hg hle
end Go.Proofs.YtipkgoghodkbfaaDoor
