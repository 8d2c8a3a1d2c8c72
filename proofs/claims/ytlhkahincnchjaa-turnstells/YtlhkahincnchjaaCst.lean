/- costs: what each member wants. -/
import Derived.Test.YtlhkahincnchjaaObj
import Derived.RegionTactic
import Derived.Deep.CutRange
import Derived.Deep.CutBlock
import Derived.Deep.RegionHeld3
import Derived.Maps.OwnOps
import Derived.Maps.Views
namespace Go.Proofs.Ytlhkahincnchjaa
open Go.RowKit Go.Maps
open M
set_option linter.unusedVariables false
set_option linter.unusedSimpArgs false

def i64B (n : Int) : Prop := -9223372036854775808 ≤ n ∧ n ≤ 9223372036854775807
theorem i64B.wf {n : Int} (h : i64B n) : (Lit.int .i64 n).wf = true := WalkArith.wf_i64 h
/-- Wants that can be read. -/
def Ws (w : World) (la : Option Addr) (l : List Wn) : Prop := ∀ i (h : i < l.length), ∃ b o, la = some ⟨b, o, none⟩ ∧ b < w.heap.size ∧ w.cell? ⟨b, o + i * 2, none⟩ = some (.int .i64 l[i].1) ∧ w.cell? ⟨b, o + i * 2 + 1, none⟩ = some (.int .i64 l[i].2)
theorem Ws.below {w w' : World} {la : Option Addr} {l : List Wn} (h : Ws w la l) (hb : Below w.heap.size w w') : Ws w' la l := fun i hi => by
  obtain ⟨b, o, e, hl, c0, c1⟩ := h i hi
  exact ⟨b, o, e, Nat.lt_of_lt_of_le hl hb.size, by rw [hb.cell (p := ⟨b, _, none⟩) hl]; exact c0, by rw [hb.cell (p := ⟨b, _, none⟩) hl]; exact c1⟩
theorem law3 : Keyed Try.prog 3 := int_keyed Try.underlying3
theorem zero3 (w : World) : (zeroValue 3).run Try.prog w = .ok (.int .i64 0) w := by kernel_rfl
theorem info3' : (Try.prog.info? 3).map (fun i => (i.zero, i.size, i.bytes)) = some (some (.int .i64 0), 1, 8) := by kernel_rfl

/-- A map of the call's own reads as f. -/
def MapF (w : World) (B n : Nat) (f : Int → Int) : Prop := ∃ D : DataW Unit, w.ownsMap Try.prog 3 (plainElem Try.prog 3) B n D ∧ IsMap D ∧ ∀ id, i64B id → D.atKey (.int .i64 id) (.lit (.int .i64 0)) = .lit (.int .i64 (f id))
theorem grown_of_below {w w' : World} (h : Below w.heap.size w w') : w.grownBy w' none := ⟨h.os, h.tape, h.output, h.size, fun k hk _ => h.block k hk⟩
theorem MapF.below {w w' : World} {B n : Nat} {f : Int → Int} (h : MapF w B n f) (hb : Below w.heap.size w w') : MapF w' B n f := by
  obtain ⟨D, h1, h2, h3⟩ := h
  exact ⟨D, h1.kept (grown_of_below hb) (by simp), h2, h3⟩
theorem MapF.set {w : World} {B n b o : Nat} {f : Int → Int} (h : MapF w B n f) (hb : b ≠ B) (u : Value) : MapF (w.setCell ⟨b, o, none⟩ u) B n f := by
  obtain ⟨D, h1, h2, h3⟩ := h
  refine ⟨D, h1.kept (row := some b) ⟨rfl, rfl, rfl, by simp [World.setCell], fun k hk hne => Below.heap_setCell _ _ _ _ (fun e => hne (by rw [e]))⟩ (fun e => hb (by cases e; rfl)), h2, h3⟩
theorem MapF.lt {w : World} {B n : Nat} {f : Int → Int} (h : MapF w B n f) : B < w.heap.size := by
  obtain ⟨D, h1, _⟩ := h
  exact h1.lt
theorem mapF_made (w : World) : MapF (w.alloc (.map #[] 0)) w.heap.size 0 (fun _ => 0) := ⟨.map [], World.ownsMap_made _ _ _ _, isMap_empty, fun id _ => rfl⟩

/-- A look-up that a guard lets through. -/
theorem wpList_lookupF {w : World} {ops : Array Oper} {rest : List Oper} {o : Oper} {a : Act} {Q : Exit → Act → World → Prop}
    (hg : Region.wanted o (yielded ops a.tmps) = true) (m x : Operand) (hop : o.op = Op.lookup 76 m x false) {B n : Nat} {f : Int → Int} (h : MapF w B n f) {id : Int} (hb : i64B id) (hm : a.eval m = .map (some B)) (hx : a.eval x = .int .i64 id)
    (hK : wpList Try.prog ops Q rest (a.put o.dst (.int .i64 (f id))) w) : wpList Try.prog ops Q (o :: rest) a w := by
  obtain ⟨D, h1, h2, h3⟩ := h
  refine wpList_step fun K' hK' => ?_
  rw [if_pos hg]
  obtain ⟨c, hrun, hat, hwc⟩ := h1.lookup_int law3 Try.underlying76 Try.underlying3 (zero3 _) (keyOf_int_mk Try.underlying3 hb.wf)
  have e : c = f id := by
    have := h3 id hb
    rw [hat] at this
    injection this with this
    injection this
  subst e
  unfold Oper.wp
  simp [execOp, hop, hm, hx, hrun, Result.andThen]
  exact hK' _ _ hK
/-- A store. -/
theorem wpList_updateF {w : World} {ops : Array Oper} {rest : List Oper} {o : Oper} {a : Act} {Q : Exit → Act → World → Prop}
    (hg : o.guard = none) (m x v : Operand) (hop : o.op = Op.mapUpdate 76 m x v) {B n : Nat} {f : Int → Int} (h : MapF w B n f) (hn : n < maxLen) {id c : Int} (hb : i64B id) (hc : i64B c) (hm : a.eval m = .map (some B)) (hx : a.eval x = .int .i64 id) (hv : a.eval v = .int .i64 c)
    (hK : ∀ w', Hid (MapF w' B (n + 1) (fun i => if i = id then c else f i) ∧ w.grownBy w' (some B)) → wpList Try.prog ops Q rest (a.put o.dst undef) w') : wpList Try.prog ops Q (o :: rest) a w := by
  obtain ⟨D, h1, h2, h3⟩ := h
  refine wpList_mapUpdate_own w hg m x v 76 hop 3 3 law3 Try.underlying76 _ B n D hm h1 hn _ _ _ hx hv (keyOf_int_mk Try.underlying3 hb.wf) _ [] (plainElem_int Try.underlying3 hc.wf) ?_
  intro w' g1 g2
  refine hK w' ⟨⟨_, g1, h2.put _ _, fun i hi => ?_⟩, g2⟩
  by_cases e : i = id
  · subst e
    rw [atKey_put_same h2 (by trivial)]
    simp
  · rw [atKey_put_other (by intro q; injection q with _ q; exact e q)]
    simp only [e, if_false]
    exact h3 i hi
theorem iRow_set (f : Nat → Int) (n j : Nat) (x : Int) : (iRow f n).setIfInBounds j (.int .i64 x) = iRow (upd f j x) n := by
  apply Array.ext_getElem?
  intro i
  rw [Array.getElem?_setIfInBounds, iRow_size]
  by_cases hi : i < n
  · rw [iRow_at _ _ _ hi, iRow_at _ _ _ hi]
    by_cases e : j = i
    · subst e
      rw [if_pos rfl, if_pos hi, upd_same]
    · rw [if_neg e, upd_other _ _ (fun q => e q.symm)]
  · have h1 : (iRow f n)[i]? = none := by rw [Array.getElem?_eq_none]; rw [iRow_size]; omega
    have h2 : (iRow (upd f j x) n)[i]? = none := by rw [Array.getElem?_eq_none]; rw [iRow_size]; omega
    rw [h1, h2]
    split
    · rw [if_neg (by omega)]
    · rfl
theorem iRow_congr {f f' : Nat → Int} {n : Nat} (h : ∀ i, i < n → f i = f' i) : iRow f n = iRow f' n := by
  unfold iRow
  congr 1
  exact List.map_congr_left fun i hi => by rw [h i (List.mem_range.1 hi)]
theorem iRow_new (n : Nat) : madeCells #[.int .i64 0] n = iRow (fun _ => 0) n := by
  apply Array.ext_getElem?
  intro i
  by_cases hi : i < n
  · rw [iRow_at _ _ _ hi]
    simp [madeCells, hi, Nat.mod_one]
  · have h2 : (iRow (fun _ => 0) n)[i]? = none := by rw [Array.getElem?_eq_none]; rw [iRow_size]; omega
    rw [h2, Array.getElem?_eq_none]
    simp [madeCells]; omega
/-- What the first k want, and of the others nothing yet. -/
def parC (cs : Nat → Int) (k : Nat) : Nat → Int := fun j => if j < k then cs j else 0
theorem parC_succ (cs : Nat → Int) (n k : Nat) : iRow (upd (parC cs k) k (cs k)) n = iRow (parC cs (k + 1)) n := by
  apply iRow_congr
  intro j _
  unfold parC upd
  by_cases e : j = k
  · rw [if_pos e, if_pos (by omega), e]
  · rw [if_neg e]
    by_cases e2 : j < k
    · have e3 : j < k + 1 := by omega
      simp only [e2, e3, if_true]
    · have e3 : ¬ j < k + 1 := by omega
      simp only [e2, e3, if_false]
/-- On the way through the members. -/
structure CW (w W : World) (B cb n k m : Nat) (l : List Wn) (cs : Nat → Int) : Prop where
  mf : MapF W B m (costOf l)
  bel : Below w.heap.size w W
  row : W.heap[cb]? = some (.cells (iRow (parC cs k) n) 3)
  new : w.heap.size ≤ cb
  ne : cb ≠ B
theorem CW.below {w W W' : World} {B cb n k m : Nat} {l : List Wn} {cs : Nat → Int} (h : CW w W B cb n k m l cs) (hb : Below W.heap.size W W') : CW w W' B cb n k m l cs :=
  ⟨h.mf.below hb, h.bel.trans (hb.mono h.bel.size), by rw [hb.block cb (block_lt h.row)]; exact h.row, h.new, h.ne⟩
theorem CW.set {w W : World} {B cb n k m : Nat} {l : List Wn} {cs : Nat → Int} (h : CW w W B cb n k m l cs) : CW w (W.setCell ⟨cb, k, none⟩ (.int .i64 (cs k))) B cb n (k + 1) m l cs :=
  ⟨h.mf.set h.ne _, h.bel.setCell (p := ⟨cb, k, none⟩) h.new _, by rw [heap_setCell_at (o := k) h.row, iRow_set, parC_succ], h.new, h.ne⟩

set_option maxRecDepth 1000000 in
set_option maxHeartbeats 4000000 in
theorem costs_any {w : World} {F : Nat → Prop} {t : Nat} {x : Tn} (h : MO 64 62 w F t x) (hn : x.n ≤ 1000000) (hb : ∀ j, j < x.n → i64B (x.I j)) {la : Option Addr} {l : List Wn} {m lc : Nat} (hl : Ws w la l) (hm : l.length = m) (hm2 : m ≤ 1000000) (hlb : ∀ p ∈ l, i64B p.1) :
    Calls Try.prog 26 #[ptr t, .slice la m lc] w fun e w' => ∃ cb, e = .returned (.slice (some ⟨cb, 0, none⟩) x.n x.n) ∧ Hid (Below w.heap.size w w' ∧ w.heap.size ≤ cb ∧ w'.heap[cb]? = some (.cells (iRow (costs l x) x.n) 3)) := by
  have hmm := @run_makeMap Try.prog
  have HO := hide_it h
  have HL := hide_it hl
  have HLB := hide_it hlb
  have HIB := hide_it hb
  have HT : Hid (∀ W, Below w.heap.size w W → ∃ ao cap, W.cell? ⟨t, 1, none⟩ = some (.slice ao x.n cap) ∧ t < W.heap.size ∧ Mbs W ao x.n x.I x.W x.C) := fun W hW => by
    obtain ⟨v, h1, _⟩ := h.below hW
    have c1 := h1.c1
    obtain ⟨ao, cap, rfl, _, _, hm⟩ := h1.mbs
    exact ⟨ao, cap, c1, block_lt h1.blk, hm⟩
  have HMK : Hid (∀ W : World, (Instr.makeSlice 52 (.int .i64 x.n) (.int .i64 x.n)).run Try.prog W = .ok (.slice (some ⟨W.heap.size, 0, none⟩) x.n x.n) (W.alloc (.cells (iRow (parC (costs l x) 0) x.n) 3))) := fun W => by
    have := run_make_row' (P := Try.prog) 52 3 (.int .i64 0) 8 Try.underlying52 info3' rfl .i64 .i64 x.n (by omega) (by omega) W
    rw [iRow_new] at this
    rw [this, iRow_congr (f := fun _ => 0) (f' := parC (costs l x) 0) (fun i _ => by unfold parC; simp)]
  have M0 := hide_it (mapF_made w)
  have HM := hide_it hm
  clear h hl hlb hb hm
  obtain ⟨n, hnn⟩ : ∃ n, x.n = n := ⟨_, rfl⟩
  rw [hnn] at hn ⊢
  rw [hnn] at HT HMK
  go_enter Try.func26, Try.ntmps26
  go_wp2
  go_loopw [14] (fun i wr => ∃ k : Nat, k ≤ m ∧ i = .int .i64 k ∧ Hid (MapF wr w.heap.size k (costOf (l.take k)) ∧ Below w.heap.size w wr)) (fun i _ => m - (intOf i).toNat)
  case atStart => exact ⟨0, Nat.zero_le _, rfl, M0.out, (Below.refl _ _).alloc (Nat.le_refl _) _⟩
  case round =>
    obtain ⟨k, hk, rfl, HR⟩ := hrel
    by_cases hlt : k < m
    · have hkl : k < l.length := by have := HM.out; omega
      obtain ⟨b, o, rfl, hbl, c0, c1⟩ := (HL.out.below HR.out.2) k hkl
      have hib := HLB.out _ (List.getElem_mem hkl)
      have B1 := (Below.refl wr.heap.size wr).alloc (Nat.le_refl _) (.cells #[.int .i64 l[k].1, .int .i64 l[k].2] 37)
      have HB1 := heap_alloc_new wr (.cells #[.int .i64 l[k].1, .int .i64 l[k].2] 37)
      have l0 : (wr.alloc (.cells #[.int .i64 l[k].1, .int .i64 l[k].2] 37)).cell? ⟨wr.heap.size, 0, none⟩ = some (.int .i64 l[k].1) := by rw [cell_of_row _ _ 0 _ _ _ HB1]; rfl
      have l1 : (wr.alloc (.cells #[.int .i64 l[k].1, .int .i64 l[k].2] 37)).cell? ⟨wr.heap.size, 1, none⟩ = some (.int .i64 l[k].2) := by rw [cell_of_row _ _ 1 _ _ _ HB1]; rfl
      have HR1 := hide_it (HR.out.1.below B1)
      have BB := hide_it (HR.out.2.trans (B1.mono HR.out.2.size))
      have HBn : Hid (w.heap.size ≤ w.heap.size) := Nat.le_refl _
      have etk : ∀ id, costOf (l.take (k + 1)) id = if costOf (l.take k) id = 0 then (if l[k].1 = id ∧ 1 ≤ l[k].2 ∧ l[k].2 ≤ 1048576 then l[k].2 else 0) else costOf (l.take k) id := fun id => by
        rw [List.take_succ_eq_append_getElem hkl, costOf_app]
        rfl
      have HE := hide_it etk
      clear HR HB1 B1 etk
      go_upto_region 5 with fail
      clear c0 c1
      generalize wr.alloc (.cells #[.int .i64 l[k].1, .int .i64 l[k].2] 37) = W1 at *
      generalize wr.heap.size = b1 at *
      have kI := isCost_any W1 l[k].2
      by_cases hcs : 1 ≤ l[k].2 ∧ l[k].2 ≤ 1048576
      · rw [decide_eq_true hcs] at kI
        by_cases hz : costOf (l.take k) l[k].1 = 0
        · have HN : Hid (∀ W, MapF W w.heap.size (k + 1) (fun i => if i = l[k].1 then l[k].2 else costOf (l.take k) i) → MapF W w.heap.size (k + 1) (costOf (l.take (k + 1)))) := fun W hW => by
            have e : (fun i => if i = l[k].1 then l[k].2 else costOf (l.take k) i) = costOf (l.take (k + 1)) := by
              funext i
              rw [HE.out i]
              by_cases q : i = l[k].1
              · subst q
                rw [if_pos rfl, if_pos hz, if_pos ⟨rfl, hcs⟩]
              · rw [if_neg q]
                by_cases r : costOf (l.take k) i = 0
                · rw [if_pos r, if_neg (fun s => q s.1.symm), r]
                · rw [if_neg r]
            rw [← e]
            exact hW
          have hi2 : i64B l[k].2 := ⟨by omega, by omega⟩
          have hz2 : (costOf (l.take k) l[k].1 == 0) = true := by simpa using hz
          have HKM : Hid (k < maxLen) := (show k < maxLen by unfold maxLen; omega)
          clear hcs HE hz
          generalize l[k].1 = id at *
          generalize l[k].2 = c at *
          generalize costOf (l.take k) = f at *
          go_wp2_with (first | (go_at_call 28; refine kI.mono ?_; rintro e w1 ⟨rfl, e9⟩; have e8 := e9.symm; clear e9; subst e8) | (at_lookup; refine wpList_lookupF rfl _ _ rfl HR1.out hib rfl rfl ?_) | (at_mapUpdate; refine wpList_updateF rfl _ _ _ rfl HR1.out HKM.out hib hi2 rfl rfl rfl ?_; intro w9 HU))
          go_roundw
          case rel => exact ⟨k + 1, by omega, by go_num, HN.out _ HU.out.1, BB.out.grown HU.out.2 BB.out.size (fun j hj => by cases hj; exact Nat.le_refl _)⟩
          case measure => simp [intOf]; omega
        · have HN : Hid (MapF W1 w.heap.size (k + 1) (costOf (l.take (k + 1)))) := by
            have e : costOf (l.take k) = costOf (l.take (k + 1)) := by
              funext i
              rw [HE.out i]
              by_cases q : costOf (l.take k) i = 0
              · rw [if_pos q, if_neg (fun r => hz (by rw [r.1]; exact q)), q]
              · rw [if_neg q]
            rw [← e]
            obtain ⟨D, d1, d2⟩ := HR1.out
            exact ⟨D, d1.mono (by omega), d2⟩
          have hz2 : (costOf (l.take k) l[k].1 == 0) = false := by simpa using hz
          clear hcs HE hz
          generalize l[k].1 = id at *
          generalize l[k].2 = c at *
          generalize costOf (l.take k) = f at *
          go_wp2_with (first | (go_at_call 28; refine kI.mono ?_; rintro e w1 ⟨rfl, e9⟩; have e8 := e9.symm; clear e9; subst e8) | (at_lookup; refine wpList_lookupF rfl _ _ rfl HR1.out hib rfl rfl ?_))
          go_roundw
          case rel => exact ⟨k + 1, by omega, by go_num, HN.out, BB.out⟩
          case measure => simp [intOf]; omega
      · rw [decide_eq_false hcs] at kI
        have HN : Hid (MapF W1 w.heap.size (k + 1) (costOf (l.take (k + 1)))) := by
          have e : costOf (l.take k) = costOf (l.take (k + 1)) := by
            funext i
            rw [HE.out i]
            by_cases q : costOf (l.take k) i = 0
            · rw [if_pos q, if_neg (fun r => hcs r.2), q]
            · rw [if_neg q]
          rw [← e]
          obtain ⟨D, d1, d2⟩ := HR1.out
          exact ⟨D, d1.mono (by omega), d2⟩
        clear hcs HE
        generalize l[k].1 = id at *
        generalize l[k].2 = c at *
        go_wp2_with (go_at_call 28; refine kI.mono ?_; rintro e w1 ⟨rfl, e9⟩; have e8 := e9.symm; clear e9; subst e8)
        go_roundw
        case rel => exact ⟨k + 1, by omega, by go_num, HN.out, BB.out⟩
        case measure => simp [intOf]; omega
    · have : k = m := by omega
      subst this
      have HR2 : Hid (MapF wr w.heap.size k (costOf l) ∧ Below w.heap.size w wr) := by
        have := HR.out
        rw [List.take_of_length_le (by have := HM.out; omega)] at this
        exact this
      obtain ⟨ao, cap, q1, _, _⟩ := HT.out wr HR.out.2
      have hmk := HMK.out wr
      clear HR
      have B1 := (Below.refl wr.heap.size wr).alloc (Nat.le_refl _) (.cells (iRow (parC (costs l x) 0) n) 3)
      have HC0 : Hid (CW w (wr.alloc (.cells (iRow (parC (costs l x) 0) n) 3)) w.heap.size wr.heap.size n 0 k l (costs l x)) :=
        ⟨HR2.out.1.below B1, HR2.out.2.trans (B1.mono HR2.out.2.size), heap_alloc_new _ _, HR2.out.2.size, fun e => by have := HR2.out.1.lt; omega⟩
      have q2 : (wr.alloc (.cells (iRow (parC (costs l x) 0) n) 3)).cell? ⟨t, 1, none⟩ = some (.slice ao n cap) := by rw [B1.cell (p := ⟨t, 1, none⟩) (World.block_lt_of_cell? wr _ q1)]; exact q1
      have HMB : Hid (∀ W, Below w.heap.size w W → Mbs W ao x.n x.I x.W x.C ∧ t < W.heap.size) := fun W hW => by
        obtain ⟨ao2, cap2, p1, p2, p3⟩ := HT.out W hW
        obtain ⟨ao3, cap3, p4, _, _⟩ := HT.out w (Below.refl _ _)
        obtain ⟨ao4, cap4, p5, _, _⟩ := HT.out wr HR2.out.2
        have tl : t < w.heap.size := World.block_lt_of_cell? w _ p4
        rw [HR2.out.2.cell (p := ⟨t, 1, none⟩) tl] at q1
        rw [hW.cell (p := ⟨t, 1, none⟩) tl] at p1
        rw [q1] at p1
        cases p1
        exact ⟨by rw [hnn]; exact p3, p2⟩
      clear HR2 HMK M0 HL HLB HM B1
      go_upto_region 9 with fail
      clear q1 hmk
      generalize wr.alloc (.cells (iRow (parC (costs l x) 0) n) 3) = W0 at *
      generalize wr.heap.size = cb at *
      go_wp2
      go_loopw [45] (fun i W => ∃ j : Nat, j ≤ n ∧ i = .int .i64 j ∧ Hid (CW w W w.heap.size cb n j k l (costs l x))) (fun i _ => n - (intOf i).toNat)
      case atStart => exact ⟨0, Nat.zero_le _, rfl, HC0⟩
      case round =>
        obtain ⟨j, hj, rfl, HC⟩ := hrel
        by_cases hjl : j < n
        · have hjx : j < x.n := by omega
          obtain ⟨hmb, _⟩ := HMB.out _ HC.out.bel
          obtain ⟨g, rfl, hgl, m0, m1, m2⟩ := hmb j hjx
          have hib := HIB.out j hjx
          have B1 := (Below.refl wr.heap.size wr).alloc (Nat.le_refl _) (.cells #[.int .i64 (x.I j), .int .i64 (x.W j), .int .i64 (x.C j)] 64)
          have HB1 := heap_alloc_new wr (.cells #[.int .i64 (x.I j), .int .i64 (x.W j), .int .i64 (x.C j)] 64)
          have l0 : (wr.alloc (.cells #[.int .i64 (x.I j), .int .i64 (x.W j), .int .i64 (x.C j)] 64)).cell? ⟨wr.heap.size, 0, none⟩ = some (.int .i64 (x.I j)) := by rw [cell_of_row _ _ 0 _ _ _ HB1]; rfl
          have HC1 := hide_it (HC.out.below B1)
          have HC2 := hide_it HC1.out.set
          have cc : (wr.alloc (.cells #[.int .i64 (x.I j), .int .i64 (x.W j), .int .i64 (x.C j)] 64)).cell? ⟨cb, j, none⟩ = some (.int .i64 (parC (costs l x) j j)) := by rw [cell_of_row _ cb j _ _ _ HC1.out.row]; exact iRow_at _ _ _ hjl
          have cf : (wr.alloc (.cells #[.int .i64 (x.I j), .int .i64 (x.W j), .int .i64 (x.C j)] 64)).frozen? ⟨cb, j, none⟩ = false := by simp only [World.frozen?, HC1.out.row]; rfl
          have HMF := hide_it HC1.out.mf
          have HX : Hid (costOf l (x.I j) = costs l x j) := rfl
          clear B1 HB1 HC HC0 HMB HIB hmb q2 HC1
          generalize parC (costs l x) j j = y0 at *
          go_upto_region 12 with fail
          clear m0 m1 m2 hgl
          generalize wr.alloc (.cells #[.int .i64 (x.I j), .int .i64 (x.W j), .int .i64 (x.C j)] 64) = W3 at *
          generalize wr.heap.size = b3 at *
          go_wp2_with (at_lookup; refine wpList_lookupF rfl _ _ rfl HMF.out hib rfl rfl ?_)
          rw [HX.out]
          go_roundw
          case rel => exact ⟨j + 1, by omega, by go_num, HC2⟩
          case measure => simp [intOf]; omega
        · have : j = n := by omega
          subst this
          have HZ : Hid (Below w.heap.size w wr ∧ w.heap.size ≤ cb ∧ wr.heap[cb]? = some (.cells (iRow (costs l x) j) 3)) := by
            refine ⟨HC.out.bel, HC.out.new, ?_⟩
            rw [HC.out.row, iRow_congr (f := parC (costs l x) j) (f' := costs l x) (fun i hi => by unfold parC; rw [if_pos hi])]
          clear HC HC0 HMB HIB q2 HO
          go_wp2
          go_ret
          exact ⟨cb, rfl, HZ⟩
end Go.Proofs.Ytlhkahincnchjaa
