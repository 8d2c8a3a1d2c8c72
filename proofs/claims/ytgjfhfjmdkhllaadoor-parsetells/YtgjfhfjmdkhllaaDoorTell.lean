/-
  The statement ParseTells of package millwrightlaw03 is proved, as the tied card that is given: for every input the call returns true, and each argument reads afterwards as it read before.
-/
import Derived.Test.YtgjfhfjmdkhllaaDoorWrF
import Derived.Test.YtgjfhfjmdkhllaaDoorShow
import Derived.BigQuiet
import Derived.Test.YtgjfhfjmdkhllaaDoorPrs
import Derived.Test.YtgjfhfjmdkhllaaDoorShoW
import Derived.Laws.AppendOwnNone
import Derived.ArgAppend
import Derived.Laws.BytesArg
import Derived.Deep.OwnRows
import Derived.Test.YtgjfhfjmdkhllaaDoorLaid
import Derived.Test.YtgjfhfjmdkhllaaDoorTie
import Derived.Test.YtgjfhfjmdkhllaaDoorCards
import Derived.SevenTiedAt
import Derived.WalkKit
import Derived.ProofKit
import Derived.OpenShut
import Derived.ShutString
import Derived.ChangeOld
import Derived.Below
namespace Go.Proofs.YtgjfhfjmdkhllaaDoor
open Go.RowKit
open M
set_option linter.unusedVariables false
set_option linter.unusedSimpArgs false

theorem below_drewQ {B : Nat} {a w : World} (h : Below B a w) (q : Nat) : Below B a (w.drewN q) := ⟨h.os, h.tape, h.output, h.size, h.block⟩

set_option maxRecDepth 1000000 in
set_option maxHeartbeats 4000000 in
theorem same_true (x0 x1 x2 x3 x4 x5 x6 x7 x8 x9 : Int) (f : Fl) (n1 n2 : Nat) (hn1 : f.tasks.length = n1) (hn2 : f.ops.length = n2) (ta oa tb ob : Option Addr) (tc oc td od : Nat) (w : World) (h1 : TasksIn w ta f.tasks) (h2 : OpsIn w oa f.ops) (h3 : TasksIn w tb f.tasks) (h4 : OpsIn w ob f.ops) (hl1 : n1 ≤ 1000000) (hl2 : n2 ≤ 1000000) :
    Calls Tryd.prog 12 #[.agg #[.int .i64 x0, .int .i64 x1, .int .i64 x2, .int .i64 x3, .int .i64 x4, .int .i64 x5, .int .i64 x6, .int .i64 x7, .int .i64 x8, .int .i64 x9, .slice ta n1 tc, .slice oa n2 oc], .agg #[.int .i64 x0, .int .i64 x1, .int .i64 x2, .int .i64 x3, .int .i64 x4, .int .i64 x5, .int .i64 x6, .int .i64 x7, .int .i64 x8, .int .i64 x9, .slice tb n1 td, .slice ob n2 od]] w fun e w' => e = .returned (.bool true) ∧ Below w.heap.size w w' := by
  have HB0 : Hid (Below w.heap.size w ((w.alloc (.cells #[.int .i64 x0, .int .i64 x1, .int .i64 x2, .int .i64 x3, .int .i64 x4, .int .i64 x5, .int .i64 x6, .int .i64 x7, .int .i64 x8, .int .i64 x9, .slice ta n1 tc, .slice oa n2 oc] 29)).alloc (.cells #[.int .i64 x0, .int .i64 x1, .int .i64 x2, .int .i64 x3, .int .i64 x4, .int .i64 x5, .int .i64 x6, .int .i64 x7, .int .i64 x8, .int .i64 x9, .slice tb n1 td, .slice ob n2 od] 33))) := Joins.below_alloc2 w _ _
  have HX0 : Hid (((w.alloc (.cells #[.int .i64 x0, .int .i64 x1, .int .i64 x2, .int .i64 x3, .int .i64 x4, .int .i64 x5, .int .i64 x6, .int .i64 x7, .int .i64 x8, .int .i64 x9, .slice ta n1 tc, .slice oa n2 oc] 29)).alloc (.cells #[.int .i64 x0, .int .i64 x1, .int .i64 x2, .int .i64 x3, .int .i64 x4, .int .i64 x5, .int .i64 x6, .int .i64 x7, .int .i64 x8, .int .i64 x9, .slice tb n1 td, .slice ob n2 od] 33)).heap[w.heap.size]? = some (.cells #[.int .i64 x0, .int .i64 x1, .int .i64 x2, .int .i64 x3, .int .i64 x4, .int .i64 x5, .int .i64 x6, .int .i64 x7, .int .i64 x8, .int .i64 x9, .slice ta n1 tc, .slice oa n2 oc] 29 (0, 0))) := by
    show _ = _
    rw [Below.heap_alloc _ _ _ (by simp)]
    exact heap_alloc_new w _
  have HY0 : Hid (((w.alloc (.cells #[.int .i64 x0, .int .i64 x1, .int .i64 x2, .int .i64 x3, .int .i64 x4, .int .i64 x5, .int .i64 x6, .int .i64 x7, .int .i64 x8, .int .i64 x9, .slice ta n1 tc, .slice oa n2 oc] 29)).alloc (.cells #[.int .i64 x0, .int .i64 x1, .int .i64 x2, .int .i64 x3, .int .i64 x4, .int .i64 x5, .int .i64 x6, .int .i64 x7, .int .i64 x8, .int .i64 x9, .slice tb n1 td, .slice ob n2 od] 33)).heap[w.heap.size + 1]? = some (.cells #[.int .i64 x0, .int .i64 x1, .int .i64 x2, .int .i64 x3, .int .i64 x4, .int .i64 x5, .int .i64 x6, .int .i64 x7, .int .i64 x8, .int .i64 x9, .slice tb n1 td, .slice ob n2 od] 33 (0, 0))) := heap_alloc2_new w _ _
  have HN1 := hide_it hn1
  have HN2 := hide_it hn2
  have HT1 := hide_it h1
  have HT2 := hide_it h3
  have HO1 := hide_it h2
  have HO2 := hide_it h4
  clear h1 h2 h3 h4 hn1 hn2
  go_enter Tryd.func12, Tryd.ntmps12
  go_wp2
  go_loopw [5] (fun i wr => ∃ k : Nat, i = .int .i64 k ∧ k ≤ n1 ∧ Hid (Below w.heap.size w wr) ∧ Hid (wr.heap[w.heap.size]? = some (.cells #[.int .i64 x0, .int .i64 x1, .int .i64 x2, .int .i64 x3, .int .i64 x4, .int .i64 x5, .int .i64 x6, .int .i64 x7, .int .i64 x8, .int .i64 x9, .slice ta n1 tc, .slice oa n2 oc] 29 (0, 0))) ∧ Hid (wr.heap[w.heap.size + 1]? = some (.cells #[.int .i64 x0, .int .i64 x1, .int .i64 x2, .int .i64 x3, .int .i64 x4, .int .i64 x5, .int .i64 x6, .int .i64 x7, .int .i64 x8, .int .i64 x9, .slice tb n1 td, .slice ob n2 od] 33 (0, 0)))) (fun i _ => n1 - (intOf i).toNat)
  case atStart => exact ⟨0, rfl, by omega, HB0, HX0, HY0⟩
  case round =>
    obtain ⟨k, rfl, hk, hB, hX, hY⟩ := hrel
    clear HB0 HX0 HY0
    obtain ⟨a0, a1, a2, a3, a4, a5, a6, a7, a8, a9, a10, a11, _⟩ := cells12 hX.out
    obtain ⟨b0, b1, b2, b3, b4, b5, b6, b7, b8, b9, b10, b11, _⟩ := cells12 hY.out
    by_cases hlt : k < n1
    · have hltI : (k : Int) < (n1 : Int) := by omega
      have hk0 : (0 : Int) ≤ (k : Int) := by omega
      have hlt' : k < f.tasks.length := by rw [HN1.out]; exact hlt
      obtain ⟨p1, q1, rfl, _, c0, c1⟩ := (HT1.out.below hB.out (Nat.le_refl _)) k hlt'
      obtain ⟨p2, q2, rfl, _, e0, e1⟩ := (HT2.out.below hB.out (Nat.le_refl _)) k hlt'
      generalize f.tasks[k].1 = y0 at *
      generalize f.tasks[k].2 = y1 at *
      go_wp2
      go_quiet (fail)
      all_goals go_wp2
      go_roundw
      case rel => exact ⟨k + 1, by go_num, by omega, below_drewQ hB.out _, hX, hY⟩
      case measure => simp [intOf]; omega
    · have hltI : ¬ (k : Int) < (n1 : Int) := by omega
      go_wp2
      obtain ⟨wo, rfl⟩ : ∃ W : World, W = wr := ⟨_, rfl⟩
      clear a0 a1 a2 a3 a4 a5 a6 a7 a8 a9 a10 a11 b0 b1 b2 b3 b4 b5 b6 b7 b8 b9 b10 b11
      go_loopw [6] (fun i wr => ∃ k : Nat, i = .int .i64 k ∧ k ≤ n2 ∧ Hid (Below w.heap.size w wr) ∧ Hid (wr.heap[w.heap.size]? = some (.cells #[.int .i64 x0, .int .i64 x1, .int .i64 x2, .int .i64 x3, .int .i64 x4, .int .i64 x5, .int .i64 x6, .int .i64 x7, .int .i64 x8, .int .i64 x9, .slice ta n1 tc, .slice oa n2 oc] 29 (0, 0))) ∧ Hid (wr.heap[w.heap.size + 1]? = some (.cells #[.int .i64 x0, .int .i64 x1, .int .i64 x2, .int .i64 x3, .int .i64 x4, .int .i64 x5, .int .i64 x6, .int .i64 x7, .int .i64 x8, .int .i64 x9, .slice tb n1 td, .slice ob n2 od] 33 (0, 0)))) (fun i _ => n2 - (intOf i).toNat)
      case atStart => exact ⟨0, rfl, by omega, hB, hX, hY⟩
      case round =>
        clear hk hlt hltI hB hX hY
        obtain ⟨k2, rfl, hk, hB, hX, hY⟩ := hrel
        obtain ⟨a0, a1, a2, a3, a4, a5, a6, a7, a8, a9, a10, a11, _⟩ := cells12 hX.out
        obtain ⟨b0, b1, b2, b3, b4, b5, b6, b7, b8, b9, b10, b11, _⟩ := cells12 hY.out
        by_cases hlt : k2 < n2
        · have hltI : (k2 : Int) < (n2 : Int) := by omega
          have hk0 : (0 : Int) ≤ (k2 : Int) := by omega
          have hlt' : k2 < f.ops.length := by rw [HN2.out]; exact hlt
          obtain ⟨p1, q1, rfl, _, c0, c1, c2, c3, c4⟩ := (HO1.out.below hB.out (Nat.le_refl _)) k2 hlt'
          obtain ⟨p2, q2, rfl, _, e0, e1, e2, e3, e4⟩ := (HO2.out.below hB.out (Nat.le_refl _)) k2 hlt'
          generalize f.ops[k2] = oo at *
          go_wp2
          go_quiet (fail)
          all_goals go_wp2
          go_roundw
          case rel => exact ⟨k2 + 1, by go_num, by omega, below_drewQ hB.out _, hX, hY⟩
          case measure => simp [intOf]; omega
        · have hltI : ¬ (k2 : Int) < (n2 : Int) := by omega
          go_wp2
          go_ret
          exact ⟨rfl, hB.out⟩

end Go.Proofs.YtgjfhfjmdkhllaaDoor
namespace Go.Proofs.YtgjfhfjmdkhllaaDoor.TW
open Go.RowKit
open M
set_option linter.unusedVariables false
set_option linter.unusedSimpArgs false

theorem info5b : (Tryd.prog.info? 5).map (fun i => (i.zero, i.size, i.bytes)) = some (some (.int .u8 0), 1, 1) := by kernel_rfl

def bcells (bs : List UInt8) : List Value := bs.map (fun c => Value.int .u8 ((c.toNat : Nat) : Int))
/-- A value owns these bytes. -/
abbrev OwnB (w : World) (base : Nat) (v : Value) (bs : List UInt8) : Prop := w.ownsRow base 5 1 v bs.length (bcells bs)

theorem bcells_len (bs : List UInt8) : (bcells bs).length = bs.length := by simp [bcells]
theorem bcells_app (a b : List UInt8) : bcells (a ++ b) = bcells a ++ bcells b := by simp [bcells]
theorem bcells_one (bs : List UInt8) : ∀ u ∈ bcells bs, u.oneCell' = true := by
  intro u hu
  obtain ⟨c, _, rfl⟩ := List.mem_map.1 hu
  rfl
theorem ownB_app {w : World} {base : Nat} {v : Value} {a b : List UInt8} (h : w.ownsRow base 5 1 v (a.length + b.length) (bcells a ++ bcells b)) : OwnB w base v (a ++ b) := by
  unfold OwnB
  rw [bcells_app, List.length_append]
  exact h
theorem ownB_new (w : World) (base : Nat) (hb : base ≤ w.heap.size) : OwnB (w.alloc (.cells #[] 5)) base (.slice (some ⟨w.heap.size, 0, none⟩) 0 0) [] :=
  World.ownsRow_lit w #[] 0 hb (Nat.zero_le _) rfl
theorem ownB_bytes {w : World} {base : Nat} {v : Value} {bs : List UInt8} (h : OwnB w base v bs) : ∃ a cap, v = .slice a bs.length cap ∧ bs.length ≤ cap ∧ cap ≤ maxLen ∧ Bytes w a bs := by
  rcases h.2 with ⟨rfl, e⟩ | ⟨g, cap, cur, rfl, _, _, hnc, hcm, _⟩
  · exact ⟨none, 0, by rw [e], by omega, Nat.zero_le _, fun i hi => by omega⟩
  · refine ⟨_, cap, rfl, hnc, hcm, fun i hi => ⟨g, 0, rfl, ?_⟩⟩
    rw [Nat.zero_add, h.cellAt i (by omega)]
    simp [bcells, hi]
theorem min_isT (n m : Nat) (ts : Array TypeId) (t : TypeId) (W : World) : (Builtin.min_ ts t #[.int .i64 (n : Int), .int .i64 (m : Int)]).run Tryd.prog W = .ok (.int .i64 ((min m n : Nat) : Int)) W := by
  rw [run_min_int2]
  congr 2
  split <;> omega

theorem bytes_take {w : World} {a : Option Addr} {bs : List UInt8} (h : Bytes w a bs) (k : Nat) : Bytes w a (bs.take k) := by
  intro i hi
  have hi' : i < bs.length := by simp at hi; omega
  obtain ⟨b, o, ha, hc⟩ := h i hi'
  exact ⟨b, o, ha, by rw [hc]; simp⟩

theorem below_app2 {W w w' : World} {B : Nat} {vo : Value} {e : TypeId} {size n : Nat} {xs : List Value} (hb : Below B W w) (hB : B ≤ W.heap.size) (hown : w.ownsRow B e size vo n xs) (hg : w.grownBy w' vo.ownBlock) : Below B W w' :=
  hb.grown hg (Nat.le_trans hB hb.size) (fun k hk => (hown.lt k hk).1)

theorem bytes_news {w : World} {b o : Nat} {src : List UInt8} (h : Bytes w (some ⟨b, o, none⟩) src) : ∀ j u, (bcells src)[j]? = some u → w.cell? ((⟨b, o, none⟩ : Addr).add j) = some u := by
  intro j u hu
  have hj : j < src.length := by have := (List.getElem?_eq_some_iff.1 hu).1; simpa [bcells] using this
  obtain ⟨b', o', ha, hc⟩ := h j hj
  cases ha
  rw [Addr.add_lit, hc]
  simp only [bcells, List.getElem?_map, List.getElem?_eq_getElem hj, Option.map_some] at hu
  exact hu

/-- Bytes appended to bytes that the call owns, from whatever slice. -/
theorem wpList_append_src (w : World) {ops : Array Oper} {rest : List Oper} {o : Oper} {a : Act} {Q : Exit → Act → World → Prop} (hgd : o.guard = none) (s x : Operand)
    (ho : o.op = .call { callee := .builtin .append, args := #[s, x], argTypes := #[22, 22] })
    (base : Nat) (v : Value) (os : List UInt8) (hs : a.eval s = v) (hown : OwnB w base v os) (ao : Option Addr) (m c : Nat) (src : List UInt8) (hx : a.eval x = .slice ao m c) (hm : m = src.length) (hb : Bytes w ao src) (hnone : ao = none → c = 0)
    (h63 : os.length + src.length ≤ 1000000) (hbase : base ≤ w.heap.size)
    (h : ∀ v' w', OwnB w' base v' (os ++ src) → w.grownBy w' v.ownBlock → wpList Tryd.prog ops Q rest (a.put o.dst v') w') : wpList Tryd.prog ops Q (o :: rest) a w := by
  obtain ⟨i0, hi, hz0, hz1, hz2⟩ := info_parts info5b
  subst hm
  cases ao with
  | none =>
    have hc := hnone rfl
    subst hc
    have hsrc : src = [] := by
      cases src with
      | nil => rfl
      | cons c r => obtain ⟨_, _, h, _⟩ := hb 0 (by simp); cases h
    subst hsrc
    exact wpList_append_own_none hgd s x 22 ho base 5 i0 1 Tryd.underlying22 hi v os.length (bcells os) hs hown hx (h v w (by simpa using hown) (World.grownBy.refl _ _))
  | some ad =>
    by_cases h0 : src = []
    · subst h0
      refine wpList_append_own w hgd s x 22 ho base 5 i0 _ 1 1 Tryd.underlying22 hi hz0 hz1 hz2 rfl (by decide) v os.length (bcells os) hs hown ad 0 c [] hx rfl (fun j u hu => by simp at hu) (fun u hu => by simp at hu) (by unfold maxLen; omega) (by omega) hbase fun v' w' h2 h3 _ => h v' w' (by simpa using h2) h3
    · obtain ⟨b, of, ha, _⟩ := hb 0 (by have := List.length_pos_iff.2 h0; omega)
      cases ha
      refine wpList_append_own w hgd s x 22 ho base 5 i0 _ 1 1 Tryd.underlying22 hi hz0 hz1 hz2 rfl (by decide) v os.length (bcells os) hs hown ⟨b, of, none⟩ src.length c (bcells src) hx (by simp [bcells]) (bytes_news hb) (bcells_one _) (by unfold maxLen; omega) (by omega) hbase fun v' w' h2 h3 _ => h v' w' (ownB_app h2) h3

/-- Bytes as a string. -/
theorem conv_str {w : World} {a : Option Addr} {bs : List UInt8} (h : Bytes w a bs) (cap : Nat) : (convert 22 9 (.slice a bs.length cap)).run Tryd.prog w = .ok (.string ⟨bs.toArray⟩) w := by
  cases a with
  | none =>
    have hb : bs = [] := by
      cases bs with
      | nil => rfl
      | cons c r => obtain ⟨_, _, h, _⟩ := h 0 (by simp); cases h
    subst hb
    rw [run_convert_bytes_string w 22 9 5 none _ _ Tryd.underlying22 Tryd.underlying5 Tryd.underlying9]
    simp [Conv.bytesToString]
    rfl
  | some x =>
    refine run_convert_bytes_back (P := Tryd.prog) w 22 9 5 x cap bs Tryd.underlying22 Tryd.underlying5 Tryd.underlying9 (fun j hj => ?_)
    obtain ⟨b, o, ha, hc⟩ := h j hj
    cases ha
    rw [Addr.add_lit]
    exact hc


theorem go_ok : ∀ (n : Nat) (f : Fl) (b : Bool) (ts : List M.Tok) (x : Fl), FileOk f → fileGo n f b ts = .ok x → FileOk x := by
  intro n
  induction n with
  | zero => intro f b ts x hf h; simp only [fileGo, Except.ok.injEq] at h; rw [← h]; exact hf
  | succ n ih =>
    intro f b ts x hf h
    by_cases hts : ts = []
    · subst hts
      rw [fileGo_nil] at h
      simp only [Except.ok.injEq] at h
      rw [← h]; exact hf
    · simp only [fileGo] at h
      rw [if_neg hts] at h
      by_cases he : lineErr f (ts.take (endAt ts + 1)) b = 0
      · rw [if_pos he] at h
        exact ih _ _ _ _ (lineAdd_ok hf he) h
      · rw [if_neg he] at h
        cases h
theorem parse_small (bs : List UInt8) : (parseF bs).file.tasks.length ≤ 1000000 ∧ (parseF bs).file.ops.length ≤ 1000000 := by
  have h0 : noFile.tasks.length ≤ 1000000 ∧ noFile.ops.length ≤ 1000000 := ⟨by decide, by decide⟩
  unfold parseF
  split
  · split
    · exact h0
    · cases hg : fileGo (lexF bs).1.length noFile true (lexF bs).1 with
      | error e => exact h0
      | ok x =>
        have := go_ok _ _ _ _ _ ⟨by decide, by decide⟩ hg
        exact ⟨Nat.le_trans this.1 (by decide), Nat.le_trans this.2 (by decide)⟩
  · exact h0
/-- What the document's own Parse answers is what the program's does. -/
theorem refParse_any (s : ByteArray) (bs : List UInt8) (hs : s.data.toList = bs) (hl : bs.length ≤ 4000) (w : World) :
    Calls Tryd.prog 11 #[.string s] w fun e w' => ∃ x0 x1 x2 x3 x4 x5 x6 x7 x8 x9 vt vo, (parseF bs).file.cfg = [x0, x1, x2, x3, x4, x5, x6, x7, x8, x9] ∧ e = .returned (.tuple #[.agg #[.int .i64 x0, .int .i64 x1, .int .i64 x2, .int .i64 x3, .int .i64 x4, .int .i64 x5, .int .i64 x6, .int .i64 x7, .int .i64 x8, .int .i64 x9, vt, vo], .int .i64 (parseF bs).line, .int .i64 (parseF bs).err]) ∧ Back w w' (parseF bs).file vt vo := by
  obtain ⟨T, ln, er, hlx⟩ : ∃ T ln er, lexF bs = (T, ln, er) := ⟨_, _, _, rfl⟩
  unfold parseF
  rw [hlx]
  simp only
  by_cases he : er = 0
  · rw [if_pos he]
    by_cases hT : T = []
    · rw [if_pos hT]
      refine (refParse_nil s bs hs hl w T ln er hlx he hT).mono ?_
      rintro e w' ⟨rfl, hb⟩
      exact ⟨0, 0, 0, 0, 0, 0, 0, 0, 0, 0, .slice none 0 0, .slice none 0 0, rfl, rfl, World.ownsRow_nil _ _ _ _, World.ownsRow_nil _ _ _ _, rfl, hb⟩
    · rw [if_neg hT]
      exact refParse_some s bs hs hl w T ln er hlx he hT _ rfl
  · rw [if_neg he]
    refine (refParse_bad s bs hs hl w T ln er hlx he).mono ?_
    rintro e w' ⟨rfl, hb⟩
    exact ⟨0, 0, 0, 0, 0, 0, 0, 0, 0, 0, .slice none 0 0, .slice none 0 0, rfl, rfl, World.ownsRow_nil _ _ _ _, World.ownsRow_nil _ _ _ _, rfl, hb⟩

set_option maxRecDepth 1000000 in
set_option maxHeartbeats 4000000 in
theorem tells_walk (a0 : Option Addr) (b0 : List UInt8) (cap0 : Nat) (w : World) (hT : Tabs w)
    (hl0 : b0.length ≤ cap0) (hm0 : cap0 ≤ maxLen) (hb0 : Bytes w a0 b0) (hn0 : a0 = none → cap0 = 0) :
    Calls Tryd.prog 3 #[.slice a0 b0.length cap0] w fun e w' => e = .returned (.bool true) ∧ Below w.heap.size w w' := by
  have hmin : ∀ ts t W, (Builtin.min_ ts t #[.int .i64 (b0.length : Int), .int .i64 4000]).run Tryd.prog W = .ok (.int .i64 ((min 4000 b0.length : Nat) : Int)) W := min_isT b0.length 4000
  obtain ⟨bs, hbs⟩ : ∃ bs, bs = b0.take 4000 := ⟨_, rfl⟩
  have hlen : bs.length = min 4000 b0.length := by rw [hbs]; simp
  have hbb : Bytes w a0 bs := by rw [hbs]; exact bytes_take hb0 4000
  have hlc : bs.length ≤ cap0 := by omega
  have hle : bs.length ≤ 4000 := by omega
  rw [← hlen] at hmin
  have HBB : Hid (Bytes w a0 bs) := hbb
  have HN0 : Hid (a0 = none → cap0 = 0) := hn0
  unfold maxLen at hm0
  obtain ⟨S, hS⟩ : ∃ S : ByteArray, S = ⟨bs.toArray⟩ := ⟨_, rfl⟩
  have hSl : S.data.toList = bs := by rw [hS]
  have HSS : Hid (S = ⟨bs.toArray⟩) := hS
  have kR0 := fun W => refParse_any S bs hSl hle W
  have kP0 := fun (W : World) (hTW : Tabs W) (a : Option Addr) (cap : Nat) (h1 : bs.length ≤ cap) (h2 : cap ≤ maxLen) (h3 : Bytes W a bs) => parse_bytes a cap bs W hTW h1 h2 h3
  obtain ⟨P, hP⟩ : ∃ P, parseF bs = P := ⟨_, rfl⟩
  rw [hP] at kR0 kP0
  obtain ⟨f, L, E⟩ := P
  simp only at kR0 kP0
  have kP : ∀ (W : World) (hTW : Tabs W) (a : Option Addr) (cap : Nat) (h1 : bs.length ≤ cap) (h2 : cap ≤ maxLen) (h3 : Bytes W a bs), Calls Tryd.prog 10 #[.slice a bs.length cap] W fun e w' => ∃ x0 x1 x2 x3 x4 x5 x6 x7 x8 x9 ta tc oa oc, f.cfg = [x0, x1, x2, x3, x4, x5, x6, x7, x8, x9] ∧ e = .returned (.tuple #[.agg #[.int .i64 x0, .int .i64 x1, .int .i64 x2, .int .i64 x3, .int .i64 x4, .int .i64 x5, .int .i64 x6, .int .i64 x7, .int .i64 x8, .int .i64 x9, .slice ta f.tasks.length tc, .slice oa f.ops.length oc], .int .i64 L, .int .i64 E]) ∧ Hid (TasksIn w' ta f.tasks) ∧ Hid (OpsIn w' oa f.ops) ∧ Hid (Below W.heap.size W w') := fun W hTW a cap h1 h2 h3 => by
    refine (kP0 W hTW a cap h1 h2 h3).mono ?_
    rintro e w' ⟨vt, vo, rfl, hB⟩
    obtain ⟨ta, tc, rfl⟩ := own_slice hB.ts
    obtain ⟨oa, oc, rfl⟩ := own_slice hB.os
    obtain ⟨x0, x1, x2, x3, x4, x5, x6, x7, x8, x9, hx⟩ := len_10 hB.cfg
    refine ⟨x0, x1, x2, x3, x4, x5, x6, x7, x8, x9, ta, tc, oa, oc, hx, ?_, tasks_own hB.ts, ops_own hB.os, hB.bel⟩
    unfold fileA
    rw [hx]
    rfl
  have kR : ∀ (W : World) (x0 x1 x2 x3 x4 x5 x6 x7 x8 x9 : Int), f.cfg = [x0, x1, x2, x3, x4, x5, x6, x7, x8, x9] → Calls Tryd.prog 11 #[.string S] W fun e w' => ∃ ta tc oa oc, e = .returned (.tuple #[.agg #[.int .i64 x0, .int .i64 x1, .int .i64 x2, .int .i64 x3, .int .i64 x4, .int .i64 x5, .int .i64 x6, .int .i64 x7, .int .i64 x8, .int .i64 x9, .slice ta f.tasks.length tc, .slice oa f.ops.length oc], .int .i64 L, .int .i64 E]) ∧ Hid (TasksIn w' ta f.tasks) ∧ Hid (OpsIn w' oa f.ops) ∧ Hid (Below W.heap.size W w') := fun W x0 x1 x2 x3 x4 x5 x6 x7 x8 x9 hx => by
    refine (kR0 W).mono ?_
    rintro e w' ⟨y0, y1, y2, y3, y4, y5, y6, y7, y8, y9, vt, vo, hy, rfl, hB⟩
    rw [hx] at hy
    simp only [List.cons.injEq, and_true] at hy
    obtain ⟨rfl, rfl, rfl, rfl, rfl, rfl, rfl, rfl, rfl, rfl⟩ := hy
    obtain ⟨ta, tc, rfl⟩ := own_slice hB.ts
    obtain ⟨oa, oc, rfl⟩ := own_slice hB.os
    exact ⟨ta, tc, oa, oc, rfl, tasks_own hB.ts, ops_own hB.os, hB.bel⟩
  have hfl : Hid (f.tasks.length ≤ 1000000 ∧ f.ops.length ≤ 1000000) := by
    have := parse_small bs
    rw [hP] at this
    exact this
  have HT := hide_it hT
  clear kR0 kP0 hlen hbs hb0 hbb hn0 hS hSl hP hT
  go_enter Tryd.func3, Tryd.ntmps3
  go_wp2_with (go_at_call 9; refine (shown_any _ HT.out).mono ?_; rintro e w1 ⟨rfl, hb1⟩; refine Hid.out ?_)
  have HB1 : Hid (Below w.heap.size w w1) := hb1
  have hs1 := hb1.size
  have HBS1 : Hid (Bytes (w1.alloc (.cells #[] 5)) a0 bs) := HBB.out.below (hb1.alloc hs1 _)
  have HNW : Hid (OwnB (w1.alloc (.cells #[] 5)) w1.heap.size (.slice (some ⟨w1.heap.size, 0, none⟩) 0 0) []) := ownB_new w1 _ (Nat.le_refl _)
  have HBN : Hid (Below w1.heap.size w1 (w1.alloc (.cells #[] 5))) := (Below.refl _ _).alloc (Nat.le_refl _) _
  clear hb1
  refine hide_it ?_
  go_wp2_with (at_builtin; refine wpList_append_src _ rfl (.tmp 12) (.tmp 17) rfl w1.heap.size _ [] rfl HNW.out _ _ _ bs rfl rfl HBS1.out HN0.out (by first | omega | (simp; omega)) (by first | omega | simp) ?_; intro v2 w2 hown2 hgrow2; refine Hid.out ?_)
  simp only [List.nil_append] at hown2
  have hbel2 : Below w1.heap.size w1 w2 := below_app2 HBN.out (Nat.le_refl _) HNW.out hgrow2
  have hs2 := hbel2.size
  obtain ⟨av, cv, rfl, hv1, hv2, hby⟩ := ownB_bytes hown2
  have hcv : (convert 22 9 (.slice av bs.length cv)).run Tryd.prog w2 = .ok (.string S) w2 := by rw [HSS.out]; exact conv_str hby cv
  have HB2 : Hid (Below w.heap.size w w2) := HB1.out.trans (hbel2.mono hs1)
  have kP2 := kP w2 (HT.out.on HB2.out HT.out.big) av cv hv1 hv2 hby
  have HBY : Hid (Bytes w2 av bs) := hby
  clear hown2 hgrow2 hbel2 hby HNW HBN HBS1 hmin kP
  refine hide_it ?_
  go_wp2_with (go_at_call 10; refine kP2.mono ?_; rintro e w3 ⟨x0, x1, x2, x3, x4, x5, x6, x7, x8, x9, ta, tc, oa, oc, hx, rfl, hti, hoi, hb3⟩; refine Hid.out ?_)
  have HX := hide_it hx
  clear hx hcv kP2
  obtain ⟨W3, hW3⟩ : ∃ W, W = w3.alloc (.cells #[.int .i64 x0, .int .i64 x1, .int .i64 x2, .int .i64 x3, .int .i64 x4, .int .i64 x5, .int .i64 x6, .int .i64 x7, .int .i64 x8, .int .i64 x9, .slice ta f.tasks.length tc, .slice oa f.ops.length oc] 29) := ⟨_, rfl⟩
  have HG3 : Hid (W3.heap[w3.heap.size]? = some (.cells #[.int .i64 x0, .int .i64 x1, .int .i64 x2, .int .i64 x3, .int .i64 x4, .int .i64 x5, .int .i64 x6, .int .i64 x7, .int .i64 x8, .int .i64 x9, .slice ta f.tasks.length tc, .slice oa f.ops.length oc] 29 (0, 0))) := by rw [hW3]; exact heap_alloc_new w3 _
  have hb33 : Hid (Below w3.heap.size w3 W3) := by rw [hW3]; exact (Below.refl _ _).alloc (Nat.le_refl _) _
  have HS3 : Hid (W3.heap.size = w3.heap.size + 1) := by rw [hW3]; show _ = _; simp
  have kR3 := kR W3 x0 x1 x2 x3 x4 x5 x6 x7 x8 x9 HX.out
  rw [hW3] at kR3
  refine hide_it ?_
  go_wp2_with (go_at_call 11; refine kR3.mono ?_; rintro e w4 ⟨tb, td, ob, od, rfl, htj, hoj, hb4⟩; refine Hid.out ?_)
  rw [← hW3] at hb4
  have hg4 : w4.heap[w3.heap.size]? = some (.cells #[.int .i64 x0, .int .i64 x1, .int .i64 x2, .int .i64 x3, .int .i64 x4, .int .i64 x5, .int .i64 x6, .int .i64 x7, .int .i64 x8, .int .i64 x9, .slice ta f.tasks.length tc, .slice oa f.ops.length oc] 29 (0, 0)) := by rw [hb4.out.block _ (by rw [HS3.out]; omega)]; exact HG3.out
  obtain ⟨q0, q1, q2, q3, q4, q5, q6, q7, q8, q9, q10, q11, qz⟩ := cells12 hg4
  have hlt4 : w3.heap.size < w4.heap.size := block_lt hg4
  have HBn : Hid (Below w4.heap.size w4 (w4.alloc (.cells #[.int .i64 x0, .int .i64 x1, .int .i64 x2, .int .i64 x3, .int .i64 x4, .int .i64 x5, .int .i64 x6, .int .i64 x7, .int .i64 x8, .int .i64 x9, .slice tb f.tasks.length td, .slice ob f.ops.length od] 33))) := (Below.refl _ _).alloc (Nat.le_refl _) _
  have hb34 : Hid (Below w3.heap.size w3 w4) := hb33.out.trans (hb4.out.mono (by rw [HS3.out]; omega))
  have hb24 : Hid (Below w2.heap.size w2 w4) := hb3.out.trans (hb34.out.mono hb3.out.size)
  have kS := same_true x0 x1 x2 x3 x4 x5 x6 x7 x8 x9 f f.tasks.length f.ops.length rfl rfl ta oa tb ob tc oc td od (w4.alloc (.cells #[.int .i64 x0, .int .i64 x1, .int .i64 x2, .int .i64 x3, .int .i64 x4, .int .i64 x5, .int .i64 x6, .int .i64 x7, .int .i64 x8, .int .i64 x9, .slice tb f.tasks.length td, .slice ob f.ops.length od] 33)) ((hti.out.below hb34.out (Nat.le_refl _)).below HBn.out (Nat.le_refl _)) ((hoi.out.below hb34.out (Nat.le_refl _)).below HBn.out (Nat.le_refl _)) (htj.out.below HBn.out (Nat.le_refl _)) (hoj.out.below HBn.out (Nat.le_refl _)) hfl.out.1 hfl.out.2
  clear kR kR3 hg4 hW3
  generalize f.tasks.length = n1 at *
  generalize f.ops.length = n2 at *
  refine hide_it ?_
  go_wp2_with (go_at_call 12; refine kS.mono ?_; rintro e w5 ⟨rfl, hb5⟩; refine Hid.out ?_)
  have hb25 : Hid (Below w2.heap.size w2 w5) := hb24.out.trans ((HBn.out.trans (hb5.mono HBn.out.size)).mono hb24.out.size)
  have hcv5 : (convert 22 9 (.slice av bs.length cv)).run Tryd.prog w5 = .ok (.string S) w5 := by rw [HSS.out]; exact conv_str (HBY.out.below hb25.out) cv
  have HB5 : Hid (Below w.heap.size w w5) := HB2.out.trans (hb25.out.mono HB2.out.size)
  clear kS hb5
  refine hide_it ?_
  go_wp2
  go_ret
  exact ⟨by first | rfl | simp, HB5.out⟩
end Go.Proofs.YtgjfhfjmdkhllaaDoor.TW
namespace Go.Proofs.YtgjfhfjmdkhllaaDoor
namespace ParseTells
open Go Go.ChangeShapes Go.WideShapes Go.ChangeAt Go.WideMaps Go.WideElems Go.RowKit
open Go.ChangeMaps (open_string shut_string)
open M
set_option linter.unusedVariables false
set_option linter.unusedSimpArgs false

theorem laidOut : laidOutB Tryd.prog = true := by kernel_rfl
theorem byte_u8 {n : Int} (h : (Lit.int .u8 n).wf = true) : ∃ c : UInt8, n = ((c.toNat : Nat) : Int) := by
  simp only [Lit.wf, Bool.and_eq_true, decide_eq_true_eq] at h
  have h1 : 0 ≤ n := h.1
  have h2 : n ≤ 255 := h.2
  refine ⟨UInt8.ofNat n.toNat, ?_⟩
  rw [UInt8.toNat_ofNat', Nat.mod_eq_of_lt (by omega)]
  omega

/-- The bytes of a slice that came in. -/
theorem arg_bytes {H : Type} {enc : TypeId × Value → H} {W : World} {a : Option Addr} {len cap : Nat} {d : DataW H} {p : List MemPlace}
    (h : DataW.Trod enc Tryd.prog W 0 (fun _ => true) true 22 (.slice a len cap) d p) :
    ∃ bs : List UInt8, len = bs.length ∧ bs.length ≤ cap ∧ cap ≤ maxLen ∧ Bytes W a bs := by
  obtain ⟨fuel, hf⟩ := h
  rcases open_ints Tryd.underlying22 Tryd.underlying5 (by kernel_rfl) hf with ⟨hcs, _⟩ | ⟨x, l, c, zs, hcs, _, hl, hm, hz, _, hcell, hwz⟩
  · simp [Value.cells] at hcs
    obtain ⟨rfl, rfl, rfl⟩ := hcs
    exact ⟨[], rfl, Nat.le_refl _, Nat.zero_le _, fun i h => by simp at h⟩
  · simp [Value.cells] at hcs
    obtain ⟨rfl, rfl, rfl⟩ := hcs
    have hz' : zs.length = cap := by simpa using hz
    have hw : ∀ z ∈ zs, ((UInt8.ofNat z.toNat).toNat : Int) = z := fun z hz => by
      obtain ⟨c, rfl⟩ := byte_u8 (hwz z hz)
      simp
    refine ⟨(zs.take len).map (fun z => UInt8.ofNat z.toNat), by simp; omega, by simp; omega, hm, fun i hi => ?_⟩
    have hi' : i < len := by simp at hi; omega
    have hc := hcell i (by omega)
    obtain ⟨b, o, spot⟩ := x
    have hspot : spot = none := by simpa [Addr.add] using World.cell?_spot (hcell 0 (by omega))
    subst hspot
    refine ⟨b, o, rfl, ?_⟩
    rw [Addr.add_lit] at hc
    rw [hc]
    simp only [List.getElem_map, List.getElem_take]
    rw [hw _ (List.getElem_mem _)]
    simp [List.getD, show i < zs.length by omega]
theorem arg_nil {H : Type} {enc : TypeId × Value → H} {W : World} {a : Option Addr} {len cap : Nat} {d : DataW H} {p : List MemPlace}
    (h : DataW.Trod enc Tryd.prog W 0 (fun _ => true) true 22 (.slice a len cap) d p) : a = none → cap = 0 := by
  obtain ⟨fuel, hf⟩ := h
  rcases open_ints Tryd.underlying22 Tryd.underlying5 (by kernel_rfl) hf with ⟨hcs, _⟩ | ⟨x, l, c, zs, hcs, _⟩
  · simp [Value.cells] at hcs
    exact fun _ => hcs.2.2
  · simp [Value.cells] at hcs
    intro e
    rw [hcs.1] at e
    cases e

set_option maxRecDepth 100000 in
theorem lifted (os : Os) (started : os.Started) (H : Type) (enc : TypeId × Value → H) :
    ReturnsInHanded {} Tryd.checked os 3 .any (fun w args => (Rows.parseTellsSpec.pre enc Tryd.prog Tryd.f3 [] false w args ∧ laidMetH Tryd.prog laid6 w) ∧ sizedMet enc Tryd.prog Tryd.f3 (OpenSpec.ofChange Rows.parseTellsSpec) false w args)
      (Rows.parseTellsSpec.post enc Tryd.prog Tryd.f3 false true false false) := by
  refine returnsInHanded_of_change_and (C := Tryd.checked) (X := fun w _ => laidMetH Tryd.prog laid6 w) (fun _ _ _ hh h => h.of_heap hh) own started (by kernel_rfl) Tryd.func3
    (ChangeSpec.witness_shaped (enc := enc) (C := Tryd.checked) (os := os) (X := fun w _ => laidMetH Tryd.prog laid6 w) false (World.doorLaid Tryd.prog 63 os) #[.slice none 0 0] 8 rfl (World.shaped_of_RefB (by kernel_rfl) (by kernel_rfl)) (by kernel_rfl) (by kernel_rfl) (by kernel_rfl) (door_met os _)) ?_
  intro W base args ds gs before hval0 hW _ _ hL _
  have hval : ∀ (j : Nat) t v, Tryd.f3.params[j]? = some t → args[j]? = some v → Value.okWide Tryd.prog W .any base t v := hval0
  have hW' := hW
  obtain ⟨p, q, hA0, hV, rfl, hfz, hnd⟩ := hW
  have hA : DataW.TrodAll enc Tryd.prog W 0 (fun _ => true) true Tryd.f3.params.toList args.toList ds p := hA0
  rw [Tryd.params3] at hA hval
  obtain ⟨v0, vs0, d0, ds0, p0, q0, hargs, rfl, rfl, h0, r0⟩ := trodAll_cons hA
  obtain ⟨rfl, rfl, rfl⟩ := trodAll_nil r0
  obtain rfl : args = #[v0] := by cases args; simp_all
  obtain ⟨rfl, rfl⟩ := trodVars_none hV
  have hT := tabs_of_laid hL
  have lt0 : ∀ x ∈ p0, x.block < W.heap.size := by obtain ⟨m, hm⟩ := h0; exact DataW.trod_lt m _ _ _ hm
  obtain ⟨a0, len0, cap0, rfl⟩ := okWide_slice Tryd.underlying22 (hval 0 22 v0 rfl rfl)
  obtain ⟨bs0, rfl, hl0, hm0, hb0⟩ := arg_bytes h0
  have hn0 := arg_nil h0
  clear hA0 hval0
  refine (TW.tells_walk a0 bs0 cap0 W hT hl0 hm0 hb0 hn0).mono fun e W' ⟨he, bel⟩ => ?_
  subst he
  exact ⟨_, rfl, _, _, _, [], _, [], hW', trodAll_mk1 (shut_bool Tryd.underlying4 _), (trodAll_cons_mk (Below.trod laidOut (by kernel_rfl) (of_decide_eq_true (by kernel_rfl)) h0 bel lt0) trodAll_mk0), rfl, bel.frame _, fun h => by cases h⟩

theorem row_holds : Rows.ParseTellsSaid :=
  OpenClaim.holds_of_wide 3 Tryd.f3 rfl rfl rfl rfl rfl rfl rfl ⟨rfl, rfl, rfl, rfl, rfl⟩ rfl rfl rfl rfl rfl (by kernel_rfl) Tryd.func3 (by kernel_rfl)
    (of_decide_eq_true (by kernel_rfl)) (by unfold Func.isWrapper; first | (rw [if_pos (by decide +kernel)]; kernel_rfl) | (rw [if_neg (by decide +kernel)]; exact ⟨rfl, rfl⟩))
    (fun os started H enc _ => lifted os started H enc)

end ParseTells

theorem parseTells_card_holds : Rows.ParseTellsCardSaid :=
  Claim7.holds_tied_plain_at .later [] [.data, .data, .data, .listed, .data, .data] true (true, "f6973eccdf76c5c7e84992e0aa7d3da30d1361763d481eb51b7dbcf846ef7376") true
    ParseTells.row_holds (fun _ h => by cases h) (by kernel_rfl) (fun _ h => by cases h) parseTells_row_tie rfl ⟨rfl, rfl⟩ (by kernel_rfl) rfl
    (fun f fn hf hfn => by
      obtain rfl : f = 3 := Option.some.inj ((show Tryd.prog.funcNamed "millwright/millwrightlaw03.ParseTells" = some 3 by kernel_rfl).symm.trans hf) |>.symm
      obtain rfl : fn = Tryd.f3 := (Option.some.inj (Tryd.func3.symm.trans hfn)).symm
      exact ⟨by kernel_rfl, fun j t ht => by
        rw [Tryd.params3] at ht
        have hm : t ∈ [22] := by simpa using Array.mem_of_getElem? ht
        have hall : ([22].all fun u => !Tryd.prog.wantsStandIn u) = true := by kernel_rfl
        exact (show Tryd.prog.wantsStandIn t = false by simpa using List.all_eq_true.1 hall t hm)⟩)
    (by kernel_rfl)
#print axioms parseTells_card_holds
end Go.Proofs.YtgjfhfjmdkhllaaDoor
