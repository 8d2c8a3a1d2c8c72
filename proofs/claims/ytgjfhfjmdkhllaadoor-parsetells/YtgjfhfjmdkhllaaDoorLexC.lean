/- What classAt and endLine of package lex answer; a slice of bytes, and a row of tokens, in memory. -/
import Derived.Test.YtgjfhfjmdkhllaaDoorProg
import Derived.WalkKit
import Derived.WalkSpells
import Derived.WalkLawsBesides
import Derived.Laws.IdiomStrings
import Derived.Deep.AppendLies
import Derived.Lib.OthersKept
import Derived.Test.YtgjfhfjmdkhllaaDoorLexM
namespace Go.Proofs.YtgjfhfjmdkhllaaDoor
open Go.RowKit
open M
set_option linter.unusedVariables false

theorem Tryd.info71 : (Tryd.prog.info? 71).map (fun i => (i.zero, i.size, i.bytes)) = some (some (.agg #[.int .i64 0, .string ⟨#[]⟩, .int .i64 0]), 3, 32) := by kernel_rfl

/-- The bytes of a slice that lies at an address (or is nil): each in its cell. -/
def Bytes (w : World) (a : Option Addr) (bs : List UInt8) : Prop :=
  ∀ i (h : i < bs.length), ∃ b o, a = some ⟨b, o, none⟩ ∧ w.cell? ⟨b, o + i, none⟩ = some (.int .u8 ((bs[i].toNat : Nat) : Int))

theorem Bytes.below {w w' : World} {a : Option Addr} {bs : List UInt8} (h : Bytes w a bs) (hb : Below w.heap.size w w') : Bytes w' a bs := by
  intro i hi
  obtain ⟨b, o, ha, hc⟩ := h i hi
  refine ⟨b, o, ha, ?_⟩
  rw [hb.cell (p := ⟨b, o + i, none⟩) (World.block_lt_of_cell? w _ hc)]
  exact hc

/-- The class of a place: 6 behind the last byte. -/
def clsAt (bs : List UInt8) (k : Nat) : Nat := match bs[k]? with | none => 6 | some c => cls c

/-- The cells of tokens. -/
def tcells (t : Tok) : List Value := [.int .i64 t.kind, .string ⟨t.text.toArray⟩, .int .i64 t.line]
def cells (ts : List Tok) : List Value := ts.flatMap tcells

theorem ret_int {k : IntKind} {a b : Int} (h : a = b) : Ending.returned (.int k a) = .returned (.int k b) := by rw [h]

set_option maxRecDepth 1000000 in
set_option maxHeartbeats 1000000 in
theorem classAt_end (a : Option Addr) (n cap : Nat) (w : World) (hn : n ≤ maxLen) :
    Calls Tryd.prog 43 #[.slice a n cap, .int .i64 n] w fun e w' => e = .returned (.int .i64 6) ∧ w' = w := by
  unfold maxLen at hn
  go_enter Tryd.func43, Tryd.ntmps43
  go_wp2
  go_ret
  exact ⟨rfl, rfl⟩

set_option maxRecDepth 1000000 in
set_option maxHeartbeats 2000000 in
theorem classAt_in (b o n cap k : Nat) (c : UInt8) (w : World) (hn : n ≤ maxLen) (hk : k < n) (hc : w.cell? ⟨b, o + k, none⟩ = some (.int .u8 ((c.toNat : Nat) : Int))) :
    Calls Tryd.prog 43 #[.slice (some ⟨b, o, none⟩) n cap, .int .i64 k] w fun e w' => e = .returned (.int .i64 (cls c)) ∧ w' = w := by
  unfold maxLen at hn
  have hne : ((k : Int) == (n : Int)) = false := by simp; omega
  go_enter Tryd.func43, Tryd.ntmps43
  go_wp2
  all_goals
    go_ret
    refine ⟨ret_int ?_, rfl⟩
    clear hc hne
    try simp only [beq_iff_eq, beq_eq_false_iff_ne, ne_eq] at *
    unfold cls
    repeat' split
    all_goals omega

theorem closed_last {ts : List Tok} (h : 0 < ts.length) : closed ts = (ts[ts.length - 1].kind == 3) := by
  unfold closed
  rw [List.getLast?_eq_getElem?, List.getElem?_eq_getElem (by omega)]

theorem cells_len (ts : List Tok) : (cells ts).length = ts.length * 3 := by
  unfold cells
  induction ts with
  | nil => rfl
  | cons t ts ih => simp only [List.flatMap_cons, List.length_append, ih, tcells, List.length_cons, List.length_nil]; omega
theorem cells_app (a b : List Tok) : cells (a ++ b) = cells a ++ cells b := by simp [cells]
theorem cells_at (ts : List Tok) : ∀ i (h : i < ts.length), (cells ts)[i * 3]? = some (.int .i64 ts[i].kind) ∧ (cells ts)[i * 3 + 1]? = some (.string ⟨ts[i].text.toArray⟩) ∧ (cells ts)[i * 3 + 2]? = some (.int .i64 ts[i].line) := by
  induction ts with
  | nil => intro i h; simp at h
  | cons t ts ih =>
    intro i h
    have e : cells (t :: ts) = tcells t ++ cells ts := by simp [cells]
    cases i with
    | zero => rw [e]; exact ⟨rfl, rfl, rfl⟩
    | succ i =>
      have h' : i < ts.length := by simpa using h
      obtain ⟨a, b, c⟩ := ih i h'
      have l3 : (tcells t).length = 3 := rfl
      rw [e]
      refine ⟨?_, ?_, ?_⟩
      · rw [List.getElem?_append_right (by omega), show (i + 1) * 3 - (tcells t).length = i * 3 by omega]; exact a
      · rw [List.getElem?_append_right (by omega), show (i + 1) * 3 + 1 - (tcells t).length = i * 3 + 1 by omega]; exact b
      · rw [List.getElem?_append_right (by omega), show (i + 1) * 3 + 2 - (tcells t).length = i * 3 + 2 by omega]; exact c

/-- A value owns these tokens. -/
abbrev Own (w : World) (base : Nat) (v : Value) (ts : List Tok) : Prop := w.ownsRow base 71 3 v ts.length (cells ts)

theorem Own.cellsAt {w : World} {base g cap : Nat} {ts : List Tok} (h : Own w base (.slice (some ⟨g, 0, none⟩) ts.length cap) ts) (i : Nat) (hi : i < ts.length) :
    w.cell? ⟨g, i * 3, none⟩ = some (.int .i64 ts[i].kind) ∧ w.cell? ⟨g, i * 3 + 1, none⟩ = some (.string ⟨ts[i].text.toArray⟩) ∧ w.cell? ⟨g, i * 3 + 2, none⟩ = some (.int .i64 ts[i].line) := by
  obtain ⟨a, b, c⟩ := cells_at ts i hi
  exact ⟨by rw [h.cellAt _ (by omega)]; exact a, by rw [h.cellAt _ (by omega)]; exact b, by rw [h.cellAt _ (by omega)]; exact c⟩

theorem own_snoc {w : World} {base : Nat} {v : Value} {ts : List Tok} {t : Tok} (h : w.ownsRow base 71 3 v (ts.length + 1) (cells ts ++ tcells t)) : Own w base v (ts ++ [t]) := by
  unfold Own
  rw [cells_app, List.length_append]
  simpa [cells] using h

theorem one_tok (t : Tok) : ∀ u ∈ tcells t, u.oneCell' = true := by
  intro u hu
  simp only [tcells, List.mem_cons, List.not_mem_nil, or_false] at hu
  rcases hu with rfl | rfl | rfl <;> rfl

set_option maxRecDepth 1000000 in
set_option maxHeartbeats 2000000 in
theorem endLine_w0 (a : Option Addr) (cap line : Nat) (w : World) : Calls Tryd.prog 44 #[.slice a 0 cap, .int .i64 line] w fun e w' => e = .returned (.slice a 0 cap) ∧ w' = w := by
  go_enter Tryd.func44, Tryd.ntmps44
  go_wp2
  go_ret
  exact ⟨rfl, rfl⟩

set_option maxRecDepth 1000000 in
set_option maxHeartbeats 2000000 in
theorem endLine_w1 (g n cap line : Nat) (w : World) (h0 : 0 < n) (hn : n ≤ 1000000) (hc : w.cell? ⟨g, (n - 1) * 3, none⟩ = some (.int .i64 3)) :
    Calls Tryd.prog 44 #[.slice (some ⟨g, 0, none⟩) n cap, .int .i64 line] w fun e w' => e = .returned (.slice (some ⟨g, 0, none⟩) n cap) ∧ w' = w := by
  have hne : ((n : Int) == 0) = false := by simp; omega
  have hp : (1 : Int) ≤ n := by omega
  go_enter Tryd.func44, Tryd.ntmps44
  go_wp2
  go_ret
  exact ⟨rfl, rfl⟩

set_option maxRecDepth 1000000 in
set_option maxHeartbeats 2000000 in
theorem endLine_w2 (ts : List Tok) (g cap line : Nat) (kd : Nat) (base : Nat) (w : World) (h0 : 0 < ts.length) (hn : ts.length ≤ 1000000) (hb : base ≤ w.heap.size)
    (hown : Own w base (.slice (some ⟨g, 0, none⟩) ts.length cap) ts)
    (hc : w.cell? ⟨g, (ts.length - 1) * 3, none⟩ = some (.int .i64 kd)) (hk : ((kd : Int) == 3) = false) :
    Calls Tryd.prog 44 #[.slice (some ⟨g, 0, none⟩) ts.length cap, .int .i64 line] w fun e w' => ∃ v', e = .returned v' ∧ Own w' base v' (ts ++ [⟨3, [], line⟩]) ∧ Below base w w' := by
  have hne : ((ts.length : Int) == 0) = false := beq_eq_false_iff_ne.2 (by omega)
  obtain ⟨i0, hi, hz0, hz1, hz2⟩ := info_parts Tryd.info71
  have hp : (1 : Int) ≤ ts.length := by omega
  go_enter Tryd.func44, Tryd.ntmps44
  go_wp2_with (at_builtin; refine wpList_append_own _ rfl (.tmp 20) (.tmp 23) 53 rfl base 71 i0 _ 3 32 Tryd.underlying53 hi hz0 hz1 hz2 rfl (by decide) _ ts.length (cells ts) rfl (hown.alloc _) ⟨w.heap.size, 0, none⟩ 1 1 (tcells ⟨3, [], line⟩) rfl rfl (World.news_of_block (heap_alloc_new w _)) (one_tok _) (by unfold maxLen; omega) (by omega) (by simp; omega) ?_; intro v' w1 hown' hgrow _)
  go_ret
  refine ⟨v', rfl, own_snoc hown', ?_⟩
  exact ((Below.refl base w).alloc hb _).grown hgrow (by simp; omega) (fun k hk => (hown.lt k hk).1)

/-- What endLine answers. -/
theorem endLine_any (ts : List Tok) (line : Nat) (v : Value) (base : Nat) (w : World) (hown : Own w base v ts) (hn : ts.length ≤ 1000000) (hb : base ≤ w.heap.size) :
    Calls Tryd.prog 44 #[v, .int .i64 line] w fun e w' => ∃ v', e = .returned v' ∧ Own w' base v' (endLine ts line) ∧ Below base w w' := by
  by_cases h0 : 0 < ts.length
  · obtain ⟨g, cap, rfl, _, _⟩ := hown.form h0
    obtain ⟨c0, _, _⟩ := Own.cellsAt hown (ts.length - 1) (by omega)
    have hcl := closed_last h0
    unfold endLine
    by_cases hk : ts[ts.length - 1].kind = 3
    · rw [if_pos (by rw [hcl, hk]; rfl)]
      rw [hk] at c0
      exact (endLine_w1 g _ cap line w h0 hn c0).mono fun e w' ⟨he, hw⟩ => ⟨_, he, by rw [hw]; exact hown, by rw [hw]; exact Below.refl _ _⟩
    · rw [if_neg (by rw [hcl]; simpa using hk)]
      exact endLine_w2 ts g cap line _ base w h0 hn hb hown c0 (beq_eq_false_iff_ne.2 (by omega))
  · have hz : ts = [] := List.eq_nil_of_length_eq_zero (by omega)
    subst hz
    have he : endLine [] line = [] := rfl
    rw [he]
    rcases hown.2 with ⟨rfl, _⟩ | ⟨g, cap, cur, rfl, _⟩
    · exact (endLine_w0 _ _ line w).mono fun e w' ⟨he, hw⟩ => ⟨_, he, by rw [hw]; exact hown, by rw [hw]; exact Below.refl _ _⟩
    · exact (endLine_w0 _ _ line w).mono fun e w' ⟨he, hw⟩ => ⟨_, he, by rw [hw]; exact hown, by rw [hw]; exact Below.refl _ _⟩

end Go.Proofs.YtgjfhfjmdkhllaaDoor
