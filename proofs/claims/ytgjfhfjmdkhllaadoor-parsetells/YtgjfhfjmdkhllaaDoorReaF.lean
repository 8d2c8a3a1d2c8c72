/- What readFile of package parse answers: the file of tokens, or the line that is wrong and its error. -/
import Derived.Test.YtgjfhfjmdkhllaaDoorRead
namespace Go.Proofs.YtgjfhfjmdkhllaaDoor
open Go.RowKit
open M
set_option linter.unusedVariables false
set_option linter.unusedSimpArgs false

/-- Tokens as Lex makes them. -/
def ToksOk (ts : List Tok) : Prop := (∀ t ∈ ts, TokOk t) ∧ (ts = [] ∨ ∃ i e, ts = i ++ [e] ∧ e.kind = 3)

theorem toks_line {ts : List Tok} (h : ToksOk ts) (hne : ts ≠ []) : endAt ts < ts.length ∧ LineOk (ts.take (endAt ts + 1)) ∧ ToksOk (ts.drop (endAt ts + 1)) := by
  obtain ⟨h1, h2⟩ := h
  rcases h2 with h2 | ⟨i, e, rfl, he⟩
  · exact absurd h2 hne
  · have hlt : endAt (i ++ [e]) < (i ++ [e]).length := endAt_lt ⟨e, by simp, he⟩
    refine ⟨hlt, ⟨fun t ht => h1 t (List.mem_of_mem_take ht), (i ++ [e]).take (endAt (i ++ [e])), (i ++ [e])[endAt (i ++ [e])], List.take_succ_eq_append_getElem hlt, endAt_kind hlt, fun t ht => ?_⟩, fun t ht => h1 t (List.mem_of_mem_drop ht), ?_⟩
    · obtain ⟨k, hk, rfl⟩ := List.getElem_of_mem ht
      simp only [List.length_take] at hk
      rw [List.getElem_take]
      exact endAt_not (by omega) (by omega)
    · by_cases hl : endAt (i ++ [e]) + 1 = (i ++ [e]).length
      · exact .inl (by rw [hl, List.drop_length])
      · right
        simp only [List.length_append, List.length_cons, List.length_nil] at hl hlt
        refine ⟨i.drop (endAt (i ++ [e]) + 1), e, ?_, he⟩
        rw [List.drop_append_of_le_length (by omega)]

theorem fileGo_nil (n : Nat) (f : Fl) (b : Bool) : fileGo n f b [] = .ok f := by cases n <;> simp [fileGo]
theorem fileGo_good {n : Nat} {f : Fl} {b : Bool} {ts : List Tok} (hne : ts ≠ []) (hn : ts.length ≤ n) (he : lineErr f (ts.take (endAt ts + 1)) b = 0) : fileGo n f b ts = fileGo (n - 1) (lineAdd f (ts.take (endAt ts + 1))) false (ts.drop (endAt ts + 1)) := by
  cases n with
  | zero => cases ts with
    | nil => exact absurd rfl hne
    | cons a l => simp at hn
  | succ n => simp only [fileGo]; rw [if_neg hne, if_pos he]; rfl
theorem fileGo_bad {n : Nat} {f : Fl} {b : Bool} {ts : List Tok} (hne : ts ≠ []) (hn : ts.length ≤ n) (he : lineErr f (ts.take (endAt ts + 1)) b ≠ 0) : fileGo n f b ts = .error ((ts.headD ⟨0, [], 0⟩).line, lineErr f (ts.take (endAt ts + 1)) b) := by
  cases n with
  | zero => cases ts with
    | nil => exact absurd rfl hne
    | cons a l => simp at hn
  | succ n => simp only [fileGo]; rw [if_neg hne, if_neg he]

theorem But.below {g B B' : Nat} {w w' : World} (h : But g B w w') (h1 : B' ≤ g) (h2 : B' ≤ B) : Below B' w w' := ⟨h.os, h.tape, h.output, h.size, fun k hk => h.block k (by omega) (by omega)⟩
def lenOf : Value → Nat | .slice _ n _ => n | _ => 0

theorem cells12 {w : World} {b : Nat} {c0 c1 c2 c3 c4 c5 c6 c7 c8 c9 c10 c11 : Value} {T : TypeId} (h : w.heap[b]? = some (.cells #[c0, c1, c2, c3, c4, c5, c6, c7, c8, c9, c10, c11] T (0, 0))) : w.cell? ⟨b, 0, none⟩ = some c0 ∧ w.cell? ⟨b, 1, none⟩ = some c1 ∧ w.cell? ⟨b, 2, none⟩ = some c2 ∧ w.cell? ⟨b, 3, none⟩ = some c3 ∧ w.cell? ⟨b, 4, none⟩ = some c4 ∧ w.cell? ⟨b, 5, none⟩ = some c5 ∧ w.cell? ⟨b, 6, none⟩ = some c6 ∧ w.cell? ⟨b, 7, none⟩ = some c7 ∧ w.cell? ⟨b, 8, none⟩ = some c8 ∧ w.cell? ⟨b, 9, none⟩ = some c9 ∧ w.cell? ⟨b, 10, none⟩ = some c10 ∧ w.cell? ⟨b, 11, none⟩ = some c11 ∧ ∀ j, w.frozen? ⟨b, j, none⟩ = false :=
  ⟨by rw [Lib.cell_of_heap h]; rfl, by rw [Lib.cell_of_heap h]; rfl, by rw [Lib.cell_of_heap h]; rfl, by rw [Lib.cell_of_heap h]; rfl, by rw [Lib.cell_of_heap h]; rfl, by rw [Lib.cell_of_heap h]; rfl, by rw [Lib.cell_of_heap h]; rfl, by rw [Lib.cell_of_heap h]; rfl, by rw [Lib.cell_of_heap h]; rfl, by rw [Lib.cell_of_heap h]; rfl, by rw [Lib.cell_of_heap h]; rfl, by rw [Lib.cell_of_heap h]; rfl, fun j => Lib.frozen_of_heap h j⟩

/-- Twelve cells written. -/
def put12 (w : World) (g : Nat) (v0 v1 v2 v3 v4 v5 v6 v7 v8 v9 v10 v11 : Value) : World := ((((((((((((w.setCell ⟨g, 0, none⟩ v0).setCell ⟨g, 1, none⟩ v1).setCell ⟨g, 2, none⟩ v2).setCell ⟨g, 3, none⟩ v3).setCell ⟨g, 4, none⟩ v4).setCell ⟨g, 5, none⟩ v5).setCell ⟨g, 6, none⟩ v6).setCell ⟨g, 7, none⟩ v7).setCell ⟨g, 8, none⟩ v8).setCell ⟨g, 9, none⟩ v9).setCell ⟨g, 10, none⟩ v10).setCell ⟨g, 11, none⟩ v11)
theorem put12_block {w : World} {g : Nat} {T : TypeId} {c0 c1 c2 c3 c4 c5 c6 c7 c8 c9 c10 c11 : Value} (h : w.heap[g]? = some (.cells #[c0, c1, c2, c3, c4, c5, c6, c7, c8, c9, c10, c11] T (0, 0))) (v0 v1 v2 v3 v4 v5 v6 v7 v8 v9 v10 v11 : Value) : (put12 w g v0 v1 v2 v3 v4 v5 v6 v7 v8 v9 v10 v11).heap[g]? = some (.cells #[v0, v1, v2, v3, v4, v5, v6, v7, v8, v9, v10, v11] T (0, 0)) := by
  have b0 : (w.setCell ⟨g, 0, none⟩ v0).heap[g]? = some (.cells #[v0, c1, c2, c3, c4, c5, c6, c7, c8, c9, c10, c11] T (0, 0)) := Joins.block_setCell (i := 0) h v0
  have b1 : ((w.setCell ⟨g, 0, none⟩ v0).setCell ⟨g, 1, none⟩ v1).heap[g]? = some (.cells #[v0, v1, c2, c3, c4, c5, c6, c7, c8, c9, c10, c11] T (0, 0)) := Joins.block_setCell (i := 1) b0 v1
  have b2 : (((w.setCell ⟨g, 0, none⟩ v0).setCell ⟨g, 1, none⟩ v1).setCell ⟨g, 2, none⟩ v2).heap[g]? = some (.cells #[v0, v1, v2, c3, c4, c5, c6, c7, c8, c9, c10, c11] T (0, 0)) := Joins.block_setCell (i := 2) b1 v2
  have b3 : ((((w.setCell ⟨g, 0, none⟩ v0).setCell ⟨g, 1, none⟩ v1).setCell ⟨g, 2, none⟩ v2).setCell ⟨g, 3, none⟩ v3).heap[g]? = some (.cells #[v0, v1, v2, v3, c4, c5, c6, c7, c8, c9, c10, c11] T (0, 0)) := Joins.block_setCell (i := 3) b2 v3
  have b4 : (((((w.setCell ⟨g, 0, none⟩ v0).setCell ⟨g, 1, none⟩ v1).setCell ⟨g, 2, none⟩ v2).setCell ⟨g, 3, none⟩ v3).setCell ⟨g, 4, none⟩ v4).heap[g]? = some (.cells #[v0, v1, v2, v3, v4, c5, c6, c7, c8, c9, c10, c11] T (0, 0)) := Joins.block_setCell (i := 4) b3 v4
  have b5 : ((((((w.setCell ⟨g, 0, none⟩ v0).setCell ⟨g, 1, none⟩ v1).setCell ⟨g, 2, none⟩ v2).setCell ⟨g, 3, none⟩ v3).setCell ⟨g, 4, none⟩ v4).setCell ⟨g, 5, none⟩ v5).heap[g]? = some (.cells #[v0, v1, v2, v3, v4, v5, c6, c7, c8, c9, c10, c11] T (0, 0)) := Joins.block_setCell (i := 5) b4 v5
  have b6 : (((((((w.setCell ⟨g, 0, none⟩ v0).setCell ⟨g, 1, none⟩ v1).setCell ⟨g, 2, none⟩ v2).setCell ⟨g, 3, none⟩ v3).setCell ⟨g, 4, none⟩ v4).setCell ⟨g, 5, none⟩ v5).setCell ⟨g, 6, none⟩ v6).heap[g]? = some (.cells #[v0, v1, v2, v3, v4, v5, v6, c7, c8, c9, c10, c11] T (0, 0)) := Joins.block_setCell (i := 6) b5 v6
  have b7 : ((((((((w.setCell ⟨g, 0, none⟩ v0).setCell ⟨g, 1, none⟩ v1).setCell ⟨g, 2, none⟩ v2).setCell ⟨g, 3, none⟩ v3).setCell ⟨g, 4, none⟩ v4).setCell ⟨g, 5, none⟩ v5).setCell ⟨g, 6, none⟩ v6).setCell ⟨g, 7, none⟩ v7).heap[g]? = some (.cells #[v0, v1, v2, v3, v4, v5, v6, v7, c8, c9, c10, c11] T (0, 0)) := Joins.block_setCell (i := 7) b6 v7
  have b8 : (((((((((w.setCell ⟨g, 0, none⟩ v0).setCell ⟨g, 1, none⟩ v1).setCell ⟨g, 2, none⟩ v2).setCell ⟨g, 3, none⟩ v3).setCell ⟨g, 4, none⟩ v4).setCell ⟨g, 5, none⟩ v5).setCell ⟨g, 6, none⟩ v6).setCell ⟨g, 7, none⟩ v7).setCell ⟨g, 8, none⟩ v8).heap[g]? = some (.cells #[v0, v1, v2, v3, v4, v5, v6, v7, v8, c9, c10, c11] T (0, 0)) := Joins.block_setCell (i := 8) b7 v8
  have b9 : ((((((((((w.setCell ⟨g, 0, none⟩ v0).setCell ⟨g, 1, none⟩ v1).setCell ⟨g, 2, none⟩ v2).setCell ⟨g, 3, none⟩ v3).setCell ⟨g, 4, none⟩ v4).setCell ⟨g, 5, none⟩ v5).setCell ⟨g, 6, none⟩ v6).setCell ⟨g, 7, none⟩ v7).setCell ⟨g, 8, none⟩ v8).setCell ⟨g, 9, none⟩ v9).heap[g]? = some (.cells #[v0, v1, v2, v3, v4, v5, v6, v7, v8, v9, c10, c11] T (0, 0)) := Joins.block_setCell (i := 9) b8 v9
  have b10 : (((((((((((w.setCell ⟨g, 0, none⟩ v0).setCell ⟨g, 1, none⟩ v1).setCell ⟨g, 2, none⟩ v2).setCell ⟨g, 3, none⟩ v3).setCell ⟨g, 4, none⟩ v4).setCell ⟨g, 5, none⟩ v5).setCell ⟨g, 6, none⟩ v6).setCell ⟨g, 7, none⟩ v7).setCell ⟨g, 8, none⟩ v8).setCell ⟨g, 9, none⟩ v9).setCell ⟨g, 10, none⟩ v10).heap[g]? = some (.cells #[v0, v1, v2, v3, v4, v5, v6, v7, v8, v9, v10, c11] T (0, 0)) := Joins.block_setCell (i := 10) b9 v10
  have b11 : ((((((((((((w.setCell ⟨g, 0, none⟩ v0).setCell ⟨g, 1, none⟩ v1).setCell ⟨g, 2, none⟩ v2).setCell ⟨g, 3, none⟩ v3).setCell ⟨g, 4, none⟩ v4).setCell ⟨g, 5, none⟩ v5).setCell ⟨g, 6, none⟩ v6).setCell ⟨g, 7, none⟩ v7).setCell ⟨g, 8, none⟩ v8).setCell ⟨g, 9, none⟩ v9).setCell ⟨g, 10, none⟩ v10).setCell ⟨g, 11, none⟩ v11).heap[g]? = some (.cells #[v0, v1, v2, v3, v4, v5, v6, v7, v8, v9, v10, v11] T (0, 0)) := Joins.block_setCell (i := 11) b10 v11
  exact b11
theorem put12_only (w : World) (g : Nat) (v0 v1 v2 v3 v4 v5 v6 v7 v8 v9 v10 v11 : Value) : Only g w (put12 w g v0 v1 v2 v3 v4 v5 v6 v7 v8 v9 v10 v11) := ((((((((((((Only.refl g w).setCell _ _).setCell _ _).setCell _ _).setCell _ _).setCell _ _).setCell _ _).setCell _ _).setCell _ _).setCell _ _).setCell _ _).setCell _ _).setCell _ _

/-- What a file's end leaves. -/
theorem done_is {w : World} {g : Nat} {f : Fl} {vt vo : Value} (B : Nat) {x0 x1 x2 x3 x4 x5 x6 x7 x8 x9 : Int} (hF : FileAt w g B f vt vo) (hcf : f.cfg = [x0, x1, x2, x3, x4, x5, x6, x7, x8, x9]) (h1 : w.heap[g + 1]? = some (.cells #[.int .i64 0] 3 (0, 0))) (h2 : w.heap[g + 2]? = some (.cells #[.int .i64 0] 30 (0, 0))) :
    ∃ W, ((put12 w g (.int .i64 x0) (.int .i64 x1) (.int .i64 x2) (.int .i64 x3) (.int .i64 x4) (.int .i64 x5) (.int .i64 x6) (.int .i64 x7) (.int .i64 x8) (.int .i64 x9) vt vo).setCell ⟨g + 1, 0, none⟩ (.int .i64 0)).setCell ⟨g + 1 + 1, 0, none⟩ (.int .i64 0) = W ∧ W.heap[g]? = some (.cells #[.int .i64 x0, .int .i64 x1, .int .i64 x2, .int .i64 x3, .int .i64 x4, .int .i64 x5, .int .i64 x6, .int .i64 x7, .int .i64 x8, .int .i64 x9, vt, vo] 29 (0, 0)) ∧ W.cell? ⟨g + 1, 0, none⟩ = some (.int .i64 0) ∧ W.cell? ⟨g + 2, 0, none⟩ = some (.int .i64 0) ∧ W.ownsRow B 51 2 vt f.tasks.length (taskCells f.tasks) ∧ W.ownsRow B 46 5 vo f.ops.length (opCells f.ops) ∧ Below g w W := by
  refine ⟨_, rfl, ?_⟩
  have hbl : w.heap[g]? = some (.cells #[.int .i64 x0, .int .i64 x1, .int .i64 x2, .int .i64 x3, .int .i64 x4, .int .i64 x5, .int .i64 x6, .int .i64 x7, .int .i64 x8, .int .i64 x9, vt, vo] 29 (0, 0)) := by
    have := hF.blk
    unfold fileA at this
    rw [hcf] at this
    simpa using this
  have ho := put12_only w g (.int .i64 x0) (.int .i64 x1) (.int .i64 x2) (.int .i64 x3) (.int .i64 x4) (.int .i64 x5) (.int .i64 x6) (.int .i64 x7) (.int .i64 x8) (.int .i64 x9) vt vo
  have hb := put12_block hbl (.int .i64 x0) (.int .i64 x1) (.int .i64 x2) (.int .i64 x3) (.int .i64 x4) (.int .i64 x5) (.int .i64 x6) (.int .i64 x7) (.int .i64 x8) (.int .i64 x9) vt vo
  have o1 := hF.ts.kept ho.grown (.inr (own_ne hF.ts hF.blk (by decide)))
  have o2 := hF.os.kept ho.grown (.inr (own_ne hF.os hF.blk (by decide)))
  generalize put12 w g (.int .i64 x0) (.int .i64 x1) (.int .i64 x2) (.int .i64 x3) (.int .i64 x4) (.int .i64 x5) (.int .i64 x6) (.int .i64 x7) (.int .i64 x8) (.int .i64 x9) vt vo = W at *
  have t1 : W.heap[g + 1]? = some (.cells #[.int .i64 0] 3 (0, 0)) := by rw [ho.block _ (by omega)]; exact h1
  have t2 : W.heap[g + 2]? = some (.cells #[.int .i64 0] 30 (0, 0)) := by rw [ho.block _ (by omega)]; exact h2
  have u1 := Joins.block_setCell (i := 0) t1 (.int .i64 0)
  have u2 : (W.setCell ⟨g + 1, 0, none⟩ (.int .i64 0)).heap[g + 2]? = some (.cells #[.int .i64 0] 30 (0, 0)) := by rw [Below.heap_setCell _ _ _ _ (by show g + 2 ≠ g + 1; omega)]; exact t2
  have v2 := Joins.block_setCell (i := 0) u2 (.int .i64 0)
  refine ⟨?_, ?_, ?_, ?_, ?_, ?_⟩
  · rw [Below.heap_setCell _ _ _ _ (by show g ≠ g + 1 + 1; omega), Below.heap_setCell _ _ _ _ (by show g ≠ g + 1; omega)]; exact hb
  · have e : ((W.setCell ⟨g + 1, 0, none⟩ (.int .i64 0)).setCell ⟨g + 1 + 1, 0, none⟩ (.int .i64 0)).heap[g + 1]? = some (.cells #[.int .i64 0] 3 (0, 0)) := by
      rw [Below.heap_setCell _ _ _ _ (by show g + 1 ≠ g + 1 + 1; omega)]; exact u1
    rw [Lib.cell_of_heap e]; rfl
  · rw [Lib.cell_of_heap v2]; rfl
  · exact own_set (own_set o1 t1 (by decide) 0 _) u2 (by decide) 0 _
  · exact own_set (own_set o2 t1 (by decide) 0 _) u2 (by decide) 0 _
  · exact ((ho.below (Below.refl g w) (Nat.le_refl _)).setCell (p := ⟨g + 1, 0, none⟩) (by simp) _).setCell (p := ⟨g + 1 + 1, 0, none⟩) (by simp; omega) _

set_option maxRecDepth 1000000 in
set_option maxHeartbeats 4000000 in
theorem readFile_any (b o cap : Nat) (ts : List Tok) (w : World) (hT : Tabs w) (hts : ToksOk ts) (hcap : ts.length ≤ cap) (hcm : cap ≤ maxLen) (hn : ts.length ≤ 1000000) (ht : TAt w b o ts) (hbw : b < w.heap.size) (R : Rd) (hR : readOf (fileGo ts.length noFile true ts) = R) :
    Calls Tryd.prog 19 #[.slice (some ⟨b, o, none⟩) ts.length cap] w fun e w' => ∃ vt vo, e = .returned (.tuple #[.agg (fileA R.file vt vo), .int .i64 R.line, .int .i64 R.err]) ∧ w'.ownsRow w.heap.size 51 2 vt R.file.tasks.length (taskCells R.file.tasks) ∧ w'.ownsRow w.heap.size 46 5 vo R.file.ops.length (opCells R.file.ops) ∧ R.file.cfg.length = 10 ∧ Below w.heap.size w w' := by
  have hmf : ∀ (fn : Fn) (first cap : Array Value) (w : World), (Instr.makeFunc fn first cap).run Tryd.prog w = .ok (.func fn first cap) w := fun _ _ _ _ => rfl
  unfold maxLen at hcm
  have HR : Hid (readOf (fileGo ts.length noFile true ts) = R) := hR
  clear hR
  go_enter_defers Tryd.func19, Tryd.ntmps19
  go_wp2
  go_loopw [0, 5] (fun tv fv wr => ∃ (f : Fl) (vt vo : Value) (first : Bool) (o' cap' n : Nat) (rest : List Tok), tv = .slice (some ⟨b, o', none⟩) rest.length cap' ∧ fv = .bool first ∧ Hid (FileAt wr w.heap.size (w.heap.size + 3) f vt vo) ∧ FileOk f ∧ Hid (wr.heap[w.heap.size + 1]? = some (.cells #[.int .i64 0] 3 (0, 0))) ∧ Hid (wr.heap[w.heap.size + 2]? = some (.cells #[.int .i64 0] 30 (0, 0))) ∧ Below w.heap.size w wr ∧ w.heap.size + 3 ≤ wr.heap.size ∧ TAt w b o' rest ∧ ToksOk rest ∧ rest.length ≤ cap' ∧ cap' ≤ 9223372036854775807 ∧ rest.length ≤ 1000000 ∧ rest.length ≤ n ∧ Hid (readOf (fileGo n f first rest) = R)) (fun tv _ _ => lenOf tv)
  case atStart =>
    refine ⟨noFile, .slice none 0 0, .slice none 0 0, true, o, cap, ts.length, ts, rfl, rfl, ⟨?_, World.ownsRow_nil _ _ _ _, World.ownsRow_nil _ _ _ _, rfl⟩, ⟨by simp [noFile], by simp [noFile]⟩, ?_, ?_, Joins.below_alloc3 w _ _ _, by simp, ht, hts, hcap, by omega, hn, Nat.le_refl _, HR⟩
    · rw [Below.heap_alloc _ _ _ (by simp; omega), Below.heap_alloc _ _ _ (by simp)]
      exact heap_alloc_new w _
    · show _ = _
      rw [Below.heap_alloc _ _ _ (by simp)]
      exact heap_alloc2_new w _ _
    · show _ = _
      have := heap_alloc_new ((w.alloc (.cells #[.int .i64 0, .int .i64 0, .int .i64 0, .int .i64 0, .int .i64 0, .int .i64 0, .int .i64 0, .int .i64 0, .int .i64 0, .int .i64 0, .slice none 0 0, .slice none 0 0] 29)).alloc (.cells #[.int .i64 0] 3)) (.cells #[.int .i64 0] 30)
      simpa using this
  case round =>
    obtain ⟨f, vt, vo, first, o', cap', n, rest, rfl, rfl, hF, hok, h1, h2, hb, hsz3, htr, htk, hc, hcm', hl, hln, hgo⟩ := hrel
    clear HR
    have hsz := hb.size
    by_cases hne : rest = []
    · subst hne
      have HG := hgo.out
      rw [fileGo_nil] at HG
      have HG2 : R = ⟨f, 0, 0⟩ := HG.symm
      subst HG2
      clear hgo HG
      obtain ⟨x0, x1, x2, x3, x4, x5, x6, x7, x8, x9, hcf⟩ := list10 hF.out.cfg
      have hbl := hF.out.blk
      unfold fileA at hbl
      rw [hcf] at hbl
      simp at hbl
      obtain ⟨a0, a1, a2, a3, a4, a5, a6, a7, a8, a9, a10, a11, fz⟩ := cells12 hbl
      obtain ⟨d1, df1⟩ : wr.cell? ⟨w.heap.size + 1, 0, none⟩ = some (.int .i64 0) ∧ wr.frozen? ⟨w.heap.size + 1, 0, none⟩ = false := ⟨by rw [Lib.cell_of_heap h1.out]; rfl, Lib.frozen_of_heap h1.out 0⟩
      obtain ⟨d2, df2⟩ : wr.cell? ⟨w.heap.size + 2, 0, none⟩ = some (.int .i64 0) ∧ wr.frozen? ⟨w.heap.size + 2, 0, none⟩ = false := ⟨by rw [Lib.cell_of_heap h2.out]; rfl, Lib.frozen_of_heap h2.out 0⟩
      obtain ⟨ta, tc, htv⟩ := own_slice hF.out.ts
      obtain ⟨oa, oc, hov⟩ := own_slice hF.out.os
      have HB : Hid (wr.heap[w.heap.size]? = some (.cells #[.int .i64 x0, .int .i64 x1, .int .i64 x2, .int .i64 x3, .int .i64 x4, .int .i64 x5, .int .i64 x6, .int .i64 x7, .int .i64 x8, .int .i64 x9, vt, vo] 29 (0, 0))) := hbl
      have HCF : Hid (f.cfg = [x0, x1, x2, x3, x4, x5, x6, x7, x8, x9]) := hcf
      clear hbl hcf
      subst htv
      subst hov
      go_wp2
      refine leaves_cons (f := 27) (args := #[ptr w.heap.size 0, ptr (w.heap.size + 1) 0, ptr (w.heap.size + 2) 0]) (by simp) (by simp [go_sem]) ?_
      refine (caught_none _ _ _ _).mono ?_
      obtain ⟨W, hW, b1, b2, b3, b4, b5, b6⟩ := done_is (w.heap.size + 3) hF.out HCF.out h1.out h2.out
      unfold put12 at hW
      rintro e u' w3 ⟨rfl, rfl, rfl⟩
      rw [hW]
      obtain ⟨a0, a1, a2, a3, a4, a5, a6, a7, a8, a9, a10, a11, _⟩ := cells12 b1
      refine ⟨.tuple #[.agg #[.int .i64 x0, .int .i64 x1, .int .i64 x2, .int .i64 x3, .int .i64 x4, .int .i64 x5, .int .i64 x6, .int .i64 x7, .int .i64 x8, .int .i64 x9, .slice ta f.tasks.length tc, .slice oa f.ops.length oc], .int .i64 0, .int .i64 0], ?_, .slice ta f.tasks.length tc, .slice oa f.ops.length oc, ?_, own_base b4 (by omega), own_base b5 (by omega), hF.out.cfg, hb.trans (b6.mono (Nat.le_refl _))⟩
      · simp [results, Tryd.results19, go_sem, b2, b3, a0, a1, a2, a3, a4, a5, a6, a7, a8, a9, a10, a11]
      · unfold fileA
        rw [HCF.out]
        rfl
    · obtain ⟨hlt, hline, hrest⟩ := toks_line htk hne
      have htw := htr.below hb hbw
      have hT' := hT.on hb hT.big
      obtain ⟨k, hk⟩ : ∃ k, endAt rest = k := ⟨_, rfl⟩
      have kI := indexFunc_any b o' cap' rest wr hc hl htw (by
        rcases htk.2 with h | ⟨i, e, h, he⟩
        · exact absurd h hne
        · exact ⟨e, by rw [h]; simp, he⟩)
      rw [hk] at kI hlt hline hrest
      have hlen : (rest.take (k + 1)).length = k + 1 := by simp; omega
      have h0 : 0 < (rest.take (k + 1)).length := by omega
      have hkc : ((k : Int) + 1) ≤ (cap' : Int) := by omega
      have hbwr : b < wr.heap.size := by omega
      by_cases hE : lineErr f (rest.take (k + 1)) first = 0
      · have kL : ∀ w1, Below wr.heap.size wr w1 → Calls Tryd.prog 30 #[ptr w.heap.size 0, .slice (some ⟨b, o', none⟩) (k + 1) cap', .bool first] w1 fun e w' => e = .returned (.tuple #[]) ∧ (∃ vt' vo', Hid (FileAt w' w.heap.size (w.heap.size + 3) (lineAdd f (rest.take (k + 1))) vt' vo')) ∧ But w.heap.size (w.heap.size + 3) w1 w' := by
          intro w1 hw1
          have := readLine_ok w.heap.size (w.heap.size + 3) b o' cap' f vt vo (rest.take (k + 1)) first w1 (hT'.on hw1 (Nat.le_trans hT.big hsz)) (hF.out.below hw1) hok (by omega) (Nat.le_trans hsz3 hw1.size) hline (by rw [hlen]; omega) (by rw [hlen]; omega) ((htw.below hw1 hbwr).take (k + 1)) (Nat.lt_of_lt_of_le hbwr hw1.size) hE
          rw [hlen] at this
          exact this
        have HG : Hid (readOf (fileGo (n - 1) (lineAdd f (rest.take (k + 1))) false (rest.drop (k + 1))) = R) := by
          show _ = _
          have := hgo.out
          rw [fileGo_good hne hln (by rw [hk]; exact hE), hk] at this
          exact this
        have hok2 := lineAdd_ok hok hE
        have htd := htr.drop (k + 1)
        have hld : (rest.drop (k + 1)).length = rest.length - (k + 1) := by simp
        generalize lineAdd f (rest.take (k + 1)) = f2 at *
        clear hgo hE hok hline htk hT' hF
        have hnp : (0 : Int) < (rest.length : Int) := by omega
        by_cases hcc : cap' = k + 1
        · subst hcc
          have HRL : Hid (rest.length = k + 1) := by show _ = _; omega
          go_wp2_with (first | (go_at_call 28; refine kI.mono ?_; rintro e w1 ⟨rfl, hb1⟩) | (go_at_call 30; refine (kL w1 hb1).mono ?_; rintro e w2 ⟨rfl, ⟨vt2, vo2, hF2⟩, hB2⟩))
          go_roundw
          case rel =>
            have hs1 := hb1.size
            have hs2 := hB2.size
            refine ⟨f2, vt2, vo2, false, o', 0, n - 1, rest.drop (k + 1), by rw [hld, HRL.out, Nat.sub_self], rfl, hF2, hok2, ?_, ?_, (hb.trans (hb1.mono hsz)).trans (hB2.below (Nat.le_refl _) (by omega)), by omega, fun i hi => absurd hi (by have := HRL.out; rw [hld]; omega), hrest, by have := HRL.out; rw [hld]; omega, by omega, by rw [hld]; omega, by rw [hld]; omega, HG⟩
            · show _ = _
              rw [hB2.block _ (by omega) (by omega), hb1.block _ (by omega)]; exact h1.out
            · show _ = _
              rw [hB2.block _ (by omega) (by omega), hb1.block _ (by omega)]; exact h2.out
          case measure => simp [lenOf]; omega
        · have hcc' : ¬ ((cap' : Int) - ((k : Int) + 1) = 0) := by omega
          go_wp2_with (first | (go_at_call 28; refine kI.mono ?_; rintro e w1 ⟨rfl, hb1⟩) | (go_at_call 30; refine (kL w1 hb1).mono ?_; rintro e w2 ⟨rfl, ⟨vt2, vo2, hF2⟩, hB2⟩))
          go_roundw
          case rel =>
            have hs1 := hb1.size
            have hs2 := hB2.size
            refine ⟨f2, vt2, vo2, false, _, _, n - 1, rest.drop (k + 1), by rw [hld], rfl, hF2, hok2, ?_, ?_, (hb.trans (hb1.mono hsz)).trans (hB2.below (Nat.le_refl _) (by omega)), by omega, htd, hrest, by rw [hld]; omega, by omega, by rw [hld]; omega, by rw [hld]; omega, HG⟩
            · show _ = _
              rw [hB2.block _ (by omega) (by omega), hb1.block _ (by omega)]; exact h1.out
            · show _ = _
              rw [hB2.block _ (by omega) (by omega), hb1.block _ (by omega)]; exact h2.out
          case measure => simp [lenOf]; omega
      · have hh : ((rest.take (k + 1))[0]).line = (rest.headD ⟨0, [], 0⟩).line := by
          cases rest with
          | nil => exact absurd rfl hne
          | cons a r => rfl
        have kL : ∀ w1, Below wr.heap.size wr w1 → Calls Tryd.prog 30 #[ptr w.heap.size 0, .slice (some ⟨b, o', none⟩) (k + 1) cap', .bool first] w1 fun e w' => e = .panicked (faultV (rest.headD ⟨0, [], 0⟩).line (lineErr f (rest.take (k + 1)) first)) ∧ Below w1.heap.size w1 w' := by
          intro w1 hw1
          have := readLine_err w.heap.size (w.heap.size + 3) b o' cap' f vt vo (rest.take (k + 1)) first w1 (hT'.on hw1 (Nat.le_trans hT.big hsz)) (hF.out.below hw1) hline (by rw [hlen]; omega) (by rw [hlen]; omega) ((htw.below hw1 hbwr).take (k + 1)) (Nat.lt_of_lt_of_le hbwr hw1.size) h0 _ rfl hE
          rw [hlen, hh] at this
          exact this
        have HG := hgo.out
        rw [fileGo_bad hne hln (by rw [hk]; exact hE), hk] at HG
        have HG2 : Hid (R = ⟨noFile, (rest.headD ⟨0, [], 0⟩).line, lineErr f (rest.take (k + 1)) first⟩) := HG.symm
        clear HG
        generalize (rest.headD ⟨0, [], 0⟩).line = ll at *
        generalize lineErr f (rest.take (k + 1)) first = EE at *
        clear hgo hE hok hline htk hT' hh
        have hnp : (0 : Int) < (rest.length : Int) := by omega
        go_wp2_with (first | (go_at_call 28; refine kI.mono ?_; rintro e w1 ⟨rfl, hb1⟩) | (go_at_call 30; refine (kL w1 hb1).mono ?_; rintro e w2 ⟨rfl, hb2⟩))
        obtain ⟨x0, x1, x2, x3, x4, x5, x6, x7, x8, x9, hcf⟩ := list10 hF.out.cfg
        have hbl := hF.out.blk
        unfold fileA at hbl
        rw [hcf] at hbl
        simp at hbl
        have hs1 := hb1.size
        have p1 : w2.heap[w.heap.size]? = some (.cells #[.int .i64 x0, .int .i64 x1, .int .i64 x2, .int .i64 x3, .int .i64 x4, .int .i64 x5, .int .i64 x6, .int .i64 x7, .int .i64 x8, .int .i64 x9, vt, vo] 29 (0, 0)) := by rw [hb2.block _ (by omega), hb1.block _ (by omega)]; exact hbl
        have p2 : w2.heap[w.heap.size + 1]? = some (.cells #[.int .i64 0] 3 (0, 0)) := by rw [hb2.block _ (by omega), hb1.block _ (by omega)]; exact h1.out
        have p3 : w2.heap[w.heap.size + 2]? = some (.cells #[.int .i64 0] 30 (0, 0)) := by rw [hb2.block _ (by omega), hb1.block _ (by omega)]; exact h2.out
        refine leaves_cons (f := 27) (args := #[ptr w.heap.size 0, ptr (w.heap.size + 1) 0, ptr (w.heap.size + 2) 0]) (by simp) (by simp [go_sem]) ?_
        refine (caught_some w.heap.size (w.heap.size + 1) (w.heap.size + 2) ll EE [] w2 _ _ _ _ _ _ _ _ _ _ _ _ _ _ p1 p2 p3 (by omega) (by omega) (by omega)).mono ?_
        rintro e u' w3 ⟨rfl, rfl, q1, q2, q3, q4⟩
        have q1' : w3.heap[w.heap.size]? = some (.cells #[.int .i64 0, .int .i64 0, .int .i64 0, .int .i64 0, .int .i64 0, .int .i64 0, .int .i64 0, .int .i64 0, .int .i64 0, .int .i64 0, .slice none 0 0, .slice none 0 0] 29 (0, 0)) := q1
        have hbB : Below w.heap.size w w3 := ((hb.trans (hb1.mono hsz)).trans (hb2.mono (by omega))).trans (q4 w.heap.size (Nat.le_refl _) (by omega) (by omega) (by have := hb2.size; omega))
        obtain ⟨a0, a1, a2, a3, a4, a5, a6, a7, a8, a9, a10, a11, _⟩ := cells12 q1'
        have d1 : w3.cell? ⟨w.heap.size + 1, 0, none⟩ = some (.int .i64 ll) := by rw [Lib.cell_of_heap q2]; rfl
        have d2 : w3.cell? ⟨w.heap.size + 2, 0, none⟩ = some (.int .i64 EE) := by rw [Lib.cell_of_heap q3]; rfl
        have HR2 := HG2.out
        subst HR2
        refine ⟨.tuple #[.agg #[.int .i64 0, .int .i64 0, .int .i64 0, .int .i64 0, .int .i64 0, .int .i64 0, .int .i64 0, .int .i64 0, .int .i64 0, .int .i64 0, .slice none 0 0, .slice none 0 0], .int .i64 ll, .int .i64 EE], ?_, _, _, rfl, World.ownsRow_nil _ _ _ _, World.ownsRow_nil _ _ _ _, rfl, hbB⟩
        simp [results, Tryd.results19, go_sem, d1, d2, a0, a1, a2, a3, a4, a5, a6, a7, a8, a9, a10, a11]

end Go.Proofs.YtgjfhfjmdkhllaaDoor
