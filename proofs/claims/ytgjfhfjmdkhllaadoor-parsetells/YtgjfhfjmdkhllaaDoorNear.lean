/- What nearest of package parse answers: of all forms the one that a line follows furthest. -/
import Derived.Test.YtgjfhfjmdkhllaaDoorFol
namespace Go.Proofs.YtgjfhfjmdkhllaaDoor
open Go.RowKit
open M
set_option linter.unusedVariables false

theorem index_0 (W : World) : (Instr.index 87 (.agg formsCells) (.int .i64 0)).run Tryd.prog W = .ok (formV forms[0]) W := by kernel_rfl
theorem index_1 (W : World) : (Instr.index 87 (.agg formsCells) (.int .i64 1)).run Tryd.prog W = .ok (formV forms[1]) W := by kernel_rfl
theorem index_2 (W : World) : (Instr.index 87 (.agg formsCells) (.int .i64 2)).run Tryd.prog W = .ok (formV forms[2]) W := by kernel_rfl
theorem index_3 (W : World) : (Instr.index 87 (.agg formsCells) (.int .i64 3)).run Tryd.prog W = .ok (formV forms[3]) W := by kernel_rfl
theorem index_4 (W : World) : (Instr.index 87 (.agg formsCells) (.int .i64 4)).run Tryd.prog W = .ok (formV forms[4]) W := by kernel_rfl
theorem index_5 (W : World) : (Instr.index 87 (.agg formsCells) (.int .i64 5)).run Tryd.prog W = .ok (formV forms[5]) W := by kernel_rfl
theorem index_6 (W : World) : (Instr.index 87 (.agg formsCells) (.int .i64 6)).run Tryd.prog W = .ok (formV forms[6]) W := by kernel_rfl
theorem index_7 (W : World) : (Instr.index 87 (.agg formsCells) (.int .i64 7)).run Tryd.prog W = .ok (formV forms[7]) W := by kernel_rfl
theorem index_8 (W : World) : (Instr.index 87 (.agg formsCells) (.int .i64 8)).run Tryd.prog W = .ok (formV forms[8]) W := by kernel_rfl
theorem index_9 (W : World) : (Instr.index 87 (.agg formsCells) (.int .i64 9)).run Tryd.prog W = .ok (formV forms[9]) W := by kernel_rfl
theorem index_forms (k : Nat) (hk : k < forms.length) (W : World) : (Instr.index 87 (.agg formsCells) (.int .i64 k)).run Tryd.prog W = .ok (formV forms[k]) W := by
  have h10 : forms.length = 10 := rfl
  have : k = 0 ∨ k = 1 ∨ k = 2 ∨ k = 3 ∨ k = 4 ∨ k = 5 ∨ k = 6 ∨ k = 7 ∨ k = 8 ∨ k = 9 := by omega
  rcases this with rfl | rfl | rfl | rfl | rfl | rfl | rfl | rfl | rfl | rfl
  · exact index_0 W
  · exact index_1 W
  · exact index_2 W
  · exact index_3 W
  · exact index_4 W
  · exact index_5 W
  · exact index_6 W
  · exact index_7 W
  · exact index_8 W
  · exact index_9 W

theorem cells4 {w : World} {b : Nat} {x0 x1 x2 x3 : Value} {T : TypeId} (h : w.heap[b]? = some (.cells #[x0, x1, x2, x3] T (0, 0))) : w.cell? ⟨b, 0, none⟩ = some x0 ∧ w.cell? ⟨b, 1, none⟩ = some x1 ∧ w.cell? ⟨b, 2, none⟩ = some x2 ∧ w.cell? ⟨b, 3, none⟩ = some x3 ∧ ∀ j, w.frozen? ⟨b, j, none⟩ = false :=
  ⟨by rw [Lib.cell_of_heap h]; rfl, by rw [Lib.cell_of_heap h]; rfl, by rw [Lib.cell_of_heap h]; rfl, by rw [Lib.cell_of_heap h]; rfl, fun j => Lib.frozen_of_heap h j⟩

/-- Another block than a row's. -/
theorem own_ne {w : World} {B e size n : Nat} {T : TypeId} {v : Value} {xs : List Value} {b : Nat} {cs : Array Value} {fr : Nat × Nat} (hown : w.ownsRow B e size v n xs) (hb : w.heap[b]? = some (.cells cs T fr)) (hTe : T ≠ e) : v.ownBlock ≠ some b := by
  rcases hown.2 with ⟨rfl, _⟩ | ⟨g, cap, cur, rfl, _, hg, _⟩
  · simp [Value.ownBlock]
  · intro h
    simp only [Value.ownBlock, Option.some.injEq] at h
    subst h
    rw [hg] at hb
    simp only [Option.some.injEq, Obj.cells.injEq] at hb
    exact hTe hb.2.1.symm
/-- A row stays where a cell of a block of another type is written. -/
theorem own_set {w : World} {B e size n : Nat} {T : TypeId} {v : Value} {xs : List Value} {b : Nat} {cs : Array Value} {fr : Nat × Nat} (hown : w.ownsRow B e size v n xs) (hb : w.heap[b]? = some (.cells cs T fr)) (hTe : T ≠ e) (j : Nat) (u : Value) : (w.setCell ⟨b, j, none⟩ u).ownsRow B e size v n xs :=
  hown.kept (row := some b) ⟨rfl, rfl, rfl, by simp [World.setCell], fun k _ hk => Below.heap_setCell _ _ _ _ (fun e => hk (by simp [e]))⟩ (.inr (own_ne hown hb hTe))

/-- Four cells written. -/
abbrev set4 (w : World) (b : Nat) (y0 y1 y2 y3 : Value) : World := (((w.setCell ⟨b, 0, none⟩ y0).setCell ⟨b, 1, none⟩ y1).setCell ⟨b, 2, none⟩ y2).setCell ⟨b, 3, none⟩ y3
theorem set4_block {w : World} {b : Nat} {x0 x1 x2 x3 : Value} {T : TypeId} (h : w.heap[b]? = some (.cells #[x0, x1, x2, x3] T (0, 0))) (y0 y1 y2 y3 : Value) : (set4 w b y0 y1 y2 y3).heap[b]? = some (.cells #[y0, y1, y2, y3] T (0, 0)) := by
  have h1 := Joins.block_setCell (i := 0) h y0
  have h2 := Joins.block_setCell (i := 1) h1 y1
  have h3 := Joins.block_setCell (i := 2) h2 y2
  have h4 := Joins.block_setCell (i := 3) h3 y3
  exact h4
theorem set4_own {w : World} {b : Nat} {x0 x1 x2 x3 : Value} {T : TypeId} (h : w.heap[b]? = some (.cells #[x0, x1, x2, x3] T (0, 0))) (y0 y1 y2 y3 : Value) {B e size n : Nat} {v : Value} {xs : List Value} (ho : w.ownsRow B e size v n xs) (hTe : T ≠ e) : (set4 w b y0 y1 y2 y3).ownsRow B e size v n xs := by
  have h1 := Joins.block_setCell (i := 0) h y0
  have h2 := Joins.block_setCell (i := 1) h1 y1
  have h3 := Joins.block_setCell (i := 2) h2 y2
  exact own_set (own_set (own_set (own_set ho h hTe 0 y0) h1 hTe 1 y1) h2 hTe 2 y2) h3 hTe 3 y3
theorem set4_below {a w : World} {b B : Nat} (h : Below B a w) (hB : B ≤ b) (y0 y1 y2 y3 : Value) : Below B a (set4 w b y0 y1 y2 y3) := (((h.setCell hB y0).setCell hB y1).setCell hB y2).setCell hB y3

theorem forms_at {W : World} (h : Tabs W) : ∃ fz t, W.heap[0]? = some (.cells formsCells t fz) := by
  have := h.fo
  unfold World.var? at this
  simp only [gForms, Option.bind_some] at this
  split at this
  · rename_i cs t fz hh
    cases this
    exact ⟨fz, t, hh⟩
  · cases this
theorem formsCells_size : formsCells.size = 40 := by decide +kernel

set_option maxRecDepth 1000000 in
set_option maxHeartbeats 4000000 in
theorem nearest_any (b o cap : Nat) (line : List Tok) (w : World) (hT : Tabs w) (hl : LineOk line) (hcap : line.length ≤ cap) (hn : line.length ≤ 1000000) (ht : TAt w b o line) (hbw : b < w.heap.size) (N : Nr) (hN : near line = N) :
    Calls Tryd.prog 45 #[.slice (some ⟨b, o, none⟩) line.length cap] w fun e w' => ∃ v, e = .returned (.tuple #[formV N.m, v, .int .i64 N.err]) ∧ w'.ownsRow w.heap.size 3 1 v N.ns.length (N.ns.map intV) ∧ Below w.heap.size w w' := by
  have HN : Hid (near line = N) := hN
  clear hN
  have hix := index_forms
  have hFs := formsCells_size
  obtain ⟨fz, tf, h0⟩ := forms_at (hT.alloc (.cells #[.string ⟨#[]⟩, .int .i64 0, .int .i64 0, .int .i64 0] 86))
  generalize formsCells = F at *
  have HF : Hid (F.size = 40) := hFs
  have HX : Hid (∀ (k : Nat) (hk : k < forms.length) (W : World), (Instr.index 87 (.agg F) (.int .i64 k)).run Tryd.prog W = .ok (formV forms[k]) W) := hix
  clear hix hFs
  go_enter Tryd.func45, Tryd.ntmps45
  go_wp2_with (refine wpList_load_row rfl 87 (.global 0) rfl 0 rfl tf F fz _ h0 Tryd.underlying87 rfl (by rw [HF.out]; kernel_rfl) ?_)
  clear h0
  go_loopw [3, 4, 5, 12] (fun v er fu i wr => ∃ (k : Nat) (a : Nr), i = .int .i64 k ∧ k ≤ 10 ∧ er = .int .i64 a.err ∧ fu = .int .i64 a.far ∧ Hid (wr.ownsRow w.heap.size 3 1 v a.ns.length (a.ns.map intV)) ∧ wr.heap[w.heap.size]? = some (.cells #[strV a.m.text, .int .i64 a.m.part, .int .i64 a.m.kind, .int .i64 a.m.says] 86 (0, 0)) ∧ Below w.heap.size w wr ∧ Hid (nearFrom line a (forms.drop k) = N)) (fun _ _ _ i _ => 10 - (intOf i).toNat)
  case atStart => exact ⟨0, ⟨noForm, [], 0, 0⟩, rfl, by omega, rfl, rfl, World.ownsRow_nil _ _ _ _, heap_alloc_new w _, (Below.refl _ _).alloc (Nat.le_refl _) _, HN⟩
  case round =>
    obtain ⟨k, a, rfl, hk, rfl, rfl, ho, hm, hb, hN⟩ := hrel
    clear HN
    have hsz := hb.size
    by_cases hk' : k < 10
    · have hkl : k < forms.length := hk'
      have hix : ∀ W, (Instr.index 87 (.agg F) (.int .i64 k)).run Tryd.prog W = .ok (formV forms[k]) W := fun W => HX.out k hkl W
      have hfm : forms[k] ∈ forms := List.getElem_mem hkl
      have hN2 := hN.out
      rw [List.drop_eq_getElem_cons hkl] at hN2
      have HN2 : Hid (nearFrom line (nearStep line a forms[k]) (forms.drop (k + 1)) = N) := hN2
      obtain ⟨f, hf⟩ : ∃ f, forms[k] = f := ⟨_, rfl⟩
      rw [hf] at hix hfm
      obtain ⟨R, hR⟩ : ∃ R, fol (wants f) line 0 [] = R := ⟨_, rfl⟩
      have HS : Hid (nearStep line a forms[k] = if a.far < R.far then ⟨f, R.ns, R.err, R.far⟩ else a) := by
        show _ = _
        rw [hf]; unfold nearStep; rw [hR]
      have hTr := hT.on hb hT.big
      have hb' : Below w.heap.size w (wr.alloc (.cells #[strV f.text, .int .i64 f.part, .int .i64 f.kind, .int .i64 f.says] 86)) := hb.alloc (by omega) _
      have kF := follow_any hfm b o cap line (wr.alloc (.cells #[strV f.text, .int .i64 f.part, .int .i64 f.kind, .int .i64 f.says] 86)) (hTr.alloc _) hl hcap hn (ht.below hb' hbw) (by simp; omega) R hR
      have kF2 : Calls Tryd.prog 57 #[formV f, .slice (some ⟨b, o, none⟩) line.length cap] (wr.alloc (.cells #[strV f.text, .int .i64 f.part, .int .i64 f.kind, .int .i64 f.says] 86)) fun e w5 => ∃ v, e = .returned (.tuple #[v, .int .i64 R.far, .int .i64 R.err]) ∧ Hid (w5.ownsRow w.heap.size 3 1 v R.ns.length (R.ns.map intV)) ∧ Hid (w5.ownsRow w.heap.size 3 1 u3 a.ns.length (a.ns.map intV)) ∧ Below w.heap.size w w5 ∧ wr.heap.size < w5.heap.size ∧ Hid (w5.heap[wr.heap.size]? = some (.cells #[strV f.text, .int .i64 f.part, .int .i64 f.kind, .int .i64 f.says] 86 (0, 0))) ∧ Hid (w5.heap[w.heap.size]? = some (.cells #[strV a.m.text, .int .i64 a.m.part, .int .i64 a.m.kind, .int .i64 a.m.says] 86 (0, 0))) := by
        refine kF.mono ?_
        rintro e w5 ⟨v5, rfl, ho5, hb5⟩
        have hs5 := hb5.size
        simp at hs5
        refine ⟨v5, rfl, own_base ho5 (by simp; omega), own_keep ho.out hb5, hb'.trans (hb5.mono (by simp; omega)), by omega, ?_, ?_⟩
        · show _ = _
          rw [hb5.block _ (by simp)]; exact heap_alloc_new wr _
        · show _ = _
          rw [hb5.block _ (by simp; omega), Below.heap_alloc _ _ _ (block_lt hm)]; exact hm
      clear hN hN2 hf hR hb' kF hm ho
      by_cases hfar : a.far < R.far
      · have HS2 := HS.out
        rw [if_pos hfar] at HS2
        rw [HS2] at HN2
        clear HS HS2
        go_wp2_with (go_at_call 57; refine kF2.mono ?_; rintro e w5 ⟨v5, rfl, ho5, _, hb5, hs5, e5, m5⟩; obtain ⟨x0, x1, x2, x3, xf⟩ := cells4 e5.out; obtain ⟨y0, y1, y2, y3, yf⟩ := cells4 m5.out)
        go_roundw
        case rel => exact ⟨k + 1, ⟨f, R.ns, R.err, R.far⟩, by go_num, by omega, rfl, rfl, set4_own m5.out _ _ _ _ ho5.out (by decide), set4_block m5.out _ _ _ _, set4_below hb5 (Nat.le_refl _) _ _ _ _, HN2⟩
        case measure => simp [intOf]; omega
      · have HS2 := HS.out
        rw [if_neg hfar] at HS2
        rw [HS2] at HN2
        clear HS HS2
        go_wp2_with (go_at_call 57; refine kF2.mono ?_; rintro e w5 ⟨v5, rfl, _, ho5, hb5, hs5, e5, m5⟩)
        go_roundw
        case rel => exact ⟨k + 1, a, by go_num, by omega, rfl, rfl, ho5, m5.out, hb5, HN2⟩
        case measure => simp [intOf]; omega
    · have hke : k = 10 := by omega
      have hN2 := hN.out
      rw [hke] at hN2
      have hN3 : a = N := hN2
      subst hN3
      obtain ⟨y0, y1, y2, y3, yf⟩ := cells4 hm
      clear hN hN2
      go_wp2
      refine bodyPost_ret (v := .tuple #[formV a.m, u3, .int .i64 a.err]) ?_ rfl ⟨_, rfl, set4_own hm _ _ _ _ ho.out (by decide), set4_below hb (Nat.le_refl _) _ _ _ _⟩
      obtain ⟨z0, z1, z2, z3, _⟩ := cells4 (set4_block hm (strV a.m.text) (.int .i64 a.m.part) (.int .i64 a.m.kind) (.int .i64 a.m.says))
      unfold set4 at z0 z1 z2 z3
      simp [results, Tryd.results45, go_sem, z0, z1, z2, z3]

end Go.Proofs.YtgjfhfjmdkhllaaDoor
