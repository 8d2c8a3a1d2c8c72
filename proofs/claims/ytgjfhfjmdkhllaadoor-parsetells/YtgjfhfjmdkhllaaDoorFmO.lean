/- What formOf of package parse answers: the first form by which an operation's numbers give it back. -/
import Derived.Test.YtgjfhfjmdkhllaaDoorWr
namespace Go.Proofs.YtgjfhfjmdkhllaaDoor
open Go.RowKit
open M
set_option linter.unusedVariables false
set_option linter.unusedSimpArgs false

theorem getN_len (m : Fm) (o : Oz) (h : nums m ≤ 3) : (getN m o).length = nums m := by
  unfold getN
  simp; omega

/-- The numbers of an operation that lies in a block. -/
theorem get_op (m : Fm) (o : Oz) (g h : Nat) (w : World) (hn : nums m ≤ 3) (hg : w.heap[g]? = some (.cells (opA o) 46 (0, 0))) (hh : w.heap[h]? = some (.cells #[ptr g 1, ptr g 2, ptr g (third m)] 113 (0, 0))) :
    Calls Tryd.prog 38 #[.slice (some ⟨h, 0, none⟩) (nums m) 3] w fun e w' => ∃ v, e = .returned v ∧ w'.ownsRow w.heap.size 3 1 v (getN m o).length ((getN m o).map intV) ∧ Below w.heap.size w w' := by
  refine get_any h g (nums m) 3 _ [1, 2, third m] (getN m o) w hh ?_ (getN_len m o hn) ?_ hn (by omega)
  · intro k hk
    have : k = 0 ∨ k = 1 ∨ k = 2 := by omega
    rcases this with rfl | rfl | rfl <;> rfl
  · intro k hk
    rw [getN_len m o hn] at hk
    rw [Lib.cell_of_heap hg]
    have hget : (getN m o)[k]'(by rw [getN_len m o hn]; exact hk) = [o.a, o.b, if m.says = 0 then o.c else o.d][k]'(by simp; omega) := by
      unfold getN
      rw [List.getElem_take]
    have : k = 0 ∨ k = 1 ∨ k = 2 := by omega
    rcases this with rfl | rfl | rfl
    · rw [hget]; rfl
    · rw [hget]; rfl
    · rw [hget]
      show (opA o)[third m]? = _
      unfold third
      by_cases hs : m.says = 0
      · rw [if_pos hs]; simp [hs, opA]
      · rw [if_neg hs]; simp [hs, opA]

/-- What formOf ends with. -/
def Formed (R : Option Fm) (e : Ending) : Prop :=
  match R with
  | some m => e = .returned (formV m)
  | none => e = .panicked (faultV 0 1)

theorem cells5 {w : World} {b : Nat} {x0 x1 x2 x3 x4 : Value} {T : TypeId} (h : w.heap[b]? = some (.cells #[x0, x1, x2, x3, x4] T (0, 0))) : w.cell? ⟨b, 0, none⟩ = some x0 ∧ w.cell? ⟨b, 1, none⟩ = some x1 ∧ w.cell? ⟨b, 2, none⟩ = some x2 ∧ w.cell? ⟨b, 3, none⟩ = some x3 ∧ w.cell? ⟨b, 4, none⟩ = some x4 :=
  ⟨by rw [Lib.cell_of_heap h]; rfl, by rw [Lib.cell_of_heap h]; rfl, by rw [Lib.cell_of_heap h]; rfl, by rw [Lib.cell_of_heap h]; rfl, by rw [Lib.cell_of_heap h]; rfl⟩

set_option maxRecDepth 1000000 in
set_option maxHeartbeats 8000000 in
theorem formOf_any (o : Oz) (w : World) (hT : Tabs w) (R : Option Fm) (hR : M.formOf o = R) :
    Calls Tryd.prog 40 #[.agg #[.int .i64 o.kind, .int .i64 o.a, .int .i64 o.b, .int .i64 o.c, .int .i64 o.d]] w fun e w' => Formed R e ∧ Below w.heap.size w w' := by
  obtain ⟨fz, tf, h0⟩ := forms_at ((hT.alloc (.cells #[.int .i64 o.kind, .int .i64 o.a, .int .i64 o.b, .int .i64 o.c, .int .i64 o.d] 46)).alloc (.cells #[.string ⟨#[]⟩, .int .i64 0, .int .i64 0, .int .i64 0] 86))
  have hix := index_forms
  have hFs := formsCells_size
  generalize formsCells = F at *
  have HF : Hid (F.size = 40) := hFs
  have HX : Hid (∀ (k : Nat) (hk : k < forms.length) (W : World), (Instr.index 87 (.agg F) (.int .i64 k)).run Tryd.prog W = .ok (formV forms[k]) W) := hix
  clear hix hFs
  have HR : Hid (forms.find? (fun m => isOp m o) = R) := hR
  clear hR
  go_enter Tryd.func40, Tryd.ntmps40
  go_wp2_with (refine wpList_load_row rfl 87 (.global 0) rfl 0 rfl tf F fz _ h0 Tryd.underlying87 rfl (by rw [HF.out]; kernel_rfl) ?_)
  clear h0
  go_loopw [6] (fun i wr => ∃ k : Nat, i = .int .i64 k ∧ k ≤ 10 ∧ Hid (wr.heap[w.heap.size]? = some (.cells (opA o) 46 (0, 0))) ∧ Hid (wr.heap[w.heap.size + 1]? = some (.cells #[.string ⟨#[]⟩, .int .i64 0, .int .i64 0, .int .i64 0] 86 (0, 0))) ∧ Below w.heap.size w wr ∧ w.heap.size + 2 ≤ wr.heap.size ∧ Hid ((forms.drop k).find? (fun m => isOp m o) = R)) (fun i _ => 10 - (intOf i).toNat)
  case atStart =>
    refine ⟨0, rfl, by omega, ?_, heap_alloc2_new w _ _, Joins.below_alloc2 w _ _, by simp, HR⟩
    show _ = _
    rw [Below.heap_alloc _ _ _ (by simp)]; exact heap_alloc_new w _
  case round =>
    obtain ⟨k, rfl, hk, hop, hrs, hb, hsz, hfd⟩ := hrel
    clear HR
    have hsz0 := hb.size
    by_cases hk' : k < 10
    · have hkl : k < forms.length := hk'
      have hix : ∀ W, (Instr.index 87 (.agg F) (.int .i64 k)).run Tryd.prog W = .ok (formV forms[k]) W := fun W => HX.out k hkl W
      have hfm : forms[k] ∈ forms := List.getElem_mem hkl
      have hfd2 := hfd.out
      rw [List.drop_eq_getElem_cons hkl, List.find?_cons] at hfd2
      obtain ⟨f, hf⟩ : ∃ f, forms[k] = f := ⟨_, rfl⟩
      rw [hf] at hix hfm hfd2
      obtain ⟨_, _, _, _, hn3, _⟩ := form_facts hfm
      clear hf hfd
      by_cases hp : f.part = 3
      · obtain ⟨nm, hnm⟩ : ∃ nm, nums f = nm := ⟨_, rfl⟩
        have hn3' := hn3 hp
        obtain ⟨Q, hQ⟩ : ∃ Q, opOf f (getN f o) = Q := ⟨_, rfl⟩
        have hlenN := getN_len f o hn3'
        -- a world in which the operation and the form lie as they must
        let Sc : World → Prop := fun W => W.heap[w.heap.size]? = some (.cells #[.int .i64 o.kind, .int .i64 o.a, .int .i64 o.b, .int .i64 o.c, .int .i64 o.d] 46 (0, 0)) ∧ W.heap[wr.heap.size]? = some (.cells #[strV f.text, .int .i64 f.part, .int .i64 f.kind, .int .i64 f.says] 86 (0, 0)) ∧ W.heap[w.heap.size + 1]? = some (.cells #[.string ⟨#[]⟩, .int .i64 0, .int .i64 0, .int .i64 0] 86 (0, 0)) ∧ Below w.heap.size w W ∧ wr.heap.size < W.heap.size
        have hScB : ∀ W W', Sc W → Below W.heap.size W W' → Sc W' := fun W W' ⟨s1, s2, s3, s4, s5⟩ hW => ⟨by rw [hW.block _ (block_lt s1)]; exact s1, by rw [hW.block _ (block_lt s2)]; exact s2, by rw [hW.block _ (block_lt s3)]; exact s3, s4.trans (hW.mono s4.size), Nat.lt_of_lt_of_le s5 hW.size⟩
        have kA : ∀ W, Sc W → Calls Tryd.prog 41 #[formV f, ptr w.heap.size 0] W fun e w' => ∃ h, e = .returned (.slice (some ⟨h, 0, none⟩) nm 3) ∧ Hid (w'.heap[h]? = some (.cells #[ptr w.heap.size 1, ptr w.heap.size 2, ptr w.heap.size (third f)] 113 (0, 0))) ∧ Hid (Sc w') := fun W hS => by
          refine (opFields_any f w.heap.size W hn3').mono ?_
          rintro e w' ⟨h, rfl, h1, h2⟩
          exact ⟨h, by rw [hnm], h1, hScB _ _ hS h2⟩
        have kB : ∀ W h, Sc W → W.heap[h]? = some (.cells #[ptr w.heap.size 1, ptr w.heap.size 2, ptr w.heap.size (third f)] 113 (0, 0)) → Calls Tryd.prog 38 #[.slice (some ⟨h, 0, none⟩) nm 3] W fun e w' => ∃ v, e = .returned v ∧ Hid (w'.ownsRow W.heap.size 3 1 v (getN f o).length ((getN f o).map intV)) ∧ Hid (Sc w') := fun W h hS hh => by
          have := get_op f o w.heap.size h W hn3' hS.1 hh
          rw [hnm] at this
          refine this.mono ?_
          rintro e w' ⟨v, rfl, h1, h2⟩
          exact ⟨v, rfl, h1, hScB _ _ hS h2⟩
        have kC : ∀ W base v, Sc W → W.ownsRow base 3 1 v (getN f o).length ((getN f o).map intV) → Calls Tryd.prog 49 #[formV f, v] W fun e w' => e = .returned (.agg #[.int .i64 Q.kind, .int .i64 Q.a, .int .i64 Q.b, .int .i64 Q.c, .int .i64 Q.d]) ∧ Hid (Sc w') := fun W base v hS ho => by
          refine (opOf_any f v (getN f o) base W hn3' (by omega) (by omega) ho).mono ?_
          rintro e w' ⟨rfl, h2⟩
          exact ⟨by rw [hQ]; rfl, hScB _ _ hS h2⟩
        have hS0 : Hid (Sc (wr.alloc (.cells #[strV f.text, .int .i64 f.part, .int .i64 f.kind, .int .i64 f.says] 86)).drew) := by
          refine ⟨?_, ?_, ?_, (hb.alloc hsz0 _).drew, ?_⟩
          · show (World.alloc _ _).heap[_]? = _
            rw [Below.heap_alloc _ _ _ (by omega)]; exact hop.out
          · exact heap_alloc_new wr _
          · show (World.alloc _ _).heap[_]? = _
            rw [Below.heap_alloc _ _ _ (by omega)]; exact hrs.out
          · show _ < (World.alloc _ _).heap.size
            simp
        have HS : Hid (∀ W, Sc W → W.heap[w.heap.size]? = some (.cells #[.int .i64 o.kind, .int .i64 o.a, .int .i64 o.b, .int .i64 o.c, .int .i64 o.d] 46 (0, 0)) ∧ W.heap[wr.heap.size]? = some (.cells #[strV f.text, .int .i64 f.part, .int .i64 f.kind, .int .i64 f.says] 86 (0, 0)) ∧ W.heap[w.heap.size + 1]? = some (.cells #[.string ⟨#[]⟩, .int .i64 0, .int .i64 0, .int .i64 0] 86 (0, 0)) ∧ Below w.heap.size w W ∧ wr.heap.size < W.heap.size) := fun W h => h
        clear_value Sc
        obtain ⟨c0, c1, c2, c3, c4⟩ := cells5 hop.out
        have hlt0 : w.heap.size < wr.heap.size := by omega
        have HIO : Hid (isOp f o = decide (Q.kind = o.kind ∧ Q.a = o.a ∧ Q.b = o.b ∧ Q.c = o.c ∧ Q.d = o.d)) := by
          show _ = _
          unfold isOp
          rw [hQ]
          simp [hp]
        have HP : Hid (f.part = 3) := hp
        have hp1 : (((f.part : Nat) : Int) == 3) = true := by rw [hp]; rfl
        have HFD : Hid ((match isOp f o with | true => some f | false => (forms.drop (k + 1)).find? (fun m => isOp m o)) = R) := hfd2
        clear hp hfd2 hQ hnm hn3 hlenN hScB hn3'
        by_cases e0 : Q.kind = o.kind
        · by_cases e1 : Q.a = o.a
          · by_cases e2 : Q.b = o.b
            · by_cases e3 : Q.c = o.c
              · by_cases e4 : Q.d = o.d
                · have HR2 : Hid (R = some f) := by
                    have := HFD.out
                    rw [show isOp f o = true from by rw [HIO.out]; simp [e0, e1, e2, e3, e4]] at this
                    exact this.symm
                  clear HIO HFD
                  go_wp2
                  go_region_held3 (fun W => W.cell? ⟨w.heap.size, 0, none⟩ = some (.int .i64 o.kind) ∧ W.cell? ⟨w.heap.size, 1, none⟩ = some (.int .i64 o.a) ∧ W.cell? ⟨w.heap.size, 2, none⟩ = some (.int .i64 o.b) ∧ W.cell? ⟨w.heap.size, 3, none⟩ = some (.int .i64 o.c) ∧ W.cell? ⟨w.heap.size, 4, none⟩ = some (.int .i64 o.d) ∧ W.cell? ⟨wr.heap.size, 0, none⟩ = some (strV f.text) ∧ W.cell? ⟨wr.heap.size, 1, none⟩ = some (.int .i64 f.part) ∧ W.cell? ⟨wr.heap.size, 2, none⟩ = some (.int .i64 f.kind) ∧ W.cell? ⟨wr.heap.size, 3, none⟩ = some (.int .i64 f.says)) (first | go_keep | (go_split_ands; exact ⟨c0, c1, c2, c3, c4, d0, d1, d2, d3⟩))
                    (first
                      | (go_simp; go_at_call 41; refine (kA _ hS0.out).mono ?_; rintro e wA ⟨h, rfl, hh, hSA⟩; obtain ⟨u1, u2, _, _, _⟩ := HS.out _ hSA.out; obtain ⟨c0, c1, c2, c3, c4⟩ := cells5 u1; obtain ⟨d0, d1, d2, d3, _⟩ := cells4 u2; clear u1 u2)
                      | (go_simp; go_at_call 38; refine (kB _ h hSA.out hh.out).mono ?_; rintro e wB ⟨v, rfl, ho, hSB⟩; obtain ⟨u1, u2, _, _, _⟩ := HS.out _ hSB.out; obtain ⟨c0, c1, c2, c3, c4⟩ := cells5 u1; obtain ⟨d0, d1, d2, d3, _⟩ := cells4 u2; clear u1 u2)
                      | (go_simp; go_at_call 49; refine (kC _ _ v hSB.out ho.out).mono ?_; rintro e wC ⟨rfl, hSC⟩; obtain ⟨u1, u2, u3, _, _⟩ := HS.out _ hSC.out; obtain ⟨c0, c1, c2, c3, c4⟩ := cells5 u1; obtain ⟨d0, d1, d2, d3, _⟩ := cells4 u2; obtain ⟨q0, q1, q2, q3, qf⟩ := cells4 u3; clear u1 u2 u3))
                  all_goals go_wp2
                  all_goals (
                    have hR3 := HR2.out
                    subst hR3
                    exact bodyPost_ret (results_cell_row Tryd.results40 _ _ (w.heap.size + 1) 86 #[strV f.text, .int .i64 f.part, .int .i64 f.kind, .int .i64 f.says] (0, 0) _ rfl (set4_block (HS.out _ hSC.out).2.2.1 _ _ _ _) Tryd.underlying86 rfl (by kernel_rfl)) rfl ⟨rfl, set4_below (HS.out _ hSC.out).2.2.2.1 (by omega) _ _ _ _⟩)
                · have hio : isOp f o = false := by rw [HIO.out]; simp only [decide_eq_false_iff_not]; rintro ⟨k0, k1, k2, k3, k4⟩; exact e4 k4
                  have HFD2 : Hid ((forms.drop (k + 1)).find? (fun m => isOp m o) = R) := by
                    have := HFD.out
                    rw [hio] at this
                    exact this
                  clear hio HIO HFD
                  go_wp2
                  go_region_held3 (fun W => W.cell? ⟨w.heap.size, 0, none⟩ = some (.int .i64 o.kind) ∧ W.cell? ⟨w.heap.size, 1, none⟩ = some (.int .i64 o.a) ∧ W.cell? ⟨w.heap.size, 2, none⟩ = some (.int .i64 o.b) ∧ W.cell? ⟨w.heap.size, 3, none⟩ = some (.int .i64 o.c) ∧ W.cell? ⟨w.heap.size, 4, none⟩ = some (.int .i64 o.d) ∧ W.cell? ⟨wr.heap.size, 0, none⟩ = some (strV f.text) ∧ W.cell? ⟨wr.heap.size, 1, none⟩ = some (.int .i64 f.part) ∧ W.cell? ⟨wr.heap.size, 2, none⟩ = some (.int .i64 f.kind) ∧ W.cell? ⟨wr.heap.size, 3, none⟩ = some (.int .i64 f.says)) (first | go_keep | (go_split_ands; exact ⟨c0, c1, c2, c3, c4, d0, d1, d2, d3⟩))
                    (first
                      | (go_simp; go_at_call 41; refine (kA _ hS0.out).mono ?_; rintro e wA ⟨h, rfl, hh, hSA⟩; obtain ⟨u1, u2, _, _, _⟩ := HS.out _ hSA.out; obtain ⟨c0, c1, c2, c3, c4⟩ := cells5 u1; obtain ⟨d0, d1, d2, d3, _⟩ := cells4 u2; clear u1 u2)
                      | (go_simp; go_at_call 38; refine (kB _ h hSA.out hh.out).mono ?_; rintro e wB ⟨v, rfl, ho, hSB⟩; obtain ⟨u1, u2, _, _, _⟩ := HS.out _ hSB.out; obtain ⟨c0, c1, c2, c3, c4⟩ := cells5 u1; obtain ⟨d0, d1, d2, d3, _⟩ := cells4 u2; clear u1 u2)
                      | (go_simp; go_at_call 49; refine (kC _ _ v hSB.out ho.out).mono ?_; rintro e wC ⟨rfl, hSC⟩; obtain ⟨u1, u2, u3, _, _⟩ := HS.out _ hSC.out; obtain ⟨c0, c1, c2, c3, c4⟩ := cells5 u1; obtain ⟨d0, d1, d2, d3, _⟩ := cells4 u2; obtain ⟨q0, q1, q2, q3, qf⟩ := cells4 u3; clear u1 u2 u3))
                  all_goals go_wp2
                  all_goals go_roundw
                  all_goals first
                    | exact ⟨k + 1, by go_num, by omega, (HS.out _ hSC.out).1, (HS.out _ hSC.out).2.2.1, (HS.out _ hSC.out).2.2.2.1, by have := (HS.out _ hSC.out).2.2.2.2; omega, HFD2⟩
                    | (simp [intOf]; omega)
              · have hio : isOp f o = false := by rw [HIO.out]; simp only [decide_eq_false_iff_not]; rintro ⟨k0, k1, k2, k3, k4⟩; exact e3 k3
                have HFD2 : Hid ((forms.drop (k + 1)).find? (fun m => isOp m o) = R) := by
                  have := HFD.out
                  rw [hio] at this
                  exact this
                clear hio HIO HFD
                go_wp2
                go_region_held3 (fun W => W.cell? ⟨w.heap.size, 0, none⟩ = some (.int .i64 o.kind) ∧ W.cell? ⟨w.heap.size, 1, none⟩ = some (.int .i64 o.a) ∧ W.cell? ⟨w.heap.size, 2, none⟩ = some (.int .i64 o.b) ∧ W.cell? ⟨w.heap.size, 3, none⟩ = some (.int .i64 o.c) ∧ W.cell? ⟨w.heap.size, 4, none⟩ = some (.int .i64 o.d) ∧ W.cell? ⟨wr.heap.size, 0, none⟩ = some (strV f.text) ∧ W.cell? ⟨wr.heap.size, 1, none⟩ = some (.int .i64 f.part) ∧ W.cell? ⟨wr.heap.size, 2, none⟩ = some (.int .i64 f.kind) ∧ W.cell? ⟨wr.heap.size, 3, none⟩ = some (.int .i64 f.says)) (first | go_keep | (go_split_ands; exact ⟨c0, c1, c2, c3, c4, d0, d1, d2, d3⟩))
                  (first
                    | (go_simp; go_at_call 41; refine (kA _ hS0.out).mono ?_; rintro e wA ⟨h, rfl, hh, hSA⟩; obtain ⟨u1, u2, _, _, _⟩ := HS.out _ hSA.out; obtain ⟨c0, c1, c2, c3, c4⟩ := cells5 u1; obtain ⟨d0, d1, d2, d3, _⟩ := cells4 u2; clear u1 u2)
                    | (go_simp; go_at_call 38; refine (kB _ h hSA.out hh.out).mono ?_; rintro e wB ⟨v, rfl, ho, hSB⟩; obtain ⟨u1, u2, _, _, _⟩ := HS.out _ hSB.out; obtain ⟨c0, c1, c2, c3, c4⟩ := cells5 u1; obtain ⟨d0, d1, d2, d3, _⟩ := cells4 u2; clear u1 u2)
                    | (go_simp; go_at_call 49; refine (kC _ _ v hSB.out ho.out).mono ?_; rintro e wC ⟨rfl, hSC⟩; obtain ⟨u1, u2, u3, _, _⟩ := HS.out _ hSC.out; obtain ⟨c0, c1, c2, c3, c4⟩ := cells5 u1; obtain ⟨d0, d1, d2, d3, _⟩ := cells4 u2; obtain ⟨q0, q1, q2, q3, qf⟩ := cells4 u3; clear u1 u2 u3))
                all_goals go_wp2
                all_goals go_roundw
                all_goals first
                  | exact ⟨k + 1, by go_num, by omega, (HS.out _ hSC.out).1, (HS.out _ hSC.out).2.2.1, (HS.out _ hSC.out).2.2.2.1, by have := (HS.out _ hSC.out).2.2.2.2; omega, HFD2⟩
                  | (simp [intOf]; omega)
            · have hio : isOp f o = false := by rw [HIO.out]; simp only [decide_eq_false_iff_not]; rintro ⟨k0, k1, k2, k3, k4⟩; exact e2 k2
              have HFD2 : Hid ((forms.drop (k + 1)).find? (fun m => isOp m o) = R) := by
                have := HFD.out
                rw [hio] at this
                exact this
              clear hio HIO HFD
              go_wp2
              go_region_held3 (fun W => W.cell? ⟨w.heap.size, 0, none⟩ = some (.int .i64 o.kind) ∧ W.cell? ⟨w.heap.size, 1, none⟩ = some (.int .i64 o.a) ∧ W.cell? ⟨w.heap.size, 2, none⟩ = some (.int .i64 o.b) ∧ W.cell? ⟨w.heap.size, 3, none⟩ = some (.int .i64 o.c) ∧ W.cell? ⟨w.heap.size, 4, none⟩ = some (.int .i64 o.d) ∧ W.cell? ⟨wr.heap.size, 0, none⟩ = some (strV f.text) ∧ W.cell? ⟨wr.heap.size, 1, none⟩ = some (.int .i64 f.part) ∧ W.cell? ⟨wr.heap.size, 2, none⟩ = some (.int .i64 f.kind) ∧ W.cell? ⟨wr.heap.size, 3, none⟩ = some (.int .i64 f.says)) (first | go_keep | (go_split_ands; exact ⟨c0, c1, c2, c3, c4, d0, d1, d2, d3⟩))
                (first
                  | (go_simp; go_at_call 41; refine (kA _ hS0.out).mono ?_; rintro e wA ⟨h, rfl, hh, hSA⟩; obtain ⟨u1, u2, _, _, _⟩ := HS.out _ hSA.out; obtain ⟨c0, c1, c2, c3, c4⟩ := cells5 u1; obtain ⟨d0, d1, d2, d3, _⟩ := cells4 u2; clear u1 u2)
                  | (go_simp; go_at_call 38; refine (kB _ h hSA.out hh.out).mono ?_; rintro e wB ⟨v, rfl, ho, hSB⟩; obtain ⟨u1, u2, _, _, _⟩ := HS.out _ hSB.out; obtain ⟨c0, c1, c2, c3, c4⟩ := cells5 u1; obtain ⟨d0, d1, d2, d3, _⟩ := cells4 u2; clear u1 u2)
                  | (go_simp; go_at_call 49; refine (kC _ _ v hSB.out ho.out).mono ?_; rintro e wC ⟨rfl, hSC⟩; obtain ⟨u1, u2, u3, _, _⟩ := HS.out _ hSC.out; obtain ⟨c0, c1, c2, c3, c4⟩ := cells5 u1; obtain ⟨d0, d1, d2, d3, _⟩ := cells4 u2; obtain ⟨q0, q1, q2, q3, qf⟩ := cells4 u3; clear u1 u2 u3))
              all_goals go_wp2
              all_goals go_roundw
              all_goals first
                | exact ⟨k + 1, by go_num, by omega, (HS.out _ hSC.out).1, (HS.out _ hSC.out).2.2.1, (HS.out _ hSC.out).2.2.2.1, by have := (HS.out _ hSC.out).2.2.2.2; omega, HFD2⟩
                | (simp [intOf]; omega)
          · have hio : isOp f o = false := by rw [HIO.out]; simp only [decide_eq_false_iff_not]; rintro ⟨k0, k1, k2, k3, k4⟩; exact e1 k1
            have HFD2 : Hid ((forms.drop (k + 1)).find? (fun m => isOp m o) = R) := by
              have := HFD.out
              rw [hio] at this
              exact this
            clear hio HIO HFD
            go_wp2
            go_region_held3 (fun W => W.cell? ⟨w.heap.size, 0, none⟩ = some (.int .i64 o.kind) ∧ W.cell? ⟨w.heap.size, 1, none⟩ = some (.int .i64 o.a) ∧ W.cell? ⟨w.heap.size, 2, none⟩ = some (.int .i64 o.b) ∧ W.cell? ⟨w.heap.size, 3, none⟩ = some (.int .i64 o.c) ∧ W.cell? ⟨w.heap.size, 4, none⟩ = some (.int .i64 o.d) ∧ W.cell? ⟨wr.heap.size, 0, none⟩ = some (strV f.text) ∧ W.cell? ⟨wr.heap.size, 1, none⟩ = some (.int .i64 f.part) ∧ W.cell? ⟨wr.heap.size, 2, none⟩ = some (.int .i64 f.kind) ∧ W.cell? ⟨wr.heap.size, 3, none⟩ = some (.int .i64 f.says)) (first | go_keep | (go_split_ands; exact ⟨c0, c1, c2, c3, c4, d0, d1, d2, d3⟩))
              (first
                | (go_simp; go_at_call 41; refine (kA _ hS0.out).mono ?_; rintro e wA ⟨h, rfl, hh, hSA⟩; obtain ⟨u1, u2, _, _, _⟩ := HS.out _ hSA.out; obtain ⟨c0, c1, c2, c3, c4⟩ := cells5 u1; obtain ⟨d0, d1, d2, d3, _⟩ := cells4 u2; clear u1 u2)
                | (go_simp; go_at_call 38; refine (kB _ h hSA.out hh.out).mono ?_; rintro e wB ⟨v, rfl, ho, hSB⟩; obtain ⟨u1, u2, _, _, _⟩ := HS.out _ hSB.out; obtain ⟨c0, c1, c2, c3, c4⟩ := cells5 u1; obtain ⟨d0, d1, d2, d3, _⟩ := cells4 u2; clear u1 u2)
                | (go_simp; go_at_call 49; refine (kC _ _ v hSB.out ho.out).mono ?_; rintro e wC ⟨rfl, hSC⟩; obtain ⟨u1, u2, u3, _, _⟩ := HS.out _ hSC.out; obtain ⟨c0, c1, c2, c3, c4⟩ := cells5 u1; obtain ⟨d0, d1, d2, d3, _⟩ := cells4 u2; obtain ⟨q0, q1, q2, q3, qf⟩ := cells4 u3; clear u1 u2 u3))
            all_goals go_wp2
            all_goals go_roundw
            all_goals first
              | exact ⟨k + 1, by go_num, by omega, (HS.out _ hSC.out).1, (HS.out _ hSC.out).2.2.1, (HS.out _ hSC.out).2.2.2.1, by have := (HS.out _ hSC.out).2.2.2.2; omega, HFD2⟩
              | (simp [intOf]; omega)
        · have hio : isOp f o = false := by rw [HIO.out]; simp only [decide_eq_false_iff_not]; rintro ⟨k0, k1, k2, k3, k4⟩; exact e0 k0
          have HFD2 : Hid ((forms.drop (k + 1)).find? (fun m => isOp m o) = R) := by
            have := HFD.out
            rw [hio] at this
            exact this
          clear hio HIO HFD
          go_wp2
          go_region_held3 (fun W => W.cell? ⟨w.heap.size, 0, none⟩ = some (.int .i64 o.kind) ∧ W.cell? ⟨w.heap.size, 1, none⟩ = some (.int .i64 o.a) ∧ W.cell? ⟨w.heap.size, 2, none⟩ = some (.int .i64 o.b) ∧ W.cell? ⟨w.heap.size, 3, none⟩ = some (.int .i64 o.c) ∧ W.cell? ⟨w.heap.size, 4, none⟩ = some (.int .i64 o.d) ∧ W.cell? ⟨wr.heap.size, 0, none⟩ = some (strV f.text) ∧ W.cell? ⟨wr.heap.size, 1, none⟩ = some (.int .i64 f.part) ∧ W.cell? ⟨wr.heap.size, 2, none⟩ = some (.int .i64 f.kind) ∧ W.cell? ⟨wr.heap.size, 3, none⟩ = some (.int .i64 f.says)) (first | go_keep | (go_split_ands; exact ⟨c0, c1, c2, c3, c4, d0, d1, d2, d3⟩))
            (first
              | (go_simp; go_at_call 41; refine (kA _ hS0.out).mono ?_; rintro e wA ⟨h, rfl, hh, hSA⟩; obtain ⟨u1, u2, _, _, _⟩ := HS.out _ hSA.out; obtain ⟨c0, c1, c2, c3, c4⟩ := cells5 u1; obtain ⟨d0, d1, d2, d3, _⟩ := cells4 u2; clear u1 u2)
              | (go_simp; go_at_call 38; refine (kB _ h hSA.out hh.out).mono ?_; rintro e wB ⟨v, rfl, ho, hSB⟩; obtain ⟨u1, u2, _, _, _⟩ := HS.out _ hSB.out; obtain ⟨c0, c1, c2, c3, c4⟩ := cells5 u1; obtain ⟨d0, d1, d2, d3, _⟩ := cells4 u2; clear u1 u2)
              | (go_simp; go_at_call 49; refine (kC _ _ v hSB.out ho.out).mono ?_; rintro e wC ⟨rfl, hSC⟩; obtain ⟨u1, u2, u3, _, _⟩ := HS.out _ hSC.out; obtain ⟨c0, c1, c2, c3, c4⟩ := cells5 u1; obtain ⟨d0, d1, d2, d3, _⟩ := cells4 u2; obtain ⟨q0, q1, q2, q3, qf⟩ := cells4 u3; clear u1 u2 u3))
          all_goals go_wp2
          all_goals go_roundw
          all_goals first
            | exact ⟨k + 1, by go_num, by omega, (HS.out _ hSC.out).1, (HS.out _ hSC.out).2.2.1, (HS.out _ hSC.out).2.2.2.1, by have := (HS.out _ hSC.out).2.2.2.2; omega, HFD2⟩
            | (simp [intOf]; omega)
      · have hio : isOp f o = false := by unfold isOp; simp [hp]
        rw [hio] at hfd2
        have HFD : Hid ((forms.drop (k + 1)).find? (fun m => isOp m o) = R) := hfd2
        have hp1 : (((f.part : Nat) : Int) == 3) = false := beq_eq_false_iff_ne.2 (by omega)
        clear hio hfd2 hp hn3
        go_wp2
        go_region
        all_goals go_wp2
        all_goals go_roundw
        case rel => exact ⟨k + 1, by go_num, by omega, by (show _ = _; show (World.alloc _ _).heap[_]? = _; rw [Below.heap_alloc _ _ _ (by omega)]; exact hop.out), by (show _ = _; show (World.alloc _ _).heap[_]? = _; rw [Below.heap_alloc _ _ _ (by omega)]; exact hrs.out), (hb.alloc hsz0 _).drew, by show _ ≤ (World.alloc _ _).heap.size; simp; omega, HFD⟩
        case measure => simp [intOf]; omega
    · have hk10 : k = 10 := by omega
      have hfd2 := hfd.out
      rw [hk10] at hfd2
      have hfd3 : none = R := hfd2
      subst hfd3
      clear hfd2 hfd hk10
      go_wp2
      exact ⟨rfl, rfl, hb⟩

end Go.Proofs.YtgjfhfjmdkhllaaDoor
