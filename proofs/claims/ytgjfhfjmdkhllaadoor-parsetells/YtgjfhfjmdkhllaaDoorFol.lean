/- What follow of package parse answers: how far a line follows a form. -/
import Derived.Test.YtgjfhfjmdkhllaaDoorTab
import Derived.BigQuiet
namespace Go.Proofs.YtgjfhfjmdkhllaaDoor
open Go.RowKit
open M
set_option linter.unusedVariables false

abbrev intV (n : Int) : Value := .int .i64 n
theorem info9 : (Tryd.prog.info? 9).map (fun i => (i.zero, i.size, i.bytes)) = some (some (.string ByteArray.empty), 1, 16) := by kernel_rfl
theorem info3 : (Tryd.prog.info? 3).map (fun i => (i.zero, i.size, i.bytes)) = some (some (.int .i64 0), 1, 8) := by kernel_rfl

theorem own_cell {w : World} {base e g n cap : Nat} {xs : List Value} (h : w.ownsRow base e 1 (.slice (some ⟨g, 0, none⟩) n cap) n xs) (i : Nat) (hi : i < xs.length) : w.cell? ⟨g, i, none⟩ = some xs[i] := by
  have := h.cells (g := g) rfl i xs[i] (List.getElem?_eq_getElem hi)
  rw [Addr.add_lit, Nat.zero_add] at this
  exact this

/-- What is owned from a number on is owned from a smaller one on. -/
theorem own_base {w : World} {base base' e size n : Nat} {v : Value} {xs : List Value} (h : w.ownsRow base e size v n xs) (hb : base' ≤ base) : w.ownsRow base' e size v n xs := by
  obtain ⟨h1, h2⟩ := h
  refine ⟨h1, ?_⟩
  rcases h2 with h2 | ⟨g, c, cur, e1, e2, e3⟩
  · exact .inl h2
  · exact .inr ⟨g, c, cur, e1, by omega, e3⟩

/-- What is owned stays owned where only new blocks come. -/
theorem own_keep {w w' : World} {o : Obj} {base e size n : Nat} {v : Value} {xs : List Value} (h : w.ownsRow base e size v n xs) (hb : Below (w.alloc o).heap.size (w.alloc o) w') : w'.ownsRow base e size v n xs := by
  have h' := h.alloc o
  refine h'.kept (row := none) ⟨hb.os, hb.tape, hb.output, hb.size, fun k hk _ => hb.block k hk⟩ ?_
  cases hv : v.ownBlock with
  | none => exact .inl rfl
  | some k => exact .inr (by simp)

/-- Rows of other element types are other blocks. -/
theorem own_other {w w' : World} {b1 e1 s1 n1 b2 e2 s2 n2 : Nat} {v1 v2 : Value} {x1 x2 : List Value} (h1 : w.ownsRow b1 e1 s1 v1 n1 x1) (h2 : w.ownsRow b2 e2 s2 v2 n2 x2) (hne : e1 ≠ e2) (hg : w.grownBy w' v2.ownBlock) : w'.ownsRow b1 e1 s1 v1 n1 x1 := by
  refine h1.kept hg ?_
  rcases h1.2 with ⟨rfl, _⟩ | ⟨g1, c1, cur1, rfl, _, hb1, _⟩
  · exact .inl rfl
  · right
    rcases h2.2 with ⟨rfl, _⟩ | ⟨g2, c2, cur2, rfl, _, hb2, _⟩
    · simp [Value.ownBlock]
    · simp only [Value.ownBlock, ne_eq, Option.some.injEq]
      intro h
      subst h
      rw [hb1] at hb2
      simp only [Option.some.injEq, Obj.cells.injEq] at hb2
      exact hne hb2.2.1
theorem ints_snoc {w : World} {base : Nat} {v : Value} {ns : List Int} {V : Int} (h : w.ownsRow base 3 1 v (ns.length + 1) (ns.map intV ++ [intV V])) : w.ownsRow base 3 1 v (ns ++ [V]).length ((ns ++ [V]).map intV) := by
  rw [List.length_append, List.map_append]; exact h

theorem wants_len (m : Fm) : (wants m).length = (words m).length + 1 := by simp [wants]

theorem wants_at_last (m : Fm) {k : Nat} (hk : k < (wants m).length) (h : k + 1 = (wants m).length) : (wants m)[k] = [] := by
  have e : (wants m)[k]? = some [] := by
    have hl := wants_len m
    unfold wants
    rw [List.getElem?_append_right (by omega), show k - (words m).length = 0 by omega]
    rfl
  rw [List.getElem?_eq_getElem hk] at e
  exact Option.some.inj e

theorem parse_tok (l : List UInt8) (hl : l.length ≤ 65536) (w : World) (E V : Int) (hE : pE l = E) (hV : pV l = V) : Calls Tryd.prog 65 #[strV l] w fun e w' => e = .returned (.tuple #[.int .i64 V, .int .i64 E]) ∧ Below w.heap.size w w' := by
  subst hE; subst hV
  have := parse_any ⟨l.toArray⟩ (by show l.toArray.size ≤ _; simp; omega) w
  have e1 : (⟨l.toArray⟩ : ByteArray).data.toList = l := by simp
  rw [e1] at this
  exact this

set_option maxRecDepth 1000000 in
set_option maxHeartbeats 4000000 in
theorem follow_any {m : Fm} (hm : m ∈ forms) (b o cap : Nat) (line : List Tok) (w : World) (hT : Tabs w) (hl : LineOk line) (hcap : line.length ≤ cap) (hn : line.length ≤ 1000000) (ht : TAt w b o line) (hbw : b < w.heap.size) (R : Fo) (hR : fol (wants m) line 0 [] = R) :
    Calls Tryd.prog 57 #[formV m, .slice (some ⟨b, o, none⟩) line.length cap] w fun e w' => ∃ v, e = .returned (.tuple #[v, .int .i64 R.far, .int .i64 R.err]) ∧ w'.ownsRow w.heap.size 3 1 v R.ns.length (R.ns.map intV) ∧ Below w.heap.size w w' := by
  obtain ⟨_, _, hw0, hw1, _⟩ := ascii_of hm
  obtain ⟨i9, hi9, hy0, hy1, hy2⟩ := info_parts info9
  obtain ⟨i3, hi3, hz0, hz1, hz2⟩ := info_parts info3
  obtain ⟨B, hB⟩ : ∃ B, B = w.heap.size := ⟨_, rfl⟩
  have kF := fields_any hm (w.alloc (.cells #[strV m.text, .int .i64 m.part, .int .i64 m.kind, .int .i64 m.says] 86)) (hT.alloc _)
  have HR : Hid (fol (wants m) line 0 [] = R) := hR
  clear hR
  go_enter Tryd.func57, Tryd.ntmps57
  go_wp2_with (go_at_call 52; refine kF.mono ?_; rintro e w1 ⟨vf, rfl, hof, hbf⟩; refine Hid.out ?_)
  unfold Hid
  have hs1 := hbf.size
  simp at hs1
  have hof' := own_base (base' := w.heap.size) hof (by simp)
  have hbf' : Below w.heap.size w w1 := ((Below.refl w.heap.size w).alloc (Nat.le_refl _) _).trans (hbf.mono (by simp))
  clear hof hbf
  go_wp2_with (at_builtin; refine wpList_append_own _ rfl (.tmp 14) (.tmp 15) 49 rfl w.heap.size 9 i9 _ 1 16 Tryd.underlying49 hi9 hy0 hy1 hy2 rfl (by decide) _ _ _ rfl (hof'.alloc _) ⟨w1.heap.size, 0, none⟩ 1 1 [strV []] rfl rfl (World.news_of_block (heap_alloc_new w1 _)) (by intro u hu; simp at hu; subst hu; rfl) (by unfold maxLen; omega) (by omega) (by simp; omega) ?_; intro vw w2 how hgw _; refine Hid.out ?_)
  unfold Hid
  have hbw2 : Below w.heap.size w w2 := (hbf'.alloc (by omega) _).grown hgw (by simp; omega) (fun k hk => (hof'.lt k hk).1)
  have how' : w2.ownsRow w.heap.size 9 1 vw (wants m).length ((wants m).map strV) := by
    rw [wants_len]; unfold wants; rw [List.map_append]; exact how
  clear how hgw hof' hbf' kF
  obtain ⟨g, cw, rfl, hg1, hg2⟩ := how'.form (by rw [wants_len]; omega)
  have hwl := wants_len m
  obtain ⟨W, hW⟩ : ∃ W, (wants m).length = W := ⟨_, rfl⟩
  have hWb : W = (words m).length + 1 := by rw [← hW]; exact hwl
  rw [hW] at how'
  have HW : Hid (w2.ownsRow w.heap.size 9 1 (.slice (some ⟨g, 0, none⟩) W cw) W ((wants m).map strV)) := how'
  have hcw : W ≤ cw := by
    rcases how'.2 with ⟨hv, _⟩ | ⟨g', c', cur, hv, _, _, h1, _⟩
    · cases hv
    · cases hv; exact h1
  have HWL : Hid ((wants m).length = W) := hW
  rw [hW]
  have hW22 : W ≤ 22 := by omega
  have hW0 : 0 < W := by omega
  clear how' hW hwl hw1 hWb
  go_wp2
  go_loopw [4, 19] (fun v i wr => ∃ (k : Nat) (ns : List Int), i = .int .i64 k ∧ k ≤ line.length ∧ (k < W ∨ k = line.length) ∧ ns.length ≤ k ∧ Hid (wr.ownsRow w.heap.size 3 1 v ns.length (ns.map intV)) ∧ Hid (wr.ownsRow w.heap.size 9 1 (.slice (some ⟨g, 0, none⟩) W cw) W ((wants m).map strV)) ∧ g < wr.heap.size ∧ Below w.heap.size w wr ∧ Hid (fol ((wants m).drop k) (line.drop k) k ns = R)) (fun _ i _ => line.length - (intOf i).toNat)
  case atStart => exact ⟨0, [], rfl, by omega, by omega, by simp, World.ownsRow_nil _ _ _ _, HW, hg2, hbw2, HR⟩
  case round =>
    obtain ⟨k, ns, rfl, hk, hkW, hnk, hon, how, hgs, hbr, hfol⟩ := hrel
    clear HW HR
    have hsz := hbr.size
    by_cases hkl : k < line.length
    · have hkW' : k < W := by omega
      have hkW2 : k < (wants m).length := by rw [HWL.out]; exact hkW'
      obtain ⟨c0, c1, c2⟩ := (ht.below hbr hbw) k hkl
      have cw0 := own_cell how.out k (by simpa using hkW2)
      rw [List.getElem_map] at cw0
      have hf := hfol.out
      rw [List.drop_eq_getElem_cons hkW2, List.drop_eq_getElem_cons hkl] at hf
      have HF : Hid (fol ((wants m)[k] :: (wants m).drop (k + 1)) (line[k] :: line.drop (k + 1)) k ns = R) := hf
      have hTx := hl.1 line[k] (List.getElem_mem hkl)
      have HEnd : Hid (line[k].text = [] → k + 1 = line.length) := fun h => line_end hl hkl h
      have HLast : Hid (k + 1 = W → (wants m)[k] = []) := fun h => wants_at_last m hkW2 (by rw [HWL.out]; exact h)
      clear hf hfol
      generalize (wants m)[k] = x at *
      generalize line[k] = t at *
      obtain ⟨wk, hwk⟩ : ∃ W5 : World, W5 = wr.alloc (.cells #[.int .i64 t.kind, strV t.text, .int .i64 t.line] 71) := ⟨_, rfl⟩
      by_cases hx : x = [78]
      · subst hx
        have HL2 : k + 1 < W := by
          by_cases h : k + 1 = W
          · exact absurd (HLast.out h) (by simp)
          · omega
        obtain ⟨E, hE⟩ : ∃ E, pE t.text = E := ⟨_, rfl⟩
        obtain ⟨V, hV⟩ : ∃ V, pV t.text = V := ⟨_, rfl⟩
        have kP := parse_tok t.text hTx.2 (wr.alloc (.cells #[.int .i64 t.kind, strV t.text, .int .i64 t.line] 71)) E V hE hV
        have hF := HF.out
        unfold fol at hF
        rw [if_pos rfl, hE, hV] at hF
        clear HF HLast HEnd hE hV hTx hwk
        by_cases h0 : E = 0
        · subst h0
          rw [if_pos rfl] at hF
          have HF : Hid (fol ((wants m).drop (k + 1)) (line.drop (k + 1)) (k + 1) (ns ++ [V]) = R) := hF
          clear hF
          go_wp2_with (first | (go_at_call 65; refine kP.mono ?_; rintro e w5 ⟨rfl, hb5⟩; have hs5 := hb5.size; simp at hs5) | (at_builtin; refine wpList_append_own _ rfl (.tmp 47) (.tmp 49) 64 rfl w.heap.size 3 i3 _ 1 8 Tryd.underlying64 hi3 hz0 hz1 hz2 rfl (by decide) _ _ _ rfl ((own_keep hon.out hb5).alloc _) ⟨w5.heap.size, 0, none⟩ 1 1 [intV V] rfl rfl (World.news_of_block (heap_alloc_new w5 _)) (by intro u hu; simp at hu; subst hu; rfl) (by unfold maxLen; omega) (by omega) (by simp; omega) ?_; intro v6 w6 ho6 hg6 _))
          go_roundw
          case rel => exact ⟨k + 1, ns ++ [V], by go_num, by omega, .inl HL2, by simp; omega, ints_snoc ho6, own_other ((own_keep how.out hb5).alloc _) ((own_keep hon.out hb5).alloc _) (by decide) hg6, by have := hg6.size; simp at this; omega, (((hbr.alloc (by omega) _).trans (hb5.mono (by simp; omega))).alloc (by omega) _).grown hg6 (by simp; omega) (fun x hx => (hon.out.lt x hx).1), HF⟩
          case measure => simp [intOf]; omega
        · have h0' : (E != 0) = true := bne_iff_ne.2 h0
          rw [if_neg h0] at hF
          subst hF
          go_wp2_with (go_at_call 65; refine kP.mono ?_; rintro e w5 ⟨rfl, hb5⟩)
          go_ret3
          exact ⟨_, rfl, World.ownsRow_nil _ _ _ _, (hbr.alloc (by omega) _).trans (hb5.mono (by simp; omega))⟩
      · have hx1 : (x == [78]) = false := beq_eq_false_iff_ne.2 hx
        have hF := HF.out
        unfold fol at hF
        rw [if_neg hx] at hF
        clear HF hx hwk
        by_cases h0 : t.text = x
        · have h1 : (t.text == x) = true := beq_iff_eq.2 h0
          rw [if_pos h0] at hF
          have HF : Hid (fol ((wants m).drop (k + 1)) (line.drop (k + 1)) (k + 1) ns = R) := hF
          have HN : Hid (k + 1 < W ∨ k + 1 = line.length) := by
            by_cases h : k + 1 = W
            · exact .inr (HEnd.out (by rw [h0]; exact HLast.out h))
            · exact .inl (by omega)
          clear hF HEnd HLast h0
          go_wp2
          go_region
          all_goals go_wp2
          go_roundw
          case rel => exact ⟨k + 1, ns, by go_num, by omega, HN.out, by omega, hon.out.alloc _, how.out.alloc _, by simp; omega, (hbr.alloc (by omega) _).drew, HF⟩
          case measure => simp [intOf]; omega
        · have h1 : (t.text == x) = false := beq_eq_false_iff_ne.2 h0
          rw [if_neg h0] at hF
          subst hF
          clear HEnd HLast h0
          go_wp2
          go_region
          all_goals go_wp2
          go_ret3
          exact ⟨_, rfl, World.ownsRow_nil _ _ _ _, (hbr.alloc (by omega) _).drew⟩
    · have hke : k = line.length := by omega
      have hF := hfol.out
      rw [hke, List.drop_length] at hF
      have e2 : ∀ l, fol l [] line.length ns = ⟨ns, line.length, 0⟩ := fun l => by cases l <;> rfl
      rw [e2] at hF
      subst hF
      clear e2 hfol
      go_wp2
      go_ret3
      exact ⟨_, rfl, hon.out, hbr⟩

end Go.Proofs.YtgjfhfjmdkhllaaDoor
