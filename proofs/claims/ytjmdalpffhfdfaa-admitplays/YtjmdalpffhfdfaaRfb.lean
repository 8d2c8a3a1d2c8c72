/- The document's own Admit: Add and End. -/
import Derived.Test.YtjmdalpffhfdfaaRfa
namespace Go.Proofs.Ytjmdalpffhfdfaa
open Go.RowKit
open M
set_option linter.unusedVariables false
set_option linter.unusedSimpArgs false

theorem wp_cat {o : Oper} {a : Act} {w : World} {K : Act → World → Prop} {Q : Exit → Act → World → Prop} (s x : Operand)
    (ho : o.op = .call { callee := .builtin .append, args := #[s, x], argTypes := #[27, 27] })
    {base : Nat} {v : Value} {L : List Int} (hown : w.ownsRow base 3 1 v L.length (ints L)) {ax : Option Addr} {M : List Int} {mx cx : Nat} (hr : Rd w ax M cx) (hmx : mx = M.length) (hl : L.length + M.length ≤ 1000000) (hs1 : a.eval s = v) (hx : a.eval x = .slice ax mx cx) (hbase : base ≤ w.heap.size)
    (k : ∀ ao' cap' m w', Hid (m = (L ++ M).length ∧ w'.ownsRow base 3 1 (.slice ao' m cap') m (ints (L ++ M)) ∧ w.grownBy w' v.ownBlock ∧ Fresh w v (.slice ao' m cap')) → K (a.put o.dst (.slice ao' m cap')) w') : o.wp Try.prog a w K Q := by
  subst hmx
  obtain ⟨i0, hi, hz0, hz1, hz2⟩ := info_parts info3
  obtain ⟨ao, cap, rfl⟩ := own_slice hown
  have hf := own_rd hown
  rcases hr.2.2 with ⟨rfl, rfl, rfl⟩ | ⟨b, off, rfl, hb, hc⟩
  · have hr := run_append_none2 (P := Try.prog) w 27 o.type 3 i0 Try.underlying27 hi ao L.length cap hf.1
    unfold Oper.wp execOp
    simp only [List.length_nil] at hx
    simp only [ho, resolve, invoke, builtin, Sem.run_bind, Sem.run_pure, Result.andThen_ok, List.map_toArray, List.map_cons, List.map_nil, hs1, hx, hr]
    exact k ao cap L.length w ⟨by rw [List.append_nil], by rw [List.append_nil]; exact hown, ⟨rfl, rfl, rfl, Nat.le_refl _, fun _ _ _ => rfl⟩, .inl rfl⟩
  · obtain ⟨v', w', hrun, ho', hg, fr⟩ := run_append_tell (P := Try.prog) w base 27 o.type 3 i0 _ 1 8 Try.underlying27 hi hz0 hz1 hz2 rfl (by decide) _ L.length (ints L) hown ⟨b, off, none⟩ M.length cx (ints M) (by simp) (fun j u hj => by
      have hj2 : j < M.length := by
        rcases Nat.lt_or_ge j M.length with q | q
        · exact q
        · rw [List.getElem?_eq_none (by simpa using q)] at hj; cases hj
      rw [ints_at M hj2] at hj
      cases hj
      rw [Addr.add_lit]
      exact hc j hj2) (ints_one M) (by unfold maxLen; omega) (by omega) hbase
    have e : L.length + M.length = (L ++ M).length := by simp
    have e2 : ints L ++ ints M = ints (L ++ M) := by simp [ints]
    rw [e, e2] at ho'
    obtain ⟨ao', cap', rfl⟩ := own_slice ho'
    unfold Oper.wp execOp
    simp only [ho, resolve, invoke, builtin, Sem.run_bind, Sem.run_pure, Result.andThen_ok, List.map_toArray, List.map_cons, List.map_nil, hs1, hx, hrun]
    exact k ao' cap' _ w' ⟨rfl, ho', hg, fr⟩

set_option maxRecDepth 1000000 in
set_option maxHeartbeats 2000000 in
theorem radd_had {B : Nat} {w : World} {rb : Nat} {ac qu : Int} {v : Value} {L : List Int} (h : RM B w rb ac qu v L) (hl : L.length ≤ 1000000) {y : Int} (hy : y ∈ L) :
    Calls Try.prog 13 #[ptr rb, .int .i64 y] w fun e w' => e = .returned (.tuple #[.int .i64 0, .int .i64 8]) ∧ w' = w := by
  have k := rfind_any h hl y
  obtain ⟨i, e1, _⟩ := ix_mem hy
  rw [e1] at k
  have z : decide ((0 : Int) ≤ (i : Int)) = true := by simp
  clear h hy e1
  go_enter Try.func13, Try.ntmps13
  go_wp2_with (go_at_call 23; refine k.mono ?_; rintro e w' ⟨rfl, rfl⟩)
  go_ret2
  exact ⟨rfl, rfl⟩

set_option maxRecDepth 1000000 in
set_option maxHeartbeats 4000000 in
theorem radd_full {B : Nat} {w : World} {rb : Nat} {ac qu : Int} {v : Value} {L : List Int} (h : RM B w rb ac qu v L) (hl : L.length ≤ 1000000) {y : Int} (hy : ¬ y ∈ L) {a0 q0 : Int} (ha0 : max ac 1 = a0) (hq0 : max qu 0 = q0) (h1 : a0 ≤ L.length) (h2 : q0 ≤ L.length - a0) :
    Calls Try.prog 13 #[ptr rb, .int .i64 y] w fun e w' => e = .returned (.tuple #[.int .i64 0, .int .i64 4]) ∧ Hid (Below w.heap.size w w') := by
  have k := rfind_any h hl y
  rw [ix_not hy] at k
  have m1 : ∀ ts u W, (Builtin.max_ ts u #[.int .i64 ac, .int .i64 1]).run Try.prog W = .ok (.int .i64 a0) W := fun ts u W => by rw [← ha0]; exact max_num _ _ ts u W
  have m2 : ∀ ts u W, (Builtin.max_ ts u #[.int .i64 qu, .int .i64 0]).run Try.prog W = .ok (.int .i64 q0) W := fun ts u W => by rw [← hq0]; exact max_num _ _ ts u W
  have c0 := h.c0
  have c1 := h.c1
  have c2 := h.c2
  obtain ⟨D, hD⟩ : ∃ D : Int, (L.length : Int) - a0 = D := ⟨_, rfl⟩
  have w1 : IntKind.i64.wrap ((L.length : Int) - a0) = D := by rw [IntKind.wrap_i64]; omega
  have w2 : wrap64 ((L.length : Int) - a0) = D := by rw [← w1, IntKind.wrap_i64]; unfold wrap64; omega
  have d1 : decide (0 ≤ D) = true := decide_eq_true (by omega)
  have d2 : decide (q0 ≤ D) = true := decide_eq_true (by omega)
  obtain ⟨ao, cap, rfl, hr⟩ := h.form
  have hc1 := hr.1
  have hc2 : cap ≤ 9223372036854775807 := by have := hr.2.1; unfold maxLen at this; omega
  have HB : Hid (∀ j, Below w.heap.size w (w.drewN j)) := fun j => Below.drewN (Below.refl _ _) j
  have HD : Hid (Below w.heap.size w w.drew) := (Below.refl _ _).drew
  clear h hr hy ha0 hq0 h1 h2 hD
  generalize L.length = m at *
  go_enter Try.func13, Try.ntmps13
  go_upto_region 3 with (go_at_call 23; refine k.mono ?_; rintro e w' ⟨rfl, e9⟩; have e8 := e9.symm; clear e9; subst e8)
  go_region
  all_goals
    go_wp2
    go_ret2
    first | exact ⟨rfl, HB.out _⟩ | exact ⟨rfl, HD.out⟩

set_option maxRecDepth 1000000 in
set_option maxHeartbeats 4000000 in
theorem radd_yes {B : Nat} {w : World} {rb : Nat} {ac qu : Int} {v : Value} {L : List Int} (h : RM B w rb ac qu v L) (hB : B ≤ w.heap.size) (hl : L.length < 1000000) {y : Int} (hy : ¬ y ∈ L) {a0 q0 : Int} (ha0 : max ac 1 = a0) (haM : a0 ≤ 9223372036854775807) (hq0 : max qu 0 = q0) (hno : (L.length : Int) < a0 ∨ ¬ (L.length : Int) < a0 ∧ (L.length : Int) - a0 < q0) {s : Int} (hs : s = if (L.length : Int) < a0 then 1 else 0) :
    Calls Try.prog 13 #[ptr rb, .int .i64 y] w fun e w' => e = .returned (.tuple #[.int .i64 s, .int .i64 0]) ∧ Hid (∃ v', RM B w' rb ac qu v' (L ++ [y]) ∧ Turn (fun k => k = rb) w w' ∧ ∀ k, v'.ownBlock = some k → w.heap.size ≤ k) := by
  have k := rfind_any h (by omega) y
  rw [ix_not hy] at k
  have KS : Hid (∀ W v', RM B W rb ac qu v' (L ++ [y]) → Calls Try.prog 19 #[ptr rb, .int .i64 y] W fun e w' => e = .returned (.tuple #[.int .i64 s, .bool true]) ∧ Hid (Below W.heap.size W w')) := fun W v' g => by
    have hix : ix (L ++ [y]) y = L.length := ix_first (by simp) (fun j hj => by
      rw [List.getElem?_append_left hj]
      intro e; exact hy (List.mem_of_getElem? e))
    have hlen : (L ++ [y]).length = L.length + 1 := by simp
    refine rstate_yes g (by omega) hix (N := (min ((L ++ [y]).length : Int) (max ac 1)).toNat) (by omega) ?_
    rw [hs]
    have e : (L.length < (min ((L ++ [y]).length : Int) (max ac 1)).toNat) = ((L.length : Int) < a0) := propext ⟨fun q => by omega, fun q => by omega⟩
    simp only [e]
  have m1 : ∀ ts u W, (Builtin.max_ ts u #[.int .i64 ac, .int .i64 1]).run Try.prog W = .ok (.int .i64 a0) W := fun ts u W => by rw [← ha0]; exact max_num _ _ ts u W
  have m2 : ∀ ts u W, (Builtin.max_ ts u #[.int .i64 qu, .int .i64 0]).run Try.prog W = .ok (.int .i64 q0) W := fun ts u W => by rw [← hq0]; exact max_num _ _ ts u W
  have c0 := h.c0
  have c1 := h.c1
  have c2 := h.c2
  obtain ⟨D, hD⟩ : ∃ D : Int, (L.length : Int) - a0 = D := ⟨_, rfl⟩
  have w1 : IntKind.i64.wrap ((L.length : Int) - a0) = D := by rw [IntKind.wrap_i64]; omega
  have w2 : wrap64 ((L.length : Int) - a0) = D := by rw [← w1, IntKind.wrap_i64]; unfold wrap64; omega
  obtain ⟨ao, cap, rfl, hr⟩ := h.form
  have hc1 := hr.1
  have hc2 : cap ≤ 9223372036854775807 := by have := hr.2.1; unfold maxLen at this; omega
  have HB : Hid (∀ j, Below w.heap.size w (w.drewN j)) := fun j => Below.drewN (Below.refl _ _) j
  have HD : Hid (Below w.heap.size w w.drew) := (Below.refl _ _).drew
  have H := hide_it h
  have HBw := hide_it hB
  have HR := hide_it hr
  have HLL : Hid (L.length + [y].length ≤ 1000000 ∧ L.length < 1000000) := hide_it ⟨by show L.length + 1 ≤ _; omega, hl⟩
  have hcase : (decide (0 ≤ D) = false) ∨ (decide (0 ≤ D) = true ∧ decide (q0 ≤ D) = false) := by
    rcases hno with q | ⟨q1, q2⟩
    · exact .inl (decide_eq_false (by omega))
    · exact .inr ⟨decide_eq_true (by omega), decide_eq_false (by omega)⟩
  obtain ⟨m, hm⟩ : ∃ m, L.length = m := ⟨_, rfl⟩
  have HM := hide_it hm
  rw [hm] at c2 hl hc1 w1 w2
  clear h hr hy ha0 hq0 hno hD hB hs
  clear hm
  go_enter Try.func13, Try.ntmps13
  go_upto_region 3 with (go_at_call 23; refine k.mono ?_; rintro e w' ⟨rfl, e9⟩; have e8 := e9.symm; clear e9; subst e8)
  go_cut [6] from 13 to 23 (fun s6 wx => s6 = .int .i64 D ∧ Hid (Below w.heap.size w wx))
  case first =>
    go_region
    all_goals
      go_wp2
      go_meet
      first | exact ⟨rfl, HB.out _⟩ | exact ⟨rfl, HD.out⟩
  case rest =>
    obtain ⟨rfl, s1⟩ := hcut
    clear HB HD c0 c1 c2
    have hc0 := (H.out.below s1.out).c0
    have hc1' := (H.out.below s1.out).c1
    have hc2' := (H.out.below s1.out).c2
    rw [HM.out] at hc2'
    have OW0 : Hid ((wc.alloc (.cells #[] 3)).ownsRow wc.heap.size 3 1 (.slice (some ⟨wc.heap.size, 0, none⟩) 0 0) ([] : List Int).length (ints [])) := World.ownsRow_lit wc #[] 0 (Nat.le_refl _) (by simp [maxLen]) (by simp)
    have B0 : Hid (Below wc.heap.size wc (wc.alloc (.cells #[] 3))) := (Below.refl _ _).alloc (Nat.le_refl _) _
    have R0 : Hid (Rd (wc.alloc (.cells #[] 3)) ao L cap) := (HR.out.below s1.out).below B0.out
    have HL0 : Hid (([] : List Int).length + L.length ≤ 1000000) := hide_it (by have := HLL.out.2; show 0 + L.length ≤ _; omega)
    have HL1 : Hid (([] ++ L : List Int).length + [y].length ≤ 1000000) := hide_it (by rw [List.nil_append]; exact HLL.out.1)
    have HC2 : Hid (∀ W, Below wc.heap.size wc W → W.cell? ⟨rb, 2, none⟩ = some (.slice ao m cap) ∧ W.frozen? ⟨rb, 2, none⟩ = false) := fun W hb => ⟨by rw [← HM.out]; exact ((H.out.below s1.out).below hb).c2, ((H.out.below s1.out).below hb).fr 2⟩
    obtain ⟨x2, x3⟩ := HC2.out _ B0.out
    rcases hcase with d1 | ⟨d1, d2⟩
    · go_wp2_with (first | (at_builtin; refine wpList_cat rfl (.tmp 41) (.tmp 43) rfl (v := .slice b8 m8 n8) (by rw [← H8.out.1]; exact owns_below H8.out.2.1 ((Below.refl _ _).alloc (Nat.le_refl _) _)) (rd_one rfl y) HL1.out rfl rfl (by have := B1.out.size; simp; omega) ?_; intro b9 n9 m9 w9 H9; have B2 := hide_it ((B1.out.alloc B1.out.size (.cells #[.int .i64 y] 3)).grown H9.out.2.2.1 (B1.out.alloc B1.out.size (.cells #[.int .i64 y] 3)).size (fun q hq => (H8.out.2.1.lt q hq).1)); obtain ⟨x4, x5⟩ := HC2.out _ B2.out) | (at_builtin; refine wpList_cat rfl (.tmp 36) (.tmp 40) rfl OW0.out R0.out HL0.out rfl (by simp only [HM.out]; rfl) B0.out.size ?_; intro b8 n8 m8 w8 H8; have B1 := hide_it (B0.out.grown H8.out.2.2.1 B0.out.size (fun q hq => (OW0.out.lt q hq).1))) | (go_at_call 19; fail))
      have EN : Hid (RM B (w9.setCell ⟨rb, 2, none⟩ (.slice b9 m9 n9)) rb ac qu (.slice b9 m9 n9) (L ++ [y]) ∧ Turn (fun k => k = rb) wc (w9.setCell ⟨rb, 2, none⟩ (.slice b9 m9 n9)) ∧ ∀ k, (Value.slice b9 m9 n9).ownBlock = some k → wc.heap.size ≤ k) := by
        obtain ⟨e1, e2, _⟩ := H9.out
        rw [List.nil_append] at e1 e2
        rw [e1] at e2 ⊢
        exact (H.out.below s1.out).put B2.out e2 (Nat.le_trans HBw.out s1.out.size)
      have k19 := KS.out _ _ EN.out.1
      have FIN : Hid (∀ W, Below (w9.setCell ⟨rb, 2, none⟩ (.slice b9 m9 n9)).heap.size (w9.setCell ⟨rb, 2, none⟩ (.slice b9 m9 n9)) W → ∃ v', RM B W rb ac qu v' (L ++ [y]) ∧ Turn (fun k => k = rb) w W ∧ ∀ k, v'.ownBlock = some k → w.heap.size ≤ k) := fun W hb => ⟨_, EN.out.1.below hb, ((Turn.of_below s1.out).trans EN.out.2.1).trans (Turn.of_below hb), fun k hk => Nat.le_trans s1.out.size (EN.out.2.2 k hk)⟩
      clear H8 H9 B1 B2 OW0 B0 R0 HL0 HL1 HC2 KS EN
      go_wp2_with (go_at_call 19; refine k19.mono ?_; rintro e w10 ⟨rfl, s10⟩)
      go_ret2
      exact ⟨rfl, FIN.out _ s10.out⟩
    · go_wp2_with (first | (at_builtin; refine wpList_cat rfl (.tmp 41) (.tmp 43) rfl (v := .slice b8 m8 n8) (by rw [← H8.out.1]; exact owns_below H8.out.2.1 ((Below.refl _ _).alloc (Nat.le_refl _) _)) (rd_one rfl y) HL1.out rfl rfl (by have := B1.out.size; simp; omega) ?_; intro b9 n9 m9 w9 H9; have B2 := hide_it ((B1.out.alloc B1.out.size (.cells #[.int .i64 y] 3)).grown H9.out.2.2.1 (B1.out.alloc B1.out.size (.cells #[.int .i64 y] 3)).size (fun q hq => (H8.out.2.1.lt q hq).1)); obtain ⟨x4, x5⟩ := HC2.out _ B2.out) | (at_builtin; refine wpList_cat rfl (.tmp 36) (.tmp 40) rfl OW0.out R0.out HL0.out rfl (by simp only [HM.out]; rfl) B0.out.size ?_; intro b8 n8 m8 w8 H8; have B1 := hide_it (B0.out.grown H8.out.2.2.1 B0.out.size (fun q hq => (OW0.out.lt q hq).1))) | (go_at_call 19; fail))
      have EN : Hid (RM B (w9.setCell ⟨rb, 2, none⟩ (.slice b9 m9 n9)) rb ac qu (.slice b9 m9 n9) (L ++ [y]) ∧ Turn (fun k => k = rb) wc (w9.setCell ⟨rb, 2, none⟩ (.slice b9 m9 n9)) ∧ ∀ k, (Value.slice b9 m9 n9).ownBlock = some k → wc.heap.size ≤ k) := by
        obtain ⟨e1, e2, _⟩ := H9.out
        rw [List.nil_append] at e1 e2
        rw [e1] at e2 ⊢
        exact (H.out.below s1.out).put B2.out e2 (Nat.le_trans HBw.out s1.out.size)
      have k19 := KS.out _ _ EN.out.1
      have FIN : Hid (∀ W, Below (w9.setCell ⟨rb, 2, none⟩ (.slice b9 m9 n9)).heap.size (w9.setCell ⟨rb, 2, none⟩ (.slice b9 m9 n9)) W → ∃ v', RM B W rb ac qu v' (L ++ [y]) ∧ Turn (fun k => k = rb) w W ∧ ∀ k, v'.ownBlock = some k → w.heap.size ≤ k) := fun W hb => ⟨_, EN.out.1.below hb, ((Turn.of_below s1.out).trans EN.out.2.1).trans (Turn.of_below hb), fun k hk => Nat.le_trans s1.out.size (EN.out.2.2 k hk)⟩
      clear H8 H9 B1 B2 OW0 B0 R0 HL0 HL1 HC2 KS EN
      go_wp2_with (go_at_call 19; refine k19.mono ?_; rintro e w10 ⟨rfl, s10⟩)
      go_ret2
      exact ⟨rfl, FIN.out _ s10.out⟩
end Go.Proofs.Ytjmdalpffhfdfaa
