/- The document's own graph: Add, Out, In. -/
import Derived.Test.YtipkgoghodkbfaaDoorRef
namespace Go.Proofs.YtipkgoghodkbfaaDoor
open Go.RowKit
open M
set_option linter.unusedVariables false
set_option linter.unusedSimpArgs false

theorem info70 : (Tryd.prog.info? 70).map (fun i => (i.zero, i.size, i.bytes)) = some (some (.agg #[.int .i64 0, .int .i64 0]), 2, 16) := by kernel_rfl
theorem ecells_one (es : List E) : ∀ u ∈ ecells es, u.oneCell' = true := by
  induction es with
  | nil => intro u hu; simp [ecells] at hu
  | cons e r ih =>
    obtain ⟨x, y⟩ := e
    intro u hu
    simp only [ecells, List.mem_cons] at hu
    rcases hu with rfl | rfl | hu
    · rfl
    · rfl
    · exact ih u hu

/-- 'append([]Edge{}, l...)'. -/
theorem wpList_copyE {W : World} {ops : Array Oper} {rest : List Oper} {o : Oper} {a : Act} {Q : Exit → Act → World → Prop} (hgd : o.guard = none) (s x : Operand)
    (ho : o.op = .call { callee := .builtin .append, args := #[s, x], argTypes := #[60, 60] })
    (u : Value) (es : List E) (b : Nat) (hu : W.ownsRow b 70 2 u es.length (ecells es)) (hl : es.length ≤ 1000000) (hs : a.eval s = .slice (some ⟨W.heap.size, 0, none⟩) 0 0) (hx : a.eval x = u)
    (h : ∀ v' w', w'.ownsRow W.heap.size 70 2 v' es.length (ecells es) → Below W.heap.size W w' → wpList Tryd.prog ops Q rest (a.put o.dst v') w') : wpList Tryd.prog ops Q (o :: rest) a (W.alloc (.cells #[] 70)) := by
  obtain ⟨i0, hi, hz0, hz1, hz2⟩ := info_parts info70
  have hb : Below W.heap.size W (W.alloc (.cells #[] 70)) := (Below.refl _ _).alloc (Nat.le_refl _) _
  have hown0 : (W.alloc (.cells #[] 70)).ownsRow W.heap.size 70 2 (.slice (some ⟨W.heap.size, 0, none⟩) 0 0) 0 [] := World.ownsRow_made W #[] 0 (Nat.le_refl _) (by simp [maxLen]) (by simp)
  have hu' := owns_below hu hb
  rcases hu.2 with ⟨rfl, hz⟩ | ⟨r, cap, cur, rfl, hbr, hgr, hnc, hcm, hcs, htk⟩
  · have hL : es = [] := List.eq_nil_of_length_eq_zero hz
    subst hL
    have hr := run_append_nil2 (P := Tryd.prog) (W.alloc (.cells #[] 70)) 60 o.type 70 i0 Tryd.underlying60 hi ⟨W.heap.size, 0, none⟩
    refine wpList_plain hgd fun K hK => ?_
    unfold Oper.wp execOp
    simp only [ho, resolve, invoke, builtin, Sem.run_bind, Sem.run_pure, Result.andThen_ok, List.map_toArray, List.map_cons, List.map_nil, hs, hx, hr]
    exact hK _ _ (h _ _ hown0 hb)
  · refine wpList_append_tell _ hgd s x 60 ho W.heap.size 70 i0 _ 2 16 Tryd.underlying60 hi hz0 hz1 hz2 rfl (by decide) _ 0 [] hs hown0 ⟨r, 0, none⟩ es.length cap (ecells es) hx (ecells_len es) (hu'.cells (g := r) rfl) (ecells_one es) (by unfold maxLen; omega) (by omega) (by simp) ?_
    intro v' w' h1 h2 h3
    refine h v' w' ?_ (hb.grown h2 (by simp) (fun k hk => by simp [Value.ownBlock] at hk; omega))
    simpa using h1

theorem hasR_nat (es : List E) (x y : Nat) : hasR es x y = decide ((x, y) ∈ es) := by
  rw [Bool.eq_iff_iff]
  unfold hasR
  rw [List.any_eq_true, decide_eq_true_eq]
  constructor
  · rintro ⟨⟨p, q⟩, h, e⟩
    simp only [Bool.and_eq_true, decide_eq_true_eq] at e
    have e1 : p = x := by omega
    have e2 : q = y := by omega
    subst e1 e2
    exact h
  · intro h
    exact ⟨(x, y), h, by simp⟩
theorem hasR_eq {n : Nat} {es : List E} (hg : ∀ e ∈ es, e.1 < n ∧ e.2 < n) (a b : Int) : hasR es a b = hasB n es a b := by
  rw [Bool.eq_iff_iff, hasB_iff]
  constructor
  · intro h
    unfold hasR at h
    obtain ⟨⟨p, q⟩, hpq, e⟩ := List.any_eq_true.1 h
    clear h
    simp only [Bool.and_eq_true, decide_eq_true_eq] at e
    obtain ⟨rfl, rfl⟩ := e
    have := hg _ hpq
    simp only at this
    exact ⟨by simp [offB]; omega, by simp [offB]; omega, by simpa using hpq⟩
  · rintro ⟨h1, h2, h3⟩
    have e1 : 0 ≤ a := by simp [offB] at h1; omega
    have e2 : 0 ≤ b := by simp [offB] at h2; omega
    obtain ⟨x, rfl⟩ : ∃ x : Nat, a = x := ⟨a.toNat, by omega⟩
    obtain ⟨y, rfl⟩ : ∃ y : Nat, b = y := ⟨b.toNat, by omega⟩
    rw [hasR_nat]
    simpa using h3

set_option maxRecDepth 1000000 in
set_option maxHeartbeats 4000000 in
theorem radd_new {w : World} {r n : Nat} {v : Value} {es : List E} (h : RM w r n v es) (hn : n ≤ 64) (a b : Nat) (ha : a < n) (hbn : b < n) (hin : (a, b) ∉ es) (hle : es.length ≤ 1000000) :
    Calls Tryd.prog 12 #[ptr r, .int .i64 a, .int .i64 b] w fun e w' => e = .returned (.tuple #[.bool true, .int .i64 0]) ∧ ∃ v', RM w' r n v' (es ++ [(a, b)]) ∧ Turn (fun k => k = r) w w' ∧ Fresh w v v' := by
  have k1 := there_any r n a w hn h.c0
  have k2 := there_any r n b w hn h.c0
  have o1 : (!offB n a) = true := by simp [offB]; omega
  have o2 : (!offB n b) = true := by simp [offB]; omega
  rw [o1] at k1
  rw [o2] at k2
  have kh := rhas_any h a b hle
  rw [hasR_nat, decide_eq_false hin] at kh
  have H := hide_it h
  have c1 := h.c1
  have hrl := h.lt r (.inl rfl)
  obtain ⟨i0, hi, hz0, hz1, hz2⟩ := info_parts info70
  have HO := hide_it h.own
  clear h o1 o2
  go_enter Tryd.func12, Tryd.ntmps12
  go_wp2_with (go_at_call 24; refine k1.mono ?_; rintro e w1 ⟨rfl, rfl⟩; refine Hid.out ?_)
  refine hide_it ?_
  go_wp2_with (first | (go_at_call 24; refine k2.mono ?_; rintro e w2 ⟨rfl, rfl⟩) | (go_at_call 25; refine kh.mono ?_; rintro e w3 ⟨rfl, rfl⟩) | (at_builtin; refine wpList_copyE rfl (.tmp 30) (.tmp 34) rfl v es _ HO.out hle rfl rfl ?_; intro v1 w4 hp4 hb4; refine Hid.out ?_))
  refine hide_it ?_
  have HB4 := hide_it hb4
  have HP4 := hide_it hp4
  have d1 : w4.cell? ⟨r, 1, none⟩ = some v := by rw [hb4.cell (p := ⟨r, 1, none⟩) hrl]; exact c1
  have hs4 := hb4.size
  clear hb4 hp4 k1 k2 kh
  go_wp2_with (at_builtin; (refine wpList_append_tell _ rfl (.tmp 35) (.tmp 39) 60 rfl w3.heap.size 70 i0 _ 2 16 Tryd.underlying60 hi hz0 hz1 hz2 rfl (by decide) _ es.length (ecells es) rfl (HP4.out.alloc _) ⟨_, 0, none⟩ 1 1 [.int .i64 a, .int .i64 b] rfl rfl (World.news_of_block (heap_alloc_at rfl _)) (by simp [Value.oneCell']) (by unfold maxLen; omega) (by omega) (by simp; omega) ?_; intro v' w5 hown' hgrow hfr; obtain ⟨gr, cr, hv', hgb, _⟩ := hown'.form (by omega); subst hv'; have HB5 := hide_it ((HB4.out.alloc (by omega) _).grown hgrow (by simp; omega) (fun k hk => (HP4.out.lt k hk).1)); have q1 := (HB5.out.cell (p := ⟨r, 1, none⟩) hrl).trans c1; have bq := (HB5.out.block r hrl).trans H.out.blk; have f1 : w5.frozen? ⟨r, 1, none⟩ = false := (by simp [World.frozen?, bq])))
  go_ret2
  refine ⟨rfl, .slice (some ⟨gr, 0, none⟩) (es.length + 1) cr, ⟨?_, ?_, ?_⟩, ?_, ?_⟩
  · have := heap_setCell_at (o := 1) bq (.slice (some ⟨gr, 0, none⟩) (es.length + 1) cr)
    simpa using this
  · refine owns_keep (w := w5) ?_ (fun k hk => ?_)
    · rw [ecells_app, List.length_append]
      exact owns_base hown' (fun k hk => Nat.zero_le _)
    · simp [Value.ownBlock] at hk
      rw [Below.heap_setCell _ _ _ _ (by show k ≠ r; omega)]
  · simp [Value.ownBlock]; omega
  · exact Turn.setCell (F := fun k => k = r) (p := ⟨r, 1, none⟩) (Turn.of_below HB5.out) (Or.inl rfl) _
  · exact .inr ⟨gr, rfl, hgb⟩

set_option maxRecDepth 1000000 in
set_option maxHeartbeats 4000000 in
theorem radd_old {w : World} {r n : Nat} {v : Value} {es : List E} (h : RM w r n v es) (hn : n ≤ 64) (a b : Nat) (ha : a < n) (hbn : b < n) (hin : (a, b) ∈ es) (hle : es.length ≤ 1000000) :
    Calls Tryd.prog 12 #[ptr r, .int .i64 a, .int .i64 b] w fun e w' => e = .returned (.tuple #[.bool false, .int .i64 0]) ∧ w' = w := by
  have k1 := there_any r n a w hn h.c0
  have k2 := there_any r n b w hn h.c0
  have o1 : (!offB n a) = true := by simp [offB]; omega
  have o2 : (!offB n b) = true := by simp [offB]; omega
  rw [o1] at k1
  rw [o2] at k2
  have kh := rhas_any h a b hle
  rw [hasR_nat, decide_eq_true hin] at kh
  clear h o1 o2 hin
  go_enter Tryd.func12, Tryd.ntmps12
  go_wp2_with (go_at_call 24; refine k1.mono ?_; rintro e w1 ⟨rfl, rfl⟩; refine Hid.out ?_)
  refine hide_it ?_
  go_wp2_with (first | (go_at_call 24; refine k2.mono ?_; rintro e w2 ⟨rfl, rfl⟩) | (go_at_call 25; refine kh.mono ?_; rintro e w3 ⟨rfl, rfl⟩))
  go_ret2
  exact ⟨rfl, rfl⟩

set_option maxRecDepth 1000000 in
set_option maxHeartbeats 4000000 in
theorem radd_bad {w : World} {r n : Nat} {v : Value} {es : List E} (h : RM w r n v es) (hn : n ≤ 64) (a b : Int) (hR : (!([a, b].any (offB n))) = false) :
    Calls Tryd.prog 12 #[ptr r, .int .i64 a, .int .i64 b] w fun e w' => e = .returned (.tuple #[.bool false, .int .i64 1]) ∧ w' = w := by
  have k1 := there_any r n a w hn h.c0
  have k2 := there_any r n b w hn h.c0
  rw [off_two] at hR
  obtain ⟨x, hx⟩ : ∃ x, offB n a = x := ⟨_, rfl⟩
  obtain ⟨y, hy⟩ : ∃ y, offB n b = y := ⟨_, rfl⟩
  rw [hx] at k1 hR
  rw [hy] at k2 hR
  clear h hx hy
  have hxy : x = true ∨ (x = false ∧ y = true) := by cases x <;> cases y <;> simp at hR ⊢
  rcases hxy with rfl | ⟨rfl, rfl⟩
  all_goals
    clear hR
    go_enter Tryd.func12, Tryd.ntmps12
    go_wp2_with (go_at_call 24; refine k1.mono ?_; rintro e w1 ⟨rfl, rfl⟩; refine Hid.out ?_)
    refine hide_it ?_
    go_wp2_with (go_at_call 24; refine k2.mono ?_; rintro e w2 ⟨rfl, rfl⟩)
    go_ret2
    exact ⟨rfl, rfl⟩

theorem radd_any {w : World} {r n : Nat} {v : Value} {es : List E} (h : RM w r n v es) (hn : n ≤ 64) (a b : Int) (hle : es.length ≤ 1000000) :
    Calls Tryd.prog 12 #[ptr r, .int .i64 a, .int .i64 b] w fun e w' => e = .returned (.tuple #[.bool (newB n es a b), .int .i64 (errN n a b)]) ∧ ∃ v', RM w' r n v' (addE n es a b) ∧ Turn (fun k => k = r) w w' ∧ Fresh w v v' := by
  unfold newB errN addE
  cases hR : (!([a, b].any (offB n))) with
  | false =>
    refine (radd_bad h hn a b hR).mono ?_
    rintro e w' ⟨rfl, rfl⟩
    exact ⟨rfl, v, h, Turn.refl _ _, fresh_refl _ _⟩
  | true =>
    have hr : 0 ≤ a ∧ a < n ∧ 0 ≤ b ∧ b < n := by simp [offB] at hR; omega
    obtain ⟨x, rfl⟩ : ∃ x : Nat, a = x := ⟨a.toNat, by omega⟩
    obtain ⟨y, rfl⟩ : ∃ y : Nat, b = y := ⟨b.toNat, by omega⟩
    simp only [Int.toNat_natCast, if_true]
    by_cases hin : (x, y) ∈ es
    · refine (radd_old h hn x y (by omega) (by omega) hin hle).mono ?_
      rintro e w' ⟨rfl, rfl⟩
      rw [if_pos hin]
      exact ⟨by simp [hin], v, h, Turn.refl _ _, fresh_refl _ _⟩
    · refine (radd_new h hn x y (by omega) (by omega) hin hle).mono ?_
      rintro e w' ⟨rfl, v', h1, h2, h3⟩
      rw [if_neg hin]
      exact ⟨by simp [hin], v', h1, h2, h3⟩

end Go.Proofs.YtipkgoghodkbfaaDoor
