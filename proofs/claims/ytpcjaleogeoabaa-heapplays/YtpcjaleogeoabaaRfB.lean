/- The document's own heap: Lower, Push, cut, Remove. -/
import Derived.Test.YtpcjaleogeoabaaRfA
import Derived.Deep.AppendLies
import Derived.Deep.Upon
import Derived.Deep.RegionLaw
namespace Go.Proofs.Ytpcjaleogeoabaa
open Go.RowKit
open M
set_option linter.unusedVariables false
set_option linter.unusedSimpArgs false

theorem info39 : (Try.prog.info? 39).map (fun i => (i.zero, i.size, i.bytes)) = some (some (.agg #[.int .i64 0, .int .i64 0]), 2, 16) := by kernel_rfl

section
variable {P : Program} (w : World)
theorem step_append_tell {ops : Array Oper} {o : Oper} {a : Act} {K : Act → World → Prop} {Q : Exit → Act → World → Prop} {E : Prop} (hgd : o.guard = none) (s x : Operand) (t : TypeId)
    (ho : o.op = .call { callee := .builtin .append, args := #[s, x], argTypes := #[t, t] })
    (base : Nat) (e : TypeId) (i : TypeInfo) (z : Value) (size bytes : Nat) (ht : P.underlying t = some (.slice e)) (hi : P.info? e = some i) (hz : i.zero = some z)
    (hsize : i.size = size) (hby : i.bytes = bytes) (hzs : z.cells.size = size) (hsz : 0 < size)
    (v : Value) (n : Nat) (xs : List Value) (hs : a.eval s = v) (hown : w.ownsRow base e size v n xs)
    (ad : Addr) (m c : Nat) (news : List Value) (hx : a.eval x = .slice (some ad) m c) (hl : news.length = m * size) (hnews : ∀ j u, news[j]? = some u → w.cell? (ad.add j) = some u) (h1 : ∀ u ∈ news, u.oneCell' = true)
    (h63 : n + m ≤ maxLen) (hbytes : (n + m) * bytes ≤ 140737488355328) (hbase : base ≤ w.heap.size)
    (h : ∀ v' w', w'.ownsRow base e size v' (n + m) (xs ++ news) → w.grownBy w' v.ownBlock → K (a.put o.dst v') w') :
    if Region.wanted o (yielded ops a.tmps) = true then Oper.wp P o a w K Q else E := by
  have hw : Region.wanted o (yielded ops a.tmps) = true := by simp [Region.wanted, hgd]
  rw [if_pos hw]
  obtain ⟨v', w', hr, h2, h3, h4⟩ := run_append_tell (P := P) w base t o.type e i z size bytes ht hi hz hsize hby hzs hsz v n xs hown ad m c news hl hnews h1 h63 hbytes hbase
  unfold Oper.wp execOp
  simp only [ho, resolve, invoke, builtin, Sem.run_bind, Sem.run_pure, Result.andThen_ok, List.map_toArray, List.map_cons, List.map_nil, hs, hx, hr]
  exact h v' w' h2 h3
end
theorem run_append_nil2 {P : Program} (w : World) (t ty e : TypeId) (i : TypeInfo) (ht : P.underlying t = some (.slice e)) (hi : P.info? e = some i) (a : Addr) :
    (Builtin.append_ #[t, t] ty #[.slice (some a) 0 0, .slice none 0 0]).run P w = .ok (.slice (some a) 0 0) w := by
  simp [Builtin.append_, run_underlying ht, sizeOf, typeInfo, hi, Builtin.lenOf, Builtin.firstCells, loadCells, loadCellsFrom, storeCells]
theorem own_slice {w : World} {base sz n : Nat} {e : TypeId} {v : Value} {xs : List Value} (h : w.ownsRow base e sz v n xs) : ∃ ao cap, v = .slice ao n cap := by
  rcases h.2 with ⟨rfl, q⟩ | ⟨ib, cap, cur, rfl, _⟩
  · exact ⟨none, 0, by rw [q]⟩
  · exact ⟨_, cap, rfl⟩

/-- 'append([]Item{}, x...)', x a row of one's own. -/
theorem wpList_copyI {W : World} {ops : Array Oper} {rest : List Oper} {o : Oper} {a : Act} {Q : Exit → Act → World → Prop} (hgd : o.guard = none) (s x : Operand)
    (ho : o.op = .call { callee := .builtin .append, args := #[s, x], argTypes := #[27, 27] })
    (u : Value) (L : List It) (b : Nat) (hu : W.ownsRow b 39 2 u L.length (icells L)) (hl : L.length ≤ 1000000) (hs : a.eval s = .slice (some ⟨W.heap.size, 0, none⟩) 0 0) (hx : a.eval x = u)
    (h : ∀ v' w', w'.ownsRow W.heap.size 39 2 v' L.length (icells L) → Below W.heap.size W w' → wpList Try.prog ops Q rest (a.put o.dst v') w') : wpList Try.prog ops Q (o :: rest) a (W.alloc (.cells #[] 39)) := by
  obtain ⟨i0, hi, hz0, hz1, hz2⟩ := info_parts info39
  have hb : Below W.heap.size W (W.alloc (.cells #[] 39)) := (Below.refl _ _).alloc (Nat.le_refl _) _
  have hown0 : (W.alloc (.cells #[] 39)).ownsRow W.heap.size 39 2 (.slice (some ⟨W.heap.size, 0, none⟩) 0 0) 0 [] := World.ownsRow_lit W #[] 0 (Nat.le_refl _) (by simp [maxLen]) (by simp)
  have hu' := owns_below hu hb
  rcases hu.2 with ⟨rfl, hz⟩ | ⟨r, cap, cur, rfl, hbr, hgr, hnc, hcm, hcs, htk⟩
  · have hL : L = [] := List.eq_nil_of_length_eq_zero hz
    subst hL
    have hr := run_append_nil2 (P := Try.prog) (W.alloc (.cells #[] 39)) 27 o.type 39 i0 Try.underlying27 hi ⟨W.heap.size, 0, none⟩
    refine wpList_plain hgd fun K hK => ?_
    unfold Oper.wp execOp
    simp only [ho, resolve, invoke, builtin, Sem.run_bind, Sem.run_pure, Result.andThen_ok, List.map_toArray, List.map_cons, List.map_nil, hs, hx, hr]
    exact hK _ _ (h _ _ hown0 hb)
  · refine wpList_append_tell _ hgd s x 27 ho W.heap.size 39 i0 _ 2 16 Try.underlying27 hi hz0 hz1 hz2 rfl (by decide) _ 0 [] hs hown0 ⟨r, 0, none⟩ L.length cap (icells L) hx (icells_len L) (hu'.cells (g := r) rfl) (icells_one L) (by unfold maxLen; omega) (by omega) (by simp) ?_
    intro v' w' h1 h2 h3
    refine h v' w' ?_ (hb.grown h2 (by simp) (fun k hk => by simp [Value.ownBlock] at hk; omega))
    simpa using h1

section
variable {w w2 : World} {rb : Nat} {n : Int} {v v2 : Value} {L L2 : List It}
/-- A new row laid in the place of the old one. -/
theorem rm_new (h : RM w rb n v L) (hb : Below w.heap.size w w2) (ho : w2.ownsRow w.heap.size 39 2 v2 L2.length (icells L2)) :
    RM (w2.setCell ⟨rb, 1, none⟩ v2) rb n v2 L2 ∧ Turn (RFoot rb v) w (w2.setCell ⟨rb, 1, none⟩ v2) ∧ ∀ k, RFoot rb v2 k → k = rb ∨ w.heap.size ≤ k := by
  have lr := h.lt rb (.inl rfl)
  have hge : ∀ k, v2.ownBlock = some k → w.heap.size ≤ k := fun k hk => (ho.lt k hk).1
  have ne2 : v2.ownBlock ≠ some rb := fun q => by have := hge rb q; omega
  refine ⟨⟨?_, ?_, ne2⟩, (Turn.of_below hb).setCell (.inl (.inl rfl)) _, fun k hk => ?_⟩
  · have := heap_setCell_at (o := 1) ((hb.block rb lr).trans h.blk) v2
    simpa using this
  · refine owns_base (owns_keep ho (fun k hk => Below.heap_setCell _ _ _ _ (fun e => ne2 (by rw [hk, e])))) (fun k _ => Nat.zero_le _)
  · rcases hk with q | q
    · exact .inl q
    · exact .inr (hge k q)
end

set_option maxRecDepth 1000000 in
set_option maxHeartbeats 2000000 in
theorem rpush_bad {w : World} {rb : Nat} {n : Int} {v : Value} {L : List It} (h : RM w rb n v L) (id key : Int) (hid : isId (hsz n) id = false) :
    Calls Try.prog 14 #[ptr rb, .int .i64 id, .int .i64 key] w fun e w' => e = .returned (.int .i64 1) ∧ w' = w := by
  have k := known_any h id
  rw [hid] at k
  clear h hid
  go_enter Try.func14, Try.ntmps14
  go_wp2_with (go_at_call 29; refine k.mono ?_; rintro e w' ⟨rfl, rfl⟩)
  go_ret
  exact ⟨rfl, rfl⟩
set_option maxRecDepth 1000000 in
set_option maxHeartbeats 2000000 in
theorem rpush_old {w : World} {rb : Nat} {n : Int} {v : Value} {L : List It} (h : RM w rb n v L) (hlen : L.length ≤ 1000000) (ho : Once L) (id key : Int) (hid : isId (hsz n) id = true) {i : Nat} (hi : i < L.length) (e : L[i].1 = id) :
    Calls Try.prog 14 #[ptr rb, .int .i64 id, .int .i64 key] w fun e w' => e = .returned (.int .i64 8) ∧ w' = w := by
  have k := known_any h id
  rw [hid] at k
  have k2 := find_some h hlen ho hi id e
  have d : decide (0 ≤ (i : Int)) = true := decide_eq_true (by omega)
  clear h hid ho e hi
  go_enter Try.func14, Try.ntmps14
  go_wp2_with (first | (go_at_call 29; refine k.mono ?_; rintro e w' ⟨rfl, rfl⟩) | (go_at_call 30; refine k2.mono ?_; rintro e w' ⟨rfl, rfl⟩))
  go_ret
  exact ⟨rfl, rfl⟩
set_option maxRecDepth 1000000 in
set_option maxHeartbeats 2000000 in
theorem rpush_new {w : World} {rb : Nat} {n : Int} {v : Value} {L : List It} (h : RM w rb n v L) (hlen : L.length ≤ 1000000) (id key : Int) (hid : isId (hsz n) id = true) (hn : ∀ p ∈ L, p.1 ≠ id) :
    Calls Try.prog 14 #[ptr rb, .int .i64 id, .int .i64 key] w fun e w' => e = .returned (.int .i64 0) ∧ ∃ v', RM w' rb n v' (L ++ [(id, key)]) ∧ Turn (RFoot rb v) w w' ∧ ∀ k, RFoot rb v' k → k = rb ∨ w.heap.size ≤ k := by
  have k := known_any h id
  rw [hid] at k
  have k2 := find_none h hlen id hn
  obtain ⟨i0, hi, hz0, hz1, hz2⟩ := info_parts info39
  have q1 := h.c1
  have q2 := (h.below (w' := w.alloc (.cells #[] 39)) ((Below.refl _ _).alloc (Nat.le_refl _) _)).c1
  have H := hide_it h
  obtain ⟨ao, cap, hv, hc1, hc2⟩ := h.form0
  clear h hid hn
  subst hv
  go_enter Try.func14, Try.ntmps14
  go_wp2_with (first | (go_at_call 29; refine k.mono ?_; rintro e w' ⟨rfl, rfl⟩) | (go_at_call 30; refine k2.mono ?_; rintro e w' ⟨rfl, rfl⟩) | (at_builtin; refine wpList_copyI rfl (.tmp 18) (.tmp 22) rfl _ L 0 H.out.own hlen rfl rfl ?_; intro v1 w1 hown1 hb1) | (at_builtin; refine wpList_append_tell _ rfl (.tmp 23) (.tmp 27) 27 rfl _ 39 i0 _ 2 16 Try.underlying27 hi hz0 hz1 hz2 rfl (by decide) _ L.length (icells L) rfl (hown1.alloc _) ⟨_, 0, none⟩ 1 1 [.int .i64 id, .int .i64 key] rfl rfl (World.news_of_block (heap_alloc_new _ _)) (by simp [Value.oneCell']) (by unfold maxLen; omega) (by omega) (by have := hb1.size; simp; omega) ?_; intro v2 w2 hown2 hgrow2 hfr2; obtain ⟨gr, cr, hv2, _, _⟩ := hown2.form (by omega); subst hv2; have hB2 := hide_it (((hb1.alloc hb1.size _).grown hgrow2 (by have := hb1.size; simp; omega) (fun q hq => (hown1.lt q hq).1))); have HN := hide_it (rm_new (L2 := L ++ [(id, key)]) H.out hB2.out (by rw [icells_app, List.length_append]; exact hown2)); have hR := hB2.out.block rb (H.out.lt rb (.inl rfl)); have f0 : w2.frozen? ⟨rb, 1, none⟩ = false := (by simp [World.frozen?, hR, H.out.blk]); have r0 : w2.cell? ⟨rb, 1, none⟩ = some (.slice ao L.length cap) := (by rw [cell_of_row w2 rb 1 _ _ _ (hR.trans H.out.blk)]; rfl)))
  go_ret
  obtain ⟨z1, z2, z3⟩ := HN.out
  exact ⟨rfl, _, z1, z2, z3⟩

set_option maxRecDepth 1000000 in
set_option maxHeartbeats 2000000 in
theorem rlow_bad {w : World} {rb : Nat} {n : Int} {v : Value} {L : List It} (h : RM w rb n v L) (id key : Int) (hid : isId (hsz n) id = false) :
    Calls Try.prog 16 #[ptr rb, .int .i64 id, .int .i64 key] w fun e w' => e = .returned (.int .i64 1) ∧ w' = w := by
  have k := known_any h id
  rw [hid] at k
  clear h hid
  go_enter Try.func16, Try.ntmps16
  go_wp2_with (go_at_call 29; refine k.mono ?_; rintro e w' ⟨rfl, rfl⟩)
  go_ret
  exact ⟨rfl, rfl⟩
set_option maxRecDepth 1000000 in
set_option maxHeartbeats 2000000 in
theorem rlow_none {w : World} {rb : Nat} {n : Int} {v : Value} {L : List It} (h : RM w rb n v L) (hlen : L.length ≤ 1000000) (id key : Int) (hid : isId (hsz n) id = true) (hn : ∀ p ∈ L, p.1 ≠ id) :
    Calls Try.prog 16 #[ptr rb, .int .i64 id, .int .i64 key] w fun e w' => e = .returned (.int .i64 6) ∧ w' = w := by
  have k := known_any h id
  rw [hid] at k
  have k2 := find_none h hlen id hn
  clear h hid hn
  go_enter Try.func16, Try.ntmps16
  go_wp2_with (first | (go_at_call 29; refine k.mono ?_; rintro e w' ⟨rfl, rfl⟩) | (go_at_call 30; refine k2.mono ?_; rintro e w' ⟨rfl, rfl⟩))
  go_ret
  exact ⟨rfl, rfl⟩
set_option maxRecDepth 1000000 in
set_option maxHeartbeats 2000000 in
theorem rlow_high {w : World} {rb : Nat} {n : Int} {v : Value} {L : List It} (h : RM w rb n v L) (hlen : L.length ≤ 1000000) (ho : Once L) (id key y : Int) (hid : isId (hsz n) id = true) {i : Nat} (hi : i < L.length) (e : L[i].1 = id) (e2 : L[i].2 = y) (hl : y < key) :
    Calls Try.prog 16 #[ptr rb, .int .i64 id, .int .i64 key] w fun e w' => e = .returned (.int .i64 3) ∧ w' = w := by
  have k := known_any h id
  rw [hid] at k
  have k2 := find_some h hlen ho hi id e
  have q1 := h.c1
  obtain ⟨ib, cap, rfl, hc1, hc2, hc, _⟩ := h.form (by omega)
  have ck := (hc i hi).2
  rw [e2] at ck
  have hlt : decide ((i : Int) < 0) = false := decide_eq_false (by omega)
  have hd : decide (y < key) = true := decide_eq_true hl
  clear h hc e e2 ho hid
  generalize L.length = m at *
  go_enter Try.func16, Try.ntmps16
  go_wp2_with (first | (go_at_call 29; refine k.mono ?_; rintro e w' ⟨rfl, rfl⟩) | (go_at_call 30; refine k2.mono ?_; rintro e w' ⟨rfl, rfl⟩))
  go_ret
  exact ⟨rfl, rfl⟩
set_option maxRecDepth 1000000 in
set_option maxHeartbeats 2000000 in
theorem rlow_new {w : World} {rb : Nat} {n : Int} {v : Value} {L : List It} (h : RM w rb n v L) (hlen : L.length ≤ 1000000) (ho : Once L) (id key y : Int) (hid : isId (hsz n) id = true) {i : Nat} (hi : i < L.length) (e : L[i].1 = id) (e2 : L[i].2 = y) (hl : ¬ y < key) :
    Calls Try.prog 16 #[ptr rb, .int .i64 id, .int .i64 key] w fun e w' => e = .returned (.int .i64 0) ∧ RM w' rb n v (L.set i (id, key)) ∧ Turn (RFoot rb v) w w' := by
  have k := known_any h id
  rw [hid] at k
  have k2 := find_some h hlen ho hi id e
  have q1 := h.c1
  obtain ⟨ib, cap, hv, hc1, hc2, hc, hf⟩ := h.form (by omega)
  subst hv
  have ck := (hc i hi).2
  have fk := hf (i * 2 + 1)
  rw [e2] at ck
  have hlt : decide ((i : Int) < 0) = false := decide_eq_false (by omega)
  have hd : decide (y < key) = false := decide_eq_false hl
  have HN : Hid (RM (w.setCell ⟨ib, i * 2 + 1, none⟩ (.int .i64 key)) rb n (.slice (some ⟨ib, 0, none⟩) L.length cap) (L.set i (id, key)) ∧ Turn (RFoot rb (.slice (some ⟨ib, 0, none⟩) L.length cap)) w (w.setCell ⟨ib, i * 2 + 1, none⟩ (.int .i64 key))) := by
    refine ⟨⟨?_, ?_, h.ne⟩, (Turn.refl _ w).setCell (.inl (.inr rfl)) _⟩
    · rw [Below.heap_setCell _ _ _ _ (fun q => h.ne (by rw [q]; rfl))]; exact h.blk
    · have := (h.own.stored (i * 2 + 1) (.int .i64 key)).1
      rw [icells_set L i hi key, e] at this
      rw [List.length_set]
      exact this
  clear h hc e e2 ho hid hf
  obtain ⟨m, hm⟩ : ∃ m, L.length = m := ⟨_, rfl⟩
  rw [hm] at q1 hi hc1 HN hlen
  rw [hm]
  go_enter Try.func16, Try.ntmps16
  go_wp2_with (first | (go_at_call 29; refine k.mono ?_; rintro e w' ⟨rfl, rfl⟩) | (go_at_call 30; refine k2.mono ?_; rintro e w' ⟨rfl, rfl⟩))
  go_ret
  exact ⟨rfl, HN.out.1, HN.out.2⟩
end Go.Proofs.Ytpcjaleogeoabaa
