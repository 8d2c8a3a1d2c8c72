/- The document's own ledger: a Take that is OK. -/
import Derived.Test.YtkcbigmccplpiaaRfc
import Derived.Deep.RegionHeld3
import Derived.Deep.CutRange
import Derived.Deep.CutBlock
import Derived.BigQuiet
namespace Go.Proofs.Ytkcbigmccplpiaa
open Go.RowKit
open M
set_option linter.unusedVariables false
set_option linter.unusedSimpArgs false

theorem heap_alloc_at {w : World} {b : Nat} (h : w.heap.size = b) (o : Obj) : (w.alloc o).heap[b]? = some o := by subst h; exact heap_alloc_new w o
theorem own_slice {w : World} {base sz n : Nat} {e : TypeId} {v : Value} {xs : List Value} (h : w.ownsRow base e sz v n xs) : ∃ ao cap, v = .slice ao n cap := by
  rcases h.2 with ⟨rfl, q⟩ | ⟨ib, cap, cur, rfl, _⟩
  · exact ⟨none, 0, by rw [q]⟩
  · exact ⟨_, cap, rfl⟩
theorem wpList_append_nil {ops : Array Oper} {rest : List Oper} {o : Oper} {a : Act} {w : World} {Q : Exit → Act → World → Prop} (hgd : o.guard = none) (s x : Operand)
    (ho : o.op = .call { callee := .builtin .append, args := #[s, x], argTypes := #[27, 27] }) {b : Addr} (hs : a.eval s = .slice (some b) 0 0) (hx : a.eval x = .slice none 0 0)
    (h : wpList Try.prog ops Q rest (a.put o.dst (.slice (some b) 0 0)) w) : wpList Try.prog ops Q (o :: rest) a w := by
  obtain ⟨i0, hi0, _⟩ := info_parts info54
  have hr := run_append_none2 (P := Try.prog) w 27 o.type 54 i0 Try.underlying27 hi0 (some b) 0 0 (Nat.le_refl _)
  refine wpList_plain hgd fun K0 hK => ?_
  unfold Oper.wp execOp
  simp only [ho, resolve, invoke, builtin, Sem.run_bind, Sem.run_pure, Result.andThen_ok, List.map_toArray, List.map_cons, List.map_nil, hs, hx, hr]
  exact hK _ _ h

/-- Where the row lies. -/
theorem RM.src {B : Nat} {w : World} {rb : Nat} {bu mn : Int} {v : Value} {L : List It} (h : RM B w rb bu mn v L) : (v = .slice none 0 0 ∧ L = []) ∨ ∃ (b o c : Nat), v = .slice (some ⟨b, o, none⟩) L.length c ∧ b < w.heap.size ∧ ∀ j u, (icells L)[j]? = some u → w.cell? ⟨b, o + j, none⟩ = some u := by
  rcases h.row.2 with ⟨rfl, q⟩ | ⟨g, c, cur, rfl, _, hg, h1, h2, h3, h4⟩
  · exact .inl ⟨rfl, List.eq_nil_of_length_eq_zero q⟩
  · refine .inr ⟨g, 0, c, rfl, block_lt hg, fun j u hu => ?_⟩
    have hj : j < (icells L).length := by
      rcases Nat.lt_or_ge j (icells L).length with q | q
      · exact q
      · rw [List.getElem?_eq_none q] at hu; cases hu
    rw [icells_len] at hj
    rw [Nat.zero_add, cell_of_row w g j _ _ _ hg, ← hu, ← h4, ← Array.getElem?_toList, List.getElem?_take_of_lt hj]

set_option maxRecDepth 1000000 in
set_option maxHeartbeats 4000000 in
theorem rtake_yes {B : Nat} {w : World} {rb : Nat} {bu mn : Int} {v : Value} {L : List It} (h : RM B w rb bu mn v L) (hB0 : B ≤ w.heap.size) (id mem : Int) (N : Int) (hN : max bu 0 = N) (n : Nat) (hn : min (max mn 0) 16 = (n : Int)) (hln : L.length < n)
    (h0 : ∀ p ∈ L, 0 ≤ p.2.2) (hM : sumL L ≤ N) (hNM : N ≤ 9223372036854775807) (hA : ¬ (id < 0 ∨ mem < 0)) (hB : ¬ N < mem) (hS : SlP L id 0 false) (hR : ¬ N - sumL L < mem)
    (K : Nat) (hK : K ≤ 16) (hK1 : ∀ j : Nat, j < K → ∃ z, AtP L j z true) (hK2 : AtP L K 0 false) :
    Calls Try.prog 13 #[ptr rb, .int .i64 id, .int .i64 mem] w fun e w' => e = .returned (.tuple #[.int .i64 K, .int .i64 0]) ∧ ∃ v', RM B w' rb bu mn v' (L ++ [(id, (K : Int), mem)]) ∧ Turn (fun k => k = rb) w w' ∧ ∀ k, v'.ownBlock = some k → w.heap.size ≤ k := by
  obtain ⟨i0, hi0, hz0, hz1, hz2⟩ := info_parts info54
  have c0 := h.c0
  have m1 : ∀ ts u W, (Builtin.max_ ts u #[.int .i64 bu, .int .i64 0]).run Try.prog W = .ok (.int .i64 N) W := fun ts u W => by rw [← hN]; exact max_num _ _ ts u W
  have d1 : decide (id < 0) = false := by simp; omega
  have d2 : decide (mem < 0) = false := by simp; omega
  have d3 : decide (N < mem) = false := by simpa using hB
  have hn16 : n ≤ 16 := by omega
  have k17 := rslot_any h (by omega) hS
  have k22 : Calls Try.prog 22 #[ptr rb] w.drew fun e w' => e = .returned (.int .i64 ((n : Int) - L.length)) ∧ Hid (Below w.heap.size w w' ∧ RM B w' rb bu mn v L) := (rslots_rm (h.below ((Below.refl _ _).drew)) n hn (by omega)).mono (fun e w' q => ⟨q.1, ((Below.refl w.heap.size w).drew).trans q.2.out.1, q.2.out.2⟩)
  have k19 : ∀ W, RM B W rb bu mn v L → Calls Try.prog 19 #[ptr rb] W fun e w' => e = .returned (.int .i64 (sumL L)) ∧ w' = W := fun W h => rused_any h (by omega) h0 (by omega)
  have HA : Hid (∀ W, RM B W rb bu mn v L → ∀ j : Nat, j ≤ K → ∃ z : Int, Calls Try.prog 24 #[ptr rb, .int .i64 j] W fun e w' => e = .returned (.tuple #[.int .i64 z, .bool (decide (j < K))]) ∧ w' = W) := fun W h j hj => by
    by_cases e : j < K
    · obtain ⟨z, hz⟩ := hK1 j e
      rw [decide_eq_true e]
      exact ⟨z, rat_any h (by omega) hz⟩
    · have : j = K := by omega
      subst this
      rw [decide_eq_false e]
      exact ⟨0, rat_any h (by omega) hK2⟩
  have HC : Hid (∀ W, RM B W rb bu mn v L → W.cell? ⟨rb, 0, none⟩ = some (.int .i64 bu)) := fun W h => h.c0
  have hs0 := sumL_nn h0
  have HL := hide_it hln
  obtain ⟨F, hF2⟩ : ∃ F, (n : Int) - L.length = F := ⟨_, rfl⟩
  have z1 : (F == 0) = false := by simp; omega
  rw [hF2] at k22
  generalize sumL L = U at *
  have z2 : decide (N - U < mem) = false := by simpa using hR
  have v1 : IntKind.i64.wrap (N - U) = N - U := by rw [IntKind.wrap_i64]; omega
  clear h hA hB hS h0 hN hn hln hF2 hs0 hR hM hK1 hK2
  go_enter Try.func13, Try.ntmps13
  go_upto_region 8 with (go_at_call 17; refine k17.mono ?_; rintro e w1 ⟨rfl, e1⟩; have e2 := e1.symm; clear e1; subst e2)
  first | (go_region_held3 (fun V => V.cell? ⟨rb, 0, none⟩ = some (.int .i64 bu)) (first | exact c0 | (exact HC.out _ s.out.2) | go_keep) (first | (go_at_call 22; refine k22.mono ?_; rintro e w3 ⟨rfl, s⟩) | (go_at_call 19; refine (k19 _ s.out.2).mono ?_; rintro e w4 ⟨rfl, e4⟩; have e5 := e4.symm; clear e4; subst e5))) | fail
  all_goals
    have H := hide_it s.out.2
    have HT0 : Hid (Below w.heap.size w w3) := s.out.1
    have HBw : Hid (B ≤ w3.heap.size) := Nat.le_trans hB0 s.out.1.size
    have OW0 : Hid ((w3.alloc (.cells #[] 54)).ownsRow w3.heap.size 54 3 (.slice (some ⟨w3.heap.size, 0, none⟩) 0 0) 0 []) := World.ownsRow_lit w3 #[] 0 (Nat.le_refl _) (by simp [maxLen]) (by simp)
    have B0 : Hid (Below w3.heap.size w3 (w3.alloc (.cells #[] 54))) := (Below.refl _ _).alloc (Nat.le_refl _) _
    have HQ : Hid (∀ W, Below w3.heap.size w3 W → W.cell? ⟨rb, 2, none⟩ = some v ∧ W.frozen? ⟨rb, 2, none⟩ = false) := fun W hW => ⟨(H.out.below hW).c2, (H.out.below hW).fr 2⟩
    have HEND : Hid (∀ W ao3 cap3 M, M = L.length + 1 → Below w3.heap.size w3 W → W.ownsRow w3.heap.size 54 3 (.slice ao3 M cap3) M (icells L ++ [.int .i64 id, .int .i64 K, .int .i64 mem]) → ∃ v', RM B (W.setCell ⟨rb, 2, none⟩ (.slice ao3 M cap3)) rb bu mn v' (L ++ [(id, (K : Int), mem)]) ∧ Turn (fun k => k = rb) w (W.setCell ⟨rb, 2, none⟩ (.slice ao3 M cap3)) ∧ ∀ k, v'.ownBlock = some k → w.heap.size ≤ k) := fun W ao3 cap3 M hM hb hown => by
      subst hM
      have hll : L.length + 1 = (L ++ [(id, (K : Int), mem)]).length := by simp
      rw [show icells L ++ [.int .i64 id, .int .i64 K, .int .i64 mem] = icells (L ++ [(id, (K : Int), mem)]) by rw [icells_app]; rfl, hll] at hown
      rw [hll]
      obtain ⟨z1, z2⟩ := H.out.put hb hown HBw.out
      have hsz := HT0.out.size
      refine ⟨_, z1, Turn.trans (Turn.of_below HT0.out) z2, fun k hk => ?_⟩
      have := (hown.lt k hk).1
      omega
    have hsrc := s.out.2.src
    have hlen : L.length < 16 := by have := HL.out; omega
    obtain ⟨c2, f2⟩ := HQ.out _ B0.out
    have HAw : Hid (∀ j : Nat, j ≤ K → ∃ z : Int, Calls Try.prog 24 #[ptr rb, .int .i64 j] w3 fun e w' => e = .returned (.tuple #[.int .i64 z, .bool (decide (j < K))]) ∧ w' = w3) := HA.out _ s.out.2
    clear HA HC k22 c0
    obtain ⟨z, k24⟩ := HAw.out 0 (by omega)
    rcases hsrc with ⟨rfl, rfl⟩ | ⟨b, o, c, hv, hbl, hcells⟩
    · clear hlen
      go_wp2_with (go_at_call 24; refine k24.mono ?_; rintro e w5 ⟨rfl, e5⟩; have e6 := e5.symm; clear e5; subst e6)
      go_loop [10, 12] (fun sv hv => ∃ j : Nat, j ≤ K ∧ sv = .int .i64 j ∧ hv = .bool (decide (j < K))) (fun sv _ => K - (intOf sv).toNat)
      case atStart => exact ⟨0, by omega, rfl, rfl⟩
      case round =>
        obtain ⟨j, hj, rfl, rfl⟩ := hrel
        by_cases hlt : j < K
        · have hd : decide (j < K) = true := decide_eq_true hlt
          obtain ⟨z2, k25⟩ := HAw.out (j + 1) (by omega)
          rw [show ((j + 1 : Nat) : Int) = (j : Int) + 1 by omega] at k25
          have hj16 : (j : Int) < 16 := by omega
          generalize hG : decide (j + 1 < K) = G at *
          clear c2 f2
          go_wp2_with (go_at_call 24; refine k25.mono ?_; rintro e w5 ⟨rfl, e5⟩; have e6 := e5.symm; clear e5; subst e6)
          go_round
          case rel => exact ⟨j + 1, by omega, by go_num, by rw [hG]⟩
          case measure => simp [intOf]; omega
        · have hd : decide (j < K) = false := decide_eq_false hlt
          have hjK : K = j := by omega
          subst hjK
          clear k24
          go_wp2_with (first | (at_builtin; refine wpList_append_tell _ rfl (.tmp 68) (.tmp 73) 27 rfl w3.heap.size 54 i0 _ 3 24 Try.underlying27 hi0 hz0 hz1 hz2 rfl (by decide) (.slice (some ⟨w3.heap.size, 0, none⟩) 0 0) 0 [] rfl (OW0.out.alloc _) ⟨_, 0, none⟩ 1 1 [.int .i64 id, .int .i64 K, .int .i64 mem] rfl rfl (World.news_of_block (heap_alloc_at (by simp) _)) (by simp [Value.oneCell']) (by unfold maxLen; omega) (by omega) (B0.out.alloc B0.out.size (.cells #[.int .i64 id, .int .i64 K, .int .i64 mem] 54)).size ?_; intro v2 w6 hown2 hgrow2 hfr2; have hB2 := hide_it (((B0.out.alloc B0.out.size (.cells #[.int .i64 id, .int .i64 K, .int .i64 mem] 54))).grown hgrow2 (B0.out.alloc B0.out.size (.cells #[.int .i64 id, .int .i64 K, .int .i64 mem] 54)).size (fun q hq => (OW0.out.lt q hq).1)); obtain ⟨ao3, cap3, hv3⟩ := own_slice hown2; subst hv3; have OW2 := hide_it hown2; clear hown2 hgrow2 hfr2; obtain ⟨c3, f3⟩ := HQ.out _ hB2.out) | (at_builtin; refine wpList_append_nil rfl (.tmp 63) (.tmp 67) rfl (b := _) rfl rfl ?_))
          go_ret2
          have q := OW2.out
          simp only [Nat.zero_add, List.nil_append] at q
          exact ⟨rfl, HEND.out _ _ _ _ rfl hB2.out q⟩
    · obtain ⟨m, hm⟩ : ∃ m, L.length = m := ⟨_, rfl⟩
      have HN : Hid (∀ W, Below w3.heap.size w3 W → ∀ j u, (icells L)[j]? = some u → W.cell? ((⟨b, o, none⟩ : Addr).add j) = some u) := fun W hb j u hu => by
        rw [Addr.add_lit, hb.cell (p := ⟨b, _, none⟩) hbl]; exact hcells j u hu
      have l1 : (icells L).length = m * 3 := by rw [icells_len, hm]
      have o1 := icells_one L
      rw [hm] at hv hlen
      obtain ⟨cap, rfl⟩ : ∃ cap, cap = c := ⟨_, rfl⟩
      have hm1 : Hid (m + 1 = L.length + 1) := by rw [hm]; exact rfl
      subst hv
      generalize icells L = A at *
      clear hm hcells hbl
      go_wp2_with (go_at_call 24; refine k24.mono ?_; rintro e w5 ⟨rfl, e5⟩; have e6 := e5.symm; clear e5; subst e6)
      go_loop [10, 12] (fun sv hv => ∃ j : Nat, j ≤ K ∧ sv = .int .i64 j ∧ hv = .bool (decide (j < K))) (fun sv _ => K - (intOf sv).toNat)
      case atStart => exact ⟨0, by omega, rfl, rfl⟩
      case round =>
        obtain ⟨j, hj, rfl, rfl⟩ := hrel
        by_cases hlt : j < K
        · have hd : decide (j < K) = true := decide_eq_true hlt
          obtain ⟨z2, k25⟩ := HAw.out (j + 1) (by omega)
          rw [show ((j + 1 : Nat) : Int) = (j : Int) + 1 by omega] at k25
          have hj16 : (j : Int) < 16 := by omega
          generalize hG : decide (j + 1 < K) = G at *
          clear c2 f2
          go_wp2_with (go_at_call 24; refine k25.mono ?_; rintro e w5 ⟨rfl, e5⟩; have e6 := e5.symm; clear e5; subst e6)
          go_round
          case rel => exact ⟨j + 1, by omega, by go_num, by rw [hG]⟩
          case measure => simp [intOf]; omega
        · have hd : decide (j < K) = false := decide_eq_false hlt
          have hjK : K = j := by omega
          subst hjK
          clear k24
          go_wp2_with (first | (at_builtin; refine wpList_append_tell _ rfl (.tmp 68) (.tmp 73) 27 rfl w3.heap.size 54 i0 _ 3 24 Try.underlying27 hi0 hz0 hz1 hz2 rfl (by decide) v1 (0 + m) ([] ++ A) rfl (OW1.out.alloc _) ⟨_, 0, none⟩ 1 1 [.int .i64 id, .int .i64 K, .int .i64 mem] rfl rfl (World.news_of_block (heap_alloc_new _ _)) (by simp [Value.oneCell']) (by unfold maxLen; omega) (by omega) (hB1.out.alloc hB1.out.size (.cells #[.int .i64 id, .int .i64 K, .int .i64 mem] 54)).size ?_; intro v2 w6 hown2 hgrow2 hfr2; have hB2 := hide_it (((hB1.out.alloc hB1.out.size (.cells #[.int .i64 id, .int .i64 K, .int .i64 mem] 54))).grown hgrow2 (hB1.out.alloc hB1.out.size (.cells #[.int .i64 id, .int .i64 K, .int .i64 mem] 54)).size (fun q hq => (OW1.out.lt q hq).1)); obtain ⟨ao3, cap3, hv3⟩ := own_slice hown2; subst hv3; have OW2 := hide_it hown2; clear hown2 hgrow2 hfr2; obtain ⟨c3, f3⟩ := HQ.out _ hB2.out) | (at_builtin; refine wpList_append_tell _ rfl (.tmp 63) (.tmp 67) 27 rfl w3.heap.size 54 i0 _ 3 24 Try.underlying27 hi0 hz0 hz1 hz2 rfl (by decide) (.slice (some ⟨w3.heap.size, 0, none⟩) 0 0) 0 [] rfl OW0.out ⟨b, o, none⟩ m cap A rfl l1 (HN.out _ B0.out) o1 (by unfold maxLen; omega) (by omega) B0.out.size ?_; intro v1 w5 hown1 hgrow1 hfr1; have hB1 := hide_it (B0.out.grown hgrow1 B0.out.size (fun q hq => (OW0.out.lt q hq).1)); have OW1 := hide_it hown1; clear hown1 hgrow1 hfr1; obtain ⟨c1, f1⟩ := HQ.out _ hB1.out; obtain ⟨c2, f2⟩ := HQ.out _ (hB1.out.alloc hB1.out.size (.cells #[.int .i64 id, .int .i64 K, .int .i64 mem] 54))))
          go_ret2
          have q := OW2.out
          simp only [Nat.zero_add, List.nil_append] at q
          exact ⟨rfl, HEND.out _ _ _ _ hm1.out hB2.out q⟩
end Go.Proofs.Ytkcbigmccplpiaa
