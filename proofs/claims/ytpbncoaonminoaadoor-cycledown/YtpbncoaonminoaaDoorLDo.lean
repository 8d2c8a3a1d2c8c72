/- Where edges go down alone the order is that of the numbers: the walk. -/
import Derived.Test.YtpbncoaonminoaaDoorOrM
import Derived.Test.YtpbncoaonminoaaDoorCyT
import Derived.Deep.RegionHeld3
namespace Go.Proofs.YtpbncoaonminoaaDoor
open Go.RowKit
open M
set_option linter.unusedVariables false
set_option linter.unusedSimpArgs false

section
variable {P : Program} (w : World)
theorem wp_append_tell {o : Oper} {a : Act} {K : Act → World → Prop} {Q : Exit → Act → World → Prop} (s x : Operand) (t : TypeId)
    (ho : o.op = .call { callee := .builtin .append, args := #[s, x], argTypes := #[t, t] })
    (base : Nat) (e : TypeId) (i : TypeInfo) (z : Value) (size bytes : Nat) (ht : P.underlying t = some (.slice e)) (hi : P.info? e = some i) (hz : i.zero = some z)
    (hsize : i.size = size) (hby : i.bytes = bytes) (hzs : z.cells.size = size) (hsz : 0 < size)
    (v : Value) (n : Nat) (xs : List Value) (hs : a.eval s = v) (hown : w.ownsRow base e size v n xs)
    (ad : Addr) (m c : Nat) (news : List Value) (hx : a.eval x = .slice (some ad) m c) (hl : news.length = m * size) (hnews : ∀ j u, news[j]? = some u → w.cell? (ad.add j) = some u) (h1 : ∀ u ∈ news, u.oneCell' = true)
    (h63 : n + m ≤ maxLen) (hbytes : (n + m) * bytes ≤ 140737488355328) (hbase : base ≤ w.heap.size)
    (h : ∀ v' w', w'.ownsRow base e size v' (n + m) (xs ++ news) → w.grownBy w' v.ownBlock → Fresh w v v' → K (a.put o.dst v') w') : o.wp P a w K Q := by
  obtain ⟨v', w', hr, h2, h3, h4⟩ := run_append_tell (P := P) w base t o.type e i z size bytes ht hi hz hsize hby hzs hsz v n xs hown ad m c news hl hnews h1 h63 hbytes hbase
  unfold Oper.wp execOp
  simp only [ho, resolve, invoke, builtin, Sem.run_bind, Sem.run_pure, Result.andThen_ok, List.map_toArray, List.map_cons, List.map_nil, hs, hx, hr]
  exact h v' w' h2 h3 h4
end

/-- Edges of whole numbers as cells. -/
def icells : List (Int × Int) → List Value
  | [] => []
  | (x, y) :: r => .int .i64 x :: .int .i64 y :: icells r
theorem icells_len (l : List (Int × Int)) : (icells l).length = l.length * 2 := by
  induction l with
  | nil => rfl
  | cons e r ih => obtain ⟨x, y⟩ := e; simp [icells, ih]; omega
theorem icells_app (a b : List (Int × Int)) : icells (a ++ b) = icells a ++ icells b := by
  induction a with
  | nil => rfl
  | cons e r ih => obtain ⟨x, y⟩ := e; simp [icells, ih]
theorem icells_at (es : List (Int × Int)) : ∀ i (h : i < es.length), (icells es)[i * 2]? = some (.int .i64 es[i].1) ∧ (icells es)[i * 2 + 1]? = some (.int .i64 es[i].2) := by
  induction es with
  | nil => intro i h; simp at h
  | cons e r ih =>
    obtain ⟨x, y⟩ := e
    intro i h
    cases i with
    | zero => exact ⟨rfl, rfl⟩
    | succ i =>
      obtain ⟨p, q⟩ := ih i (by simpa using h)
      rw [show (i + 1) * 2 = i * 2 + 1 + 1 by omega]
      simp only [icells, List.getElem_cons_succ, List.getElem?_cons_succ]
      exact ⟨p, q⟩
theorem own_lin {w : World} {base : Nat} {v : Value} {l : List (Int × Int)} (h : w.ownsRow base 32 2 v l.length (icells l)) : ∃ ao cap, v = .slice ao l.length cap ∧ LIn w ao l := by
  rcases h.2 with ⟨rfl, hz⟩ | ⟨r, cap, cur, rfl, hb, hg, _⟩
  · exact ⟨none, 0, by rw [hz], fun i hi => by omega⟩
  · refine ⟨some ⟨r, 0, none⟩, cap, rfl, fun i hi => ⟨r, 0, rfl, block_lt hg, ?_, ?_⟩⟩
    · have := h.cells (g := r) rfl (i * 2) _ (icells_at l i hi).1
      simpa [Addr.add_lit] using this
    · have := h.cells (g := r) rfl (i * 2 + 1) _ (icells_at l i hi).2
      simpa [Addr.add_lit, Nat.add_assoc] using this
/-- The edges, turned down, as far as they were gone through. -/
def dn (ls : List (Int × Int)) (k : Nat) : List (Int × Int) := ((ls.take k).filter (fun p => decide (p.1 ≠ p.2))).map (fun p => (max p.1 p.2, min p.1 p.2))
theorem dn_step (ls : List (Int × Int)) (k : Nat) (h : k < ls.length) : dn ls (k + 1) = if ls[k].1 ≠ ls[k].2 then dn ls k ++ [(max ls[k].1 ls[k].2, min ls[k].1 ls[k].2)] else dn ls k := by
  unfold dn
  rw [List.take_succ_eq_append_getElem h, List.filter_append, List.map_append]
  by_cases hc : ls[k].1 = ls[k].2
  · simp [hc]
  · simp [hc]
theorem dn_len (ls : List (Int × Int)) (k : Nat) : (dn ls k).length ≤ k := by
  unfold dn
  rw [List.length_map]
  exact Nat.le_trans (List.length_filter_le _ _) (List.length_take_le _ _)
theorem dn_down (ls : List (Int × Int)) (k : Nat) : ∀ p ∈ dn ls k, p.2 < p.1 := by
  intro p hp
  unfold dn at hp
  obtain ⟨q, hq, rfl⟩ := List.mem_map.1 hp
  have := of_decide_eq_true (List.mem_filter.1 hq).2
  show min q.1 q.2 < max q.1 q.2
  omega
theorem fold_down (n : Nat) : ∀ (l : List (Int × Int)) (es : List E), (∀ p ∈ l, p.2 < p.1) → (∀ e ∈ es, e.2 < e.1 ∧ e.1 < n ∧ e.2 < n) → ∀ e ∈ foldE n l es, e.2 < e.1 ∧ e.1 < n ∧ e.2 < n
  | [], es, _, h => h
  | p :: r, es, hl, h => by
    refine fold_down n r (addE n es p.1 p.2) (fun q hq => hl q (by simp [hq])) ?_
    have hp := hl p (by simp)
    unfold addE
    split
    · rename_i hc
      have hr : 0 ≤ p.1 ∧ p.1 < n ∧ 0 ≤ p.2 ∧ p.2 < n := by simp [offB] at hc; omega
      split
      · exact h
      · intro e he
        rcases List.mem_append.1 he with q | q
        · exact h e q
        · simp at q
          subst q
          exact ⟨by show p.2.toNat < p.1.toNat; omega, by show p.1.toNat < n; omega, by show p.2.toNat < n; omega⟩
    · exact h
theorem ord_range {es : List E} {n : Nat} (hd : ∀ e ∈ es, e.2 < e.1 ∧ e.1 < n ∧ e.2 < n) : ∀ f k, k + f = n → ordL es n f (List.range k) = List.range n
  | 0, k, h => by
    have : k = n := by omega
    subst this
    rfl
  | f + 1, k, h => by
    have hk : k < n := by omega
    have hn : nextO es n (List.range k) = some k := by
      refine find_range _ n k hk (nextP_iff.2 ⟨by simp, fun x hx => ?_⟩) (fun i hi => ?_)
      · have := (hd _ hx).1
        simpa using this
      · cases q : nextP es (List.range k) i with
        | false => rfl
        | true => exact absurd (List.mem_range.2 hi) (nextP_iff.1 q).1
    show (match nextO es n (List.range k) with | none => List.range k | some t => ordL es n f (List.range k ++ [t])) = _
    rw [hn]
    show ordL es n f (List.range k ++ [k]) = _
    rw [← List.range_succ]
    exact ord_range hd f (k + 1) (by omega)
theorem down_all {es : List E} {n : Nat} (hd : ∀ e ∈ es, e.2 < e.1 ∧ e.1 < n ∧ e.2 < n) : orderL es n = List.range n ∧ orderB es n = true ∧ onL es n = [] := by
  have h1 : ordS es n = List.range n := ord_range hd n 0 (by omega)
  have h2 : ¬ (ordS es n).length < n := by rw [h1]; simp
  refine ⟨by unfold orderL; rw [if_neg h2]; exact h1, decide_eq_true (by omega), order_none (fun e he => (hd e he).2) (by omega)⟩
theorem made_at {W w : World} (hT : Tab W) (h0 : 0 < W.heap.size) (hb : Below W.heap.size W w) (n : Int) (ls : List (Int × Int)) (la : Option Addr) (lc : Nat) (hl : LIn w la ls) (hm : ls.length ≤ maxLen) (N : Nat) (fs : List E) (hN : sz30 n = N) (hf : foldE N (ls.take 100) [] = fs) :
    Calls Tryd.prog 10 #[.int .i64 n, .slice la ls.length lc] w fun e w' => ∃ g eb, e = .returned (ptr g) ∧ Hid (RX W.heap.size W w' g eb N fs []) := by
  refine (made_rx n ls la lc w (tab_below hT h0 hb) (Nat.lt_of_lt_of_le h0 hb.size) hl hm _ N fs rfl hN hf).mono ?_
  rintro e w' ⟨g, eb, rfl, s⟩
  obtain ⟨v, h⟩ := s.out
  have hs := hb.size
  exact ⟨g, eb, rfl, v, hb.trans (h.bel.mono hs), h.gm, fun k hk => Nat.le_trans hs (h.gB k hk), h.tab, h0, Nat.le_trans hs h.le, fun p hp => by simp at hp⟩
theorem info32 : (Tryd.prog.info? 32).map (fun i => (i.zero, i.size, i.bytes)) = some (some (.agg #[.int .i64 0, .int .i64 0]), 2, 16) := by kernel_rfl
theorem max_is (x y : Int) (ts : Array TypeId) (t : TypeId) (W : World) : (Builtin.max_ ts t #[.int .i64 x, .int .i64 y]).run Tryd.prog W = .ok (.int .i64 (max x y)) W := by
  rw [run_max_int2]
  congr 2
  split <;> omega
theorem min_is (x y : Int) (ts : Array TypeId) (t : TypeId) (W : World) : (Builtin.min_ ts t #[.int .i64 x, .int .i64 y]).run Tryd.prog W = .ok (.int .i64 (min x y)) W := by
  rw [run_min_int2]
  congr 2
  split <;> omega

set_option maxRecDepth 1000000 in
set_option maxHeartbeats 4000000 in
theorem down_core (n : Int) (ls : List (Int × Int)) (la : Option Addr) (lc : Nat) (W : World) (hT : Tab W) (h0 : 0 < W.heap.size) (hl : LIn W la ls) (hm : ls.length ≤ maxLen) :
    Calls Tryd.prog 8 #[.int .i64 n, .slice la ls.length lc] W fun e w' => e = .returned (.bool true) ∧ Below W.heap.size W w' := by
  have ks := shown_q hT h0 (Below.refl _ W)
  have HT := hide_it hT
  have HL := hide_it hl
  obtain ⟨m, hmm⟩ : ∃ m, ls.length = m := ⟨_, rfl⟩
  have HM := hide_it hmm
  rw [hmm] at hm ⊢
  unfold maxLen at hm
  obtain ⟨i0, hi, hz0, hz1, hz2⟩ := info_parts info32
  clear hT hl hmm
  go_enter Tryd.func8, Tryd.ntmps8
  go_wp2_with (go_at_call 9; refine ks.mono ?_; rintro e w1 ⟨rfl, s1⟩)
  go_loopw [6, 7] (fun u i W' => ∃ k : Nat, k ≤ m ∧ k ≤ 100 ∧ i = .int .i64 k ∧ Hid (Below W.heap.size W W') ∧ Hid (W'.ownsRow W.heap.size 32 2 u (dn ls k).length (icells (dn ls k)))) (fun _ i _ => m - (intOf i).toNat)
  case atStart => exact ⟨0, Nat.zero_le _, by omega, rfl, s1, World.ownsRow_nil _ _ _ _⟩
  case round =>
    obtain ⟨k, hk, hk100, rfl, hB, HO⟩ := hrel
    clear ks s1
    by_cases hlt : k < m ∧ k < 100
    · obtain ⟨hlt, hlt2⟩ := hlt
      have hlx : k < ls.length := by rw [HM.out]; exact hlt
      obtain ⟨b, o, rfl, hbw, c1, c2⟩ := (HL.out.below hB.out (Nat.le_refl _)) k hlx
      have HD := hide_it (dn_step ls k hlx)
      have hdl := dn_len ls k
      have HC : Hid (∀ w2, Below W.heap.size W w2 → w2.cell? ⟨b, o + k * 2, none⟩ = some (.int .i64 ls[k].1) ∧ w2.cell? ⟨b, o + k * 2 + 1, none⟩ = some (.int .i64 ls[k].2)) := fun w2 hb2 => by
        obtain ⟨b2, o2, e2, hb3, d1, d2⟩ := (HL.out.below hb2 (Nat.le_refl _)) k hlx
        injection e2 with e2
        injection e2 with e2 e3
        subst e2 e3
        exact ⟨d1, d2⟩
      generalize ls[k] = pr at *
      obtain ⟨x, y⟩ := pr
      simp only at c1 c2 HD HC
      have hsz : W.heap.size ≤ wr.heap.size := hB.out.size
      by_cases hxy : x = y
      · subst hxy
        rw [if_neg (by simp)] at HD
        go_wp2
        go_big_quiet (fail)
        go_wp2
        go_roundw
        case rel => exact ⟨k + 1, by omega, by omega, by go_num, below_drewN hB.out _, by unfold Hid; rw [HD.out]; exact owns_below HO.out (below_drewN (Below.refl _ _) _)⟩
        case measure => simp [intOf]; omega
      · rw [if_pos hxy] at HD
        have hne1 : (x != y) = true := by simpa using hxy
        have hmx := max_is x y
        have hmn := min_is x y
        generalize max x y = mx at *
        generalize min x y = mn at *
        go_wp2
        go_big_quiet (fail)
        go_wp2
        have hB2 := hide_it (below_drewN hB.out nq)
        have HO2 := hide_it (owns_below HO.out (below_drewN (Below.refl _ wr) nq))
        have hsz2 : W.heap.size ≤ (wr.drewN nq).heap.size := hB2.out.size
        obtain ⟨d1, d2⟩ := HC.out _ hB2.out
        clear c1 c2 hB HO hsz
        generalize wr.drewN nq = w2 at *
        have HO3 : Hid (∀ V, Below w2.heap.size w2 V → V.ownsRow W.heap.size 32 2 u6 (dn ls k).length (icells (dn ls k))) := fun V hb => owns_below HO2.out hb
        (go_region_held3 (fun V => V.cell? ⟨b, o + k * 2, none⟩ = some (.int .i64 x) ∧ V.cell? ⟨b, o + k * 2 + 1, none⟩ = some (.int .i64 y)) (first | go_keep | exact HC.out _ hB4) ((rw [if_pos (by rfl)]; refine wp_append_tell _ (.tmp 34) (.tmp 58) 22 rfl W.heap.size 32 i0 _ 2 16 Tryd.underlying22 hi hz0 hz1 hz2 rfl (by decide) _ (dn ls k).length (icells (dn ls k)) rfl (HO3.out _ (((Below.refl _ _).drew).alloc (by simp) _)) ⟨_, 0, none⟩ 1 1 [.int .i64 mx, .int .i64 mn] rfl rfl (World.news_of_block (heap_alloc_at (by simp) _)) (by simp [Value.oneCell']) (by unfold maxLen; omega) (by omega) (by simp; omega) ?_; intro v' w4 hown' hgrow hfr; have hB4 : Below W.heap.size W w4 := ((hB2.out.drew.alloc (by simp; omega) _).grown hgrow (by simp; omega) (fun q hq => (HO2.out.lt q hq).1)))))
        all_goals
          go_wp2
          go_roundw
          case rel =>
            refine ⟨k + 1, by omega, by omega, by go_num, hB4, ?_⟩
            unfold Hid
            rw [HD.out, icells_app, List.length_append]
            exact hown'
          case measure => simp [intOf]; omega
    · have HE : Hid (dn ls k = dn ls 100) := by
        unfold Hid dn
        by_cases h1 : k < m
        · have : k = 100 := by omega
          rw [this]
        · rw [List.take_of_length_le (by rw [HM.out]; omega), List.take_of_length_le (by rw [HM.out]; omega)]
      have hdl := dn_len ls k
      obtain ⟨ao, cap, rfl, hLI⟩ := own_lin HO.out
      obtain ⟨N, hN⟩ : ∃ N, sz30 n = N := ⟨_, rfl⟩
      have hN30 : N ≤ 30 := by rw [← hN]; exact sz30_le n
      obtain ⟨es, hes⟩ : ∃ es, foldE N ((dn ls k).take 100) [] = es := ⟨_, rfl⟩
      have hdown : ∀ e ∈ es, e.2 < e.1 ∧ e.1 < N ∧ e.2 < N := by
        rw [← hes]
        exact fold_down N _ [] (fun p hp => dn_down ls k p (List.mem_of_mem_take hp)) (by simp)
      have hel : es.length ≤ 100 := by rw [← hes]; exact foldE_len N (dn ls k) 100
      obtain ⟨g1, g2, g3⟩ := down_all hdown
      have km := made_at HT.out h0 hB.out n (dn ls k) ao cap hLI (by unfold maxLen; omega) N es hN hes
      have kO : ∀ w1 g eb, RX W.heap.size W w1 g eb N es [] → Calls Tryd.prog 13 #[ptr g] w1 fun e w' => ∃ ao cap, e = .returned (.tuple #[.slice ao N cap, .bool true]) ∧ Hid (RX W.heap.size W w' g eb N es [(.slice ao N cap, List.range N)]) := fun w1 g eb h => by
        refine (h.order (by omega) _ _ g1 g2).mono ?_
        rintro e w' ⟨u, rfl, s⟩
        obtain ⟨ao, cap, rfl, _⟩ := own_iat (s.out.row (L := List.range N) (u := u) (by simp))
        rw [List.length_range] at s ⊢
        exact ⟨ao, cap, rfl, s⟩
      have kOn : ∀ w1 g eb X, RX W.heap.size W w1 g eb N es X → Calls Tryd.prog 19 #[ptr g] w1 fun e w' => ∃ ao cap, e = .returned (.slice ao 0 cap) ∧ Hid (RX W.heap.size W w' g eb N es ((.slice ao 0 cap, []) :: X)) := fun w1 g eb X h => by
        refine (h.on (by omega) _ g3).mono ?_
        rintro e w' ⟨u, rfl, s⟩
        obtain ⟨ao, cap, rfl, _⟩ := own_iat (s.out.row (L := []) (u := u) (by simp))
        exact ⟨ao, cap, rfl, s⟩
      have kn : ∀ w1 g eb X, RX W.heap.size W w1 g eb N es X → Calls Tryd.prog 23 #[ptr g] w1 fun e w' => e = .returned (.int .i64 N) ∧ w' = w1 := fun w1 g eb X h => h.num
      have hcond : (decide ((k : Int) < (m : Int)) && decide ((k : Int) < 100)) = false := by
        rw [Bool.and_eq_false_iff]
        by_cases h1 : k < m
        · right; simp; omega
        · left; simp; omega
      clear hes hN hdown g1 g2 g3 hLI HO HL HT HE
      generalize (dn ls k).length = dl at *
      by_cases hkm : k < m
      · have hk2 : decide ((k : Int) < 100) = false := by simp; omega
        go_wp2_with (first | (go_at_call 10; refine km.mono ?_; rintro e w3 ⟨g, eb, rfl, t1⟩) | (go_at_call 13; refine (kO _ _ _ t1.out).mono ?_; rintro e w4 ⟨ao4, cap4, rfl, t2⟩) | (go_at_call 23; refine (kn _ _ _ _ t2.out).mono ?_; rintro e w5 ⟨rfl, rfl⟩) | (go_at_call 19; refine (kOn _ _ _ _ t2.out).mono ?_; rintro e w6 ⟨ao6, cap6, rfl, t3⟩))
        go_loop [11] (fun i => ∃ j : Nat, j ≤ N ∧ i = .int .i64 j) (fun i => N - (intOf i).toNat)
        case atStart => exact ⟨0, Nat.zero_le _, rfl⟩
        case round =>
          obtain ⟨j, hj, rfl⟩ := hrel
          by_cases hjl : j < N
          · obtain ⟨r, rfl, hr, c⟩ := t3.out.at (ao := ao4) (m := N) (cap := cap4) (L := List.range N) (by simp) j (by simpa using hjl)
            rw [List.getElem_range] at c
            go_wp2
            go_round
            case rel => exact ⟨j + 1, by omega, by go_num⟩
            case measure => simp [intOf]; omega
          · go_wp2
            go_ret
            exact ⟨rfl, t3.out.bel⟩
      · have hk2 : decide ((k : Int) < (m : Int)) = false := by simp; omega
        go_wp2_with (first | (go_at_call 10; refine km.mono ?_; rintro e w3 ⟨g, eb, rfl, t1⟩) | (go_at_call 13; refine (kO _ _ _ t1.out).mono ?_; rintro e w4 ⟨ao4, cap4, rfl, t2⟩) | (go_at_call 23; refine (kn _ _ _ _ t2.out).mono ?_; rintro e w5 ⟨rfl, rfl⟩) | (go_at_call 19; refine (kOn _ _ _ _ t2.out).mono ?_; rintro e w6 ⟨ao6, cap6, rfl, t3⟩))
        go_loop [11] (fun i => ∃ j : Nat, j ≤ N ∧ i = .int .i64 j) (fun i => N - (intOf i).toNat)
        case atStart => exact ⟨0, Nat.zero_le _, rfl⟩
        case round =>
          obtain ⟨j, hj, rfl⟩ := hrel
          by_cases hjl : j < N
          · obtain ⟨r, rfl, hr, c⟩ := t3.out.at (ao := ao4) (m := N) (cap := cap4) (L := List.range N) (by simp) j (by simpa using hjl)
            rw [List.getElem_range] at c
            go_wp2
            go_round
            case rel => exact ⟨j + 1, by omega, by go_num⟩
            case measure => simp [intOf]; omega
          · go_wp2
            go_ret
            exact ⟨rfl, t3.out.bel⟩
end Go.Proofs.YtpbncoaonminoaaDoor
