/- TurnsAll's walk. -/
import Derived.Test.YtlhkahincnchjaaAcc
import Derived.Test.YtlhkahincnchjaaIvl
import Derived.Test.YtlhkahincnchjaaWei
import Derived.Test.YtlhkahincnchjaaPut
namespace Go.Proofs.Ytlhkahincnchjaa
open Go.RowKit
open M
set_option linter.unusedVariables false
set_option linter.unusedSimpArgs false

/-- So many Takes; who got how often. -/
structure Al (Q : Int) (N : Nat) (wf : Nat → Int) (c : Int) (i : Nat) (x : Tn) (K : Nat → Nat) : Prop where
  iv : Inv c x
  q : x.q = Q
  n : x.n = N
  I : ∀ j, j < N → x.I j = j
  W : ∀ j, j < N → x.W j = wf j
  acc : ∃ b, Acc (fun j => (K j : Int) * c) b x
  sum : sumN K N = i
  cur : i = 0 ∨ K x.k ≠ 0
def upK (K : Nat → Nat) (k : Nat) : Nat → Nat := fun j => if j = k then K j + 1 else K j
theorem al_gd {Q c : Int} {N i : Nat} {wf : Nat → Int} {x : Tn} {K : Nat → Nat} (h : Al Q N wf c i x K) (hN : N ≤ 10) : Gd c 10 x := ⟨h.iv, by rw [h.n]; exact hN, fun j hj => by rw [h.I j (by rw [← h.n]; exact hj)]; unfold i64B; have := h.n; omega⟩
theorem all_take {Q c : Int} {N i : Nat} {wf : Nat → Int} {x y : Tn} {K : Nat → Nat} {id : Int} {ok : Bool} (h : Al Q N wf c i x K) (hN : 0 < N) (hc : 1 ≤ c ∧ c ≤ 1024) (ht : TakeP (wrow N (fun _ => c)) x y id ok) :
    ∃ r, r < N ∧ id = (r : Int) ∧ ok = true ∧ Al Q N wf c (i + 1) y (upK K r) := by
  have hn := h.n
  have hcs : ∀ j, j < N → costs (wrow N (fun _ => c)) x j = c := fun j hj => costs_wrow (fun _ _ => ⟨hc.1, by omega⟩) (h.I j hj) hj
  have hiv := inv_takeP h.iv hc.1 (fun j hj => by rw [hcs j (by omega)]; exact Int.le_refl _) ht
  have s := ht.same
  rcases ht with ⟨h0, _⟩ | ⟨_, hr, rfl, rfl⟩
  · have := h0 0 (by omega)
    rw [hcs 0 hN] at this; omega
  · have hk := h.iv.kn (by omega)
    obtain ⟨b, hb⟩ := h.acc
    obtain ⟨b', hb'⟩ := acc_take hb hk (fun j hj => by rw [hcs j (by omega)]; omega) hr
    have hyk : y.k < N := by have := hiv.kn (by rw [s.n]; omega); rw [s.n, hn] at this; exact this
    refine ⟨y.k, hyk, by rw [s.I]; exact h.I _ hyk, rfl, ⟨hiv, by rw [s.q]; exact h.q, by rw [s.n]; exact hn, by rw [s.I]; exact h.I, by rw [s.W]; exact h.W, ⟨b', hb'.1, fun j hj => ?_⟩, ?_, .inr ?_⟩⟩
    · rw [hb'.2 j hj]
      congr 1
      unfold upd upK
      by_cases e : j = y.k
      · subst e
        simp only [if_true]
        rw [hcs _ hyk]
        push_cast
        rw [Int.add_mul, Int.one_mul]
      · simp only [e, if_false]
    · rw [show upK K y.k = fun j => if j = y.k then K j + 1 else K j from rfl, sumN_up hyk, h.sum]
    · unfold upK
      rw [if_pos rfl]
      omega
theorem all_end {Q c : Int} {N i : Nat} {wf : Nat → Int} {x : Tn} {K : Nat → Nat} (h : Al Q N wf c i x K) (hQ : 1 ≤ Q) (hc : 1 ≤ c) (hw : ∀ j, j < N → 1 ≤ wf j ∧ wf j ≤ 10) {E : Nat} (hE : (10 * Q * (c / Q + 2)) / c + 1 = (E : Int)) (hi : N * E ≤ i) (h0 : 0 < none0 K N) : False := by
  obtain ⟨p, hp, hK⟩ := none0_pos h0
  have hn := h.n
  have hE1 : 1 ≤ E := by
    have h1 : 0 ≤ c / Q := Int.ediv_nonneg (by omega) (by omega)
    have h2 : 0 ≤ 10 * Q * (c / Q + 2) := Int.mul_nonneg (by omega) (by omega)
    have := Int.ediv_nonneg h2 (show 0 ≤ c by omega)
    omega
  have hi1 : 1 ≤ i := by
    have := Nat.mul_le_mul (show 1 ≤ N by omega) hE1
    omega
  have hpk : p ≠ x.k := fun e => by
    rcases h.cur with q | q
    · omega
    · rw [← e] at q; exact q hK
  obtain ⟨b, hb0, hb⟩ := h.acc
  have hCp := hb p (by omega)
  have hCl := h.iv.cM p (by omega) hpk
  have hz : ((K p : Nat) : Int) * c = 0 := by rw [hK]; simp
  simp only [hz, Int.sub_zero] at hCp
  rw [h.q, h.W p hp] at hCp
  obtain ⟨T, hT⟩ : ∃ T, b + lap x.k p = T := ⟨_, rfl⟩
  have hT0 : 0 ≤ T := by have := lap_01 x.k p; omega
  rw [hT] at hCp
  have hTQ : T * Q ≤ T * (Q * wf p) := Int.mul_le_mul_of_nonneg_left (by have := Int.mul_le_mul_of_nonneg_left (hw p hp).1 (show 0 ≤ Q by omega); omega) hT0
  have hTD : T ≤ c / Q := (Int.le_ediv_iff_mul_le (by omega)).2 (by omega)
  obtain ⟨D, hD⟩ : ∃ D, c / Q = D := ⟨_, rfl⟩
  rw [hD] at hTD hE
  have hall : ∀ j, j < N → K j ≤ E - 1 := fun j hj => by
    have hCj := hb j (by omega)
    have hc0 := h.iv.c0 j (by omega)
    rw [h.q, h.W j hj] at hCj
    simp only at hCj
    obtain ⟨U, hU⟩ : ∃ U, b + lap x.k j = U := ⟨_, rfl⟩
    have hU1 : U ≤ D + 1 := by have := lap_01 x.k j; have := lap_01 x.k p; omega
    have hU0 : 0 ≤ U := by have := lap_01 x.k j; omega
    rw [hU] at hCj
    have w1 : Q * wf j ≤ Q * 10 := Int.mul_le_mul_of_nonneg_left (hw j hj).2 (by omega)
    have w0 : 0 ≤ Q * wf j := Int.mul_nonneg (by omega) (by have := (hw j hj).1; omega)
    have m1 : U * (Q * wf j) ≤ (D + 1) * (Q * 10) := Int.mul_le_mul hU1 w1 w0 (by omega)
    have m2 : (D + 1) * (Q * 10) ≤ 10 * Q * (D + 2) := by
      have e1 : (D + 1) * (Q * 10) = 10 * Q * (D + 1) := by rw [Int.mul_comm, Int.mul_comm Q 10]
      rw [e1]
      exact Int.mul_le_mul_of_nonneg_left (by omega) (by omega)
    have m3 : (K j : Int) * c ≤ 10 * Q * (D + 2) := by omega
    have m4 : (K j : Int) ≤ (10 * Q * (D + 2)) / c := (Int.le_ediv_iff_mul_le (by omega)).2 m3
    omega
  have hs := sumN_le hall
  rw [h.sum] at hs
  have : N * E = N * (E - 1) + N := by
    obtain ⟨e, rfl⟩ : ∃ e, E = e + 1 := ⟨E - 1, by omega⟩
    rw [Nat.add_sub_cancel, Nat.mul_add, Nat.mul_one]
  omega
theorem all_start {Q c : Int} {N : Nat} {wf : Nat → Int} {x : Tn} (h : Jn Q N wf x) (hc : 1 ≤ c) (hQ : 1 ≤ Q ∧ Q ≤ 1048576) (hw : ∀ j, j < N → 1 ≤ wf j ∧ wf j ≤ 100) (hN : N ≤ 10) : Al Q N wf c 0 x (fun _ => 0) := by
  have g := jn_gd h hQ hw hc (by omega)
  refine ⟨g.iv, h.q, h.n, h.I, h.W, ⟨0, Int.le_refl _, fun j hj => ?_⟩, sumN_zero N, .inl rfl⟩
  have l0 : lap x.k j = 0 := by unfold lap; rw [h.k0, if_neg (by omega)]
  rw [l0, h.C j (by rw [← h.n]; exact hj)]
  simp

/-- Who got something. -/
def gRow (K : Nat → Nat) : Array Value := ((List.range 10).map fun j => Value.bool (!decide (K j = 0))).toArray
theorem gRow_at (K : Nat → Nat) {j : Nat} (h : j < 10) : (gRow K)[j]? = some (.bool (!decide (K j = 0))) := by simp [gRow, h]
theorem gRow_ext {A : Array Value} {K : Nat → Nat} (hs : A.size = 10) (h : ∀ j, j < 10 → A[j]? = some (.bool (!decide (K j = 0)))) : A = gRow K := by
  apply Array.ext_getElem?
  intro j
  by_cases hj : j < 10
  · rw [h j hj, gRow_at K hj]
  · rw [Array.getElem?_eq_none (by omega), Array.getElem?_eq_none (by simp [gRow]; omega)]
theorem gRow_set (K : Nat → Nat) (r : Nat) (hr : r < 10) : (gRow K).setIfInBounds r (.bool true) = gRow (upK K r) := by
  refine gRow_ext (by simp [gRow]) (fun j hj => ?_)
  rw [Array.getElem?_setIfInBounds]
  unfold upK
  by_cases e : r = j
  · subst e
    rw [if_pos rfl, if_pos (by simp [gRow]; exact hr)]
    simp
  · have e2 : ¬ j = r := fun q => e q.symm
    rw [if_neg e, gRow_at K hj]
    simp only [e2, if_false]
theorem gRow_same (K : Nat → Nat) (r : Nat) (h : K r ≠ 0) : gRow (upK K r) = gRow K := by
  unfold gRow upK
  congr 2
  funext j
  by_cases e : j = r
  · subst e
    simp [h]
  · simp only [e, if_false]

set_option maxRecDepth 1000000 in
set_option maxHeartbeats 4000000 in
theorem turnsAll_walk (a : Int) (ws : List Int) (wa : Option Addr) (wc : Nat) (c0 : Int) (w : World) (ha : -9223372036854775808 ≤ a ∧ a ≤ 9223372036854775807) (hws : NumsIn .i64 w wa ws) (hwl : ws.length ≤ wc) (hwm : wc ≤ maxLen) (hwb : ∀ y ∈ ws, (Lit.int .i64 y).wf = true) (hc0 : -9223372036854775808 ≤ c0 ∧ c0 ≤ 9223372036854775807) :
    Calls Try.prog 6 #[.int .i64 a, .slice wa ws.length wc, .int .i64 c0] w fun e w' => e = .returned (.bool true) ∧ Below w.heap.size w w' := by
  have ks := shown_any w
  unfold maxLen at hwm
  obtain ⟨n, hn⟩ : ∃ n, min ws.length 10 = n := ⟨_, rfl⟩
  have hmin : ∀ (ts : Array TypeId) (t : TypeId) (W : World), (Builtin.min_ ts t #[.int .i64 (ws.length : Int), .int .i64 10]).run Try.prog W = .ok (.int .i64 (n : Int)) W := fun ts t W => by
    rw [min_num]; congr 2; omega
  have hn1 : n ≤ 10 := by omega
  have hn2 : n ≤ ws.length := by omega
  obtain ⟨A, hA⟩ : ∃ A, bits .and .i64 a 31 = A := ⟨_, rfl⟩
  have hAb : 0 ≤ A ∧ A < 32 := by rw [← hA, i64_and5]; omega
  obtain ⟨C, hC⟩ : ∃ C, bits .and .i64 c0 1023 = C := ⟨_, rfl⟩
  have hCb : 0 ≤ C ∧ C < 1024 := by rw [← hC, i64_and10]; omega
  obtain ⟨Q, hQ⟩ : ∃ Q, 1 + A = Q := ⟨_, rfl⟩
  obtain ⟨c, hc⟩ : ∃ c, 1 + C = c := ⟨_, rfl⟩
  have hQb : 1 ≤ Q ∧ Q ≤ 32 := by omega
  have hcb : 1 ≤ c ∧ c ≤ 1024 := by omega
  have hQ0 : min (max Q 1) 1048576 = Q := by omega
  -- what is reckoned
  obtain ⟨D, hD⟩ : ∃ D, c / Q = D := ⟨_, rfl⟩
  have hD0 : 0 ≤ D ∧ D ≤ 1024 := by
    rw [← hD]
    exact ⟨Int.ediv_nonneg (by omega) (by omega), Int.le_trans (Int.ediv_le_self _ (by omega)) (by omega)⟩
  obtain ⟨R, hR⟩ : ∃ R, 10 * Q * (D + 2) = R := ⟨_, rfl⟩
  have hR0 : 0 ≤ R ∧ R ≤ 328320 := by
    rw [← hR]
    refine ⟨Int.mul_nonneg (by omega) (by omega), ?_⟩
    have := Int.mul_le_mul (show 10 * Q ≤ 320 by omega) (show D + 2 ≤ 1026 by omega) (by omega) (by omega)
    omega
  obtain ⟨G, hG⟩ : ∃ G, R / c = G := ⟨_, rfl⟩
  have hG0 : 0 ≤ G ∧ G ≤ 328320 := by
    rw [← hG]
    exact ⟨Int.ediv_nonneg (by omega) (by omega), Int.le_trans (Int.ediv_le_self _ (by omega)) (by omega)⟩
  obtain ⟨E, hE⟩ : ∃ E : Nat, G + 1 = (E : Int) := ⟨(G + 1).toNat, by omega⟩
  obtain ⟨NE, hNE⟩ : ∃ NE, n * E = NE := ⟨_, rfl⟩
  have hNEb : NE ≤ 3283210 := by
    rw [← hNE]
    have := Nat.mul_le_mul hn1 (show E ≤ 328321 by omega)
    omega
  have HEE : Hid ((10 * Q * (c / Q + 2)) / c + 1 = (E : Int)) := hide_it (by rw [hD, hR, hG, hE])
  have HNE := hide_it hNE
  have v1 : c.tdiv Q = D := by rw [Int.tdiv_eq_ediv_of_nonneg (by omega)]; exact hD
  have v2 : R.tdiv c = G := by rw [Int.tdiv_eq_ediv_of_nonneg hR0.1]; exact hG
  have hQz : ¬ Q = 0 := by omega
  have hcz : ¬ c = 0 := by omega
  have b1 : -1000000000000 ≤ D + 2 ∧ D + 2 ≤ 1000000000000 := by omega
  have b2 : -1000000000000 ≤ 10 * Q ∧ 10 * Q ≤ 1000000000000 := by omega
  have b3 : -1000000000000 ≤ R ∧ R ≤ 1000000000000 := by omega
  have b4 : -1000000000000 ≤ G + 1 ∧ G + 1 ≤ 1000000000000 := by omega
  have b5 : (n : Int) * (E : Int) = (NE : Int) := by rw [← hNE]; push_cast; rfl
  have b6 : -1000000000000 ≤ (NE : Int) ∧ (NE : Int) ≤ 1000000000000 := by omega
  have b7 : -1000000000000 ≤ D ∧ D ≤ 1000000000000 := by omega
  have b8 : -1000000000000 ≤ G ∧ G ≤ 1000000000000 := by omega
  have b9 : -1000000000000 ≤ 1 + A ∧ 1 + A ≤ 1000000000000 := by omega
  have b10 : -1000000000000 ≤ 1 + C ∧ 1 + C ≤ 1000000000000 := by omega
  have HQ := hide_it (And.intro hQb hcb)
  have HQ0 := hide_it hQ0
  have HWS := hide_it hws
  have q24 : ∀ (t : Nat) (w : World), (binOp .eql 24 (ptr t) (.pointer none)).run Try.prog w = .ok (.bool false) w := fun t w => by rfl
  have HWR : Hid ((IntKind.i64.wrap (D + 2) = D + 2 ∧ wrap64 (D + 2) = D + 2) ∧ (IntKind.i64.wrap (10 * Q) = 10 * Q ∧ wrap64 (10 * Q) = 10 * Q) ∧ (IntKind.i64.wrap (10 * Q * (D + 2)) = R ∧ wrap64 (10 * Q * (D + 2)) = R) ∧ (IntKind.i64.wrap (G + 1) = (E : Int) ∧ wrap64 (G + 1) = (E : Int)) ∧ (IntKind.i64.wrap ((n : Int) * (E : Int)) = (NE : Int) ∧ wrap64 ((n : Int) * (E : Int)) = (NE : Int)) ∧ (IntKind.i64.wrap D = D ∧ wrap64 D = D) ∧ (IntKind.i64.wrap G = G ∧ wrap64 G = G)) := by
    refine ⟨wr_int b1, wr_int b2, ?_, ?_, ?_, wr_int b7, wr_int b8⟩
    · rw [hR]; exact wr_int b3
    · exact ⟨(wr_int b4).1.trans hE, (wr_int b4).2.trans hE⟩
    · rw [b5]; exact wr_int b6
  have eQ' : IntKind.i64.wrap (1 + A) = Q := (wr_int b9).1.trans hQ
  have eQ : wrap64 (1 + A) = Q := (wr_int b9).2.trans hQ
  have eC' : IntKind.i64.wrap (1 + C) = c := (wr_int b10).1.trans hc
  have eC : wrap64 (1 + C) = c := (wr_int b10).2.trans hc
  clear hws hn hwb ha hc0 hAb hCb hQ hc hQb hcb hQ0 hD hD0 hR hR0 hG hG0 hE hNE b1 b2 b3 b4 b5 b6 b7 b8 b9 b10
  go_enter Try.func6, Try.ntmps6
  go_wp2_with (go_at_call 10; refine ks.mono ?_; rintro e w1 ⟨rfl, s0⟩; refine Hid.out ?_)
  refine hide_it ?_
  have h0 := hide_it (mx_start s0.out (Nat.le_refl _))
  have k0 := h0.out.new Q
  clear ks
  go_wp2_with (go_at_call 11; refine k0.mono ?_; rintro e w2 ⟨t, rfl, s1⟩; refine Hid.out ?_)
  refine hide_it ?_
  have H1 : Hid (∃ x, Jn Q 0 (wOf 10 ws) x ∧ MX w.heap.size w w2 [obA t x, obW 37 (.slice none 0 0) (wrow 0 (fun _ => c))] []) :=
    ⟨mk0 Q, jn_zero Q _ HQ0.out, s1.out.add (G := fun _ => False) (o := obW 37 (.slice none 0 0) (wrow 0 (fun _ => c))) (Below.refl _ _) ⟨World.ownsRow_nil _ _ _ _, fun k hk => by simp [Value.ownBlock] at hk⟩ (fun k hk => hk.elim)⟩
  clear k0 h0 s0 s1 hA hC eQ eQ' eC eC' HQ0
  go_wp2
  go_loopw [10, 11] (fun v i W => ∃ (k : Nat) (ao : Option Addr) (cap : Nat), k ≤ n ∧ i = .int .i64 k ∧ v = .slice ao k cap ∧ Hid (∃ x, Jn Q k (wOf 10 ws) x ∧ MX w.heap.size w W [obA t x, obW 37 (.slice ao k cap) (wrow k (fun _ => c))] [])) (fun _ i _ => n - (intOf i).toNat)
  case atStart => exact ⟨0, none, 0, by omega, rfl, rfl, H1⟩
  case round =>
    obtain ⟨k, ao, cap, hk, rfl, rfl, HX⟩ := hrel
    by_cases hlt : k < n
    · obtain ⟨x, hj, hx⟩ := HX.out
      have hk6 : k < 1000000 := by omega
      obtain ⟨A, A1, e1, e2, e3, e4, e5⟩ := wOf_is ws (show k < ws.length by omega) (M := 10) (by omega)
      obtain ⟨b, o, rfl, hcell⟩ := HWS.out.get (show k < ws.length by omega)
      have cw := hcell wr hx.bel
      have kj := hx.join 0 rfl (by rw [hj.n]; omega) k (wOf 10 ws k)
      have hj2 := jn_join hj e5
      rw [hj2.1] at kj
      have HJ := hide_it hj2.2
      clear hj hx hj2 HX H1 hcell e5
      generalize joinX x (k : Int) (wOf 10 ws k) = y at *
      generalize wOf 10 ws k = wt at *
      generalize ws[k] = z at *
      go_wp2_with (go_at_call 13; refine kj.mono ?_; rintro e w3 ⟨rfl, s3⟩; refine Hid.out ?_)
      refine hide_it ?_
      clear kj e1 e2 e3 e4 cw
      go_wp2_with (at_builtin; refine wpList_wadd 28 37 Try.underlying28 info37 rfl (.tmp 49) (.tmp 53) rfl s3.out 1 rfl (wrow_len _ _) hk6 k c rfl rfl ?_; intro ao' cap' w4 s4)
      go_roundw
      case rel => exact ⟨k + 1, ao', cap', by omega, by go_num, rfl, y, HJ.out, by rw [wrow_succ]; exact s4.out⟩
      case measure => simp [intOf]; omega
    · have : k = n := by omega
      subst this
      obtain ⟨x0, hj, hx⟩ := HX.out
      have hst := all_start hj HQ.out.2.1 ⟨HQ.out.1.1, by have := HQ.out.1.2; omega⟩ (fun j _ => by have := wOf_bnd ws j (M := 10) (by omega); omega) hn1
      have H2 := hide_it (hx.alloc (.cells (gRow (fun _ => 0)) 56))
      have HST := hide_it hst
      clear HX H1 HWS hj hx hst
      have hg0 : gRow (fun _ => 0) = #[.bool false, .bool false, .bool false, .bool false, .bool false, .bool false, .bool false, .bool false, .bool false, .bool false] := by rfl
      have H3 : Hid (∃ x K, Al Q k (wOf 10 ws) c 0 x K ∧ none0 K k = k ∧ MX w.heap.size w (wr.alloc (.cells (gRow (fun _ => 0)) 56)) [obA t x, obW 37 (.slice ao k cap) (wrow k (fun _ => c))] [(wr.heap.size, .cells (gRow K) 56)]) := ⟨x0, fun _ => 0, HST.out, none0_all k, H2.out⟩
      rw [hg0] at H3
      clear H2 HST hg0
      go_upto_region 16 with fail
      generalize wr.alloc _ = W0 at *
      generalize wr.heap.size = gb at *
      obtain ⟨⟨r1, r2⟩, ⟨r3, r4⟩, ⟨r5, r6⟩, ⟨r7, r8⟩, ⟨r9, r10⟩, ⟨r11, r12⟩, ⟨r13, r14⟩⟩ := HWR.out
      go_upto_region 19 with fail
      clear r1 r2 r3 r4 r5 r6 r7 r8 r11 r12 r13 r14 v1 v2 hQz hcz HWR
      go_wp2
      go_loopw [13, 16] (fun lf i W => ∃ (j left : Nat), j ≤ NE ∧ i = .int .i64 j ∧ lf = .int .i64 left ∧ Hid (∃ x K, Al Q k (wOf 10 ws) c j x K ∧ none0 K k = left ∧ MX w.heap.size w W [obA t x, obW 37 (.slice ao k cap) (wrow k (fun _ => c))] [(gb, .cells (gRow K) 56)])) (fun _ i _ => NE - (intOf i).toNat)
      case atStart => exact ⟨0, k, by omega, rfl, rfl, H3⟩
      case round =>
        obtain ⟨j, left, hj, rfl, rfl, HX⟩ := hrel
        clear H3
        by_cases hgo : j < NE ∧ 0 < left
        · obtain ⟨d1, d2⟩ := hgo
          have d2a : decide ((0 : Int) < (left : Int)) = true := decide_eq_true (by omega)
          obtain ⟨x, K, hal, hno, hx⟩ := HX.out
          have hk0 : 0 < k := by
            rcases Nat.eq_zero_or_pos k with q | q
            · subst q; simp [none0] at hno; omega
            · exact q
          have hln : left ≤ 10 := by
            have : ∀ m, none0 K m ≤ m := fun m => by
              induction m with
              | zero => simp [none0]
              | succ m ih => simp only [none0]; split <;> omega
            have := this k
            omega
          obtain ⟨ao2, cap2, e2, _, _, hws⟩ := hx.wants 1 rfl
          rw [wrow_len] at e2
          cases e2
          have kt := hx.take 0 rfl (M := c) (N := 10) (by have := HQ.out; omega) (al_gd hal hn1) (by omega) (lc := cap) hws (by rw [wrow_len]; omega) (wrow_ids _ _ (by omega))
          rw [wrow_len] at kt
          have HK : Hid (∀ y id ok, TakeP (wrow k (fun _ => c)) x y id ok → ∃ r, r < k ∧ id = (r : Int) ∧ ok = true ∧ Al Q k (wOf 10 ws) c (j + 1) y (upK K r)) := fun y id ok ht => all_take hal hk0 HQ.out.2 ht
          have HNO := hide_it hno
          have HG : Hid (∀ W y, MX w.heap.size w W [obA t y, obW 37 (.slice ao k cap) (wrow k (fun _ => c))] [(gb, .cells (gRow K) 56)] → (∀ r, r < k → W.cell? ⟨gb, r, none⟩ = some (.bool (!decide (K r = 0)))) ∧ ∀ r, W.frozen? ⟨gb, r, none⟩ = false) := fun W y hW => by
            have h1 := hW.row (List.mem_singleton.2 rfl)
            exact ⟨fun r hr => by rw [cell_of_row _ gb r _ _ _ h1]; exact gRow_at K (by omega), fun r => by simp [World.frozen?, h1]⟩
          clear hal hno hx hws HX
          go_wp2_with (go_at_call 18; refine kt.mono ?_; rintro e w5 ⟨y, id, ok, rfl, s5⟩; obtain ⟨r, hr, rfl, rfl, h4⟩ := HK.out _ _ _ s5.out.1; have H4 := hide_it h4; have S5 := hide_it s5.out.2; clear h4 s5; refine Hid.out ?_)
          refine hide_it ?_
          clear kt HK
          obtain ⟨g1, g2⟩ := HG.out _ _ S5.out
          have g1r := g1 r hr
          have g2r := g2 r
          have hr10 : r < 10 := by omega
          have hdr1 : decide ((k : Int) ≤ (r : Int)) = false := by simp; omega
          have hdr2 : decide (k ≤ r) = false := by simp; omega
          have hno2 := none0_up (K := K) hr
          rw [HNO.out] at hno2
          by_cases hK : K r = 0
          · have eK : (!decide (K r = 0)) = false := by simp [hK]
            rw [eK] at g1r
            rw [if_pos hK] at hno2
            have HNN : Hid (none0 (upK K r) k = left - 1) := (show none0 (upK K r) k = left - 1 by show none0 (fun j => if j = r then K j + 1 else K j) k = left - 1; omega)
            have S6 : Hid (MX w.heap.size w (w5.setCell ⟨gb, r, none⟩ (.bool true)) [obA t y, obW 37 (.slice ao k cap) (wrow k (fun _ => c))] [(gb, .cells (gRow (upK K r)) 56)]) := by
              have := S5.out.putR (fun p hp => by simp at hp) r (.bool true)
              rw [gRow_set K r hr10] at this
              exact this
            obtain ⟨l1, hl1⟩ : ∃ l1 : Nat, left - 1 = l1 := ⟨_, rfl⟩
            rw [hl1] at HNN
            have u0 : (left : Int) - 1 = (l1 : Int) := by omega
            have u1 : IntKind.i64.wrap ((left : Int) - 1) = (l1 : Int) := by rw [u0]; exact (wr_int (by omega)).1
            have u2 : wrap64 ((left : Int) - 1) = (l1 : Int) := by rw [u0]; exact (wr_int (by omega)).2
            clear u0 hl1 eK hK hno2 g1 g2 HG HNO S5
            go_wp2
            clear u1 u2 r9 r10
            go_roundw
            case rel => exact ⟨j + 1, l1, by omega, by go_num, rfl, y, _, H4.out, HNN.out, S6.out⟩
            case measure => simp [intOf]; omega
          · have eK : (!decide (K r = 0)) = true := by simp [hK]
            rw [eK] at g1r
            rw [if_neg hK] at hno2
            have HNN : Hid (none0 (upK K r) k = left) := (show none0 (upK K r) k = left by show none0 (fun j => if j = r then K j + 1 else K j) k = left; omega)
            have S6 : Hid (MX w.heap.size w w5 [obA t y, obW 37 (.slice ao k cap) (wrow k (fun _ => c))] [(gb, .cells (gRow (upK K r)) 56)]) := by
              rw [gRow_same K r hK]
              exact S5.out
            clear eK hK hno2 g1 g2 HG HNO S5
            go_wp2
            clear r9 r10
            go_roundw
            case rel => exact ⟨j + 1, left, by omega, by go_num, rfl, y, _, H4.out, HNN.out, S6.out⟩
            case measure => simp [intOf]; omega
        · obtain ⟨x, K, hal, hno, hx⟩ := HX.out
          have hl0 : left = 0 := by
            rcases Nat.eq_zero_or_pos left with q | q
            · exact q
            · exact (all_end hal HQ.out.1.1 HQ.out.2.1 (fun j _ => wOf_bnd ws j (M := 10) (by omega)) HEE.out (by have := HNE.out; omega) (by omega)).elim
          subst hl0
          have HZ := hide_it hx.bel
          clear HX hal hno hx
          by_cases d1 : j < NE
          · clear hgo hj
            go_wp2
            go_ret
            exact ⟨rfl, HZ.out⟩
          · have d2 : decide (j < NE) = false := by simp; omega
            have d3 : decide ((j : Int) < (NE : Int)) = false := by simp; omega
            clear hgo hj d1
            go_wp2
            go_ret
            exact ⟨rfl, HZ.out⟩
end Go.Proofs.Ytlhkahincnchjaa
