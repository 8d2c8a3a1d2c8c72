/- TurnsRound's walk. -/
import Derived.Test.YtlhkahincnchjaaArg
import Derived.Test.YtlhkahincnchjaaJoi
import Derived.RegionTactic
import Derived.Deep.CutRange
import Derived.Deep.CutBlock
namespace Go.Proofs.Ytlhkahincnchjaa
open Go.RowKit
open M
set_option linter.unusedVariables false
set_option linter.unusedSimpArgs false

/-- Each has taken in its turn, so many times all in all. -/
structure Rst (Q wt : Int) (N k : Nat) (x : Tn) : Prop where
  q : x.q = Q
  n : x.n = N
  kk : x.k = k % N
  I : ∀ j, j < N → x.I j = j
  W : ∀ j, j < N → x.W j = wt
  C : ∀ j, j < N → x.C j = 0
theorem rst_gd {Q wt : Int} {N k : Nat} {x : Tn} (h : Rst Q wt N k x) (hN : 0 < N) (hN2 : N ≤ 10) (hQ : 1 ≤ Q ∧ Q ≤ 1048576) (hw : 1 ≤ wt ∧ wt ≤ 100) : Gd 1048576 10 x := by
  have hg := gain_bnd hQ.1 hQ.2 hw.1 hw.2
  have hn := h.n
  refine ⟨⟨by rw [h.q]; exact hQ.1, by rw [h.q]; exact hQ.2, fun j hj => ?_, fun j hj => ?_, fun j hj _ => ?_, fun hj => ?_, fun hj => ?_, fun e => by omega⟩, by omega, fun j hj => ?_⟩
  · rw [h.W j (by omega)]; exact hw
  · rw [h.C j (by omega)]; omega
  · rw [h.C j (by omega)]; omega
  · rw [h.C _ (by omega), h.q, h.W _ (by omega)]; omega
  · rw [h.kk, hn]; exact Nat.mod_lt _ hN
  · rw [h.I j (by omega)]; unfold i64B; omega
theorem rst_take {Q wt : Int} {N k : Nat} {x : Tn} {l : List Wn} (h : Rst Q wt N k x) (hN : 0 < N) (hg : 1 ≤ Q * wt) (hl : ∀ j, j < N → costs l x j = Q * wt) {y : Tn} {id : Int} {ok : Bool} (ht : TakeP l x y id ok) :
    id = (((k + 1) % N : Nat) : Int) ∧ ok = true ∧ Rst Q wt N (k + 1) y := by
  have hn := h.n
  have hk : x.k < N := by rw [h.kk]; exact Nat.mod_lt _ hN
  have hk1 : (x.k + 1) % N = (k + 1) % N := by rw [h.kk, Nat.mod_add_mod]
  have hk2 : (k + 1) % N < N := Nat.mod_lt _ hN
  obtain ⟨k', ek'⟩ : ∃ k', (k + 1) % N = k' := ⟨_, rfl⟩
  rw [ek'] at hk1 hk2 ⊢
  have hns : ¬ Stop (costs l x) x := fun q => by have := q.2; rw [hl _ hk, h.C _ hk] at this; omega
  have ek : (nxt (costs l x) x).k = k' := by show (x.k + 1) % x.n = k'; rw [hn]; exact hk1
  have eC : (nxt (costs l x) x).C = upd x.C k' (Q * wt) := by
    unfold nxt
    simp only [hn, hk1]
    rw [if_neg (by rw [hl _ hk2]; omega), if_neg (by rw [hl _ hk]; omega), h.C _ hk2, h.q, h.W _ hk2]
    congr 1
    omega
  have hs : Stop (costs l x) (nxt (costs l x) x) := by
    refine ⟨by rw [ek, hl _ hk2]; omega, ?_⟩
    rw [ek, hl _ hk2, eC, upd_same]
    exact Int.le_refl _
  have t0 : TakeP l x (pay (costs l x) (nxt (costs l x) x)) (x.I k') true := .inr ⟨⟨x.k, by omega, by rw [hl _ hk]; omega⟩, ⟨_, (Way.refl _ _).step hns, hs, rfl⟩, by show x.I k' = x.I (nxt (costs l x) x).k; rw [ek], rfl⟩
  obtain ⟨e1, e2, e3⟩ := ht.uniq t0
  subst e1 e2 e3
  refine ⟨h.I _ hk2, rfl, ⟨h.q, h.n, ?_, h.I, h.W, fun j hj => ?_⟩⟩
  · show (nxt (costs l x) x).k = _
    rw [ek, ek']
  · show upd (nxt (costs l x) x).C (nxt (costs l x) x).k ((nxt (costs l x) x).C (nxt (costs l x) x).k - costs l x (nxt (costs l x) x).k) j = 0
    rw [ek, eC, hl _ hk2, upd_same]
    by_cases e : j = k'
    · rw [e, upd_same]; omega
    · rw [upd_other _ _ e, upd_other _ _ e]; exact h.C j hj

set_option maxRecDepth 1000000 in
set_option maxHeartbeats 4000000 in
theorem turnsRound_walk (a b c : Int) (w : World) :
    Calls Try.prog 9 #[.int .i64 a, .int .i64 b, .int .i64 c] w fun e w' => e = .returned (.bool true) ∧ Below w.heap.size w w' := by
  have ks := shown_any w
  obtain ⟨A, hA⟩ : ∃ A, bits .and .i64 a 1023 = A := ⟨_, rfl⟩
  have hAb : 0 ≤ A ∧ A < 1024 := by rw [← hA, i64_and10]; omega
  obtain ⟨Q, hQ⟩ : ∃ Q, 1 + A = Q := ⟨_, rfl⟩
  have eQ : wrap64 (1 + A) = Q := by unfold wrap64; omega
  have eQ' : IntKind.i64.wrap (1 + A) = Q := by rw [IntKind.wrap_i64]; omega
  obtain ⟨B, hB⟩ : ∃ B, bits .and .i64 b 65535 = B := ⟨_, rfl⟩
  have hBb : 0 ≤ B ∧ B < 65536 := by rw [← hB, i64_and16]; omega
  obtain ⟨B1, hB1⟩ : ∃ B1, B.tmod 10 = B1 := ⟨_, rfl⟩
  have hB1b : 0 ≤ B1 ∧ B1 < 10 := by rw [← hB1, Int.tmod_eq_emod_of_nonneg hBb.1]; omega
  obtain ⟨N, hN⟩ : ∃ N : Nat, 1 + B1 = (N : Int) := ⟨(1 + B1).toNat, by omega⟩
  have eN : wrap64 (1 + B1) = (N : Int) := by unfold wrap64; omega
  have eN' : IntKind.i64.wrap (1 + B1) = (N : Int) := by rw [IntKind.wrap_i64]; omega
  obtain ⟨D, hD⟩ : ∃ D, bits .and .i64 c 65535 = D := ⟨_, rfl⟩
  have hDb : 0 ≤ D ∧ D < 65536 := by rw [← hD, i64_and16]; omega
  obtain ⟨D1, hD1⟩ : ∃ D1, D.tmod 100 = D1 := ⟨_, rfl⟩
  have hD1b : 0 ≤ D1 ∧ D1 < 100 := by rw [← hD1, Int.tmod_eq_emod_of_nonneg hDb.1]; omega
  obtain ⟨wt, hwt⟩ : ∃ wt, 1 + D1 = wt := ⟨_, rfl⟩
  have eW : wrap64 (1 + D1) = wt := by unfold wrap64; omega
  have eW' : IntKind.i64.wrap (1 + D1) = wt := by rw [IntKind.wrap_i64]; omega
  have hQb : 1 ≤ Q ∧ Q ≤ 1024 := by omega
  have hNb : 1 ≤ N ∧ N ≤ 10 := by omega
  have hwb : 1 ≤ wt ∧ wt ≤ 100 := by omega
  have hg : 1 ≤ Q * wt ∧ Q * wt ≤ 102400 := by
    constructor
    · have := Int.mul_le_mul hQb.1 hwb.1 (by omega) (by omega); omega
    · have := Int.mul_le_mul hQb.2 hwb.2 (by omega) (by omega); omega
  obtain ⟨G, hG⟩ : ∃ G, Q * wt = G := ⟨_, rfl⟩
  have eG : wrap64 (Q * wt) = G := by rw [hG]; unfold wrap64; omega
  have eG' : IntKind.i64.wrap (Q * wt) = G := by rw [hG, IntKind.wrap_i64]; omega
  have HQ := hide_it hQb
  have HN := hide_it hNb
  have HW := hide_it hwb
  have HG := hide_it hg
  have HGG := hide_it hG
  have hN0 : 1 ≤ N := hNb.1
  have hN1 : N ≤ 10 := hNb.2
  have q24 : ∀ (t : Nat) (w : World), (binOp .eql 24 (ptr t) (.pointer none)).run Try.prog w = .ok (.bool false) w := fun t w => by rfl
  clear hAb hBb hB1b hDb hD1b hQ hN hwt hQb hNb hwb hg hG
  go_enter Try.func9, Try.ntmps9
  go_wp2_with (go_at_call 10; refine ks.mono ?_; rintro e w1 ⟨rfl, s0⟩; refine Hid.out ?_)
  refine hide_it ?_
  have h0 := hide_it (mx_start s0.out (Nat.le_refl _))
  have k0 := h0.out.new Q
  clear ks
  go_upto_region 5 with fail
  go_wp2_with (go_at_call 11; refine k0.mono ?_; rintro e w2 ⟨t, rfl, s1⟩; refine Hid.out ?_)
  refine hide_it ?_
  have H1 : Hid (∃ x, Jn Q 0 (fun _ => wt) x ∧ MX w.heap.size w w2 [obA t x, obW 37 (.slice none 0 0) (wrow 0 (fun _ => G))] []) := by
    refine ⟨mk0 Q, jn_zero Q _ (by have := HQ.out; omega), ?_⟩
    exact s1.out.add (G := fun _ => False) (o := obW 37 (.slice none 0 0) (wrow 0 (fun _ => G))) (Below.refl _ _) ⟨World.ownsRow_nil _ _ _ _, fun k hk => by simp [Value.ownBlock] at hk⟩ (fun k hk => hk.elim)
  clear k0 h0 s0 s1
  obtain ⟨T, hT⟩ : ∃ T : Nat, 20 * N = T := ⟨_, rfl⟩
  have eT : wrap64 (20 * (N : Int)) = (T : Int) := by unfold wrap64; omega
  have eT' : IntKind.i64.wrap (20 * (N : Int)) = (T : Int) := by rw [IntKind.wrap_i64]; omega
  have hT2 : T ≤ 200 := by omega
  have hNz : ¬ N = 0 := by omega
  clear hT hA hB hB1 hD hD1 eQ eQ' eN eN' eW eW'
  go_wp2
  go_loopw [9, 10] (fun v i W => ∃ (k : Nat) (ao : Option Addr) (cap : Nat), k ≤ N ∧ i = .int .i64 k ∧ v = .slice ao k cap ∧ Hid (∃ x, Jn Q k (fun _ => wt) x ∧ MX w.heap.size w W [obA t x, obW 37 (.slice ao k cap) (wrow k (fun _ => G))] [])) (fun _ i _ => N - (intOf i).toNat)
  case atStart => exact ⟨0, none, 0, by omega, rfl, rfl, H1⟩
  case round =>
    obtain ⟨k, ao, cap, hk, rfl, rfl, HX⟩ := hrel
    by_cases hlt : k < N
    · obtain ⟨x, hj, hx⟩ := HX.out
      have kj := hx.join 0 rfl (by rw [hj.n]; omega) k wt
      have hj2 := jn_join hj HW.out
      rw [hj2.1] at kj
      have HJ := hide_it hj2.2
      clear hj hx hj2 HX H1
      generalize joinX x (k : Int) wt = y at *
      go_wp2_with (go_at_call 13; refine kj.mono ?_; rintro e w3 ⟨rfl, s3⟩; refine Hid.out ?_)
      refine hide_it ?_
      clear kj
      go_wp2_with (at_builtin; refine wpList_wadd 28 37 Try.underlying28 info37 rfl (.tmp 40) (.tmp 46) rfl s3.out 1 rfl (wrow_len _ _) (by omega) k G rfl rfl ?_; intro ao' cap' w4 s4)
      go_roundw
      case rel => exact ⟨k + 1, ao', cap', by omega, by go_num, rfl, y, HJ.out, by rw [wrow_succ]; exact s4.out⟩
      case measure => simp [intOf]; omega
    · have : k = N := by omega
      subst this
      have H2 : Hid (∃ x, Rst Q wt k 0 x ∧ MX w.heap.size w wr [obA t x, obW 37 (.slice ao k cap) (wrow k (fun _ => G))] []) := by
        obtain ⟨x, hj, hx⟩ := HX.out
        exact ⟨x, ⟨hj.q, hj.n, by rw [hj.k0, Nat.zero_mod], hj.I, hj.W, hj.C⟩, hx⟩
      clear HX H1
      go_wp2
      go_loopw [11] (fun i W => ∃ (j : Nat), j ≤ T ∧ i = .int .i64 j ∧ Hid (∃ x, Rst Q wt k j x ∧ MX w.heap.size w W [obA t x, obW 37 (.slice ao k cap) (wrow k (fun _ => G))] [])) (fun i _ => T - (intOf i).toNat)
      case atStart => exact ⟨0, by omega, rfl, H2⟩
      case round =>
        obtain ⟨j, hj, rfl, HX⟩ := hrel
        by_cases hjl : j < T
        · obtain ⟨x, hr, hx⟩ := HX.out
          obtain ⟨ao2, cap2, e2, _, _, hws⟩ := hx.wants 1 rfl
          rw [wrow_len] at e2
          cases e2
          have kt := hx.take 0 rfl (Int.le_refl _) (rst_gd hr (by omega) hN1 ⟨HQ.out.1, by have := HQ.out; omega⟩ HW.out) (by omega) (lc := cap) hws (by rw [wrow_len]; omega) (wrow_ids _ _ (by omega))
          rw [wrow_len] at kt
          have HK : Hid (∀ y id ok, TakeP (wrow k (fun _ => G)) x y id ok → id = (((j + 1) % k : Nat) : Int) ∧ ok = true ∧ Rst Q wt k (j + 1) y) := fun y id ok ht => by
            have hg := HG.out
            refine rst_take hr (by omega) hg.1 (fun i hi => ?_) ht
            rw [HGG.out] at hg ⊢
            exact costs_wrow (fun _ _ => ⟨hg.1, by omega⟩) (hr.I i hi) hi
          have hm := tmod_succ j k
          obtain ⟨hj2, hj1⟩ := wr_nat (show j ≤ 1000000 by omega)
          clear hr hx hws HX H2 hT2
          generalize (j + 1) % k = r at *
          go_wp2_with (go_at_call 18; refine kt.mono ?_; rintro e w5 ⟨y, id, ok, rfl, s5⟩; obtain ⟨rfl, rfl, hr2⟩ := HK.out _ _ _ s5.out.1; have HR2 := hide_it hr2; clear hr2; refine Hid.out ?_)
          refine hide_it ?_
          clear kt HK
          go_wp2
          clear hm hj1 hj2 eT eT' eG eG'
          go_roundw
          case rel => exact ⟨j + 1, by omega, by go_num, y, HR2.out, s5.out.2⟩
          case measure => simp [intOf]; omega
        · have HZ : Hid (Below w.heap.size w wr) := by
            obtain ⟨x, _, hx⟩ := HX.out
            exact hx.bel
          clear HX H2
          go_wp2
          go_ret
          exact ⟨rfl, HZ.out⟩
end Go.Proofs.Ytlhkahincnchjaa
