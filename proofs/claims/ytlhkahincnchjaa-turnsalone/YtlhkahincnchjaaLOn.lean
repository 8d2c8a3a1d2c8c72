/- TurnsAlone's walk. -/
import Derived.Test.YtlhkahincnchjaaArg
import Derived.Test.YtlhkahincnchjaaWei
import Derived.RegionTactic
import Derived.Deep.CutRange
import Derived.Deep.CutBlock
namespace Go.Proofs.Ytlhkahincnchjaa
open Go.RowKit
open M
set_option linter.unusedVariables false
set_option linter.unusedSimpArgs false

/-- Members 0, 1, .., n - 1. -/
structure AL (N : Nat) (x : Tn) : Prop where
  gd : Gd 1024 10 x
  n : x.n = N
  I : ∀ j, j < N → x.I j = j
theorem al_costs {n p : Nat} {x : Tn} (h : AL n x) {c : Int} (hc : 1 ≤ c ∧ c ≤ 1024) {j : Nat} (hj : j < n) : costs [((p : Int), c)] x j = if j = p then c else 0 := by
  unfold costs
  rw [h.I j hj, costOf_cons]
  by_cases e : j = p
  · subst e
    rw [if_pos ⟨rfl, hc.1, by show c ≤ 1048576; omega⟩, if_pos rfl]
  · rw [if_neg (fun q => e (by have := q.1; simp only at this; omega)), if_neg e]
    rfl
theorem al_take {n p : Nat} {x y : Tn} {id : Int} {ok : Bool} (h : AL n x) (hp : p < n) {c : Int} (hc : 1 ≤ c ∧ c ≤ 1024) (ht : TakeP [((p : Int), c)] x y id ok) : id = p ∧ ok = true ∧ AL n y ∧ tuI y = p ∧ tuB y = true := by
  have hn := h.n
  have s := ht.same
  have hb : ∀ j, j < x.n → costs [((p : Int), c)] x j ≤ 1024 := fun j hj => by rw [al_costs h hc (by omega)]; split <;> omega
  have g := h.gd.take (by omega) hb ht
  have a : AL n y := ⟨g, by rw [s.n, hn], fun j hj => by rw [s.I]; exact h.I j hj⟩
  rcases ht with ⟨h0, _⟩ | ⟨_, ⟨z, zw, zs, rfl⟩, rfl, rfl⟩
  · have := h0 p (by omega)
    rw [al_costs h hc hp, if_pos rfl] at this
    omega
  · have sz := zw.same
    have hk : z.k < n := by have := g.iv.kn (by show 0 < z.n; rw [sz.n]; omega); have e : (pay (costs [((p : Int), c)] x) z).k = z.k := rfl; rw [e] at this; have : z.k < z.n := this; rw [sz.n] at this; omega
    have hzk : z.k = p := by
      have := zs.1
      rw [al_costs h hc hk] at this
      by_cases e : z.k = p
      · exact e
      · rw [if_neg e] at this; exact absurd rfl this
    have eI : (pay (costs [((p : Int), c)] x) z).I (pay (costs [((p : Int), c)] x) z).k = (p : Int) := by
      show z.I z.k = p
      rw [sz.I, hzk, h.I p hp]
    have en : ¬ (pay (costs [((p : Int), c)] x) z).n = 0 := by rw [a.n]; omega
    refine ⟨eI, rfl, a, ?_, ?_⟩
    · unfold tuI; rw [if_neg en]; exact eI
    · unfold tuB; rw [decide_eq_false en]; rfl

set_option maxRecDepth 1000000 in
set_option maxHeartbeats 4000000 in
theorem turnsAlone_walk (a : Int) (ws : List Int) (wa : Option Addr) (wc : Nat) (c : Int) (cl : List Int) (ca : Option Addr) (cc : Nat) (w : World) (ha : -9223372036854775808 ≤ a ∧ a ≤ 9223372036854775807) (hws : NumsIn .i64 w wa ws) (hwl : ws.length ≤ wc) (hwm : wc ≤ maxLen) (hwb : ∀ y ∈ ws, (Lit.int .i64 y).wf = true)
    (hcb : -9223372036854775808 ≤ c ∧ c ≤ 9223372036854775807) (hcl : NumsIn .i64 w ca cl) (hcll : cl.length ≤ cc) (hclm : cc ≤ maxLen) (hclb : ∀ y ∈ cl, (Lit.int .i64 y).wf = true) :
    Calls Try.prog 7 #[.int .i64 a, .slice wa ws.length wc, .int .i64 c, .slice ca cl.length cc] w fun e w' => e = .returned (.bool true) ∧ Below w.heap.size w w' := by
  have ks := shown_any w
  unfold maxLen at hwm hclm
  obtain ⟨n, hn⟩ : ∃ n, min ws.length 10 = n := ⟨_, rfl⟩
  have hmin : ∀ (ts : Array TypeId) (t : TypeId) (W : World), (Builtin.min_ ts t #[.int .i64 (ws.length : Int), .int .i64 10]).run Try.prog W = .ok (.int .i64 (n : Int)) W := fun ts t W => by
    rw [min_num]; congr 2; omega
  have hn1 : n ≤ 10 := by omega
  have hn2 : n ≤ ws.length := by omega
  have HWS := hide_it hws
  have HCL := hide_it hcl
  have q24 : ∀ (t : Nat) (w : World), (binOp .eql 24 (ptr t) (.pointer none)).run Try.prog w = .ok (.bool false) w := fun t w => by rfl
  have HQ := hide_it (show 1 ≤ min (max a 1) 1048576 ∧ min (max a 1) 1048576 ≤ 1048576 by omega)
  clear hws hcl hn hwb hclb ha hcb
  go_enter Try.func7, Try.ntmps7
  go_wp2_with (go_at_call 10; refine ks.mono ?_; rintro e w1 ⟨rfl, s0⟩; refine Hid.out ?_)
  refine hide_it ?_
  have h0 := hide_it (mx_start s0.out (Nat.le_refl _))
  have k0 := h0.out.new a
  clear ks
  go_wp2_with (go_at_call 11; refine k0.mono ?_; rintro e w2 ⟨t, rfl, s1⟩; refine Hid.out ?_)
  refine hide_it ?_
  have H1 : Hid (∃ x, Jn (min (max a 1) 1048576) 0 (wOf 100 ws) x ∧ MX w.heap.size w w2 [obA t x] []) := ⟨mk0 a, jn_zero a _ rfl, s1.out⟩
  clear k0 h0 s0 s1
  generalize min (max a 1) 1048576 = Q at *
  go_wp2
  go_loopw [12] (fun i W => ∃ (k : Nat), k ≤ n ∧ i = .int .i64 k ∧ Hid (∃ x, Jn Q k (wOf 100 ws) x ∧ MX w.heap.size w W [obA t x] [])) (fun i _ => n - (intOf i).toNat)
  case atStart => exact ⟨0, by omega, rfl, H1⟩
  case round =>
    obtain ⟨k, hk, rfl, HX⟩ := hrel
    by_cases hlt : k < n
    · obtain ⟨x, hj, hx⟩ := HX.out
      obtain ⟨A, A1, e1, e2, e3, e4, e5⟩ := wOf_is ws (show k < ws.length by omega) (M := 100) (by omega)
      obtain ⟨b, o, rfl, hcell⟩ := HWS.out.get (show k < ws.length by omega)
      have cw := hcell wr hx.bel
      have kj := hx.join 0 rfl (by rw [hj.n]; omega) k (wOf 100 ws k)
      have hj2 := jn_join hj e5
      rw [hj2.1] at kj
      have HJ := hide_it hj2.2
      clear hj hx hj2 HX H1 hcell e5
      generalize joinX x (k : Int) (wOf 100 ws k) = y at *
      generalize wOf 100 ws k = wt at *
      generalize ws[k] = z at *
      go_wp2_with (go_at_call 13; refine kj.mono ?_; rintro e w3 ⟨rfl, s3⟩)
      clear e1 e2 e3 e4
      go_roundw
      case rel => exact ⟨k + 1, by omega, by go_num, y, HJ.out, s3.out⟩
      case measure => simp [intOf]; omega
    · have : k = n := by omega
      subst this
      have H2 : Hid (∃ x, AL k x ∧ MX w.heap.size w wr [obA t x] []) := by
        obtain ⟨x, hj, hx⟩ := HX.out
        have g := jn_gd hj HQ.out (fun j hj => by have := wOf_bnd ws j (M := 100) (by omega); omega) (M := 1024) (by omega) (by omega)
        exact ⟨x, ⟨⟨g.iv, by have := g.len; omega, g.ids⟩, hj.n, hj.I⟩, hx⟩
      clear HX H1 HQ HWS
      by_cases hk0 : k = 0
      · subst hk0
        obtain ⟨x, hr, hx⟩ := H2.out
        have hx2 := hx.alloc (.cells #[.int .i64 0, .int .i64 1] 37)
        have kt := hx2.take 0 rfl (by omega) hr.gd (by omega) (l := [((0 : Int), (1 : Int))]) (lc := 1) (ws_one (heap_alloc_new wr _)) (by simp) (fun q hq => by rw [List.mem_singleton.1 hq]; show i64B (0 : Int); unfold i64B; omega)
        change Calls Try.prog 18 #[ptr t, .slice (some ⟨wr.heap.size, 0, none⟩) 1 1] _ _ at kt
        have HK : Hid (∀ y id ok, TakeP [((0 : Int), (1 : Int))] x y id ok → ok = false) := fun y id ok ht => by
          rcases ht with ⟨_, _, _, e⟩ | ⟨⟨j, hj, _⟩, _⟩
          · exact e
          · rw [hr.n] at hj; omega
        clear hr hx hx2 H2 HCL
        go_wp2_with (go_at_call 18; refine kt.mono ?_; rintro e w5 ⟨y, id, ok, rfl, s5⟩; obtain rfl := HK.out _ _ _ s5.out.1)
        go_ret
        exact ⟨rfl, s5.out.2.bel⟩
      · have hz : ((k : Int) == 0) = false := by simp; omega
        obtain ⟨B, hB⟩ : ∃ B, bits .and .i64 c 65535 = B := ⟨_, rfl⟩
        have hBb : 0 ≤ B ∧ B < 65536 := by rw [← hB, i64_and16]; omega
        obtain ⟨Bn, hBn⟩ : ∃ Bn : Nat, B = (Bn : Int) := ⟨B.toNat, by omega⟩
        obtain ⟨p, hp⟩ : ∃ p, Bn % k = p := ⟨_, rfl⟩
        have hpk : p < k := by rw [← hp]; exact Nat.mod_lt _ (by omega)
        have hpm : (Bn : Int).tmod (k : Int) = (p : Int) := by rw [tmod_nat, hp]
        rw [hBn] at hB
        clear hBb hBn hp
        obtain ⟨T, hT⟩ : ∃ T, min cl.length 30 = T := ⟨_, rfl⟩
        go_upto_region 15 with fail
        clear hpm hB
        go_wp2
        go_loopw [15] (fun i W => ∃ (j : Nat), j ≤ T ∧ i = .int .i64 j ∧ Hid (∃ x, AL k x ∧ MX w.heap.size w W [obA t x] [])) (fun i _ => T - (intOf i).toNat)
        case atStart => exact ⟨0, by omega, rfl, H2⟩
        case round =>
          obtain ⟨j, hj, rfl, HX⟩ := hrel
          by_cases hjl : j < T
          · obtain ⟨x, hr, hx⟩ := HX.out
            have d1 : j < cl.length := by omega
            have d2 : j < 30 := by omega
            obtain ⟨b, o, rfl, hcell⟩ := HCL.out.get d1
            have cw := hcell wr hx.bel
            obtain ⟨A, hA⟩ : ∃ A, bits .and .i64 cl[j] 1023 = A := ⟨_, rfl⟩
            have hAb : 0 ≤ A ∧ A < 1024 := by rw [← hA, i64_and10]; omega
            obtain ⟨eC, eC'⟩ := wr_int (z := 1 + A) (by omega)
            obtain ⟨C, hC⟩ : ∃ C, 1 + A = C := ⟨_, rfl⟩
            rw [hC] at eC eC'
            have hx2 := hx.alloc (.cells #[.int .i64 p, .int .i64 C] 37)
            have kt := hx2.take 0 rfl (by omega) hr.gd (by omega) (l := [((p : Int), C)]) (lc := 1) (ws_one (heap_alloc_new wr _)) (by simp) (fun q hq => by rw [List.mem_singleton.1 hq]; show i64B (p : Int); unfold i64B; omega)
            change Calls Try.prog 18 #[ptr t, .slice (some ⟨wr.heap.size, 0, none⟩) 1 1] _ _ at kt
            have HK : Hid (∀ y id ok, TakeP [((p : Int), C)] x y id ok → id = p ∧ ok = true ∧ AL k y ∧ tuI y = p ∧ tuB y = true) := fun y id ok ht => al_take hr hpk (by omega) ht
            clear hr hx hx2 HX H2 hcell hAb
            generalize cl[j] = z at *
            go_wp2_with (go_at_call 18; refine kt.mono ?_; rintro e w5 ⟨y, id, ok, rfl, s5⟩; obtain ⟨rfl, rfl, hr2, et, eb⟩ := HK.out _ _ _ s5.out.1; have HR2 := hide_it hr2; have ET := hide_it (And.intro et eb); clear hr2 et eb; refine Hid.out ?_)
            refine hide_it ?_
            clear kt HK hA hC eC eC'
            have s6 := hide_it (s5.out.2.drop (R' := []) (fun q hq => by simp at hq))
            have k6 := s6.out.turn 0 (x := y) rfl (by have := HR2.out.gd.len; omega) HR2.out.gd.iv.kn
            rw [ET.out.1, ET.out.2] at k6
            clear s5 ET
            go_wp2_with (go_at_call 22; refine k6.mono ?_; rintro e w7 ⟨rfl, s7⟩; refine Hid.out ?_)
            refine hide_it ?_
            clear k6 s6
            go_wp2
            go_roundw
            case rel => exact ⟨j + 1, by omega, by go_num, y, HR2.out, s7.out⟩
            case measure => simp [intOf]; omega
          · have HZ : Hid (Below w.heap.size w wr) := by
              obtain ⟨x, _, hx⟩ := HX.out
              exact hx.bel
            clear HX H2
            by_cases d1 : j < cl.length
            · have d2 : decide (j < 30) = false := by simp; omega
              have d3 : decide ((j : Int) < 30) = false := by simp; omega
              clear hjl hj hT
              go_wp2
              go_ret
              exact ⟨rfl, HZ.out⟩
            · have d2 : decide (j < cl.length) = false := by simp; omega
              have d3 : decide ((j : Int) < (cl.length : Int)) = false := by simp; omega
              clear hjl hj hT d1
              go_wp2
              go_ret
              exact ⟨rfl, HZ.out⟩
end Go.Proofs.Ytlhkahincnchjaa
