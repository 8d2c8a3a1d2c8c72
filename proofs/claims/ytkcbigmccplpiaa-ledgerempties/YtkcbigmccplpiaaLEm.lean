/- LedgerEmpties, walked. -/
import Derived.Test.YtkcbigmccplpiaaSho
import Derived.Test.YtkcbigmccplpiaaArg
import Derived.Test.YtkcbigmccplpiaaKee
import Derived.Deep.RegionHeld3
import Derived.Deep.CutRange
import Derived.Deep.CutBlock
import Derived.BigQuiet
namespace Go.Proofs.Ytkcbigmccplpiaa
open Go.RowKit
open M
set_option linter.unusedVariables false
set_option linter.unusedSimpArgs false

section
variable {x : Lg}
theorem em_yes (h : Inv x) {k : Nat} (hc : atB x k = true) : fe x (atI x k) = 0 ∧ ((fx x (atI x k)).P k).t = false ∧ ∀ j, (x.P j).t = false → ((fx x (atI x k)).P j).t = false := by
  unfold atB at hc
  simp at hc
  have e : atI x k = (x.P k).i := by unfold atI; rw [if_pos (by omega)]; simp
  have hs : slo x (atI x k) = some k := h.slo_of hc.2 e.symm
  have e2 : fx x (atI x k) = ⟨x.bu, x.n, setP x.P k no⟩ := by unfold fx; rw [hs]; rfl
  refine ⟨by unfold fe; rw [hs]; rfl, by rw [e2]; simp [setP_same, no], fun j hj => ?_⟩
  rw [e2]
  by_cases q : j = k
  · subst q; simp [setP_same, no]
  · simp only [setP_other _ _ q]; exact hj
theorem em_no (h : Inv x) {k : Nat} (hc : atB x k = false) : (x.P k).t = false := by
  by_cases q : k < x.n
  · unfold atB at hc
    rw [show decide (0 ≤ (k : Int) ∧ (k : Int) < (x.n : Int)) = true by simp; omega] at hc
    simpa using hc
  · exact h.out k (by omega)
theorem em_end (h : Inv x) (he : ∀ k, k < 16 → (x.P k).t = false) : us x.P 16 = 0 ∧ M.free x = x.n ∧ room x = x.bu ∧ (∀ id, slo x id = none) ∧ low x = (if x.n = 0 then none else some 0) := by
  have h1 : ∀ k, k ≤ 16 → us x.P k = 0 := fun k hk => by
    induction k with
    | zero => rfl
    | succ k ih =>
      have := (h.off k (he k (by omega))).2
      have := ih (by omega)
      simp only [us]; omega
  have h2 : ∀ k, k ≤ 16 → tk x.P k = 0 := fun k hk => by
    induction k with
    | zero => rfl
    | succ k ih =>
      have := ih (by omega)
      simp only [tk, he k (by omega)]
      simpa using this
  refine ⟨h1 16 (by omega), by unfold M.free; rw [h2 16 (by omega)]; simp, by unfold room; rw [h1 16 (by omega)]; simp, fun id => low1_none.2 (fun k hk => by simp [hasI, he k hk]), ?_⟩
  by_cases q : x.n = 0
  · rw [if_pos q]
    exact low1_none.2 (fun k hk => by omega)
  · rw [if_neg q]
    exact low1_some.2 ⟨by omega, by simp [he 0 (by omega)], fun j hj => by omega⟩
theorem em_take (h : Inv x) (he : ∀ k, k < 16 → (x.P k).t = false) : ts x 7 x.bu = 0 ∧ te x 7 x.bu = (if x.n = 0 then 4 else 0) := by
  obtain ⟨a, b, c, d, e⟩ := em_end h he
  have h0 := h.b0
  by_cases q : x.n = 0
  · rw [if_pos q] at e ⊢
    have e1 : te x 7 x.bu = 4 := te_full (by omega) (by omega) (by rw [d]; rfl) (.inl (by rw [e]; rfl))
    exact ⟨by unfold ts; rw [if_neg (by omega)], e1⟩
  · rw [if_neg q] at e ⊢
    have e1 : te x 7 x.bu = 0 := te_good (by omega) (by omega) (by rw [d]; rfl) (by rw [e, c]; simp)
    exact ⟨by unfold ts; rw [if_pos e1, e]; rfl, e1⟩
end
/-- The first j slots, or the last j, are nobody's. -/
def Don (f : Bool) (j : Nat) (y : Lg) : Prop := ∀ k, k < 16 → (match f with | true => 16 ≤ k + j | false => k < j) → (y.P k).t = false
theorem don0 (f : Bool) (y : Lg) : Don f 0 y := fun k hk h => by cases f <;> simp at h; omega
theorem Don.step {f : Bool} {j : Nat} {y X : Lg} (h : Don f j y) {k : Nat} (hk : match f with | true => k + j = 15 | false => k = j) (hX : (X.P k).t = false) (hp : ∀ i, (y.P i).t = false → (X.P i).t = false) : Don f (j + 1) X := fun l hl hd => by
  by_cases e : l = k
  · subst e; exact hX
  · refine hp l (h l hl ?_)
    cases f <;> simp at hd hk ⊢ <;> omega
theorem Don.all {f : Bool} {j : Nat} {y : Lg} (h : Don f j y) (hj : 16 ≤ j) : ∀ k, k < 16 → (y.P k).t = false := fun k hk => h k hk (by cases f <;> simp <;> omega)

set_option maxRecDepth 1000000 in
set_option maxHeartbeats 8000000 in
theorem ledgerEmpties_walk (bu sl : Int) (l : List (Int × Int × Int)) (a : Option Addr) (cap : Nat) (f : Bool) (w : World) (hbu : -9223372036854775808 ≤ bu ∧ bu ≤ 9223372036854775807) (hI : StepsIn w a l) (hl : l.length ≤ cap) (hc : cap ≤ maxLen) (hb : ∀ t ∈ l, i64B t.1 ∧ i64B t.2.1 ∧ i64B t.2.2) :
    Calls Try.prog 9 #[.int .i64 bu, .int .i64 sl, .slice a l.length cap, .bool f] w fun e w' => e = .returned (.bool true) ∧ Below w.heap.size w w' := by
  obtain ⟨B, hB⟩ : ∃ B, w.heap.size = B := ⟨_, rfl⟩
  have ks : Calls Try.prog 10 #[] w fun e w' => e = .returned (.bool true) ∧ Hid (Below B w w') := by
    have := shown_any w
    rw [hB] at this
    exact this
  have hlo : B ≤ w.heap.size := by omega
  obtain ⟨BU, hBU⟩ : ∃ N, max bu 0 = N := ⟨_, rfl⟩
  obtain ⟨n0, hn0⟩ : ∃ n : Nat, min (max sl 0) 16 = (n : Int) := ⟨(min (max sl 0) 16).toNat, by omega⟩
  have kn : ∀ W, Below B w W → Calls Try.prog 11 #[.int .i64 bu, .int .i64 sl] W fun e w' => ∃ b, e = .returned (ptr b) ∧ Hid (LX B w w' b ⟨BU, n0, fun _ => no⟩ []) := fun W hb => new_any hb hlo bu sl hbu.2 BU n0 hBU hn0
  have hcm : cap ≤ 9223372036854775807 := by unfold maxLen at hc; omega
  obtain ⟨m, hm⟩ : ∃ m, l.length = m := ⟨_, rfl⟩
  have HI : Hid (∀ (i : Nat), i < m → ∃ x y z b o, a = some ⟨b, o, none⟩ ∧ ∀ W, Below B w W → W.cell? ⟨b, o + i * 3, none⟩ = some (.int .i64 x) ∧ W.cell? ⟨b, o + i * 3 + 1, none⟩ = some (.int .i64 y) ∧ W.cell? ⟨b, o + i * 3 + 2, none⟩ = some (.int .i64 z)) := fun i hi => by
    have := hI.get (i := i) (by omega)
    rw [hB] at this
    exact this
  rw [hm] at hl ⊢
  rw [hB]
  have m1 : ∀ ts u W, (Builtin.max_ ts u #[.int .i64 bu, .int .i64 0]).run Try.prog W = .ok (.int .i64 BU) W := fun ts u W => by rw [← hBU]; exact max_num _ _ ts u W
  obtain ⟨q0, hq0⟩ : ∃ q, max sl 0 = q := ⟨_, rfl⟩
  have m2 : ∀ ts u W, (Builtin.max_ ts u #[.int .i64 sl, .int .i64 0]).run Try.prog W = .ok (.int .i64 q0) W := fun ts u W => by rw [← hq0]; exact max_num _ _ ts u W
  have m3 : ∀ ts u W, (Builtin.min_ ts u #[.int .i64 q0, .int .i64 16]).run Try.prog W = .ok (.int .i64 n0) W := fun ts u W => by rw [← hn0, hq0]; exact min_num _ _ ts u W
  have hn16 : n0 ≤ 16 := by omega
  clear hB hI hc hm hlo hb hq0 hn0 hBU hbu
  go_enter Try.func9, Try.ntmps9
  go_wp2_with (first | (go_at_call 10; refine ks.mono ?_; rintro e w1 ⟨rfl, s1⟩; clear ks) | (go_at_call 11; refine (kn _ s1.out).mono ?_; rintro e w2 ⟨b, rfl, s⟩; clear kn s1))
  go_loopw [11] (fun iv W => ∃ (i : Nat) (x : Lg), iv = .int .i64 i ∧ i ≤ m ∧ i ≤ 100 ∧ Hid (LX B w W b x []) ∧ Hid (x.bu = BU ∧ x.n = n0)) (fun iv _ => m - (intOf iv).toNat)
  case atStart => exact ⟨0, _, rfl, Nat.zero_le _, by omega, s, rfl, rfl⟩
  case round =>
    clear s
    obtain ⟨i, x, rfl, hi, hi2, s, HB⟩ := hrel
    by_cases hgo : i < m ∧ i < 100
    · obtain ⟨hlt, hlt2⟩ := hgo
      have h16 : decide ((i : Int) < 100) = true := decide_eq_true (by omega)
      have h16' : decide (i < 100) = true := decide_eq_true (by omega)
      obtain ⟨kd, y, z, c, o, rfl, HX⟩ := HI.out i hlt
      obtain ⟨c0, c1, c2⟩ := HX _ s.out.bel
      by_cases hk3 : kd = 3
      · have d3 : (kd == 3) = true := by simp [hk3]
        have k14 := free_any s.out y
        have HB2 : Hid ((fx x y).bu = BU ∧ (fx x y).n = n0) := fx_keeps HB.out
        generalize fx x y = X at *
        generalize ((fe x y : Nat) : Int) = E at *
        clear hk3 HX HI
        go_wp2_with (go_at_call 14; refine k14.mono ?_; rintro e w3 ⟨rfl, s3⟩)
        go_roundw
        case rel => exact ⟨i + 1, X, by go_num, by omega, by omega, s3, HB2⟩
        case measure => simp [intOf]; omega
      · have d3 : (kd == 3) = false := by simp [hk3]
        have sD : Hid (LX B w wr.drew b x []) := s.out.below ((Below.refl _ _).drew)
        have k12 := take_any sD.out y z
        have HB2 : Hid ((tx x y z).bu = BU ∧ (tx x y z).n = n0) := tx_keeps HB.out
        generalize tx x y z = X at *
        generalize ((te x y z : Nat) : Int) = E at *
        generalize ((ts x y z : Nat) : Int) = Q at *
        have HX2 : Hid (∀ W, LX B w W b X [] → W.cell? ⟨c, o + i * 3 + 1, none⟩ = some (.int .i64 y) ∧ W.cell? ⟨c, o + i * 3 + 2, none⟩ = some (.int .i64 z)) := fun W h => (HX _ h.bel).2
        clear hk3 HX HI sD
        go_upto_region 10 with fail
        (go_region_held3 (fun V => V.cell? ⟨c, o + i * 3 + 1, none⟩ = some (.int .i64 y) ∧ V.cell? ⟨c, o + i * 3 + 2, none⟩ = some (.int .i64 z)) (first | exact ⟨c1, c2⟩ | (exact HX2.out _ s3.out) | go_keep) (first | (go_at_call 12; refine k12.mono ?_; rintro e w3 ⟨rfl, s3⟩)))
        go_wp2
        go_roundw
        case rel => exact ⟨i + 1, X, by go_num, by omega, by omega, s3, HB2⟩
        case measure => simp [intOf]; omega
    · by_cases hlt : i < m
      · have d1 : decide ((i : Int) < 100) = false := by simp; omega
        have d2 : decide (i < 100) = false := by simp; omega
        clear HI
        go_wp2
        go_loopw [12] (fun jv W => ∃ (j : Nat) (y : Lg), jv = .int .i64 j ∧ j ≤ 16 ∧ Hid (LX B w W b y []) ∧ Hid (y.bu = BU ∧ y.n = n0) ∧ Hid (Don f j y)) (fun jv _ => 16 - (intOf jv).toNat)
        case atStart => exact ⟨0, x, rfl, by omega, s, HB, don0 f x⟩
        case round =>
          clear s HB
          obtain ⟨j, y, rfl, hj, s, HB, HD⟩ := hrel
          by_cases hj16 : j < 16
          · have hj16' : (j : Int) < 16 := by omega
            cases f with
            | false =>
              have k23 := at_any s.out (j : Int)
              cases hcb : atB y j with
              | true =>
                obtain ⟨e1, e2, e3⟩ := em_yes s.out.inv hcb
                have k14 : ∀ W, LX B w W b y [] → Calls Try.prog 14 #[ptr b, .int .i64 (atI y j)] W fun e w' => e = .returned (.int .i64 0) ∧ Hid (LX B w w' b (fx y (atI y j)) []) := fun W h => by have := free_any h (atI y j); rw [e1] at this; exact this
                have HB2 : Hid ((fx y (atI y j)).bu = BU ∧ (fx y (atI y j)).n = n0) := fx_keeps HB.out
                have HD2 := hide_it (HD.out.step rfl e2 e3)
                rw [hcb] at k23
                generalize fx y (atI y j) = X at *
                generalize atI y j = Z at *
                clear e1 e2 e3 hcb HD
                go_wp2_with (first | (go_at_call 23; refine k23.mono ?_; rintro e w3 ⟨rfl, s3⟩) | (go_at_call 14; refine (k14 _ s3.out).mono ?_; rintro e w4 ⟨rfl, s4⟩))
                go_roundw
                case rel => exact ⟨j + 1, X, by go_num, by omega, s4, HB2, HD2⟩
                case measure => simp [intOf]; omega
              | false =>
                have HD2 := hide_it (HD.out.step rfl (em_no s.out.inv hcb) (fun _ h => h))
                rw [hcb] at k23
                generalize atI y j = Z at *
                clear hcb HD
                go_wp2_with (go_at_call 23; refine k23.mono ?_; rintro e w3 ⟨rfl, s3⟩)
                go_roundw
                case rel => exact ⟨j + 1, y, by go_num, by omega, s3, HB, HD2⟩
                case measure => simp [intOf]; omega
            | true =>
              obtain ⟨k, hk⟩ : ∃ k : Nat, 15 - j = k := ⟨_, rfl⟩
              have hkj : k + j = 15 := by omega
              have hk16 : (k : Int) < 16 := by omega
              have hk1 : IntKind.i64.wrap (15 - (j : Int)) = (k : Int) := by rw [IntKind.wrap_i64]; omega
              have hk2 : wrap64 (15 - (j : Int)) = (k : Int) := by rw [← hk1, IntKind.wrap_i64]; unfold wrap64; omega
              have hk3 : (15 : Int) - (j : Int) = (k : Int) := by omega
              have k23 := at_any s.out (k : Int)
              cases hcb : atB y k with
              | true =>
                obtain ⟨e1, e2, e3⟩ := em_yes s.out.inv hcb
                have k14 : ∀ W, LX B w W b y [] → Calls Try.prog 14 #[ptr b, .int .i64 (atI y k)] W fun e w' => e = .returned (.int .i64 0) ∧ Hid (LX B w w' b (fx y (atI y k)) []) := fun W h => by have := free_any h (atI y k); rw [e1] at this; exact this
                have HB2 : Hid ((fx y (atI y k)).bu = BU ∧ (fx y (atI y k)).n = n0) := fx_keeps HB.out
                have HD2 := hide_it (HD.out.step hkj e2 e3)
                rw [hcb] at k23
                generalize fx y (atI y k) = X at *
                generalize atI y k = Z at *
                clear e1 e2 e3 hcb HD
                go_wp2_with (first | (go_at_call 23; refine k23.mono ?_; rintro e w3 ⟨rfl, s3⟩) | (go_at_call 14; refine (k14 _ s3.out).mono ?_; rintro e w4 ⟨rfl, s4⟩))
                go_roundw
                case rel => exact ⟨j + 1, X, by go_num, by omega, s4, HB2, HD2⟩
                case measure => simp [intOf]; omega
              | false =>
                have HD2 := hide_it (HD.out.step hkj (em_no s.out.inv hcb) (fun _ h => h))
                rw [hcb] at k23
                generalize atI y k = Z at *
                clear hcb HD
                go_wp2_with (go_at_call 23; refine k23.mono ?_; rintro e w3 ⟨rfl, s3⟩)
                go_roundw
                case rel => exact ⟨j + 1, y, by go_num, by omega, s3, HB, HD2⟩
                case measure => simp [intOf]; omega
          · have d3 : decide ((j : Int) < 16) = false := by simp; omega
            have d4 : decide (j < 16) = false := by simp; omega
            have he := HD.out.all (by omega)
            obtain ⟨g1, g2, g3, g4, g5⟩ := em_end s.out.inv he
            obtain ⟨t1, t2⟩ := em_take s.out.inv he
            obtain ⟨hB1, hB2⟩ := HB.out
            rw [hB2] at g2 t2
            rw [hB1] at g3 t1 t2
            have k18 : ∀ W, LX B w W b y [] → Calls Try.prog 18 #[ptr b] W fun e w' => e = .returned (.int .i64 0) ∧ Hid (LX B w w' b y []) := fun W h => used_at 0 g1 h
            have k20 : ∀ W, LX B w W b y [] → Calls Try.prog 20 #[ptr b] W fun e w' => e = .returned (.int .i64 BU) ∧ Hid (LX B w w' b y []) := fun W h => room_at _ g3 h
            have k21 : ∀ W, LX B w W b y [] → Calls Try.prog 21 #[ptr b] W fun e w' => e = .returned (.int .i64 n0) ∧ Hid (LX B w w' b y []) := fun W h => slots_at _ g2 h
            have z1 : (BU != BU) = false := by simp
            have z2 : ((n0 : Int) != n0) = false := by simp
            have z3 : (n0 != n0) = false := by simp
            by_cases hn : n0 = 0
            · rw [if_pos hn] at t2
              have k12 : ∀ W, LX B w W b y [] → Calls Try.prog 12 #[ptr b, .int .i64 7, .int .i64 BU] W fun e w' => e = .returned (.tuple #[.int .i64 0, .int .i64 4]) ∧ Hid (LX B w w' b (tx y 7 BU) []) := fun W h => take_at 7 BU 0 4 t1 t2 rfl h
              have dn1 : decide (0 < (n0 : Int)) = false := by simp; omega
              have dn2 : decide (0 < n0) = false := by simp; omega
              generalize tx y 7 BU = X at *
              clear g1 g2 g3 g4 g5 t1 t2 hn HB HD he hB1 hB2
              go_wp2_with (first | (go_at_call 18; refine (k18 _ s.out).mono ?_; rintro e w3 ⟨rfl, s3⟩) | (go_at_call 20; refine (k20 _ s3.out).mono ?_; rintro e w4 ⟨rfl, s4⟩) | (go_at_call 21; refine (k21 _ s4.out).mono ?_; rintro e w5 ⟨rfl, s5⟩) | (go_at_call 12; refine (k12 _ s5.out).mono ?_; rintro e w6 ⟨rfl, s6⟩))
              go_ret
              exact ⟨rfl, s6.out.bel⟩
            · rw [if_neg hn] at t2
              have k12 : ∀ W, LX B w W b y [] → Calls Try.prog 12 #[ptr b, .int .i64 7, .int .i64 BU] W fun e w' => e = .returned (.tuple #[.int .i64 0, .int .i64 0]) ∧ Hid (LX B w w' b (tx y 7 BU) []) := fun W h => take_at 7 BU 0 0 t1 t2 rfl h
              have dn1 : decide (0 < (n0 : Int)) = true := by simp; omega
              have dn2 : decide (0 < n0) = true := by simp; omega
              generalize tx y 7 BU = X at *
              clear g1 g2 g3 g4 g5 t1 t2 hn HB HD he hB1 hB2
              go_wp2_with (first | (go_at_call 18; refine (k18 _ s.out).mono ?_; rintro e w3 ⟨rfl, s3⟩) | (go_at_call 20; refine (k20 _ s3.out).mono ?_; rintro e w4 ⟨rfl, s4⟩) | (go_at_call 21; refine (k21 _ s4.out).mono ?_; rintro e w5 ⟨rfl, s5⟩) | (go_at_call 12; refine (k12 _ s5.out).mono ?_; rintro e w6 ⟨rfl, s6⟩))
              go_ret
              exact ⟨rfl, s6.out.bel⟩
      · have d1 : decide ((i : Int) < m) = false := by simp; omega
        have d2 : decide (i < m) = false := by simp; omega
        clear HI
        go_wp2
        go_loopw [12] (fun jv W => ∃ (j : Nat) (y : Lg), jv = .int .i64 j ∧ j ≤ 16 ∧ Hid (LX B w W b y []) ∧ Hid (y.bu = BU ∧ y.n = n0) ∧ Hid (Don f j y)) (fun jv _ => 16 - (intOf jv).toNat)
        case atStart => exact ⟨0, x, rfl, by omega, s, HB, don0 f x⟩
        case round =>
          clear s HB
          obtain ⟨j, y, rfl, hj, s, HB, HD⟩ := hrel
          by_cases hj16 : j < 16
          · have hj16' : (j : Int) < 16 := by omega
            cases f with
            | false =>
              have k23 := at_any s.out (j : Int)
              cases hcb : atB y j with
              | true =>
                obtain ⟨e1, e2, e3⟩ := em_yes s.out.inv hcb
                have k14 : ∀ W, LX B w W b y [] → Calls Try.prog 14 #[ptr b, .int .i64 (atI y j)] W fun e w' => e = .returned (.int .i64 0) ∧ Hid (LX B w w' b (fx y (atI y j)) []) := fun W h => by have := free_any h (atI y j); rw [e1] at this; exact this
                have HB2 : Hid ((fx y (atI y j)).bu = BU ∧ (fx y (atI y j)).n = n0) := fx_keeps HB.out
                have HD2 := hide_it (HD.out.step rfl e2 e3)
                rw [hcb] at k23
                generalize fx y (atI y j) = X at *
                generalize atI y j = Z at *
                clear e1 e2 e3 hcb HD
                go_wp2_with (first | (go_at_call 23; refine k23.mono ?_; rintro e w3 ⟨rfl, s3⟩) | (go_at_call 14; refine (k14 _ s3.out).mono ?_; rintro e w4 ⟨rfl, s4⟩))
                go_roundw
                case rel => exact ⟨j + 1, X, by go_num, by omega, s4, HB2, HD2⟩
                case measure => simp [intOf]; omega
              | false =>
                have HD2 := hide_it (HD.out.step rfl (em_no s.out.inv hcb) (fun _ h => h))
                rw [hcb] at k23
                generalize atI y j = Z at *
                clear hcb HD
                go_wp2_with (go_at_call 23; refine k23.mono ?_; rintro e w3 ⟨rfl, s3⟩)
                go_roundw
                case rel => exact ⟨j + 1, y, by go_num, by omega, s3, HB, HD2⟩
                case measure => simp [intOf]; omega
            | true =>
              obtain ⟨k, hk⟩ : ∃ k : Nat, 15 - j = k := ⟨_, rfl⟩
              have hkj : k + j = 15 := by omega
              have hk16 : (k : Int) < 16 := by omega
              have hk1 : IntKind.i64.wrap (15 - (j : Int)) = (k : Int) := by rw [IntKind.wrap_i64]; omega
              have hk2 : wrap64 (15 - (j : Int)) = (k : Int) := by rw [← hk1, IntKind.wrap_i64]; unfold wrap64; omega
              have hk3 : (15 : Int) - (j : Int) = (k : Int) := by omega
              have k23 := at_any s.out (k : Int)
              cases hcb : atB y k with
              | true =>
                obtain ⟨e1, e2, e3⟩ := em_yes s.out.inv hcb
                have k14 : ∀ W, LX B w W b y [] → Calls Try.prog 14 #[ptr b, .int .i64 (atI y k)] W fun e w' => e = .returned (.int .i64 0) ∧ Hid (LX B w w' b (fx y (atI y k)) []) := fun W h => by have := free_any h (atI y k); rw [e1] at this; exact this
                have HB2 : Hid ((fx y (atI y k)).bu = BU ∧ (fx y (atI y k)).n = n0) := fx_keeps HB.out
                have HD2 := hide_it (HD.out.step hkj e2 e3)
                rw [hcb] at k23
                generalize fx y (atI y k) = X at *
                generalize atI y k = Z at *
                clear e1 e2 e3 hcb HD
                go_wp2_with (first | (go_at_call 23; refine k23.mono ?_; rintro e w3 ⟨rfl, s3⟩) | (go_at_call 14; refine (k14 _ s3.out).mono ?_; rintro e w4 ⟨rfl, s4⟩))
                go_roundw
                case rel => exact ⟨j + 1, X, by go_num, by omega, s4, HB2, HD2⟩
                case measure => simp [intOf]; omega
              | false =>
                have HD2 := hide_it (HD.out.step hkj (em_no s.out.inv hcb) (fun _ h => h))
                rw [hcb] at k23
                generalize atI y k = Z at *
                clear hcb HD
                go_wp2_with (go_at_call 23; refine k23.mono ?_; rintro e w3 ⟨rfl, s3⟩)
                go_roundw
                case rel => exact ⟨j + 1, y, by go_num, by omega, s3, HB, HD2⟩
                case measure => simp [intOf]; omega
          · have d3 : decide ((j : Int) < 16) = false := by simp; omega
            have d4 : decide (j < 16) = false := by simp; omega
            have he := HD.out.all (by omega)
            obtain ⟨g1, g2, g3, g4, g5⟩ := em_end s.out.inv he
            obtain ⟨t1, t2⟩ := em_take s.out.inv he
            obtain ⟨hB1, hB2⟩ := HB.out
            rw [hB2] at g2 t2
            rw [hB1] at g3 t1 t2
            have k18 : ∀ W, LX B w W b y [] → Calls Try.prog 18 #[ptr b] W fun e w' => e = .returned (.int .i64 0) ∧ Hid (LX B w w' b y []) := fun W h => used_at 0 g1 h
            have k20 : ∀ W, LX B w W b y [] → Calls Try.prog 20 #[ptr b] W fun e w' => e = .returned (.int .i64 BU) ∧ Hid (LX B w w' b y []) := fun W h => room_at _ g3 h
            have k21 : ∀ W, LX B w W b y [] → Calls Try.prog 21 #[ptr b] W fun e w' => e = .returned (.int .i64 n0) ∧ Hid (LX B w w' b y []) := fun W h => slots_at _ g2 h
            have z1 : (BU != BU) = false := by simp
            have z2 : ((n0 : Int) != n0) = false := by simp
            have z3 : (n0 != n0) = false := by simp
            by_cases hn : n0 = 0
            · rw [if_pos hn] at t2
              have k12 : ∀ W, LX B w W b y [] → Calls Try.prog 12 #[ptr b, .int .i64 7, .int .i64 BU] W fun e w' => e = .returned (.tuple #[.int .i64 0, .int .i64 4]) ∧ Hid (LX B w w' b (tx y 7 BU) []) := fun W h => take_at 7 BU 0 4 t1 t2 rfl h
              have dn1 : decide (0 < (n0 : Int)) = false := by simp; omega
              have dn2 : decide (0 < n0) = false := by simp; omega
              generalize tx y 7 BU = X at *
              clear g1 g2 g3 g4 g5 t1 t2 hn HB HD he hB1 hB2
              go_wp2_with (first | (go_at_call 18; refine (k18 _ s.out).mono ?_; rintro e w3 ⟨rfl, s3⟩) | (go_at_call 20; refine (k20 _ s3.out).mono ?_; rintro e w4 ⟨rfl, s4⟩) | (go_at_call 21; refine (k21 _ s4.out).mono ?_; rintro e w5 ⟨rfl, s5⟩) | (go_at_call 12; refine (k12 _ s5.out).mono ?_; rintro e w6 ⟨rfl, s6⟩))
              go_ret
              exact ⟨rfl, s6.out.bel⟩
            · rw [if_neg hn] at t2
              have k12 : ∀ W, LX B w W b y [] → Calls Try.prog 12 #[ptr b, .int .i64 7, .int .i64 BU] W fun e w' => e = .returned (.tuple #[.int .i64 0, .int .i64 0]) ∧ Hid (LX B w w' b (tx y 7 BU) []) := fun W h => take_at 7 BU 0 0 t1 t2 rfl h
              have dn1 : decide (0 < (n0 : Int)) = true := by simp; omega
              have dn2 : decide (0 < n0) = true := by simp; omega
              generalize tx y 7 BU = X at *
              clear g1 g2 g3 g4 g5 t1 t2 hn HB HD he hB1 hB2
              go_wp2_with (first | (go_at_call 18; refine (k18 _ s.out).mono ?_; rintro e w3 ⟨rfl, s3⟩) | (go_at_call 20; refine (k20 _ s3.out).mono ?_; rintro e w4 ⟨rfl, s4⟩) | (go_at_call 21; refine (k21 _ s4.out).mono ?_; rintro e w5 ⟨rfl, s5⟩) | (go_at_call 12; refine (k12 _ s5.out).mono ?_; rintro e w6 ⟨rfl, s6⟩))
              go_ret
              exact ⟨rfl, s6.out.bel⟩
end Go.Proofs.Ytkcbigmccplpiaa
