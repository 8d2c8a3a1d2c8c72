/- LedgerBack, walked. -/
import Derived.Test.YtkcbigmccplpiaaSho
import Derived.Test.YtkcbigmccplpiaaArg
import Derived.Test.YtkcbigmccplpiaaKee
import Derived.Deep.RegionHeld3
import Derived.Deep.CutRange
import Derived.Deep.CutBlock
import Derived.BigQuiet
namespace Go.Proofs.Ytkcbigmccplpiaa
open Go.RowKit
open M
set_option linter.unusedVariables false
set_option linter.unusedSimpArgs false

section
variable {x : Lg}
theorem ba_no {id mem : Int} (h : te x id mem ≠ 0) : ts x id mem = 0 ∧ tx x id mem = x := ⟨by unfold ts; rw [if_neg h], by unfold tx; rw [if_neg h]⟩
theorem ba_yes (h : Inv x) {id mem : Int} (h0 : te x id mem = 0) : ∃ k, k < 16 ∧ ts x id mem = k ∧ slo x id = none ∧ slo (tx x id mem) id = some k ∧ us (tx x id mem).P 16 = us x.P 16 + mem ∧ M.free (tx x id mem) = M.free x - 1 ∧ fe (tx x id mem) id = 0 ∧ atB (fx (tx x id mem) id) k = false ∧ us (fx (tx x id mem) id).P 16 = us x.P 16 ∧ M.free (fx (tx x id mem) id) = M.free x := by
  obtain ⟨a1, a2, a3, a4, ⟨k, a5⟩, a6⟩ := te_ok h0
  obtain ⟨l1, l2, l3⟩ := low_lt a5
  have hn := h.n16
  have hi := h.take id mem
  have e : tx x id mem = ⟨x.bu, x.n, setP x.P k ⟨true, id, mem⟩⟩ := by unfold tx; rw [if_pos h0, a5]; rfl
  rw [e] at hi ⊢
  have hs : slo (⟨x.bu, x.n, setP x.P k ⟨true, id, mem⟩⟩ : Lg) id = some k := hi.slo_of (by simp [setP_same]) (by simp [setP_same])
  have e2 : fx (⟨x.bu, x.n, setP x.P k ⟨true, id, mem⟩⟩ : Lg) id = ⟨x.bu, x.n, setP (setP x.P k ⟨true, id, mem⟩) k no⟩ := by unfold fx; rw [hs]; rfl
  have m0 := (h.off k l2).2
  have u1 := us_set x.P k ⟨true, id, mem⟩ 16
  rw [if_pos (by omega), m0] at u1
  have u2 := us_set (setP x.P k ⟨true, id, mem⟩) k no 16
  rw [if_pos (by omega), setP_same] at u2
  have t1 := tk_set x.P k ⟨true, id, mem⟩ 16 (by omega)
  have t2 := tk_set (setP x.P k ⟨true, id, mem⟩) k no 16 (by omega)
  rw [l2] at t1
  rw [setP_same] at t2
  simp only [no] at u1 u2 t1 t2
  simp only [if_true, Bool.false_eq_true, if_false] at t1 t2
  refine ⟨k, by omega, by unfold ts; rw [if_pos h0, a5]; rfl, a4, hs, by simp only; omega, by unfold M.free; simp only; omega, by unfold fe; rw [hs]; rfl, ?_, ?_, ?_⟩
  · rw [e2]; unfold atB; simp [setP_same, no]
  · rw [e2]; simp only [no]; omega
  · rw [e2]; unfold M.free; simp only [no]; omega
end

set_option maxRecDepth 1000000 in
set_option maxHeartbeats 8000000 in
theorem ledgerBack_walk (bu sl : Int) (l : List (Int × Int × Int)) (a : Option Addr) (cap : Nat) (id mem : Int) (w : World) (hbu : -9223372036854775808 ≤ bu ∧ bu ≤ 9223372036854775807) (hI : StepsIn w a l) (hl : l.length ≤ cap) (hc : cap ≤ maxLen) (hb : ∀ t ∈ l, i64B t.1 ∧ i64B t.2.1 ∧ i64B t.2.2) :
    Calls Try.prog 5 #[.int .i64 bu, .int .i64 sl, .slice a l.length cap, .int .i64 id, .int .i64 mem] w fun e w' => e = .returned (.bool true) ∧ Below w.heap.size w w' := by
  obtain ⟨B, hB⟩ : ∃ B, w.heap.size = B := ⟨_, rfl⟩
  have ks : Calls Try.prog 10 #[] w fun e w' => e = .returned (.bool true) ∧ Hid (Below B w w') := by
    have := shown_any w
    rw [hB] at this
    exact this
  have hlo : B ≤ w.heap.size := by omega
  obtain ⟨BU, hBU⟩ : ∃ N, max bu 0 = N := ⟨_, rfl⟩
  obtain ⟨n0, hn0⟩ : ∃ n : Nat, min (max sl 0) 16 = (n : Int) := ⟨(min (max sl 0) 16).toNat, by omega⟩
  have kn : ∀ W, Below B w W → Calls Try.prog 11 #[.int .i64 bu, .int .i64 sl] W fun e w' => ∃ b, e = .returned (ptr b) ∧ Hid (LX B w w' b ⟨BU, n0, fun _ => no⟩ []) := fun W hb => new_any hb hlo bu sl hbu.2 BU n0 hBU hn0
  have hcm : cap ≤ 9223372036854775807 := by unfold maxLen at hc; omega
  obtain ⟨m, hm⟩ : ∃ m, l.length = m := ⟨_, rfl⟩
  have HI : Hid (∀ (i : Nat), i < m → ∃ x y z b o, a = some ⟨b, o, none⟩ ∧ ∀ W, Below B w W → W.cell? ⟨b, o + i * 3, none⟩ = some (.int .i64 x) ∧ W.cell? ⟨b, o + i * 3 + 1, none⟩ = some (.int .i64 y) ∧ W.cell? ⟨b, o + i * 3 + 2, none⟩ = some (.int .i64 z)) := fun i hi => by
    have := hI.get (i := i) (by omega)
    rw [hB] at this
    exact this
  rw [hm] at hl ⊢
  rw [hB]
  clear hB hI hc hm hlo hb hn0 hBU hbu
  go_enter Try.func5, Try.ntmps5
  go_wp2_with (first | (go_at_call 10; refine ks.mono ?_; rintro e w1 ⟨rfl, s1⟩; clear ks) | (go_at_call 11; refine (kn _ s1.out).mono ?_; rintro e w2 ⟨b, rfl, s⟩; clear kn s1))
  go_loopw [13] (fun iv W => ∃ (i : Nat) (x : Lg), iv = .int .i64 i ∧ i ≤ m ∧ i ≤ 100 ∧ Hid (LX B w W b x []) ∧ Hid (x.bu = BU ∧ x.n = n0)) (fun iv _ => m - (intOf iv).toNat)
  case atStart => exact ⟨0, _, rfl, Nat.zero_le _, by omega, s, rfl, rfl⟩
  case round =>
    clear s
    obtain ⟨i, x, rfl, hi, hi2, s, HB⟩ := hrel
    by_cases hgo : i < m ∧ i < 100
    · obtain ⟨hlt, hlt2⟩ := hgo
      have h16 : decide ((i : Int) < 100) = true := decide_eq_true (by omega)
      have h16' : decide (i < 100) = true := decide_eq_true (by omega)
      obtain ⟨kd, y, z, c, o, rfl, HX⟩ := HI.out i hlt
      obtain ⟨c0, c1, c2⟩ := HX _ s.out.bel
      by_cases hk3 : kd = 3
      · have d3 : (kd == 3) = true := by simp [hk3]
        have k14 := free_any s.out y
        have HB2 : Hid ((fx x y).bu = BU ∧ (fx x y).n = n0) := fx_keeps HB.out
        generalize fx x y = X at *
        generalize ((fe x y : Nat) : Int) = E at *
        clear hk3 HX HI
        go_wp2_with (go_at_call 14; refine k14.mono ?_; rintro e w3 ⟨rfl, s3⟩)
        go_roundw
        case rel => exact ⟨i + 1, X, by go_num, by omega, by omega, s3, HB2⟩
        case measure => simp [intOf]; omega
      · have d3 : (kd == 3) = false := by simp [hk3]
        have sD : Hid (LX B w wr.drew b x []) := s.out.below ((Below.refl _ _).drew)
        have k12 := take_any sD.out y z
        have HB2 : Hid ((tx x y z).bu = BU ∧ (tx x y z).n = n0) := tx_keeps HB.out
        generalize tx x y z = X at *
        generalize ((te x y z : Nat) : Int) = E at *
        generalize ((ts x y z : Nat) : Int) = Q at *
        have HX2 : Hid (∀ W, LX B w W b X [] → W.cell? ⟨c, o + i * 3 + 1, none⟩ = some (.int .i64 y) ∧ W.cell? ⟨c, o + i * 3 + 2, none⟩ = some (.int .i64 z)) := fun W h => (HX _ h.bel).2
        clear hk3 HX HI sD
        go_upto_region 10 with fail
        (go_region_held3 (fun V => V.cell? ⟨c, o + i * 3 + 1, none⟩ = some (.int .i64 y) ∧ V.cell? ⟨c, o + i * 3 + 2, none⟩ = some (.int .i64 z)) (first | exact ⟨c1, c2⟩ | (exact HX2.out _ s3.out) | go_keep) (first | (go_at_call 12; refine k12.mono ?_; rintro e w3 ⟨rfl, s3⟩)))
        go_wp2
        go_roundw
        case rel => exact ⟨i + 1, X, by go_num, by omega, by omega, s3, HB2⟩
        case measure => simp [intOf]; omega
    · by_cases hlt : i < m
      · have d1 : decide ((i : Int) < 100) = false := by simp; omega
        have d2 : decide (i < 100) = false := by simp; omega
        clear HI
        have hin := s.out.inv
        have k16 : ∀ W, LX B w W b x [] → Calls Try.prog 16 #[ptr b, .int .i64 id] W fun e w' => e = .returned (.tuple #[.int .i64 ((slo x id).getD 0 : Nat), .bool (slo x id).isSome]) ∧ Hid (LX B w w' b x []) := fun W h => slot_any h id
        have k18 : ∀ W, LX B w W b x [] → Calls Try.prog 18 #[ptr b] W fun e w' => e = .returned (.int .i64 (us x.P 16)) ∧ Hid (LX B w w' b x []) := fun W h => used_any h
        have k21 : ∀ W, LX B w W b x [] → Calls Try.prog 21 #[ptr b] W fun e w' => e = .returned (.int .i64 (M.free x)) ∧ Hid (LX B w w' b x []) := fun W h => slots_any h
        have k12 : ∀ W, LX B w W b x [] → Calls Try.prog 12 #[ptr b, .int .i64 id, .int .i64 mem] W fun e w' => e = .returned (.tuple #[.int .i64 (ts x id mem : Nat), .int .i64 (te x id mem : Nat)]) ∧ Hid (LX B w w' b (tx x id mem) []) := fun W h => take_any h id mem
        have hus := hin.usP (k := 16) (by omega)
        have hbM := hin.bM
        have hfr : 0 ≤ M.free x ∧ M.free x ≤ 16 := by have := hin.tkn; have := hin.n16; unfold M.free; omega
        by_cases h0 : te x id mem = 0
        · obtain ⟨k, y0, y1, y2, y3, y4, y5, y6, y7, y8, y9⟩ := ba_yes hin h0
          have hin2 := hin.take id mem
          have hu2 := hin2.usP (k := 16) (by omega)
          have hb2 := hin2.bM
          rw [h0, y1] at k12
          rw [y2] at k16
          simp only [Option.getD_none, Option.isSome_none] at k16
          have j16 : ∀ W, LX B w W b (tx x id mem) [] → Calls Try.prog 16 #[ptr b, .int .i64 id] W fun e w' => e = .returned (.tuple #[.int .i64 k, .bool true]) ∧ Hid (LX B w w' b (tx x id mem) []) := fun W h => by have := slot_any h id; rw [y3] at this; exact this
          have j18 : ∀ W, LX B w W b (tx x id mem) [] → Calls Try.prog 18 #[ptr b] W fun e w' => e = .returned (.int .i64 (us (tx x id mem).P 16)) ∧ Hid (LX B w w' b (tx x id mem) []) := fun W h => used_any h
          have j21 : ∀ W, LX B w W b (tx x id mem) [] → Calls Try.prog 21 #[ptr b] W fun e w' => e = .returned (.int .i64 (M.free (tx x id mem))) ∧ Hid (LX B w w' b (tx x id mem) []) := fun W h => slots_any h
          have j14 : ∀ W, LX B w W b (tx x id mem) [] → Calls Try.prog 14 #[ptr b, .int .i64 id] W fun e w' => e = .returned (.int .i64 0) ∧ Hid (LX B w w' b (fx (tx x id mem) id) []) := fun W h => free_at id 0 y6 rfl h
          have i23 : ∀ W, LX B w W b (fx (tx x id mem) id) [] → Calls Try.prog 23 #[ptr b, .int .i64 k] W fun e w' => e = .returned (.tuple #[.int .i64 (atI (fx (tx x id mem) id) k), .bool false]) ∧ Hid (LX B w w' b (fx (tx x id mem) id) []) := fun W h => at_at k _ false rfl y7 h
          have i18 : ∀ W, LX B w W b (fx (tx x id mem) id) [] → Calls Try.prog 18 #[ptr b] W fun e w' => e = .returned (.int .i64 (us x.P 16)) ∧ Hid (LX B w w' b (fx (tx x id mem) id) []) := fun W h => used_at _ y8 h
          have i21 : ∀ W, LX B w W b (fx (tx x id mem) id) [] → Calls Try.prog 21 #[ptr b] W fun e w' => e = .returned (.int .i64 (M.free x)) ∧ Hid (LX B w w' b (fx (tx x id mem) id) []) := fun W h => slots_at _ y9 h
          generalize us (tx x id mem).P 16 = U2 at *
          generalize M.free (tx x id mem) = F2 at *
          generalize atI (fx (tx x id mem) id) k = Z at *
          generalize fx (tx x id mem) id = Y at *
          generalize tx x id mem = X at *
          generalize us x.P 16 = U at *
          generalize M.free x = F at *
          have v1 : IntKind.i64.wrap (U + mem) = U2 := by rw [IntKind.wrap_i64]; omega
          have v2 : wrap64 (U + mem) = U2 := by rw [← v1, IntKind.wrap_i64]; unfold wrap64; omega
          have v4 : IntKind.i64.wrap (F - 1) = F2 := by rw [IntKind.wrap_i64]; omega
          have v5 : wrap64 (F - 1) = F2 := by rw [← v4, IntKind.wrap_i64]; unfold wrap64; omega
          have z1 : ((k : Int) != k) = false := by simp
          have z2 : (k != k) = false := by simp
          have z3 : (U2 != U2) = false := by simp
          have z4 : (F2 != F2) = false := by simp
          have z5 : (U == U) = true := by simp
          have z6 : (F == F) = true := by simp
          have hk16 : (k : Int) < 16 := by omega
          clear h0 y0 y1 y2 y3 y4 y5 y6 y7 y8 y9 hin hin2 hus hbM hfr hu2 hb2 HB
          go_wp2_with (go_at_call 16; refine (k16 _ s.out).mono ?_; rintro e w3 ⟨rfl, s3⟩; refine Hid.out ?_)
          refine hide_it ?_
          go_wp2_with (go_at_call 18; refine (k18 _ s3.out).mono ?_; rintro e w4 ⟨rfl, s4⟩; refine Hid.out ?_)
          refine hide_it ?_
          go_wp2_with (go_at_call 21; refine (k21 _ s4.out).mono ?_; rintro e w5 ⟨rfl, s5⟩; refine Hid.out ?_)
          refine hide_it ?_
          go_wp2_with (go_at_call 12; refine (k12 _ s5.out).mono ?_; rintro e w6 ⟨rfl, s6⟩; refine Hid.out ?_)
          refine hide_it ?_
          go_wp2_with (go_at_call 16; refine (j16 _ s6.out).mono ?_; rintro e w7 ⟨rfl, s7⟩; refine Hid.out ?_)
          refine hide_it ?_
          go_wp2_with (go_at_call 18; refine (j18 _ s7.out).mono ?_; rintro e w8 ⟨rfl, s8⟩; refine Hid.out ?_)
          refine hide_it ?_
          go_wp2_with (go_at_call 21; refine (j21 _ s8.out).mono ?_; rintro e w9 ⟨rfl, s9⟩; refine Hid.out ?_)
          refine hide_it ?_
          go_wp2_with (go_at_call 14; refine (j14 _ s9.out).mono ?_; rintro e w10 ⟨rfl, s10⟩; refine Hid.out ?_)
          refine hide_it ?_
          go_wp2_with (go_at_call 23; refine (i23 _ s10.out).mono ?_; rintro e w11 ⟨rfl, s11⟩; refine Hid.out ?_)
          refine hide_it ?_
          go_wp2_with (go_at_call 18; refine (i18 _ s11.out).mono ?_; rintro e w12 ⟨rfl, s12⟩; refine Hid.out ?_)
          refine hide_it ?_
          go_wp2_with (go_at_call 21; refine (i21 _ s12.out).mono ?_; rintro e w13 ⟨rfl, s13⟩)
          go_ret
          exact ⟨rfl, s13.out.bel⟩
        · obtain ⟨y1, y2⟩ := ba_no h0
          rw [y1, y2] at k12
          have e1 : (((te x id mem : Nat) : Int) == 0) = false := by simp; omega
          have e2 : (((te x id mem : Nat) : Int) != 0) = true := by simp; omega
          generalize ((te x id mem : Nat) : Int) = E at *
          generalize us x.P 16 = U at *
          generalize M.free x = F at *
          generalize (((slo x id).getD 0 : Nat) : Int) = Q at *
          generalize (slo x id).isSome = hs at *
          have z5 : (U == U) = true := by simp
          have z6 : (F == F) = true := by simp
          clear h0 y1 y2 hin hus hbM hfr HB
          cases hs with
          | true =>
            go_wp2_with (go_at_call 16; refine (k16 _ s.out).mono ?_; rintro e w3 ⟨rfl, s3⟩; refine Hid.out ?_)
            refine hide_it ?_
            go_wp2_with (go_at_call 18; refine (k18 _ s3.out).mono ?_; rintro e w4 ⟨rfl, s4⟩; refine Hid.out ?_)
            refine hide_it ?_
            go_wp2_with (go_at_call 21; refine (k21 _ s4.out).mono ?_; rintro e w5 ⟨rfl, s5⟩; refine Hid.out ?_)
            refine hide_it ?_
            go_wp2_with (go_at_call 12; refine (k12 _ s5.out).mono ?_; rintro e w6 ⟨rfl, s6⟩; refine Hid.out ?_)
            refine hide_it ?_
            go_wp2_with (go_at_call 18; refine (k18 _ s6.out).mono ?_; rintro e w7 ⟨rfl, s7⟩; refine Hid.out ?_)
            refine hide_it ?_
            go_wp2_with (go_at_call 21; refine (k21 _ s7.out).mono ?_; rintro e w8 ⟨rfl, s8⟩)
            go_ret
            exact ⟨rfl, s8.out.bel⟩
          | false =>
            go_wp2_with (go_at_call 16; refine (k16 _ s.out).mono ?_; rintro e w3 ⟨rfl, s3⟩; refine Hid.out ?_)
            refine hide_it ?_
            go_wp2_with (go_at_call 18; refine (k18 _ s3.out).mono ?_; rintro e w4 ⟨rfl, s4⟩; refine Hid.out ?_)
            refine hide_it ?_
            go_wp2_with (go_at_call 21; refine (k21 _ s4.out).mono ?_; rintro e w5 ⟨rfl, s5⟩; refine Hid.out ?_)
            refine hide_it ?_
            go_wp2_with (go_at_call 12; refine (k12 _ s5.out).mono ?_; rintro e w6 ⟨rfl, s6⟩; refine Hid.out ?_)
            refine hide_it ?_
            go_wp2_with (go_at_call 18; refine (k18 _ s6.out).mono ?_; rintro e w7 ⟨rfl, s7⟩; refine Hid.out ?_)
            refine hide_it ?_
            go_wp2_with (go_at_call 21; refine (k21 _ s7.out).mono ?_; rintro e w8 ⟨rfl, s8⟩)
            go_ret
            exact ⟨rfl, s8.out.bel⟩
      · have d1 : decide ((i : Int) < m) = false := by simp; omega
        have d2 : decide (i < m) = false := by simp; omega
        clear HI
        have hin := s.out.inv
        have k16 : ∀ W, LX B w W b x [] → Calls Try.prog 16 #[ptr b, .int .i64 id] W fun e w' => e = .returned (.tuple #[.int .i64 ((slo x id).getD 0 : Nat), .bool (slo x id).isSome]) ∧ Hid (LX B w w' b x []) := fun W h => slot_any h id
        have k18 : ∀ W, LX B w W b x [] → Calls Try.prog 18 #[ptr b] W fun e w' => e = .returned (.int .i64 (us x.P 16)) ∧ Hid (LX B w w' b x []) := fun W h => used_any h
        have k21 : ∀ W, LX B w W b x [] → Calls Try.prog 21 #[ptr b] W fun e w' => e = .returned (.int .i64 (M.free x)) ∧ Hid (LX B w w' b x []) := fun W h => slots_any h
        have k12 : ∀ W, LX B w W b x [] → Calls Try.prog 12 #[ptr b, .int .i64 id, .int .i64 mem] W fun e w' => e = .returned (.tuple #[.int .i64 (ts x id mem : Nat), .int .i64 (te x id mem : Nat)]) ∧ Hid (LX B w w' b (tx x id mem) []) := fun W h => take_any h id mem
        have hus := hin.usP (k := 16) (by omega)
        have hbM := hin.bM
        have hfr : 0 ≤ M.free x ∧ M.free x ≤ 16 := by have := hin.tkn; have := hin.n16; unfold M.free; omega
        by_cases h0 : te x id mem = 0
        · obtain ⟨k, y0, y1, y2, y3, y4, y5, y6, y7, y8, y9⟩ := ba_yes hin h0
          have hin2 := hin.take id mem
          have hu2 := hin2.usP (k := 16) (by omega)
          have hb2 := hin2.bM
          rw [h0, y1] at k12
          rw [y2] at k16
          simp only [Option.getD_none, Option.isSome_none] at k16
          have j16 : ∀ W, LX B w W b (tx x id mem) [] → Calls Try.prog 16 #[ptr b, .int .i64 id] W fun e w' => e = .returned (.tuple #[.int .i64 k, .bool true]) ∧ Hid (LX B w w' b (tx x id mem) []) := fun W h => by have := slot_any h id; rw [y3] at this; exact this
          have j18 : ∀ W, LX B w W b (tx x id mem) [] → Calls Try.prog 18 #[ptr b] W fun e w' => e = .returned (.int .i64 (us (tx x id mem).P 16)) ∧ Hid (LX B w w' b (tx x id mem) []) := fun W h => used_any h
          have j21 : ∀ W, LX B w W b (tx x id mem) [] → Calls Try.prog 21 #[ptr b] W fun e w' => e = .returned (.int .i64 (M.free (tx x id mem))) ∧ Hid (LX B w w' b (tx x id mem) []) := fun W h => slots_any h
          have j14 : ∀ W, LX B w W b (tx x id mem) [] → Calls Try.prog 14 #[ptr b, .int .i64 id] W fun e w' => e = .returned (.int .i64 0) ∧ Hid (LX B w w' b (fx (tx x id mem) id) []) := fun W h => free_at id 0 y6 rfl h
          have i23 : ∀ W, LX B w W b (fx (tx x id mem) id) [] → Calls Try.prog 23 #[ptr b, .int .i64 k] W fun e w' => e = .returned (.tuple #[.int .i64 (atI (fx (tx x id mem) id) k), .bool false]) ∧ Hid (LX B w w' b (fx (tx x id mem) id) []) := fun W h => at_at k _ false rfl y7 h
          have i18 : ∀ W, LX B w W b (fx (tx x id mem) id) [] → Calls Try.prog 18 #[ptr b] W fun e w' => e = .returned (.int .i64 (us x.P 16)) ∧ Hid (LX B w w' b (fx (tx x id mem) id) []) := fun W h => used_at _ y8 h
          have i21 : ∀ W, LX B w W b (fx (tx x id mem) id) [] → Calls Try.prog 21 #[ptr b] W fun e w' => e = .returned (.int .i64 (M.free x)) ∧ Hid (LX B w w' b (fx (tx x id mem) id) []) := fun W h => slots_at _ y9 h
          generalize us (tx x id mem).P 16 = U2 at *
          generalize M.free (tx x id mem) = F2 at *
          generalize atI (fx (tx x id mem) id) k = Z at *
          generalize fx (tx x id mem) id = Y at *
          generalize tx x id mem = X at *
          generalize us x.P 16 = U at *
          generalize M.free x = F at *
          have v1 : IntKind.i64.wrap (U + mem) = U2 := by rw [IntKind.wrap_i64]; omega
          have v2 : wrap64 (U + mem) = U2 := by rw [← v1, IntKind.wrap_i64]; unfold wrap64; omega
          have v4 : IntKind.i64.wrap (F - 1) = F2 := by rw [IntKind.wrap_i64]; omega
          have v5 : wrap64 (F - 1) = F2 := by rw [← v4, IntKind.wrap_i64]; unfold wrap64; omega
          have z1 : ((k : Int) != k) = false := by simp
          have z2 : (k != k) = false := by simp
          have z3 : (U2 != U2) = false := by simp
          have z4 : (F2 != F2) = false := by simp
          have z5 : (U == U) = true := by simp
          have z6 : (F == F) = true := by simp
          have hk16 : (k : Int) < 16 := by omega
          clear h0 y0 y1 y2 y3 y4 y5 y6 y7 y8 y9 hin hin2 hus hbM hfr hu2 hb2 HB
          go_wp2_with (go_at_call 16; refine (k16 _ s.out).mono ?_; rintro e w3 ⟨rfl, s3⟩; refine Hid.out ?_)
          refine hide_it ?_
          go_wp2_with (go_at_call 18; refine (k18 _ s3.out).mono ?_; rintro e w4 ⟨rfl, s4⟩; refine Hid.out ?_)
          refine hide_it ?_
          go_wp2_with (go_at_call 21; refine (k21 _ s4.out).mono ?_; rintro e w5 ⟨rfl, s5⟩; refine Hid.out ?_)
          refine hide_it ?_
          go_wp2_with (go_at_call 12; refine (k12 _ s5.out).mono ?_; rintro e w6 ⟨rfl, s6⟩; refine Hid.out ?_)
          refine hide_it ?_
          go_wp2_with (go_at_call 16; refine (j16 _ s6.out).mono ?_; rintro e w7 ⟨rfl, s7⟩; refine Hid.out ?_)
          refine hide_it ?_
          go_wp2_with (go_at_call 18; refine (j18 _ s7.out).mono ?_; rintro e w8 ⟨rfl, s8⟩; refine Hid.out ?_)
          refine hide_it ?_
          go_wp2_with (go_at_call 21; refine (j21 _ s8.out).mono ?_; rintro e w9 ⟨rfl, s9⟩; refine Hid.out ?_)
          refine hide_it ?_
          go_wp2_with (go_at_call 14; refine (j14 _ s9.out).mono ?_; rintro e w10 ⟨rfl, s10⟩; refine Hid.out ?_)
          refine hide_it ?_
          go_wp2_with (go_at_call 23; refine (i23 _ s10.out).mono ?_; rintro e w11 ⟨rfl, s11⟩; refine Hid.out ?_)
          refine hide_it ?_
          go_wp2_with (go_at_call 18; refine (i18 _ s11.out).mono ?_; rintro e w12 ⟨rfl, s12⟩; refine Hid.out ?_)
          refine hide_it ?_
          go_wp2_with (go_at_call 21; refine (i21 _ s12.out).mono ?_; rintro e w13 ⟨rfl, s13⟩)
          go_ret
          exact ⟨rfl, s13.out.bel⟩
        · obtain ⟨y1, y2⟩ := ba_no h0
          rw [y1, y2] at k12
          have e1 : (((te x id mem : Nat) : Int) == 0) = false := by simp; omega
          have e2 : (((te x id mem : Nat) : Int) != 0) = true := by simp; omega
          generalize ((te x id mem : Nat) : Int) = E at *
          generalize us x.P 16 = U at *
          generalize M.free x = F at *
          generalize (((slo x id).getD 0 : Nat) : Int) = Q at *
          generalize (slo x id).isSome = hs at *
          have z5 : (U == U) = true := by simp
          have z6 : (F == F) = true := by simp
          clear h0 y1 y2 hin hus hbM hfr HB
          cases hs with
          | true =>
            go_wp2_with (go_at_call 16; refine (k16 _ s.out).mono ?_; rintro e w3 ⟨rfl, s3⟩; refine Hid.out ?_)
            refine hide_it ?_
            go_wp2_with (go_at_call 18; refine (k18 _ s3.out).mono ?_; rintro e w4 ⟨rfl, s4⟩; refine Hid.out ?_)
            refine hide_it ?_
            go_wp2_with (go_at_call 21; refine (k21 _ s4.out).mono ?_; rintro e w5 ⟨rfl, s5⟩; refine Hid.out ?_)
            refine hide_it ?_
            go_wp2_with (go_at_call 12; refine (k12 _ s5.out).mono ?_; rintro e w6 ⟨rfl, s6⟩; refine Hid.out ?_)
            refine hide_it ?_
            go_wp2_with (go_at_call 18; refine (k18 _ s6.out).mono ?_; rintro e w7 ⟨rfl, s7⟩; refine Hid.out ?_)
            refine hide_it ?_
            go_wp2_with (go_at_call 21; refine (k21 _ s7.out).mono ?_; rintro e w8 ⟨rfl, s8⟩)
            go_ret
            exact ⟨rfl, s8.out.bel⟩
          | false =>
            go_wp2_with (go_at_call 16; refine (k16 _ s.out).mono ?_; rintro e w3 ⟨rfl, s3⟩; refine Hid.out ?_)
            refine hide_it ?_
            go_wp2_with (go_at_call 18; refine (k18 _ s3.out).mono ?_; rintro e w4 ⟨rfl, s4⟩; refine Hid.out ?_)
            refine hide_it ?_
            go_wp2_with (go_at_call 21; refine (k21 _ s4.out).mono ?_; rintro e w5 ⟨rfl, s5⟩; refine Hid.out ?_)
            refine hide_it ?_
            go_wp2_with (go_at_call 12; refine (k12 _ s5.out).mono ?_; rintro e w6 ⟨rfl, s6⟩; refine Hid.out ?_)
            refine hide_it ?_
            go_wp2_with (go_at_call 18; refine (k18 _ s6.out).mono ?_; rintro e w7 ⟨rfl, s7⟩; refine Hid.out ?_)
            refine hide_it ?_
            go_wp2_with (go_at_call 21; refine (k21 _ s7.out).mono ?_; rintro e w8 ⟨rfl, s8⟩)
            go_ret
            exact ⟨rfl, s8.out.bel⟩
end Go.Proofs.Ytkcbigmccplpiaa
