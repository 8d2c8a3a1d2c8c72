/- LedgerPlays, walked. -/
import Derived.Test.YtkcbigmccplpiaaSho
import Derived.Test.YtkcbigmccplpiaaArg
import Derived.Test.YtkcbigmccplpiaaPla
import Derived.Deep.RegionHeld3
import Derived.Deep.CutRange
import Derived.Deep.CutBlock
import Derived.BigQuiet
namespace Go.Proofs.Ytkcbigmccplpiaa
open Go.RowKit
open M
set_option linter.unusedVariables false
set_option linter.unusedSimpArgs false

theorem kinds4 (k : Int) : k = 1 ∨ k = 2 ∨ k = 3 ∨ ((k == 1) = false ∧ (k == 2) = false ∧ (k == 3) = false) := by
  by_cases h1 : k = 1
  · exact .inl h1
  · by_cases h2 : k = 2
    · exact .inr (.inl h2)
    · by_cases h3 : k = 3
      · exact .inr (.inr (.inl h3))
      · exact .inr (.inr (.inr ⟨by simp [h1], by simp [h2], by simp [h3]⟩))

set_option maxRecDepth 1000000 in
set_option maxHeartbeats 8000000 in
theorem ledgerPlays_walk (bu sl : Int) (l : List (Int × Int × Int)) (a : Option Addr) (cap : Nat) (w : World) (hbu : -9223372036854775808 ≤ bu ∧ bu ≤ 9223372036854775807) (hI : StepsIn w a l) (hl : l.length ≤ cap) (hc : cap ≤ maxLen) (hb : ∀ t ∈ l, i64B t.1 ∧ i64B t.2.1 ∧ i64B t.2.2) :
    Calls Try.prog 3 #[.int .i64 bu, .int .i64 sl, .slice a l.length cap] w fun e w' => e = .returned (.bool true) ∧ Below w.heap.size w w' := by
  obtain ⟨B, hB⟩ : ∃ B, w.heap.size = B := ⟨_, rfl⟩
  have ks : Calls Try.prog 10 #[] w fun e w' => e = .returned (.bool true) ∧ Hid (Below B w w') := by
    have := shown_any w
    rw [hB] at this
    exact this
  have hlo : B ≤ w.heap.size := by omega
  obtain ⟨BU, hBU⟩ : ∃ N, max bu 0 = N := ⟨_, rfl⟩
  obtain ⟨n0, hn0⟩ : ∃ n : Nat, min (max sl 0) 16 = (n : Int) := ⟨(min (max sl 0) 16).toNat, by omega⟩
  have kn : ∀ W, Below B w W → Calls Try.prog 11 #[.int .i64 bu, .int .i64 sl] W fun e w' => ∃ b, e = .returned (ptr b) ∧ Hid (LX B w w' b ⟨BU, n0, fun _ => no⟩ []) := fun W hb => new_any hb hlo bu sl hbu.2 BU n0 hBU hn0
  have hcm : cap ≤ 9223372036854775807 := by unfold maxLen at hc; omega
  obtain ⟨m, hm⟩ : ∃ m, l.length = m := ⟨_, rfl⟩
  have HI : Hid (∀ (i : Nat), i < m → ∃ x y z b o, a = some ⟨b, o, none⟩ ∧ ∀ W, Below B w W → W.cell? ⟨b, o + i * 3, none⟩ = some (.int .i64 x) ∧ W.cell? ⟨b, o + i * 3 + 1, none⟩ = some (.int .i64 y) ∧ W.cell? ⟨b, o + i * 3 + 2, none⟩ = some (.int .i64 z)) := fun i hi => by
    have := hI.get (i := i) (by omega)
    rw [hB] at this
    exact this
  rw [hm] at hl ⊢
  rw [hB]
  have m1 : ∀ ts u W, (Builtin.max_ ts u #[.int .i64 bu, .int .i64 0]).run Try.prog W = .ok (.int .i64 BU) W := fun ts u W => by rw [← hBU]; exact max_num _ _ ts u W
  have HBU := hide_it hBU
  have HN0 := hide_it hn0
  clear hB hI hc hm hlo hb hn0 hBU hbu
  go_enter Try.func3, Try.ntmps3
  go_wp2_with (first | (go_at_call 10; refine ks.mono ?_; rintro e w1 ⟨rfl, s1⟩; clear ks) | (go_at_call 11; refine (kn _ s1.out).mono ?_; rintro e w2 ⟨b, rfl, s⟩; clear kn s1))
  have s0 := hide_it (px_start (s.out.alloc (.cells #[.int .i64 bu, .int .i64 sl, .slice none 0 0] 29)))
  obtain ⟨rb, hrb⟩ : ∃ r, w2.heap.size = r := ⟨_, rfl⟩
  rw [hrb] at s0
  simp only [hrb]
  clear hrb s
  generalize w2.alloc (.cells #[.int .i64 bu, .int .i64 sl, .slice none 0 0] 29) = w3 at *
  go_loopw [10] (fun iv W => ∃ (i : Nat) (x : Lg) (L : List It), iv = .int .i64 i ∧ i ≤ m ∧ i ≤ 200 ∧ Hid (PX B w W b x rb bu sl L []) ∧ Hid (RS x L) ∧ Hid (x.bu = BU ∧ x.n = n0)) (fun iv _ => m - (intOf iv).toNat)
  case atStart => exact ⟨0, _, _, rfl, Nat.zero_le _, by omega, s0, rs_new _ _, rfl, rfl⟩
  case round =>
    clear s0
    obtain ⟨i, x, L, rfl, hi, hi2, s, HS, HB⟩ := hrel
    by_cases hgo : i < m ∧ i < 200
    · obtain ⟨hlt, hlt2⟩ := hgo
      have h16 : decide ((i : Int) < 200) = true := decide_eq_true (by omega)
      have h16' : decide (i < 200) = true := decide_eq_true (by omega)
      obtain ⟨kd, y, z, c, o, rfl, HX⟩ := HI.out i hlt
      obtain ⟨c0, c1, c2⟩ := HX _ s.out.lx.bel
      have sB := hide_it (s.out.alloc (.cells #[.int .i64 kd, .int .i64 y, .int .i64 z] 31))
      clear s HX HI
      go_upto_block 2 with fail
      obtain ⟨sb, hsb⟩ : ∃ r, wr.heap.size = r := ⟨_, rfl⟩
      rw [hsb] at sB
      simp only [hsb]
      clear hsb c0 c1 c2
      generalize wr.alloc (.cells #[.int .i64 kd, .int .i64 y, .int .i64 z] 31) = w5 at *
      have HC : Hid (∀ W X L, PX B w W b X rb bu sl L [(sb, .cells #[.int .i64 kd, .int .i64 y, .int .i64 z] 31)] → W.cell? ⟨sb, 1, none⟩ = some (.int .i64 y) ∧ W.cell? ⟨sb, 2, none⟩ = some (.int .i64 z)) := fun W X L h => by
        have hr := (h.lx.row _ (List.mem_singleton.2 rfl)).1
        exact ⟨by rw [cell_of_row W sb 1 _ _ _ hr]; rfl, by rw [cell_of_row W sb 2 _ _ _ hr]; rfl⟩
      obtain ⟨d1, d2⟩ := HC.out _ _ _ sB.out
      have hin := sB.out.lx.inv
      go_cut [12, 13, 14, 15, 16] from 52 to 165 (fun s12 _ _ _ _ wx => s12 = .bool true ∧ ∃ (X : Lg) (L' : List It), Hid (PX B w wx b X rb bu sl L' [(sb, .cells #[.int .i64 kd, .int .i64 y, .int .i64 z] 31)]) ∧ Hid (RS X L') ∧ Hid (X.bu = BU ∧ X.n = n0))
      case first =>
        rcases kinds4 kd with hx | hx | hx | ⟨k1, k2, k3⟩
        ·
          have k1 : (kd == 1) = true := by simp [hx]
          have kp : Calls Try.prog 12 #[ptr b, .int .i64 y, .int .i64 z] w5 fun e w' => e = .returned (.tuple #[.int .i64 (ts x y z : Nat), .int .i64 (te x y z : Nat)]) ∧ Hid (PX B w w' b (tx x y z) rb bu sl L [(sb, .cells #[.int .i64 kd, .int .i64 y, .int .i64 z] 31)]) := sB.out.own (p := fun e => e = .returned (.tuple #[.int .i64 (ts x y z : Nat), .int .i64 (te x y z : Nat)])) (fun R' h => take_any h y z)
          have HLt := HS.out.take_any hin y z
          have kr : ∀ W X, PX B w W b X rb bu sl L [(sb, .cells #[.int .i64 kd, .int .i64 y, .int .i64 z] 31)] → Calls Try.prog 13 #[ptr rb, .int .i64 y, .int .i64 z] W fun e w' => e = .returned (.tuple #[.int .i64 (ts x y z : Nat), .int .i64 (te x y z : Nat)]) ∧ Hid (PX B w w' b X rb bu sl (if te x y z = 0 then L ++ [(y, (ts x y z : Int), z)] else L) [(sb, .cells #[.int .i64 kd, .int .i64 y, .int .i64 z] 31)]) := fun W X h => ref_take h HS.out hin (by rw [HB.out.1]; exact HBU.out) (by rw [HB.out.2]; exact HN0.out) y z
          have HB2 : Hid ((tx x y z).bu = BU ∧ (tx x y z).n = n0) := tx_keeps HB.out
          have HS2 := hide_it HLt
          clear HLt
          generalize (if te x y z = 0 then L ++ [(y, (ts x y z : Int), z)] else L) = L2 at *
          generalize tx x y z = X at *
          generalize ((te x y z : Nat) : Int) = E at *
          generalize ((ts x y z : Nat) : Int) = V at *
          have e1 : (E == E) = true := by simp
          have e2 : (V == V) = true := by simp
          clear hx HS HB hin
          go_wp2_with (go_at_call 12; refine kp.mono ?_; rintro e w6 ⟨rfl, t6⟩; obtain ⟨d3, d4⟩ := HC.out _ _ _ t6.out; refine Hid.out ?_)
          refine hide_it ?_
          go_wp2_with (go_at_call 13; refine (kr _ _ t6.out).mono ?_; rintro e w7 ⟨rfl, t7⟩)
          all_goals
            go_meet
            exact ⟨rfl, X, L2, t7.out, HS2.out, HB2.out⟩
        ·
          have k1 : (kd == 1) = false := by simp [hx]
          have k2 : (kd == 2) = true := by simp [hx]
          have kp : Calls Try.prog 12 #[ptr b, .int .i64 y, .int .i64 z] w5 fun e w' => e = .returned (.tuple #[.int .i64 (ts x y z : Nat), .int .i64 (te x y z : Nat)]) ∧ Hid (PX B w w' b (tx x y z) rb bu sl L [(sb, .cells #[.int .i64 kd, .int .i64 y, .int .i64 z] 31)]) := sB.out.own (p := fun e => e = .returned (.tuple #[.int .i64 (ts x y z : Nat), .int .i64 (te x y z : Nat)])) (fun R' h => take_any h y z)
          have HLt := HS.out.take_any hin y z
          have kr : ∀ W X, PX B w W b X rb bu sl L [(sb, .cells #[.int .i64 kd, .int .i64 y, .int .i64 z] 31)] → Calls Try.prog 13 #[ptr rb, .int .i64 y, .int .i64 z] W fun e w' => e = .returned (.tuple #[.int .i64 (ts x y z : Nat), .int .i64 (te x y z : Nat)]) ∧ Hid (PX B w w' b X rb bu sl (if te x y z = 0 then L ++ [(y, (ts x y z : Int), z)] else L) [(sb, .cells #[.int .i64 kd, .int .i64 y, .int .i64 z] 31)]) := fun W X h => ref_take h HS.out hin (by rw [HB.out.1]; exact HBU.out) (by rw [HB.out.2]; exact HN0.out) y z
          have HB2 : Hid ((tx x y z).bu = BU ∧ (tx x y z).n = n0) := tx_keeps HB.out
          have HS2 := hide_it HLt
          clear HLt
          generalize (if te x y z = 0 then L ++ [(y, (ts x y z : Int), z)] else L) = L2 at *
          generalize tx x y z = X at *
          generalize ((te x y z : Nat) : Int) = E at *
          generalize ((ts x y z : Nat) : Int) = V at *
          have e1 : (E == E) = true := by simp
          have e2 : (V == V) = true := by simp
          clear hx HS HB hin
          go_wp2_with (go_at_call 12; refine kp.mono ?_; rintro e w6 ⟨rfl, t6⟩; obtain ⟨d3, d4⟩ := HC.out _ _ _ t6.out; refine Hid.out ?_)
          refine hide_it ?_
          go_wp2_with (go_at_call 13; refine (kr _ _ t6.out).mono ?_; rintro e w7 ⟨rfl, t7⟩)
          all_goals
            go_meet
            exact ⟨rfl, X, L2, t7.out, HS2.out, HB2.out⟩
        ·
          have k1 : (kd == 1) = false := by simp [hx]
          have k2 : (kd == 2) = false := by simp [hx]
          have k3 : (kd == 3) = true := by simp [hx]
          have sD := hide_it (sB.out.below (w' := w5.drew) ((Below.refl _ _).drew))
          have kp : Calls Try.prog 14 #[ptr b, .int .i64 y] w5.drew fun e w' => e = .returned (.int .i64 (fe x y : Nat)) ∧ Hid (PX B w w' b (fx x y) rb bu sl L [(sb, .cells #[.int .i64 kd, .int .i64 y, .int .i64 z] 31)]) := sD.out.own (p := fun e => e = .returned (.int .i64 (fe x y : Nat))) (fun R' h => free_any h y)
          have HLt := HS.out.free hin y
          have kr : ∀ W X, PX B w W b X rb bu sl L [(sb, .cells #[.int .i64 kd, .int .i64 y, .int .i64 z] 31)] → Calls Try.prog 15 #[ptr rb, .int .i64 y] W fun e w' => e = .returned (.int .i64 (fe x y : Nat)) ∧ Hid (PX B w w' b X rb bu sl (rmL L y) [(sb, .cells #[.int .i64 kd, .int .i64 y, .int .i64 z] 31)]) := fun W X h => ref_free h HS.out hin y
          have HB2 : Hid ((fx x y).bu = BU ∧ (fx x y).n = n0) := fx_keeps HB.out
          have HS2 := hide_it HLt
          clear HLt
          generalize rmL L y = L2 at *
          generalize fx x y = X at *
          generalize ((fe x y : Nat) : Int) = E at *
          have e1 : (E == E) = true := by simp
          clear hx HS HB hin sB
          go_upto_region 18 with fail
          (go_region_held3 (fun V => V.cell? ⟨sb, 1, none⟩ = some (.int .i64 y)) (first | exact (HC.out _ _ _ t7.out).1 | exact (HC.out _ _ _ t6.out).1 | exact (HC.out _ _ _ sD.out).1 | go_keep) (first | (go_at_call 14; refine kp.mono ?_; rintro e w6 ⟨rfl, t6⟩) | (go_at_call 15; refine (kr _ _ t6.out).mono ?_; rintro e w7 ⟨rfl, t7⟩)))
          all_goals
            go_wp2
            go_meet
            exact ⟨rfl, X, L2, t7.out.below ⟨rfl, rfl, rfl, Nat.le_refl _, fun _ _ => rfl⟩, HS2.out, HB2.out⟩
        · go_wp2
          go_meet
          exact ⟨rfl, x, L, sB.out, HS.out, HB.out⟩
      case rest =>
        clear sB d1 d2 HS HB hin
        obtain ⟨hs12, X, L2, s6, HS, HB⟩ := hcut
        subst hs12
        obtain ⟨d1, d2⟩ := HC.out _ _ _ s6.out
        have hin := s6.out.lx.inv
        have kA : ∀ W, PX B w W b X rb bu sl L2 [(sb, .cells #[.int .i64 kd, .int .i64 y, .int .i64 z] 31)] → Calls Try.prog 16 #[ptr b, .int .i64 y] W fun e w' => e = .returned (.tuple #[.int .i64 ((slo X y).getD 0 : Nat), .bool (slo X y).isSome]) ∧ Hid (PX B w w' b X rb bu sl L2 [(sb, .cells #[.int .i64 kd, .int .i64 y, .int .i64 z] 31)]) := fun W h => h.own (p := fun e => e = .returned (.tuple #[.int .i64 ((slo X y).getD 0 : Nat), .bool (slo X y).isSome])) (fun R' h => slot_any h y)
        have kB : ∀ W, PX B w W b X rb bu sl L2 [(sb, .cells #[.int .i64 kd, .int .i64 y, .int .i64 z] 31)] → Calls Try.prog 17 #[ptr rb, .int .i64 y] W fun e w' => e = .returned (.tuple #[.int .i64 ((slo X y).getD 0 : Nat), .bool (slo X y).isSome]) ∧ Hid (PX B w w' b X rb bu sl L2 [(sb, .cells #[.int .i64 kd, .int .i64 y, .int .i64 z] 31)]) := fun W h => ref_slot h HS.out hin y
        have kC : ∀ W, PX B w W b X rb bu sl L2 [(sb, .cells #[.int .i64 kd, .int .i64 y, .int .i64 z] 31)] → Calls Try.prog 18 #[ptr b] W fun e w' => e = .returned (.int .i64 (us X.P 16)) ∧ Hid (PX B w w' b X rb bu sl L2 [(sb, .cells #[.int .i64 kd, .int .i64 y, .int .i64 z] 31)]) := fun W h => h.own (p := fun e => e = .returned (.int .i64 (us X.P 16))) (fun R' h => used_any h)
        have kD : ∀ W, PX B w W b X rb bu sl L2 [(sb, .cells #[.int .i64 kd, .int .i64 y, .int .i64 z] 31)] → Calls Try.prog 19 #[ptr rb] W fun e w' => e = .returned (.int .i64 (us X.P 16)) ∧ Hid (PX B w w' b X rb bu sl L2 [(sb, .cells #[.int .i64 kd, .int .i64 y, .int .i64 z] 31)]) := fun W h => ref_used h HS.out hin
        have kE : ∀ W, PX B w W b X rb bu sl L2 [(sb, .cells #[.int .i64 kd, .int .i64 y, .int .i64 z] 31)] → Calls Try.prog 20 #[ptr b] W fun e w' => e = .returned (.int .i64 (room X)) ∧ Hid (PX B w w' b X rb bu sl L2 [(sb, .cells #[.int .i64 kd, .int .i64 y, .int .i64 z] 31)]) := fun W h => h.own (p := fun e => e = .returned (.int .i64 (room X))) (fun R' h => room_any h)
        have kF : ∀ W, PX B w W b X rb bu sl L2 [(sb, .cells #[.int .i64 kd, .int .i64 y, .int .i64 z] 31)] → Calls Try.prog 21 #[ptr b] W fun e w' => e = .returned (.int .i64 (M.free X)) ∧ Hid (PX B w w' b X rb bu sl L2 [(sb, .cells #[.int .i64 kd, .int .i64 y, .int .i64 z] 31)]) := fun W h => h.own (p := fun e => e = .returned (.int .i64 (M.free X))) (fun R' h => slots_any h)
        have kG : ∀ W, PX B w W b X rb bu sl L2 [(sb, .cells #[.int .i64 kd, .int .i64 y, .int .i64 z] 31)] → Calls Try.prog 22 #[ptr rb] W fun e w' => e = .returned (.int .i64 (M.free X)) ∧ Hid (PX B w w' b X rb bu sl L2 [(sb, .cells #[.int .i64 kd, .int .i64 y, .int .i64 z] 31)]) := fun W h => ref_slots h HS.out hin (by rw [HB.out.2]; exact HN0.out)
        have kAt : Hid (∀ W (k : Int), PX B w W b X rb bu sl L2 [(sb, .cells #[.int .i64 kd, .int .i64 y, .int .i64 z] 31)] → (Calls Try.prog 23 #[ptr b, .int .i64 k] W fun e w' => e = .returned (.tuple #[.int .i64 (atI X k), .bool (atB X k)]) ∧ Hid (PX B w w' b X rb bu sl L2 [(sb, .cells #[.int .i64 kd, .int .i64 y, .int .i64 z] 31)])) ∧ ∀ W2, PX B w W2 b X rb bu sl L2 [(sb, .cells #[.int .i64 kd, .int .i64 y, .int .i64 z] 31)] → Calls Try.prog 24 #[ptr rb, .int .i64 k] W2 fun e w' => e = .returned (.tuple #[.int .i64 (atI X k), .bool (atB X k)]) ∧ Hid (PX B w w' b X rb bu sl L2 [(sb, .cells #[.int .i64 kd, .int .i64 y, .int .i64 z] 31)])) := fun W k h => ⟨h.own (p := fun e => e = .returned (.tuple #[.int .i64 (atI X k), .bool (atB X k)])) (fun R' h => at_any h k), fun W2 h2 => ref_at h2 HS.out hin k⟩
        have hus := hin.usP (k := 16) (by omega)
        have hbM := hin.bM
        have hrm : room X = BU - us X.P 16 := by unfold room; rw [HB.out.1]
        have hB1 := HB.out.1
        generalize us X.P 16 = U at *
        generalize room X = RM at *
        generalize M.free X = F at *
        generalize (((slo X y).getD 0 : Nat) : Int) = Z at *
        generalize (slo X y).isSome = C at *
        have v1 : IntKind.i64.wrap (BU - U) = RM := by rw [IntKind.wrap_i64]; omega
        have v2 : wrap64 (BU - U) = RM := by rw [← v1, IntKind.wrap_i64]; unfold wrap64; omega
        have z1 : (U != U) = false := by simp
        have z2 : (RM != RM) = false := by simp
        have z3 : (F != F) = false := by simp
        have z4 : (Z != Z) = false := by simp
        have z5 : (C != C) = false := by cases C <;> rfl
        have HF : Hid (∀ W, PX B w W b X rb bu sl L2 [(sb, .cells #[.int .i64 kd, .int .i64 y, .int .i64 z] 31)] → PX B w W b X rb bu sl L2 []) := fun W h => h.drop (fun p hp => by simp at hp)
        clear hus hbM hrm hB1 hin
        go_wp2_with (go_at_call 16; refine (kA _ s6.out).mono ?_; rintro e w20 ⟨rfl, s20⟩; obtain ⟨d1, d2⟩ := HC.out _ _ _ s20.out; refine Hid.out ?_)
        refine hide_it ?_
        go_wp2_with (go_at_call 17; refine (kB _ s20.out).mono ?_; rintro e w21 ⟨rfl, s21⟩; refine Hid.out ?_)
        refine hide_it ?_
        go_wp2_with (go_at_call 18; refine (kC _ s21.out).mono ?_; rintro e w22 ⟨rfl, s22⟩; refine Hid.out ?_)
        refine hide_it ?_
        go_wp2_with (go_at_call 19; refine (kD _ s22.out).mono ?_; rintro e w23 ⟨rfl, s23⟩; refine Hid.out ?_)
        refine hide_it ?_
        go_wp2_with (go_at_call 20; refine (kE _ s23.out).mono ?_; rintro e w24 ⟨rfl, s24⟩; refine Hid.out ?_)
        refine hide_it ?_
        go_wp2_with (go_at_call 19; refine (kD _ s24.out).mono ?_; rintro e w25 ⟨rfl, s25⟩; refine Hid.out ?_)
        refine hide_it ?_
        go_wp2_with (go_at_call 21; refine (kF _ s25.out).mono ?_; rintro e w26 ⟨rfl, s26⟩; refine Hid.out ?_)
        refine hide_it ?_
        go_wp2_with (go_at_call 22; refine (kG _ s26.out).mono ?_; rintro e w27 ⟨rfl, s27⟩)
        clear kA kB kC kD kE kF kG
        go_loopw [21] (fun kv W => ∃ k : Int, kv = .int .i64 k ∧ -1 ≤ k ∧ k ≤ 18 ∧ Hid (PX B w W b X rb bu sl L2 [(sb, .cells #[.int .i64 kd, .int .i64 y, .int .i64 z] 31)])) (fun kv _ => (18 - intOf kv).toNat)
        case atStart => exact ⟨-1, rfl, by omega, by omega, s27⟩
        case round =>
          obtain ⟨k, rfl, hk1, hk2, s⟩ := hrel
          by_cases hk : k < 18
          · have g1 : decide (k < 18) = true := decide_eq_true hk
            obtain ⟨q1, q2⟩ := kAt.out _ k s.out
            generalize atI X k = Q at *
            generalize atB X k = D at *
            have x1 : (Q != Q) = false := by simp
            have x2 : (D != D) = false := by cases D <;> rfl
            go_wp2_with (first | (go_at_call 23; refine q1.mono ?_; rintro e w13 ⟨rfl, s13⟩) | (go_at_call 24; refine (q2 _ s13.out).mono ?_; rintro e w14 ⟨rfl, s14⟩))
            go_roundw
            case rel => exact ⟨k + 1, by go_num, by omega, by omega, s14⟩
            case measure => simp [intOf]; omega
          · have g1 : decide (k < 18) = false := decide_eq_false hk
            go_wp2
            go_roundw
            case rel => exact ⟨i + 1, X, L2, by go_num, by omega, by omega, HF.out _ s.out, HS, HB⟩
            case measure => simp [intOf]; omega
    · by_cases hlt : i < m
      · have d1 : decide ((i : Int) < 200) = false := by simp; omega
        have d2 : decide (i < 200) = false := by simp; omega
        clear HI HB HS
        go_wp2
        go_ret
        exact ⟨rfl, s.out.lx.bel⟩
      · have d1 : decide ((i : Int) < m) = false := by simp; omega
        have d2 : decide (i < m) = false := by simp; omega
        clear HI HB HS
        go_wp2
        go_ret
        exact ⟨rfl, s.out.lx.bel⟩
end Go.Proofs.Ytkcbigmccplpiaa
