/- LedgerFits, walked. -/
import Derived.Test.YtkcbigmccplpiaaSho
import Derived.Test.YtkcbigmccplpiaaArg
import Derived.Deep.RegionHeld3
import Derived.Deep.CutRange
import Derived.Deep.CutBlock
import Derived.BigQuiet
namespace Go.Proofs.Ytkcbigmccplpiaa
open Go.RowKit
open M
set_option linter.unusedVariables false
set_option linter.unusedSimpArgs false

/-- A ledger whose lowest n slots are held by ids below i. -/
structure FI (BU : Int) (x : Lg) (i n : Nat) : Prop where
  inv : Inv x
  bu : x.bu = BU
  n16 : x.n = 16
  held : ∀ k, (x.P k).t = true ↔ k < n
  ids : ∀ k, (x.P k).t = true → (x.P k).i < i
  ni : n ≤ i
  tkn : tk x.P 16 = n
theorem fi_new {BU : Int} (h : Inv ⟨BU, 16, fun _ => no⟩) : FI BU ⟨BU, 16, fun _ => no⟩ 0 0 :=
  ⟨h, rfl, rfl, fun k => by simp [no], fun k hk => by simp [no] at hk, Nat.le_refl _, rfl⟩
section
variable {BU : Int} {x : Lg} {i n : Nat}
theorem FI.slo (h : FI BU x i n) : slo x i = none := by
  refine low1_none.2 fun k hk => ?_
  cases hp : hasI x i k with
  | false => rfl
  | true =>
    simp [hasI] at hp
    have := h.ids k hp.1
    omega
theorem FI.low (h : FI BU x i n) (hi : i < 16) : low x = some n := by
  have := h.ni
  refine low1_some.2 ⟨by rw [h.n16]; omega, ?_, fun j hj => ?_⟩
  · have := (h.held n)
    cases hp : (x.P n).t with
    | false => rfl
    | true => have := this.1 hp; omega
  · rw [(h.held j).2 hj]; rfl
theorem FI.big (h : FI BU x i n) {m : Nat} (hm : BU < m) : te x i m = 5 ∧ ts x i m = 0 ∧ tx x i m = x := by
  have e : te x i m = 5 := te_big (by omega) (by rw [h.bu]; exact hm)
  exact ⟨e, by unfold ts; rw [if_neg (by omega)], by unfold tx; rw [if_neg (by omega)]⟩
theorem FI.full (h : FI BU x i n) {m : Nat} (hm : ¬ BU < m) (hr : room x < m) : te x i m = 4 ∧ ts x i m = 0 ∧ tx x i m = x := by
  have e : te x i m = 4 := te_full (by omega) (by rw [h.bu]; exact hm) (by rw [h.slo]; rfl) (.inr hr)
  exact ⟨e, by unfold ts; rw [if_neg (by omega)], by unfold tx; rw [if_neg (by omega)]⟩
theorem FI.up (h : FI BU x i n) : FI BU x (i + 1) n := ⟨h.inv, h.bu, h.n16, h.held, fun k hk => by have := h.ids k hk; omega, by have := h.ni; omega, h.tkn⟩
theorem FI.good (h : FI BU x i n) (hi : i < 16) {m : Nat} (hm : ¬ BU < m) (hr : ¬ room x < m) : te x i m = 0 ∧ ts x i m = n ∧ FI BU (tx x i m) (i + 1) (n + 1) ∧ room (tx x i m) = room x - m := by
  have hl := h.low hi
  have e : te x i m = 0 := te_good (by omega) (by rw [h.bu]; exact hm) (by rw [h.slo]; rfl) (by rw [hl]; simpa using hr)
  have e2 : tx x i m = ⟨x.bu, x.n, setP x.P n ⟨true, i, m⟩⟩ := by unfold tx; rw [if_pos e, hl]; rfl
  have hinv := h.inv.take i m
  have hn := h.ni
  have hf : (x.P n).t = false := (low_lt hl).2.1
  refine ⟨e, by unfold ts; rw [if_pos e, hl]; rfl, ?_, ?_⟩
  · rw [e2] at hinv ⊢
    refine ⟨hinv, h.bu, h.n16, fun k => ?_, fun k hk => ?_, by omega, ?_⟩
    · by_cases q : k = n
      · subst q; simp [setP_same]
      · simp only [setP_other _ _ q]
        rw [h.held k]; omega
    · by_cases q : k = n
      · subst q; simp [setP_same]; omega
      · simp only [setP_other _ _ q] at hk ⊢
        have := h.ids k hk
        omega
    · have := tk_set x.P n ⟨true, i, m⟩ 16 (by omega)
      rw [hf, h.tkn] at this
      simpa using this
  · rw [e2]
    unfold room
    simp only
    rw [us_set, if_pos (by omega), (h.inv.off n hf).2]
    simp only
    omega
end

set_option maxRecDepth 1000000 in
set_option maxHeartbeats 8000000 in
theorem ledgerFits_walk (bu : Int) (l : List Int) (a : Option Addr) (cap : Nat) (w : World) (hI : NumsIn .i64 w a l) (hl : l.length ≤ cap) (hc : cap ≤ maxLen) (hb : ∀ y ∈ l, (Lit.int .i64 y).wf = true) :
    Calls Try.prog 7 #[.int .i64 bu, .slice a l.length cap] w fun e w' => e = .returned (.bool true) ∧ Below w.heap.size w w' := by
  obtain ⟨B, hB⟩ : ∃ B, w.heap.size = B := ⟨_, rfl⟩
  have ks : Calls Try.prog 10 #[] w fun e w' => e = .returned (.bool true) ∧ Hid (Below B w w') := by
    have := shown_any w
    rw [hB] at this
    exact this
  have hlo : B ≤ w.heap.size := by omega
  obtain ⟨BU, e20, hBU⟩ := and20 bu
  have kn : ∀ W, Below B w W → Calls Try.prog 11 #[.int .i64 BU, .int .i64 16] W fun e w' => ∃ b, e = .returned (ptr b) ∧ Hid (LX B w w' b ⟨BU, 16, fun _ => no⟩ []) := fun W hb => new_any hb hlo BU 16 (by omega) BU 16 (by omega) (by decide)
  have hcm : cap ≤ 9223372036854775807 := by unfold maxLen at hc; omega
  obtain ⟨m, hm⟩ : ∃ m, l.length = m := ⟨_, rfl⟩
  have HJ : Hid (∀ (i : Nat), i < m → ∃ (z : Int) (c : Nat) (o : Nat), a = some ⟨c, o, none⟩ ∧ ∀ W, Below B w W → W.cell? ⟨c, o + i, none⟩ = some (.int .i64 z)) := fun i hi => by
    have hil : i < l.length := by omega
    obtain ⟨c, o, h1, h2, h3⟩ := hI i hil
    exact ⟨l[i], c, o, h1, fun W q => by rw [(hB ▸ q : Below w.heap.size w W).cell (p := ⟨c, _, none⟩) h2]; exact h3⟩
  rw [hm] at hl ⊢
  rw [hB]
  clear hB hI hc hm hb hlo
  go_enter Try.func7, Try.ntmps7
  go_wp2_with (first | (go_at_call 10; refine ks.mono ?_; rintro e w1 ⟨rfl, s1⟩; clear ks) | (go_at_call 11; refine (kn _ s1.out).mono ?_; rintro e w2 ⟨b, rfl, s⟩; clear kn s1))
  go_loopw [9, 7, 8] (fun iv lv nv W => ∃ (i n : Nat) (x : Lg) (L : Int), iv = .int .i64 i ∧ lv = .int .i64 L ∧ nv = .int .i64 n ∧ i ≤ m ∧ i ≤ 16 ∧ Hid (LX B w W b x []) ∧ Hid (FI BU x i n) ∧ Hid (room x = L)) (fun iv _ _ _ => m - (intOf iv).toNat)
  case atStart => exact ⟨0, 0, _, _, rfl, rfl, rfl, Nat.zero_le _, by omega, s, fi_new s.out.inv, by simp [Hid, room, us, no]⟩
  case round =>
    clear s
    obtain ⟨i, n, x, L, rfl, rfl, rfl, hi, hi2, s, HF, HL⟩ := hrel
    by_cases hgo : i < m ∧ i < 16
    · obtain ⟨hlt, hlt2⟩ := hgo
      have h16 : decide ((i : Int) < 16) = true := decide_eq_true (by omega)
      have h16' : decide (i < 16) = true := decide_eq_true (by omega)
      obtain ⟨z, c, o, rfl, HX⟩ := HJ.out i hlt
      have c0 := HX _ s.out.bel
      obtain ⟨v, e21, hv⟩ := and21 z
      have k12 := take_any s.out i v
      have hus := HF.out.inv.usP (k := 16) (by omega)
      have hrm : room x = (BU : Int) - us x.P 16 := by unfold room; rw [HF.out.bu]
      have hrb : 0 ≤ room x ∧ room x ≤ (BU : Int) := by have := HF.out.bu; omega
      have hni := HF.out.ni
      have GO : ∀ (X : Lg) (E n' : Nat), FI BU X (i + 1) n' → Hid ((∀ W, LX B w W b X [] → Calls Try.prog 20 #[ptr b] W fun e w' => e = .returned (.int .i64 (room X)) ∧ Hid (LX B w w' b X [])) ∧ (∀ W, LX B w W b X [] → Calls Try.prog 18 #[ptr b] W fun e w' => e = .returned (.int .i64 ((BU : Int) - room X)) ∧ Hid (LX B w w' b X [])) ∧ (∀ W, LX B w W b X [] → Calls Try.prog 21 #[ptr b] W fun e w' => e = .returned (.int .i64 (16 - (n' : Int))) ∧ Hid (LX B w w' b X []))) := fun X E n' hX => by
        refine ⟨fun W h => room_any h, fun W h => used_at _ ?_ h, fun W h => slots_at _ ?_ h⟩
        · have := hX.bu; unfold room; omega
        · have := hX.n16; have := hX.tkn; unfold M.free; omega
      have hL := HL.out
      have hnb : (n : Int) ≤ 16 := by omega
      have hBU' : (BU : Int) < 1048576 := by omega
      have hv' : (v : Int) < 2097152 := by omega
      rw [hL] at hrb
      obtain ⟨hr0, hr1⟩ := hrb
      have z1 : ((n : Int) != n) = false := by simp
      have z2 : (n != n) = false := by simp
      have z3 : (L != L) = false := by simp
      by_cases hbig : (BU : Int) < v
      · obtain ⟨f1, f2, f3⟩ := HF.out.big hbig
        rw [f1, f2, f3] at k12
        have HF2 := hide_it HF.out.up
        obtain ⟨g1, g2, g3⟩ := (GO x 5 n HF.out.up).out
        rw [hL] at g1 g2
        have d1 : decide (L < (v : Int)) = true := by simp; omega
        have d2 : decide ((BU : Int) < v) = true := by simpa using hbig
        have d3 : decide (BU < v) = true := by simp; omega
        clear f1 f2 f3 HF GO hbig hrm hus hL HJ HX
        go_wp2_with (first | (go_at_call 12; refine k12.mono ?_; rintro e w3 ⟨rfl, s3⟩) | (go_at_call 20; refine (g1 _ s3.out).mono ?_; rintro e w4 ⟨rfl, s4⟩) | (go_at_call 18; refine (g2 _ s4.out).mono ?_; rintro e w5 ⟨rfl, s5⟩) | (go_at_call 21; refine (g3 _ s5.out).mono ?_; rintro e w6 ⟨rfl, s6⟩))
        go_roundw
        case rel => exact ⟨i + 1, n, x, L, by go_num, rfl, by go_num, by omega, by omega, s6, HF2, HL⟩
        case measure => simp [intOf]; omega
      · by_cases hful : room x < v
        · obtain ⟨f1, f2, f3⟩ := HF.out.full hbig hful
          rw [f1, f2, f3] at k12
          have HF2 := hide_it HF.out.up
          obtain ⟨g1, g2, g3⟩ := (GO x 4 n HF.out.up).out
          rw [hL] at g1 g2 hful
          have d1 : decide (L < (v : Int)) = true := by simpa using hful
          have d2 : decide ((BU : Int) < v) = false := by simpa using hbig
          have d3 : decide (BU < v) = false := by simp; omega
          clear f1 f2 f3 HF GO hbig hful hrm hus hL HJ HX
          go_wp2_with (first | (go_at_call 12; refine k12.mono ?_; rintro e w3 ⟨rfl, s3⟩) | (go_at_call 20; refine (g1 _ s3.out).mono ?_; rintro e w4 ⟨rfl, s4⟩) | (go_at_call 18; refine (g2 _ s4.out).mono ?_; rintro e w5 ⟨rfl, s5⟩) | (go_at_call 21; refine (g3 _ s5.out).mono ?_; rintro e w6 ⟨rfl, s6⟩))
          go_roundw
          case rel => exact ⟨i + 1, n, x, L, by go_num, rfl, by go_num, by omega, by omega, s6, HF2, HL⟩
          case measure => simp [intOf]; omega
        · obtain ⟨f1, f2, f3, f4⟩ := HF.out.good hlt2 hbig hful
          rw [f1, f2] at k12
          obtain ⟨g1, g2, g3⟩ := (GO _ 0 (n + 1) f3).out
          have HF2 := hide_it f3
          obtain ⟨L2, hL2⟩ : ∃ L2, L - (v : Int) = L2 := ⟨_, rfl⟩
          rw [hL, hL2] at f4
          have hwL : IntKind.i64.wrap (L - v) = L2 := by rw [IntKind.wrap_i64]; omega
          rw [hL] at hful
          have hL20 : 0 ≤ L2 ∧ L2 ≤ (BU : Int) := by omega
          obtain ⟨hq0, hq1⟩ := hL20
          have HL2 := hide_it f4
          rw [f4] at g1 g2
          generalize tx x i v = X at *
          have d1 : decide (L < (v : Int)) = false := by simpa using hful
          have d2 : decide ((BU : Int) < v) = false := by simpa using hbig
          have d3 : decide (BU < v) = false := by simp; omega
          have z4 : (L2 != L2) = false := by simp
          have hww : wrap64 (L - v) = L2 := by rw [← hwL, IntKind.wrap_i64]; unfold wrap64; omega
          clear f1 f2 f3 f4 HF GO hbig hful hrm hus hL HJ HX
          go_wp2_with (first | (go_at_call 12; refine k12.mono ?_; rintro e w3 ⟨rfl, s3⟩) | (go_at_call 20; refine (g1 _ s3.out).mono ?_; rintro e w4 ⟨rfl, s4⟩) | (go_at_call 18; refine (g2 _ s4.out).mono ?_; rintro e w5 ⟨rfl, s5⟩) | (go_at_call 21; refine (g3 _ s5.out).mono ?_; rintro e w6 ⟨rfl, s6⟩))
          go_roundw
          case rel => exact ⟨i + 1, n + 1, X, L2, by go_num, by go_num, by go_num, by omega, by omega, s6, HF2, HL2⟩
          case measure => simp [intOf]; omega
    · by_cases hlt : i < m
      · have d1 : decide ((i : Int) < 16) = false := by simp; omega
        have d2 : decide (i < 16) = false := by simp; omega
        clear HF HJ
        go_wp2
        go_ret
        exact ⟨rfl, s.out.bel⟩
      · have d1 : decide ((i : Int) < m) = false := by simp; omega
        have d2 : decide (i < m) = false := by simp; omega
        clear HF HJ
        go_wp2
        go_ret
        exact ⟨rfl, s.out.bel⟩
end Go.Proofs.Ytkcbigmccplpiaa
