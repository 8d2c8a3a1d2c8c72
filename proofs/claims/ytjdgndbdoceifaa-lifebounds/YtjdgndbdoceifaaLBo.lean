/- LifeBounds, walked. -/
import Derived.Test.YtjdgndbdoceifaaSho
import Derived.Test.YtjdgndbdoceifaaArg
import Derived.Deep.RegionHeld3
import Derived.Deep.CutRange
import Derived.Deep.CutBlock
import Derived.BigQuiet
import Derived.Laws.StructEq
import Derived.Laws.Tables
import Derived.Laws.Cover2
namespace Go.Proofs.Ytjdgndbdoceifaa
open Go.RowKit
open M
set_option linter.unusedVariables false
set_option linter.unusedSimpArgs false

theorem eq36 (a b c d : Int) (w : World) : (Op.equalIn 10000 36 (.agg #[.int .i64 a, .int .i64 b, .int .i64 c, .int .i64 d]) (.agg #[.int .i64 a, .int .i64 b, .int .i64 c, .int .i64 d])).run Try.prog w = .ok true w := by
  have u3 := Try.underlying3
  have a3 := Try.isAgg3
  have z3 := Try.sizeOf3
  rw [show (10000 : Nat) = 9999 + 1 from rfl, Op.equalIn]
  simp only [Sem.run_bind, run_underlying Try.underlying36, Result.andThen_ok]
  simp only [Std.Legacy.Range.forIn_eq_forIn_range', Std.Legacy.Range.size, Nat.sub_zero, Nat.add_sub_cancel, Nat.div_one, List.range'_succ, List.range'_zero, List.forIn_cons, List.forIn_nil]
  go_simp
theorem neq36 (a b c d : Int) (w : World) : (binOp .neq 36 (.agg #[.int .i64 a, .int .i64 b, .int .i64 c, .int .i64 d]) (.agg #[.int .i64 a, .int .i64 b, .int .i64 c, .int .i64 d])).run Try.prog w = .ok (.bool false) w := by
  have h := eq36
  go_simp
abbrev o36 (x : Lf) : Obj := .cells #[.int .i64 x.s, .int .i64 x.e, .int .i64 x.m, .int .i64 x.p] 36
theorem bo_facts {T P : Int} {x X : Lf} (h : Inv T P X) (h1 : x.e ≤ X.e ∧ X.e ≤ x.e + 1) : (decide ((X.s : Int) < 0) = false ∧ decide (7 < (X.s : Int)) = false ∧ decide (7 < X.s) = false) ∧ decide (T < (X.m : Int)) = false ∧ decide (P < (X.p : Int)) = false ∧ (decide ((X.e : Int) < (X.m : Int) + X.p) = false ∧ decide (X.e < X.m + X.p) = false) ∧ (decide ((X.e : Int) < x.e) = false ∧ decide (X.e < x.e) = false) ∧ (decide ((x.e : Int) + 1 < X.e) = false ∧ decide (x.e + 1 < X.e) = false) := by
  have a := h.s7
  have b := h.sum
  have c := h.mT
  have d := h.pP
  obtain ⟨e, f⟩ := h1
  refine ⟨⟨?_, ?_, ?_⟩, ?_, ?_, ⟨?_, ?_⟩, ⟨?_, ?_⟩, ?_, ?_⟩ <;> rw [decide_eq_false_iff_not] <;> omega
set_option maxRecDepth 1000000 in
set_option maxHeartbeats 4000000 in
theorem lifeBounds_walk (t p : Int) (l : List Int) (a : Option Addr) (cap : Nat) (w : World) (hI : NumsIn .u8 w a l) (hl : l.length ≤ cap) (hc : cap ≤ maxLen) (hb : ∀ y ∈ l, (Lit.int .u8 y).wf = true) :
    Calls Try.prog 4 #[.int .i64 t, .int .i64 p, .slice a l.length cap] w fun e w' => e = .returned (.bool true) ∧ Below w.heap.size w w' := by
  obtain ⟨B, hB⟩ : ∃ B, w.heap.size = B := ⟨_, rfl⟩
  have ks : Calls Try.prog 9 #[] w fun e w' => e = .returned (.bool true) ∧ Hid (Below B w w') := by
    have := shown_any w
    rw [hB] at this
    exact this
  have hlo : B ≤ w.heap.size := by omega
  obtain ⟨T, hT⟩ : ∃ T, max t 1 = T := ⟨_, rfl⟩
  obtain ⟨P, hP⟩ : ∃ P, max p 0 = P := ⟨_, rfl⟩
  have kn : ∀ W, Below B w W → Calls Try.prog 10 #[.int .i64 t, .int .i64 p] W fun e w' => ∃ b, e = .returned (ptr b) ∧ Hid (LX B w w' b T P ⟨0, 0, 0, 0⟩ []) := fun W hb => new_any hb hlo t p T P hT hP
  have hcm : cap ≤ 9223372036854775807 := by unfold maxLen at hc; omega
  obtain ⟨m, hm⟩ : ∃ m, l.length = m := ⟨_, rfl⟩
  have HJ : Hid (∀ (i : Nat), i < m → ∃ (u : Nat) (c : Nat) (o : Nat), a = some ⟨c, o, none⟩ ∧ u ≤ 255 ∧ ∀ W, Below B w W → W.cell? ⟨c, o + i, none⟩ = some (.int .u8 u)) := fun i hi => by
    have hil : i < l.length := by omega
    obtain ⟨c, o, h1, h2, h3⟩ := hI i hil
    have h4 := bounds_u8 (hb _ (List.getElem_mem hil))
    have h5 : ((l[i].toNat : Nat) : Int) = l[i] := by omega
    exact ⟨l[i].toNat, c, o, h1, by omega, fun W q => by rw [(hB ▸ q : Below w.heap.size w W).cell (p := ⟨c, _, none⟩) h2, h5]; exact h3⟩
  rw [hm] at hl ⊢
  rw [hB]
  have m1 : ∀ ts u W, (Builtin.max_ ts u #[.int .i64 t, .int .i64 1]).run Try.prog W = .ok (.int .i64 T) W := fun ts u W => by rw [← hT]; exact max_num t 1 ts u W
  have m2 : ∀ ts u W, (Builtin.max_ ts u #[.int .i64 p, .int .i64 0]).run Try.prog W = .ok (.int .i64 P) W := fun ts u W => by rw [← hP]; exact max_num p 0 ts u W
  clear hB hI hc hm hb hlo hT hP
  go_enter Try.func4, Try.ntmps4
  go_wp2_with (first | (go_at_call 9; refine ks.mono ?_; rintro e w1 ⟨rfl, s1⟩; clear ks) | (go_at_call 10; refine (kn _ s1.out).mono ?_; rintro e w2 ⟨b, rfl, s⟩; clear kn s1))
  go_loopw [9] (fun iv W => ∃ (i : Nat) (x : Lf), iv = .int .i64 i ∧ i ≤ m ∧ i ≤ 300 ∧ Hid (LX B w W b T P x []) ∧ Hid (x.e ≤ i)) (fun iv _ => m - (intOf iv).toNat)
  case atStart => exact ⟨0, _, rfl, Nat.zero_le _, by omega, s, Nat.le_refl _⟩
  case round =>
    clear s
    obtain ⟨i, x, rfl, hi, hi2, s, HE⟩ := hrel
    by_cases hlt : i < m
    · by_cases hlt2 : i < 300
      · have h100 : decide ((i : Int) < 300) = true := decide_eq_true (by omega)
        have h100' : decide (i < 300) = true := decide_eq_true (by omega)
        obtain ⟨u, c, o1, rfl, hu, HX⟩ := HJ.out i hlt
        have HX := hide_it HX
        obtain ⟨k, hk⟩ : ∃ k, u % 11 = k := ⟨_, rfl⟩
        have hk10 : k ≤ 10 := by omega
        have q1 : (u : Int).tmod 11 = (k : Int) := by rw [Int.tmod_eq_emod_of_nonneg (by omega)]; omega
        have q2 : (u : Int) % 11 = (k : Int) := by omega
        have y1 := state_any s.out
        have y2 := epoch_any s.out
        have y3 := missed_any s.out
        have y4 := stopped_any s.out
        have sA := hide_it (s.out.alloc (o36 x))
        have yf := final_any sA.out
        have hxe : x.e ≤ 1000 := by have := HE.out; omega
        have KD : ∀ W, LX B w W b T P x [(wr.heap.size, o36 x)] → Calls Try.prog 12 #[ptr b, .int .i64 k] W fun e w' => e = .returned (.int .i64 (er P k x)) ∧ Hid (LX B w w' b T P (st T P k x) [(wr.heap.size, o36 x)]) := fun W h => does_any h (by omega) k hk10
        obtain ⟨X, hX⟩ : ∃ X, st T P k x = X := ⟨_, rfl⟩
        have hst := st_e (T := T) (P := P) k x
        have hin := s.out.inv.st (k := k) hk10
        rw [hX] at hst hin
        have FF := hide_it (bo_facts hin hst)
        have HE2 : Hid (X.e ≤ i + 1) := by have := HE.out; show _ ≤ _; omega
        have hXe : (X.e : Int) ≤ 1001 ∧ (X.m : Int) ≤ 1001 ∧ (X.p : Int) ≤ 1001 := by have := hin.sum; omega
        have x1 : ∀ W, LX B w W b T P X [(wr.heap.size, o36 x)] → Calls Try.prog 14 #[ptr b] W fun e w' => e = .returned (.int .i64 X.s) ∧ w' = W := fun W h => state_any h
        have x2 : ∀ W, LX B w W b T P X [(wr.heap.size, o36 x)] → Calls Try.prog 15 #[ptr b] W fun e w' => e = .returned (.int .i64 X.e) ∧ w' = W := fun W h => epoch_any h
        have x3 : ∀ W, LX B w W b T P X [(wr.heap.size, o36 x)] → Calls Try.prog 16 #[ptr b] W fun e w' => e = .returned (.int .i64 X.m) ∧ w' = W := fun W h => missed_any h
        have x4 : ∀ W, LX B w W b T P X [(wr.heap.size, o36 x)] → Calls Try.prog 17 #[ptr b] W fun e w' => e = .returned (.int .i64 X.p) ∧ w' = W := fun W h => stopped_any h
        have HZ : Hid (∀ W, LX B w W b T P X [(wr.heap.size, o36 x)] → wr.heap.size < W.heap.size ∧ W.cell? ⟨wr.heap.size, 0, none⟩ = some (.int .i64 x.s) ∧ W.cell? ⟨wr.heap.size, 1, none⟩ = some (.int .i64 x.e) ∧ W.cell? ⟨wr.heap.size, 2, none⟩ = some (.int .i64 x.m) ∧ W.cell? ⟨wr.heap.size, 3, none⟩ = some (.int .i64 x.p)) := fun W h => by
          obtain ⟨q, _⟩ := h.row _ (List.mem_singleton.2 rfl)
          exact ⟨block_lt q, by rw [cell_of_row W _ 0 _ _ _ q]; rfl, by rw [cell_of_row W _ 1 _ _ _ q]; rfl, by rw [cell_of_row W _ 2 _ _ _ q]; rfl, by rw [cell_of_row W _ 3 _ _ _ q]; rfl⟩
        have HF : Hid (∀ W, LX B w W b T P X [(wr.heap.size, o36 x)] → LX B w (W.alloc (o36 X)) b T P X []) := fun W h => (h.alloc _).drop (fun p hp => by simp at hp)
        obtain ⟨E, hE⟩ : ∃ E, er P k x = E := ⟨_, rfl⟩
        have hE3 : E = 0 ∧ ¬ 5 ≤ x.s ∨ E = 8 ∧ 5 ≤ x.s ∧ X = x ∨ (E = 8 ∨ E = 4) ∧ ¬ 5 ≤ x.s ∧ X = x := by
          have hk0 : E ≠ 0 → X = x := fun h => by rw [← hX]; exact st_kept (by rw [hE]; exact h)
          by_cases h5 : 5 ≤ x.s
          · have e8 : E = 8 := by rw [← hE]; exact er_final hk10 h5
            exact .inr (.inl ⟨e8, h5, hk0 (by omega)⟩)
          · rcases er_cases P k x with q | q | q
            · rw [hE] at q; exact .inr (.inr ⟨.inl q, h5, hk0 (by omega)⟩)
            · rw [hE] at q; exact .inr (.inr ⟨.inr q, h5, hk0 (by omega)⟩)
            · rw [hE] at q; exact .inl ⟨q, h5⟩
        have c0 := HX.out _ sA.out.bel
        have HX2 : Hid (∀ W, LX B w W b T P x [(wr.heap.size, o36 x)] → W.cell? ⟨c, o1 + i, none⟩ = some (.int .u8 u)) := fun W h => HX.out _ h.bel
        rw [hX, hE] at KD
        have n36 := neq36
        clear hk s HE HX hst hin hX hE
        rcases hE3 with ⟨rfl, h5⟩ | ⟨rfl, h5, rfl⟩ | ⟨hE3, h5, rfl⟩
        · rw [show decide (5 ≤ x.s) = false by simpa using h5] at yf
          obtain ⟨⟨f1, f2, f3⟩, f4, f5, ⟨f6, f7⟩, ⟨f8, f9⟩, f10, f11⟩ := FF.out
          clear h5
          go_wp2_with (first | (go_at_call 14; refine y1.mono ?_; rintro e w3 ⟨rfl, rfl⟩) | (go_at_call 15; refine y2.mono ?_; rintro e w3 ⟨rfl, rfl⟩) | (go_at_call 16; refine y3.mono ?_; rintro e w3 ⟨rfl, rfl⟩) | (go_at_call 17; refine y4.mono ?_; rintro e w3 ⟨rfl, rfl⟩) | (go_at_call 18; refine yf.mono ?_; rintro e w3 ⟨rfl, s3⟩; have c3 := HX2.out _ s3.out; refine Hid.out ?_))
          refine hide_it ?_
          clear y1 y2 y3 y4 yf c0 sA
          go_wp2_with (go_at_call 12; refine (KD _ s3.out).mono ?_; rintro e w4 ⟨rfl, s4⟩; obtain ⟨z0, z1, z2, z3, z4⟩ := HZ.out _ s4.out; refine Hid.out ?_)
          refine hide_it ?_
          clear c3 KD s3
          go_wp2_with (first | (go_at_call 14; refine (x1 _ s4.out).mono ?_; rintro e w5 ⟨rfl, rfl⟩) | (go_at_call 15; refine (x2 _ s4.out).mono ?_; rintro e w5 ⟨rfl, rfl⟩) | (go_at_call 16; refine (x3 _ s4.out).mono ?_; rintro e w5 ⟨rfl, rfl⟩) | (go_at_call 17; refine (x4 _ s4.out).mono ?_; rintro e w5 ⟨rfl, rfl⟩))
          go_roundw
          case rel => exact ⟨i + 1, _, by go_num, by omega, by omega, HF.out _ s4.out, HE2⟩
          case measure => simp [intOf]; omega
        · rw [show decide (5 ≤ X.s) = true by simpa using h5] at yf
          obtain ⟨⟨f1, f2, f3⟩, f4, f5, ⟨f6, f7⟩, ⟨f8, f9⟩, f10, f11⟩ := FF.out
          clear h5
          go_wp2_with (first | (go_at_call 14; refine y1.mono ?_; rintro e w3 ⟨rfl, rfl⟩) | (go_at_call 15; refine y2.mono ?_; rintro e w3 ⟨rfl, rfl⟩) | (go_at_call 16; refine y3.mono ?_; rintro e w3 ⟨rfl, rfl⟩) | (go_at_call 17; refine y4.mono ?_; rintro e w3 ⟨rfl, rfl⟩) | (go_at_call 18; refine yf.mono ?_; rintro e w3 ⟨rfl, s3⟩; have c3 := HX2.out _ s3.out; refine Hid.out ?_))
          refine hide_it ?_
          clear y1 y2 y3 y4 yf c0 sA
          go_wp2_with (go_at_call 12; refine (KD _ s3.out).mono ?_; rintro e w4 ⟨rfl, s4⟩; obtain ⟨z0, z1, z2, z3, z4⟩ := HZ.out _ s4.out; refine Hid.out ?_)
          refine hide_it ?_
          clear c3 KD s3
          go_wp2_with (first | (go_at_call 14; refine (x1 _ s4.out).mono ?_; rintro e w5 ⟨rfl, rfl⟩) | (go_at_call 15; refine (x2 _ s4.out).mono ?_; rintro e w5 ⟨rfl, rfl⟩) | (go_at_call 16; refine (x3 _ s4.out).mono ?_; rintro e w5 ⟨rfl, rfl⟩) | (go_at_call 17; refine (x4 _ s4.out).mono ?_; rintro e w5 ⟨rfl, rfl⟩))
          go_roundw
          case rel => exact ⟨i + 1, _, by go_num, by omega, by omega, HF.out _ s4.out, HE2⟩
          case measure => simp [intOf]; omega
        · rw [show decide (5 ≤ X.s) = false by simpa using h5] at yf
          obtain ⟨⟨f1, f2, f3⟩, f4, f5, ⟨f6, f7⟩, ⟨f8, f9⟩, f10, f11⟩ := FF.out
          have g1 : ((E : Int) != 0) = true := by rcases hE3 with rfl | rfl <;> rfl
          have g2 : (E != 0) = true := by rcases hE3 with rfl | rfl <;> rfl
          clear h5 hE3
          go_wp2_with (first | (go_at_call 14; refine y1.mono ?_; rintro e w3 ⟨rfl, rfl⟩) | (go_at_call 15; refine y2.mono ?_; rintro e w3 ⟨rfl, rfl⟩) | (go_at_call 16; refine y3.mono ?_; rintro e w3 ⟨rfl, rfl⟩) | (go_at_call 17; refine y4.mono ?_; rintro e w3 ⟨rfl, rfl⟩) | (go_at_call 18; refine yf.mono ?_; rintro e w3 ⟨rfl, s3⟩; have c3 := HX2.out _ s3.out; refine Hid.out ?_))
          refine hide_it ?_
          clear y1 y2 y3 y4 yf c0 sA
          go_wp2_with (go_at_call 12; refine (KD _ s3.out).mono ?_; rintro e w4 ⟨rfl, s4⟩; obtain ⟨z0, z1, z2, z3, z4⟩ := HZ.out _ s4.out; refine Hid.out ?_)
          refine hide_it ?_
          clear c3 KD s3
          go_wp2_with (first | (go_at_call 14; refine (x1 _ s4.out).mono ?_; rintro e w5 ⟨rfl, rfl⟩) | (go_at_call 15; refine (x2 _ s4.out).mono ?_; rintro e w5 ⟨rfl, rfl⟩) | (go_at_call 16; refine (x3 _ s4.out).mono ?_; rintro e w5 ⟨rfl, rfl⟩) | (go_at_call 17; refine (x4 _ s4.out).mono ?_; rintro e w5 ⟨rfl, rfl⟩))
          go_roundw
          case rel => exact ⟨i + 1, _, by go_num, by omega, by omega, HF.out _ s4.out, HE2⟩
          case measure => simp [intOf]; omega
      · have d1 : decide ((i : Int) < 300) = false := by simp; omega
        have d2 : decide (i < 300) = false := by simp; omega
        go_wp2
        go_ret
        exact ⟨rfl, s.out.bel⟩
    · have d1 : decide ((i : Int) < m) = false := by simp; omega
      have d2 : decide (i < m) = false := by simp; omega
      go_wp2
      go_ret
      exact ⟨rfl, s.out.bel⟩
end Go.Proofs.Ytjdgndbdoceifaa
