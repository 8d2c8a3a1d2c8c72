/- LedgerBounds, walked. -/
import Derived.Test.YtkcbigmccplpiaaSho
import Derived.Test.YtkcbigmccplpiaaArg
import Derived.Test.YtkcbigmccplpiaaKee
import Derived.Deep.RegionHeld3
import Derived.Deep.CutRange
import Derived.Deep.CutBlock
import Derived.BigQuiet
namespace Go.Proofs.Ytkcbigmccplpiaa
open Go.RowKit
open M
set_option linter.unusedVariables false
set_option linter.unusedSimpArgs false

/-- The memories of sixteen places. -/
def mrow (P : Nat → Pl) : Array Value := ((List.range 16).map fun k => Value.int .i64 (P k).m).toArray
theorem mrow_at (P : Nat → Pl) (k : Nat) (h : k < 16) : (mrow P)[k]? = some (.int .i64 (P k).m) := by simp [mrow, h]
theorem mrow_set (P : Nat → Pl) (k : Nat) (p : Pl) (h : k < 16) : (mrow P).setIfInBounds k (.int .i64 p.m) = mrow (setP P k p) := by
  have hs : ∀ q, (mrow q).size = 16 := fun q => by simp [mrow]
  apply Array.ext_getElem?
  intro i
  rw [Array.getElem?_setIfInBounds]
  by_cases e : k = i
  · subst e
    rw [if_pos rfl, if_pos (by rw [hs]; exact h), mrow_at _ _ h, setP_same]
  · rw [if_neg e]
    by_cases hi : i < 16
    · rw [mrow_at _ _ hi, mrow_at _ _ hi, setP_other _ _ (fun q => e q.symm)]
    · rw [Array.getElem?_eq_none (by rw [hs]; omega), Array.getElem?_eq_none (by rw [hs]; omega)]
abbrev mo (x : Lg) : Obj := .cells (mrow x.P) 40
theorem mo_new (bu : Int) (n : Nat) : mo ⟨bu, n, fun _ => no⟩ = .cells #[.int .i64 0, .int .i64 0, .int .i64 0, .int .i64 0, .int .i64 0, .int .i64 0, .int .i64 0, .int .i64 0, .int .i64 0, .int .i64 0, .int .i64 0, .int .i64 0, .int .i64 0, .int .i64 0, .int .i64 0, .int .i64 0] 40 := rfl
section
variable {B : Nat} {w0 w : World} {b sb mb : Nat} {x X : Lg} {os : Obj}
theorem LX.memc {y : Lg} (h : LX B w0 w b x [(sb, os), (mb, mo y)]) {k : Nat} (hk : k < 16) : w.cell? ⟨mb, k, none⟩ = some (.int .i64 (y.P k).m) := by
  have hr := (h.row (mb, mo y) (by simp)).1
  rw [cell_of_row w mb k _ _ _ hr]; exact mrow_at _ _ hk
theorem LX.memf {y : Lg} (h : LX B w0 w b x [(sb, os), (mb, mo y)]) (k : Nat) : w.frozen? ⟨mb, k, none⟩ = false := by
  have hr := (h.row (mb, mo y) (by simp)).1
  simp [World.frozen?, hr]
theorem LX.set2 {y z : Lg} (h : LX B w0 w b x [(sb, os), (mb, mo y)]) (hne : sb ≠ mb) {k : Nat} {p : Pl} (hk : k < 16) (hz : z.P = setP y.P k p) : LX B w0 (w.setCell ⟨mb, k, none⟩ (.int .i64 p.m)) b x [(sb, os), (mb, mo z)] := by
  have := h.set (r := mb) (cur := mrow y.P) (t := 40) (by simp) k (.int .i64 p.m)
  simp only [List.map_cons, List.map_nil, if_neg hne, if_true] at this
  rw [mrow_set _ _ _ hk, ← hz] at this
  exact this
theorem bo_yes (h : Inv x) {k : Nat} (hc : atB x k = true) : k < x.n ∧ slo x (atI x k) = some k ∧ (x.P k).t = true := by
  unfold atB at hc
  simp at hc
  have e : atI x k = (x.P k).i := by unfold atI; rw [if_pos (by omega)]; simp
  exact ⟨hc.1, h.slo_of hc.2 e.symm, hc.2⟩
theorem bo_no (h : Inv x) {k : Nat} (hc : atB x k = false) : (x.P k).t = false := by
  by_cases q : k < x.n
  · unfold atB at hc
    rw [show decide (0 ≤ (k : Int) ∧ (k : Int) < (x.n : Int)) = true by simp; omega] at hc
    simpa using hc
  · exact h.out k (by omega)
theorem bo_take {id mem : Int} (h0 : te x id mem = 0) : ∃ k, k < x.n ∧ ts x id mem = k ∧ slo x id = none ∧ (tx x id mem).P = setP x.P k ⟨true, id, mem⟩ := by
  obtain ⟨a1, a2, a3, a4, ⟨k, a5⟩, a6⟩ := te_ok h0
  exact ⟨k, (low_lt a5).1, by unfold ts; rw [if_pos h0, a5]; rfl, a4, by unfold tx; rw [if_pos h0, a5]; rfl⟩
theorem bo_kept {id mem : Int} (h : te x id mem ≠ 0) : ts x id mem = 0 ∧ tx x id mem = x := ⟨by unfold ts; rw [if_neg h], by unfold tx; rw [if_neg h]⟩
end

set_option maxRecDepth 1000000 in
set_option maxHeartbeats 8000000 in
theorem ledgerBounds_walk (bu sl : Int) (l : List (Int × Int × Int)) (a : Option Addr) (cap : Nat) (w : World) (hbu : -9223372036854775808 ≤ bu ∧ bu ≤ 9223372036854775807) (hI : StepsIn w a l) (hl : l.length ≤ cap) (hc : cap ≤ maxLen) (hb : ∀ t ∈ l, i64B t.1 ∧ i64B t.2.1 ∧ i64B t.2.2) :
    Calls Try.prog 4 #[.int .i64 bu, .int .i64 sl, .slice a l.length cap] w fun e w' => e = .returned (.bool true) ∧ Below w.heap.size w w' := by
  obtain ⟨B, hB⟩ : ∃ B, w.heap.size = B := ⟨_, rfl⟩
  have ks : Calls Try.prog 10 #[] w fun e w' => e = .returned (.bool true) ∧ Hid (Below B w w') := by
    have := shown_any w
    rw [hB] at this
    exact this
  have hlo : B ≤ w.heap.size := by omega
  obtain ⟨BU, hBU⟩ : ∃ N, max bu 0 = N := ⟨_, rfl⟩
  obtain ⟨n0, hn0⟩ : ∃ n : Nat, min (max sl 0) 16 = (n : Int) := ⟨(min (max sl 0) 16).toNat, by omega⟩
  have kn : ∀ W, Below B w W → Calls Try.prog 11 #[.int .i64 bu, .int .i64 sl] W fun e w' => ∃ b, e = .returned (ptr b) ∧ Hid (LX B w w' b ⟨BU, n0, fun _ => no⟩ []) := fun W hb => new_any hb hlo bu sl hbu.2 BU n0 hBU hn0
  have hcm : cap ≤ 9223372036854775807 := by unfold maxLen at hc; omega
  obtain ⟨m, hm⟩ : ∃ m, l.length = m := ⟨_, rfl⟩
  have HI : Hid (∀ (i : Nat), i < m → ∃ x y z b o, a = some ⟨b, o, none⟩ ∧ ∀ W, Below B w W → W.cell? ⟨b, o + i * 3, none⟩ = some (.int .i64 x) ∧ W.cell? ⟨b, o + i * 3 + 1, none⟩ = some (.int .i64 y) ∧ W.cell? ⟨b, o + i * 3 + 2, none⟩ = some (.int .i64 z)) := fun i hi => by
    have := hI.get (i := i) (by omega)
    rw [hB] at this
    exact this
  rw [hm] at hl ⊢
  rw [hB]
  have m1 : ∀ ts u W, (Builtin.max_ ts u #[.int .i64 bu, .int .i64 0]).run Try.prog W = .ok (.int .i64 BU) W := fun ts u W => by rw [← hBU]; exact max_num _ _ ts u W
  obtain ⟨q0, hq0⟩ : ∃ q, max sl 0 = q := ⟨_, rfl⟩
  have m2 : ∀ ts u W, (Builtin.max_ ts u #[.int .i64 sl, .int .i64 0]).run Try.prog W = .ok (.int .i64 q0) W := fun ts u W => by rw [← hq0]; exact max_num _ _ ts u W
  have m3 : ∀ ts u W, (Builtin.min_ ts u #[.int .i64 q0, .int .i64 16]).run Try.prog W = .ok (.int .i64 n0) W := fun ts u W => by rw [← hn0, hq0]; exact min_num _ _ ts u W
  have hn16 : n0 ≤ 16 := by omega
  clear hB hI hc hm hlo hb hq0 hn0 hBU hbu
  go_enter Try.func4, Try.ntmps4
  go_wp2_with (first | (go_at_call 10; refine ks.mono ?_; rintro e w1 ⟨rfl, s1⟩; clear ks) | (go_at_call 11; refine (kn _ s1.out).mono ?_; rintro e w2 ⟨b, rfl, s⟩; clear kn s1))
  have s0 := hide_it (s.out.alloc (mo ⟨BU, n0, fun _ => no⟩))
  rw [mo_new] at s0
  obtain ⟨mb, hmb⟩ : ∃ r, w2.heap.size = r := ⟨_, rfl⟩
  rw [hmb] at s0
  simp only [hmb]
  clear hmb s
  generalize w2.alloc (.cells #[.int .i64 0, .int .i64 0, .int .i64 0, .int .i64 0, .int .i64 0, .int .i64 0, .int .i64 0, .int .i64 0, .int .i64 0, .int .i64 0, .int .i64 0, .int .i64 0, .int .i64 0, .int .i64 0, .int .i64 0, .int .i64 0] 40) = w3 at *
  rw [← mo_new BU n0] at s0
  go_loopw [11] (fun iv W => ∃ (i : Nat) (x : Lg), iv = .int .i64 i ∧ i ≤ m ∧ i ≤ 200 ∧ Hid (LX B w W b x [(mb, mo x)]) ∧ Hid (x.bu = BU ∧ x.n = n0)) (fun iv _ => m - (intOf iv).toNat)
  case atStart => exact ⟨0, _, rfl, Nat.zero_le _, by omega, s0, rfl, rfl⟩
  case round =>
    clear s0
    obtain ⟨i, x, rfl, hi, hi2, s, HB⟩ := hrel
    by_cases hgo : i < m ∧ i < 200
    · obtain ⟨hlt, hlt2⟩ := hgo
      have h16 : decide ((i : Int) < 200) = true := decide_eq_true (by omega)
      have h16' : decide (i < 200) = true := decide_eq_true (by omega)
      obtain ⟨kd, y, z, c, o, rfl, HX⟩ := HI.out i hlt
      obtain ⟨c0, c1, c2⟩ := HX _ s.out.bel
      have sB := hide_it (s.out.alloc (.cells #[.int .i64 kd, .int .i64 y, .int .i64 z] 31))
      have hmlt : mb < wr.heap.size := block_lt (s.out.row _ (List.mem_singleton.2 rfl)).1
      clear s HX HI
      go_upto_region 11 with fail
      obtain ⟨sb, hsb⟩ : ∃ r, wr.heap.size = r := ⟨_, rfl⟩
      rw [hsb] at sB hmlt
      simp only [hsb]
      clear hsb c0 c1 c2
      generalize wr.alloc (.cells #[.int .i64 kd, .int .i64 y, .int .i64 z] 31) = w5 at *
      have hne : sb ≠ mb := by omega
      clear hmlt
      have HC : Hid (∀ W X, LX B w W b X [(sb, .cells #[.int .i64 kd, .int .i64 y, .int .i64 z] 31), (mb, mo x)] → W.cell? ⟨sb, 0, none⟩ = some (.int .i64 kd) ∧ W.cell? ⟨sb, 1, none⟩ = some (.int .i64 y) ∧ W.cell? ⟨sb, 2, none⟩ = some (.int .i64 z)) := fun W X h => by
        have hr := (h.row (sb, .cells #[.int .i64 kd, .int .i64 y, .int .i64 z] 31) (by simp)).1
        exact ⟨by rw [cell_of_row W sb 0 _ _ _ hr]; rfl, by rw [cell_of_row W sb 1 _ _ _ hr]; rfl, by rw [cell_of_row W sb 2 _ _ _ hr]; rfl⟩
      obtain ⟨d0, d1, d2⟩ := HC.out _ _ sB.out
      have hin := sB.out.inv
      have k16 := slot_any sB.out y
      by_cases hk3 : kd = 3
      · have d3 : (kd == 3) = true := by simp [hk3]
        have k14 : ∀ W, LX B w W b x [(sb, .cells #[.int .i64 kd, .int .i64 y, .int .i64 z] 31), (mb, mo x)] → Calls Try.prog 14 #[ptr b, .int .i64 y] W fun e w' => e = .returned (.int .i64 (fe x y : Nat)) ∧ Hid (LX B w w' b (fx x y) [(sb, .cells #[.int .i64 kd, .int .i64 y, .int .i64 z] 31), (mb, mo x)]) := fun W h => free_any h y
        have HBX : Hid ((fx x y).bu = BU ∧ (fx x y).n = n0) := fx_keeps HB.out
        cases hs : slo x y with
        | some k =>
          have e1 : fe x y = 0 := by unfold fe; rw [hs]; rfl
          have e2 : (fx x y).P = setP x.P k no := by unfold fx; rw [hs]; rfl
          have hk16 : k < 16 := by have := hin.slo_lt hs; have := hin.n16; omega
          have hk16' : (k : Int) < 16 := by omega
          rw [hs] at k16
          rw [e1] at k14
          simp only [Option.getD_some, Option.isSome_some] at k16
          have HM : Hid (∀ W X, LX B w W b X [(sb, .cells #[.int .i64 kd, .int .i64 y, .int .i64 z] 31), (mb, mo x)] → (∃ v, W.cell? ⟨mb, k, none⟩ = some (.int .i64 v)) ∧ W.frozen? ⟨mb, k, none⟩ = false) := fun W X h => ⟨⟨_, h.memc hk16⟩, h.memf k⟩
          have HW : Hid (∀ W, LX B w W b (fx x y) [(sb, .cells #[.int .i64 kd, .int .i64 y, .int .i64 z] 31), (mb, mo x)] → LX B w (W.setCell ⟨mb, k, none⟩ (.int .i64 0)) b (fx x y) [(sb, .cells #[.int .i64 kd, .int .i64 y, .int .i64 z] 31), (mb, mo (fx x y))]) := fun W h => h.set2 (p := no) hne hk16 e2
          generalize fx x y = X at *
          clear e1 e2 hk3 hin hs HB
          go_wp2_with (first | (go_at_call 16; refine k16.mono ?_; rintro e w6 ⟨rfl, s6⟩; obtain ⟨d0, d1, d2⟩ := HC.out _ _ s6.out) | (go_at_call 14; refine (k14 _ s6.out).mono ?_; rintro e w7 ⟨rfl, s7⟩; obtain ⟨⟨v, qm⟩, qf⟩ := HM.out _ _ s7.out))
          go_loopw [18, 19, 20] (fun hv av kv W => ∃ (k : Nat) (T : Nat) (A : Int), hv = .int .i64 T ∧ av = .int .i64 A ∧ kv = .int .i64 k ∧ k ≤ 16 ∧ Hid (LX B w W b X [(sb, .cells #[.int .i64 kd, .int .i64 y, .int .i64 z] 31), (mb, mo X)]) ∧ Hid (T = tk X.P k ∧ A = us X.P k)) (fun _ _ kv _ => 16 - (intOf kv).toNat)
          case atStart => exact ⟨0, 0, 0, rfl, rfl, rfl, by omega, HW.out _ s7.out, rfl, rfl⟩
          case round =>
            obtain ⟨k, T, A, rfl, rfl, rfl, hk16, s, HTA⟩ := hrel
            by_cases hlt16 : k < 16
            · have hlt16' : (k : Int) < 16 := by omega
              have hin := s.out.inv
              obtain ⟨hT, hA⟩ := HTA.out
              have hTb : (T : Int) ≤ 16 := by have := tk_le X.P k; omega
              have hA1 := hin.usP (k := k) (by omega)
              have hA2 := hin.usP (k := k + 1) (by omega)
              have hbM := hin.bM
              have hm0 := hin.m0 k
              have hAs : us X.P (k + 1) = us X.P k + (X.P k).m := rfl
              have hTs : tk X.P (k + 1) = tk X.P k + (if (X.P k).t then 1 else 0) := rfl
              have k23 := at_any s.out (k : Int)
              have HMC : Hid (∀ W, LX B w W b X [(sb, .cells #[.int .i64 kd, .int .i64 y, .int .i64 z] 31), (mb, mo X)] → W.cell? ⟨mb, k, none⟩ = some (.int .i64 (X.P k).m)) := fun W h => h.memc hlt16
              have k16 : ∀ W, LX B w W b X [(sb, .cells #[.int .i64 kd, .int .i64 y, .int .i64 z] 31), (mb, mo X)] → Calls Try.prog 16 #[ptr b, .int .i64 (atI X k)] W fun e w' => e = .returned (.tuple #[.int .i64 ((slo X (atI X k)).getD 0 : Nat), .bool (slo X (atI X k)).isSome]) ∧ Hid (LX B w w' b X [(sb, .cells #[.int .i64 kd, .int .i64 y, .int .i64 z] 31), (mb, mo X)]) := fun W h => slot_any h _
              cases hcb : atB X k with
              | true =>
                obtain ⟨e1, e2, e3⟩ := bo_yes hin hcb
                rw [hcb] at k23
                rw [e2] at k16
                simp only [Option.getD_some, Option.isSome_some] at k16
                rw [e3, if_pos rfl] at hTs
                have hkn : k < n0 := by have := HBX.out.2; omega
                have q1 : decide ((n0 : Int) ≤ (k : Int)) = false := by simp; omega
                have q2 : decide (n0 ≤ k) = false := by simp; omega
                have q3 : ((k : Int) != k) = false := by simp
                have q4 : (k != k) = false := by simp
                generalize atI X k = Z at *
                generalize hM : (X.P k).m = M0 at *
                have a1 : 0 ≤ A := by omega
                have a2 : 0 ≤ M0 := hm0
                have a3 : A + M0 ≤ 9223372036854775807 := by omega
                have HTA2 : Hid (T + 1 = tk X.P (k + 1) ∧ A + M0 = us X.P (k + 1)) := ⟨by omega, by omega⟩
                clear e1 e2 e3 hcb HTA hT hA hA1 hA2 hbM hm0 hAs hTs hin hM
                go_wp2_with (first | (go_at_call 23; refine k23.mono ?_; rintro e w13 ⟨rfl, s13⟩) | (go_at_call 16; refine (k16 _ s13.out).mono ?_; rintro e w14 ⟨rfl, s14⟩; have cM := HMC.out _ s14.out))
                go_roundw
                case rel => exact ⟨k + 1, T + 1, A + M0, by go_num, by go_num, by go_num, by omega, s14, HTA2⟩
                case measure => simp [intOf]; omega
              | false =>
                have e3 := bo_no hin hcb
                rw [hcb] at k23
                rw [e3] at hTs
                generalize atI X k = Z at *
                generalize (((slo X Z).getD 0 : Nat) : Int) = Q at *
                generalize (slo X Z).isSome = C at *
                generalize hM : (X.P k).m = M0 at *
                have a1 : 0 ≤ A := by omega
                have a2 : 0 ≤ M0 := hm0
                have a3 : A + M0 ≤ 9223372036854775807 := by omega
                have HTA2 : Hid (T = tk X.P (k + 1) ∧ A + M0 = us X.P (k + 1)) := ⟨by simp at hTs; omega, by omega⟩
                clear e3 hcb HTA hT hA hA1 hA2 hbM hm0 hAs hTs hin hM
                go_wp2_with (first | (go_at_call 23; refine k23.mono ?_; rintro e w13 ⟨rfl, s13⟩) | (go_at_call 16; refine (k16 _ s13.out).mono ?_; rintro e w14 ⟨rfl, s14⟩; have cM := HMC.out _ s14.out))
                go_roundw
                case rel => exact ⟨k + 1, T, A + M0, by go_num, by go_num, by go_num, by omega, s14, HTA2⟩
                case measure => simp [intOf]; omega
            · have d3 : decide ((k : Int) < 16) = false := by simp; omega
              have d4 : decide (k < 16) = false := by simp; omega
              have hk : k = 16 := by omega
              have hin := s.out.inv
              obtain ⟨hT, hA⟩ := HTA.out
              rw [hk] at hT hA
              obtain ⟨hX1, hX2⟩ := HBX.out
              have hus := hin.usP (k := 16) (by omega)
              have htk := hin.tkn
              have k18 : ∀ W, LX B w W b X [(sb, .cells #[.int .i64 kd, .int .i64 y, .int .i64 z] 31), (mb, mo X)] → Calls Try.prog 18 #[ptr b] W fun e w' => e = .returned (.int .i64 A) ∧ Hid (LX B w w' b X [(sb, .cells #[.int .i64 kd, .int .i64 y, .int .i64 z] 31), (mb, mo X)]) := fun W h => used_at A hA.symm h
              obtain ⟨F, hF⟩ : ∃ F, M.free X = F := ⟨_, rfl⟩
              obtain ⟨RM, hRM⟩ : ∃ r, room X = r := ⟨_, rfl⟩
              have k21 : ∀ W, LX B w W b X [(sb, .cells #[.int .i64 kd, .int .i64 y, .int .i64 z] 31), (mb, mo X)] → Calls Try.prog 21 #[ptr b] W fun e w' => e = .returned (.int .i64 F) ∧ Hid (LX B w w' b X [(sb, .cells #[.int .i64 kd, .int .i64 y, .int .i64 z] 31), (mb, mo X)]) := fun W h => slots_at F hF h
              have k20 : ∀ W, LX B w W b X [(sb, .cells #[.int .i64 kd, .int .i64 y, .int .i64 z] 31), (mb, mo X)] → Calls Try.prog 20 #[ptr b] W fun e w' => e = .returned (.int .i64 RM) ∧ Hid (LX B w w' b X [(sb, .cells #[.int .i64 kd, .int .i64 y, .int .i64 z] 31), (mb, mo X)]) := fun W h => room_at RM hRM h
              unfold M.free at hF
              unfold M.room at hRM
              have v1 : IntKind.i64.wrap ((T : Int) + F) = (n0 : Int) := by rw [IntKind.wrap_i64]; omega
              have v2 : wrap64 ((T : Int) + F) = (n0 : Int) := by rw [← v1, IntKind.wrap_i64]; unfold wrap64; omega
              have v3 : IntKind.i64.wrap (A + RM) = BU := by rw [IntKind.wrap_i64]; have := hin.bM; omega
              have v4 : wrap64 (A + RM) = BU := by rw [← v3, IntKind.wrap_i64]; unfold wrap64; omega
              have z1 : ((n0 : Int) != n0) = false := by simp
              have z2 : (n0 != n0) = false := by simp
              have z3 : (BU != BU) = false := by simp
              have z4 : (A != A) = false := by simp
              have z5 : decide (A < 0) = false := by simp; omega
              have z6 : decide (BU < A) = false := by simp; omega
              have HF : Hid (∀ W, LX B w W b X [(sb, .cells #[.int .i64 kd, .int .i64 y, .int .i64 z] 31), (mb, mo X)] → LX B w W b X [(mb, mo X)]) := fun W h => h.drop (fun p hp => by simp at hp; simp [hp])
              clear hk hin HTA hT hA hX1 hX2 hus htk hF hRM
              go_wp2_with (go_at_call 21; refine (k21 _ s.out).mono ?_; rintro e w20 ⟨rfl, s20⟩; refine Hid.out ?_)
              refine hide_it ?_
              go_wp2_with (go_at_call 18; refine (k18 _ s20.out).mono ?_; rintro e w21 ⟨rfl, s21⟩; refine Hid.out ?_)
              refine hide_it ?_
              go_wp2_with (go_at_call 18; refine (k18 _ s21.out).mono ?_; rintro e w22 ⟨rfl, s22⟩; refine Hid.out ?_)
              refine hide_it ?_
              go_wp2_with (go_at_call 18; refine (k18 _ s22.out).mono ?_; rintro e w23 ⟨rfl, s23⟩; refine Hid.out ?_)
              refine hide_it ?_
              go_wp2_with (go_at_call 18; refine (k18 _ s23.out).mono ?_; rintro e w24 ⟨rfl, s24⟩; refine Hid.out ?_)
              refine hide_it ?_
              go_wp2_with (go_at_call 20; refine (k20 _ s24.out).mono ?_; rintro e w25 ⟨rfl, s25⟩)
              go_roundw
              case rel => exact ⟨i + 1, X, by go_num, by omega, by omega, HF.out _ s25.out, HBX⟩
              case measure => simp [intOf]; omega
        | none =>
          have e1 : fe x y = 6 := by unfold fe; rw [hs]; rfl
          have e2 : fx x y = x := by unfold fx; rw [hs]; rfl
          rw [hs] at k16
          rw [e1, e2] at k14
          rw [e2] at HBX
          simp only [Option.getD_none, Option.isSome_none] at k16
          obtain ⟨X, rfl⟩ : ∃ X, X = x := ⟨_, rfl⟩
          clear e1 e2 hk3 hin hs HB
          go_wp2_with (first | (go_at_call 16; refine k16.mono ?_; rintro e w6 ⟨rfl, s6⟩; obtain ⟨d0, d1, d2⟩ := HC.out _ _ s6.out) | (go_at_call 14; refine (k14 _ s6.out).mono ?_; rintro e w7 ⟨rfl, s7⟩))
          go_loopw [18, 19, 20] (fun hv av kv W => ∃ (k : Nat) (T : Nat) (A : Int), hv = .int .i64 T ∧ av = .int .i64 A ∧ kv = .int .i64 k ∧ k ≤ 16 ∧ Hid (LX B w W b X [(sb, .cells #[.int .i64 kd, .int .i64 y, .int .i64 z] 31), (mb, mo X)]) ∧ Hid (T = tk X.P k ∧ A = us X.P k)) (fun _ _ kv _ => 16 - (intOf kv).toNat)
          case atStart => exact ⟨0, 0, 0, rfl, rfl, rfl, by omega, s7, rfl, rfl⟩
          case round =>
            obtain ⟨k, T, A, rfl, rfl, rfl, hk16, s, HTA⟩ := hrel
            by_cases hlt16 : k < 16
            · have hlt16' : (k : Int) < 16 := by omega
              have hin := s.out.inv
              obtain ⟨hT, hA⟩ := HTA.out
              have hTb : (T : Int) ≤ 16 := by have := tk_le X.P k; omega
              have hA1 := hin.usP (k := k) (by omega)
              have hA2 := hin.usP (k := k + 1) (by omega)
              have hbM := hin.bM
              have hm0 := hin.m0 k
              have hAs : us X.P (k + 1) = us X.P k + (X.P k).m := rfl
              have hTs : tk X.P (k + 1) = tk X.P k + (if (X.P k).t then 1 else 0) := rfl
              have k23 := at_any s.out (k : Int)
              have HMC : Hid (∀ W, LX B w W b X [(sb, .cells #[.int .i64 kd, .int .i64 y, .int .i64 z] 31), (mb, mo X)] → W.cell? ⟨mb, k, none⟩ = some (.int .i64 (X.P k).m)) := fun W h => h.memc hlt16
              have k16 : ∀ W, LX B w W b X [(sb, .cells #[.int .i64 kd, .int .i64 y, .int .i64 z] 31), (mb, mo X)] → Calls Try.prog 16 #[ptr b, .int .i64 (atI X k)] W fun e w' => e = .returned (.tuple #[.int .i64 ((slo X (atI X k)).getD 0 : Nat), .bool (slo X (atI X k)).isSome]) ∧ Hid (LX B w w' b X [(sb, .cells #[.int .i64 kd, .int .i64 y, .int .i64 z] 31), (mb, mo X)]) := fun W h => slot_any h _
              cases hcb : atB X k with
              | true =>
                obtain ⟨e1, e2, e3⟩ := bo_yes hin hcb
                rw [hcb] at k23
                rw [e2] at k16
                simp only [Option.getD_some, Option.isSome_some] at k16
                rw [e3, if_pos rfl] at hTs
                have hkn : k < n0 := by have := HBX.out.2; omega
                have q1 : decide ((n0 : Int) ≤ (k : Int)) = false := by simp; omega
                have q2 : decide (n0 ≤ k) = false := by simp; omega
                have q3 : ((k : Int) != k) = false := by simp
                have q4 : (k != k) = false := by simp
                generalize atI X k = Z at *
                generalize hM : (X.P k).m = M0 at *
                have a1 : 0 ≤ A := by omega
                have a2 : 0 ≤ M0 := hm0
                have a3 : A + M0 ≤ 9223372036854775807 := by omega
                have HTA2 : Hid (T + 1 = tk X.P (k + 1) ∧ A + M0 = us X.P (k + 1)) := ⟨by omega, by omega⟩
                clear e1 e2 e3 hcb HTA hT hA hA1 hA2 hbM hm0 hAs hTs hin hM
                go_wp2_with (first | (go_at_call 23; refine k23.mono ?_; rintro e w13 ⟨rfl, s13⟩) | (go_at_call 16; refine (k16 _ s13.out).mono ?_; rintro e w14 ⟨rfl, s14⟩; have cM := HMC.out _ s14.out))
                go_roundw
                case rel => exact ⟨k + 1, T + 1, A + M0, by go_num, by go_num, by go_num, by omega, s14, HTA2⟩
                case measure => simp [intOf]; omega
              | false =>
                have e3 := bo_no hin hcb
                rw [hcb] at k23
                rw [e3] at hTs
                generalize atI X k = Z at *
                generalize (((slo X Z).getD 0 : Nat) : Int) = Q at *
                generalize (slo X Z).isSome = C at *
                generalize hM : (X.P k).m = M0 at *
                have a1 : 0 ≤ A := by omega
                have a2 : 0 ≤ M0 := hm0
                have a3 : A + M0 ≤ 9223372036854775807 := by omega
                have HTA2 : Hid (T = tk X.P (k + 1) ∧ A + M0 = us X.P (k + 1)) := ⟨by simp at hTs; omega, by omega⟩
                clear e3 hcb HTA hT hA hA1 hA2 hbM hm0 hAs hTs hin hM
                go_wp2_with (first | (go_at_call 23; refine k23.mono ?_; rintro e w13 ⟨rfl, s13⟩) | (go_at_call 16; refine (k16 _ s13.out).mono ?_; rintro e w14 ⟨rfl, s14⟩; have cM := HMC.out _ s14.out))
                go_roundw
                case rel => exact ⟨k + 1, T, A + M0, by go_num, by go_num, by go_num, by omega, s14, HTA2⟩
                case measure => simp [intOf]; omega
            · have d3 : decide ((k : Int) < 16) = false := by simp; omega
              have d4 : decide (k < 16) = false := by simp; omega
              have hk : k = 16 := by omega
              have hin := s.out.inv
              obtain ⟨hT, hA⟩ := HTA.out
              rw [hk] at hT hA
              obtain ⟨hX1, hX2⟩ := HBX.out
              have hus := hin.usP (k := 16) (by omega)
              have htk := hin.tkn
              have k18 : ∀ W, LX B w W b X [(sb, .cells #[.int .i64 kd, .int .i64 y, .int .i64 z] 31), (mb, mo X)] → Calls Try.prog 18 #[ptr b] W fun e w' => e = .returned (.int .i64 A) ∧ Hid (LX B w w' b X [(sb, .cells #[.int .i64 kd, .int .i64 y, .int .i64 z] 31), (mb, mo X)]) := fun W h => used_at A hA.symm h
              obtain ⟨F, hF⟩ : ∃ F, M.free X = F := ⟨_, rfl⟩
              obtain ⟨RM, hRM⟩ : ∃ r, room X = r := ⟨_, rfl⟩
              have k21 : ∀ W, LX B w W b X [(sb, .cells #[.int .i64 kd, .int .i64 y, .int .i64 z] 31), (mb, mo X)] → Calls Try.prog 21 #[ptr b] W fun e w' => e = .returned (.int .i64 F) ∧ Hid (LX B w w' b X [(sb, .cells #[.int .i64 kd, .int .i64 y, .int .i64 z] 31), (mb, mo X)]) := fun W h => slots_at F hF h
              have k20 : ∀ W, LX B w W b X [(sb, .cells #[.int .i64 kd, .int .i64 y, .int .i64 z] 31), (mb, mo X)] → Calls Try.prog 20 #[ptr b] W fun e w' => e = .returned (.int .i64 RM) ∧ Hid (LX B w w' b X [(sb, .cells #[.int .i64 kd, .int .i64 y, .int .i64 z] 31), (mb, mo X)]) := fun W h => room_at RM hRM h
              unfold M.free at hF
              unfold M.room at hRM
              have v1 : IntKind.i64.wrap ((T : Int) + F) = (n0 : Int) := by rw [IntKind.wrap_i64]; omega
              have v2 : wrap64 ((T : Int) + F) = (n0 : Int) := by rw [← v1, IntKind.wrap_i64]; unfold wrap64; omega
              have v3 : IntKind.i64.wrap (A + RM) = BU := by rw [IntKind.wrap_i64]; have := hin.bM; omega
              have v4 : wrap64 (A + RM) = BU := by rw [← v3, IntKind.wrap_i64]; unfold wrap64; omega
              have z1 : ((n0 : Int) != n0) = false := by simp
              have z2 : (n0 != n0) = false := by simp
              have z3 : (BU != BU) = false := by simp
              have z4 : (A != A) = false := by simp
              have z5 : decide (A < 0) = false := by simp; omega
              have z6 : decide (BU < A) = false := by simp; omega
              have HF : Hid (∀ W, LX B w W b X [(sb, .cells #[.int .i64 kd, .int .i64 y, .int .i64 z] 31), (mb, mo X)] → LX B w W b X [(mb, mo X)]) := fun W h => h.drop (fun p hp => by simp at hp; simp [hp])
              clear hk hin HTA hT hA hX1 hX2 hus htk hF hRM
              go_wp2_with (go_at_call 21; refine (k21 _ s.out).mono ?_; rintro e w20 ⟨rfl, s20⟩; refine Hid.out ?_)
              refine hide_it ?_
              go_wp2_with (go_at_call 18; refine (k18 _ s20.out).mono ?_; rintro e w21 ⟨rfl, s21⟩; refine Hid.out ?_)
              refine hide_it ?_
              go_wp2_with (go_at_call 18; refine (k18 _ s21.out).mono ?_; rintro e w22 ⟨rfl, s22⟩; refine Hid.out ?_)
              refine hide_it ?_
              go_wp2_with (go_at_call 18; refine (k18 _ s22.out).mono ?_; rintro e w23 ⟨rfl, s23⟩; refine Hid.out ?_)
              refine hide_it ?_
              go_wp2_with (go_at_call 18; refine (k18 _ s23.out).mono ?_; rintro e w24 ⟨rfl, s24⟩; refine Hid.out ?_)
              refine hide_it ?_
              go_wp2_with (go_at_call 20; refine (k20 _ s24.out).mono ?_; rintro e w25 ⟨rfl, s25⟩)
              go_roundw
              case rel => exact ⟨i + 1, X, by go_num, by omega, by omega, HF.out _ s25.out, HBX⟩
              case measure => simp [intOf]; omega
      · have d3 : (kd == 3) = false := by simp [hk3]
        have k12 : ∀ W, LX B w W b x [(sb, .cells #[.int .i64 kd, .int .i64 y, .int .i64 z] 31), (mb, mo x)] → Calls Try.prog 12 #[ptr b, .int .i64 y, .int .i64 z] W fun e w' => e = .returned (.tuple #[.int .i64 (ts x y z : Nat), .int .i64 (te x y z : Nat)]) ∧ Hid (LX B w w' b (tx x y z) [(sb, .cells #[.int .i64 kd, .int .i64 y, .int .i64 z] 31), (mb, mo x)]) := fun W h => take_any h y z
        have HBX : Hid ((tx x y z).bu = BU ∧ (tx x y z).n = n0) := tx_keeps HB.out
        by_cases h0 : te x y z = 0
        · obtain ⟨k, hkn, e1, e2, e3⟩ := bo_take h0
          have hk16 : k < 16 := by have := hin.n16; omega
          have hk16' : (k : Int) < 16 := by omega
          have hkn2 : k < n0 := by have := HB.out.2; omega
          rw [h0, e1] at k12
          rw [e2] at k16
          simp only [Option.getD_none, Option.isSome_none] at k16
          have HM : Hid (∀ W X, LX B w W b X [(sb, .cells #[.int .i64 kd, .int .i64 y, .int .i64 z] 31), (mb, mo x)] → (∃ v, W.cell? ⟨mb, k, none⟩ = some (.int .i64 v)) ∧ W.frozen? ⟨mb, k, none⟩ = false) := fun W X h => ⟨⟨_, h.memc hk16⟩, h.memf k⟩
          have HW : Hid (∀ W, LX B w W b (tx x y z) [(sb, .cells #[.int .i64 kd, .int .i64 y, .int .i64 z] 31), (mb, mo x)] → LX B w (W.setCell ⟨mb, k, none⟩ (.int .i64 z)) b (tx x y z) [(sb, .cells #[.int .i64 kd, .int .i64 y, .int .i64 z] 31), (mb, mo (tx x y z))]) := fun W h => h.set2 (p := ⟨true, y, z⟩) hne hk16 e3
          have p1 : decide ((n0 : Int) ≤ (k : Int)) = false := by simp; omega
          have p2 : decide (n0 ≤ k) = false := by simp; omega
          generalize tx x y z = X at *
          clear e1 e2 e3 hk3 hin h0 hkn hkn2 HB
          go_wp2_with (first | (go_at_call 16; refine k16.mono ?_; rintro e w6 ⟨rfl, s6⟩; obtain ⟨d0, d1, d2⟩ := HC.out _ _ s6.out) | (go_at_call 12; refine (k12 _ s6.out).mono ?_; rintro e w7 ⟨rfl, s7⟩; obtain ⟨d0, d1, d2⟩ := HC.out _ _ s7.out; obtain ⟨⟨v, qm⟩, qf⟩ := HM.out _ _ s7.out))
          go_loopw [18, 19, 20] (fun hv av kv W => ∃ (k : Nat) (T : Nat) (A : Int), hv = .int .i64 T ∧ av = .int .i64 A ∧ kv = .int .i64 k ∧ k ≤ 16 ∧ Hid (LX B w W b X [(sb, .cells #[.int .i64 kd, .int .i64 y, .int .i64 z] 31), (mb, mo X)]) ∧ Hid (T = tk X.P k ∧ A = us X.P k)) (fun _ _ kv _ => 16 - (intOf kv).toNat)
          case atStart => exact ⟨0, 0, 0, rfl, rfl, rfl, by omega, HW.out _ s7.out, rfl, rfl⟩
          case round =>
            obtain ⟨k, T, A, rfl, rfl, rfl, hk16, s, HTA⟩ := hrel
            by_cases hlt16 : k < 16
            · have hlt16' : (k : Int) < 16 := by omega
              have hin := s.out.inv
              obtain ⟨hT, hA⟩ := HTA.out
              have hTb : (T : Int) ≤ 16 := by have := tk_le X.P k; omega
              have hA1 := hin.usP (k := k) (by omega)
              have hA2 := hin.usP (k := k + 1) (by omega)
              have hbM := hin.bM
              have hm0 := hin.m0 k
              have hAs : us X.P (k + 1) = us X.P k + (X.P k).m := rfl
              have hTs : tk X.P (k + 1) = tk X.P k + (if (X.P k).t then 1 else 0) := rfl
              have k23 := at_any s.out (k : Int)
              have HMC : Hid (∀ W, LX B w W b X [(sb, .cells #[.int .i64 kd, .int .i64 y, .int .i64 z] 31), (mb, mo X)] → W.cell? ⟨mb, k, none⟩ = some (.int .i64 (X.P k).m)) := fun W h => h.memc hlt16
              have k16 : ∀ W, LX B w W b X [(sb, .cells #[.int .i64 kd, .int .i64 y, .int .i64 z] 31), (mb, mo X)] → Calls Try.prog 16 #[ptr b, .int .i64 (atI X k)] W fun e w' => e = .returned (.tuple #[.int .i64 ((slo X (atI X k)).getD 0 : Nat), .bool (slo X (atI X k)).isSome]) ∧ Hid (LX B w w' b X [(sb, .cells #[.int .i64 kd, .int .i64 y, .int .i64 z] 31), (mb, mo X)]) := fun W h => slot_any h _
              cases hcb : atB X k with
              | true =>
                obtain ⟨e1, e2, e3⟩ := bo_yes hin hcb
                rw [hcb] at k23
                rw [e2] at k16
                simp only [Option.getD_some, Option.isSome_some] at k16
                rw [e3, if_pos rfl] at hTs
                have hkn : k < n0 := by have := HBX.out.2; omega
                have q1 : decide ((n0 : Int) ≤ (k : Int)) = false := by simp; omega
                have q2 : decide (n0 ≤ k) = false := by simp; omega
                have q3 : ((k : Int) != k) = false := by simp
                have q4 : (k != k) = false := by simp
                generalize atI X k = Z at *
                generalize hM : (X.P k).m = M0 at *
                have a1 : 0 ≤ A := by omega
                have a2 : 0 ≤ M0 := hm0
                have a3 : A + M0 ≤ 9223372036854775807 := by omega
                have HTA2 : Hid (T + 1 = tk X.P (k + 1) ∧ A + M0 = us X.P (k + 1)) := ⟨by omega, by omega⟩
                clear e1 e2 e3 hcb HTA hT hA hA1 hA2 hbM hm0 hAs hTs hin hM
                go_wp2_with (first | (go_at_call 23; refine k23.mono ?_; rintro e w13 ⟨rfl, s13⟩) | (go_at_call 16; refine (k16 _ s13.out).mono ?_; rintro e w14 ⟨rfl, s14⟩; have cM := HMC.out _ s14.out))
                go_roundw
                case rel => exact ⟨k + 1, T + 1, A + M0, by go_num, by go_num, by go_num, by omega, s14, HTA2⟩
                case measure => simp [intOf]; omega
              | false =>
                have e3 := bo_no hin hcb
                rw [hcb] at k23
                rw [e3] at hTs
                generalize atI X k = Z at *
                generalize (((slo X Z).getD 0 : Nat) : Int) = Q at *
                generalize (slo X Z).isSome = C at *
                generalize hM : (X.P k).m = M0 at *
                have a1 : 0 ≤ A := by omega
                have a2 : 0 ≤ M0 := hm0
                have a3 : A + M0 ≤ 9223372036854775807 := by omega
                have HTA2 : Hid (T = tk X.P (k + 1) ∧ A + M0 = us X.P (k + 1)) := ⟨by simp at hTs; omega, by omega⟩
                clear e3 hcb HTA hT hA hA1 hA2 hbM hm0 hAs hTs hin hM
                go_wp2_with (first | (go_at_call 23; refine k23.mono ?_; rintro e w13 ⟨rfl, s13⟩) | (go_at_call 16; refine (k16 _ s13.out).mono ?_; rintro e w14 ⟨rfl, s14⟩; have cM := HMC.out _ s14.out))
                go_roundw
                case rel => exact ⟨k + 1, T, A + M0, by go_num, by go_num, by go_num, by omega, s14, HTA2⟩
                case measure => simp [intOf]; omega
            · have d3 : decide ((k : Int) < 16) = false := by simp; omega
              have d4 : decide (k < 16) = false := by simp; omega
              have hk : k = 16 := by omega
              have hin := s.out.inv
              obtain ⟨hT, hA⟩ := HTA.out
              rw [hk] at hT hA
              obtain ⟨hX1, hX2⟩ := HBX.out
              have hus := hin.usP (k := 16) (by omega)
              have htk := hin.tkn
              have k18 : ∀ W, LX B w W b X [(sb, .cells #[.int .i64 kd, .int .i64 y, .int .i64 z] 31), (mb, mo X)] → Calls Try.prog 18 #[ptr b] W fun e w' => e = .returned (.int .i64 A) ∧ Hid (LX B w w' b X [(sb, .cells #[.int .i64 kd, .int .i64 y, .int .i64 z] 31), (mb, mo X)]) := fun W h => used_at A hA.symm h
              obtain ⟨F, hF⟩ : ∃ F, M.free X = F := ⟨_, rfl⟩
              obtain ⟨RM, hRM⟩ : ∃ r, room X = r := ⟨_, rfl⟩
              have k21 : ∀ W, LX B w W b X [(sb, .cells #[.int .i64 kd, .int .i64 y, .int .i64 z] 31), (mb, mo X)] → Calls Try.prog 21 #[ptr b] W fun e w' => e = .returned (.int .i64 F) ∧ Hid (LX B w w' b X [(sb, .cells #[.int .i64 kd, .int .i64 y, .int .i64 z] 31), (mb, mo X)]) := fun W h => slots_at F hF h
              have k20 : ∀ W, LX B w W b X [(sb, .cells #[.int .i64 kd, .int .i64 y, .int .i64 z] 31), (mb, mo X)] → Calls Try.prog 20 #[ptr b] W fun e w' => e = .returned (.int .i64 RM) ∧ Hid (LX B w w' b X [(sb, .cells #[.int .i64 kd, .int .i64 y, .int .i64 z] 31), (mb, mo X)]) := fun W h => room_at RM hRM h
              unfold M.free at hF
              unfold M.room at hRM
              have v1 : IntKind.i64.wrap ((T : Int) + F) = (n0 : Int) := by rw [IntKind.wrap_i64]; omega
              have v2 : wrap64 ((T : Int) + F) = (n0 : Int) := by rw [← v1, IntKind.wrap_i64]; unfold wrap64; omega
              have v3 : IntKind.i64.wrap (A + RM) = BU := by rw [IntKind.wrap_i64]; have := hin.bM; omega
              have v4 : wrap64 (A + RM) = BU := by rw [← v3, IntKind.wrap_i64]; unfold wrap64; omega
              have z1 : ((n0 : Int) != n0) = false := by simp
              have z2 : (n0 != n0) = false := by simp
              have z3 : (BU != BU) = false := by simp
              have z4 : (A != A) = false := by simp
              have z5 : decide (A < 0) = false := by simp; omega
              have z6 : decide (BU < A) = false := by simp; omega
              have HF : Hid (∀ W, LX B w W b X [(sb, .cells #[.int .i64 kd, .int .i64 y, .int .i64 z] 31), (mb, mo X)] → LX B w W b X [(mb, mo X)]) := fun W h => h.drop (fun p hp => by simp at hp; simp [hp])
              clear hk hin HTA hT hA hX1 hX2 hus htk hF hRM
              go_wp2_with (go_at_call 21; refine (k21 _ s.out).mono ?_; rintro e w20 ⟨rfl, s20⟩; refine Hid.out ?_)
              refine hide_it ?_
              go_wp2_with (go_at_call 18; refine (k18 _ s20.out).mono ?_; rintro e w21 ⟨rfl, s21⟩; refine Hid.out ?_)
              refine hide_it ?_
              go_wp2_with (go_at_call 18; refine (k18 _ s21.out).mono ?_; rintro e w22 ⟨rfl, s22⟩; refine Hid.out ?_)
              refine hide_it ?_
              go_wp2_with (go_at_call 18; refine (k18 _ s22.out).mono ?_; rintro e w23 ⟨rfl, s23⟩; refine Hid.out ?_)
              refine hide_it ?_
              go_wp2_with (go_at_call 18; refine (k18 _ s23.out).mono ?_; rintro e w24 ⟨rfl, s24⟩; refine Hid.out ?_)
              refine hide_it ?_
              go_wp2_with (go_at_call 20; refine (k20 _ s24.out).mono ?_; rintro e w25 ⟨rfl, s25⟩)
              go_roundw
              case rel => exact ⟨i + 1, X, by go_num, by omega, by omega, HF.out _ s25.out, HBX⟩
              case measure => simp [intOf]; omega
        · obtain ⟨e1, e2⟩ := bo_kept h0
          rw [e1, e2] at k12
          rw [e2] at HBX
          have f1 : (((te x y z : Nat) : Int) == 0) = false := by simp; omega
          generalize ((te x y z : Nat) : Int) = E at *
          generalize (((slo x y).getD 0 : Nat) : Int) = Q at *
          generalize (slo x y).isSome = hs at *
          obtain ⟨X, rfl⟩ : ∃ X, X = x := ⟨_, rfl⟩
          clear e1 e2 hk3 hin h0 HB
          go_wp2_with (first | (go_at_call 16; refine k16.mono ?_; rintro e w6 ⟨rfl, s6⟩; obtain ⟨d0, d1, d2⟩ := HC.out _ _ s6.out) | (go_at_call 12; refine (k12 _ s6.out).mono ?_; rintro e w7 ⟨rfl, s7⟩))
          go_loopw [18, 19, 20] (fun hv av kv W => ∃ (k : Nat) (T : Nat) (A : Int), hv = .int .i64 T ∧ av = .int .i64 A ∧ kv = .int .i64 k ∧ k ≤ 16 ∧ Hid (LX B w W b X [(sb, .cells #[.int .i64 kd, .int .i64 y, .int .i64 z] 31), (mb, mo X)]) ∧ Hid (T = tk X.P k ∧ A = us X.P k)) (fun _ _ kv _ => 16 - (intOf kv).toNat)
          case atStart => exact ⟨0, 0, 0, rfl, rfl, rfl, by omega, s7, rfl, rfl⟩
          case round =>
            obtain ⟨k, T, A, rfl, rfl, rfl, hk16, s, HTA⟩ := hrel
            by_cases hlt16 : k < 16
            · have hlt16' : (k : Int) < 16 := by omega
              have hin := s.out.inv
              obtain ⟨hT, hA⟩ := HTA.out
              have hTb : (T : Int) ≤ 16 := by have := tk_le X.P k; omega
              have hA1 := hin.usP (k := k) (by omega)
              have hA2 := hin.usP (k := k + 1) (by omega)
              have hbM := hin.bM
              have hm0 := hin.m0 k
              have hAs : us X.P (k + 1) = us X.P k + (X.P k).m := rfl
              have hTs : tk X.P (k + 1) = tk X.P k + (if (X.P k).t then 1 else 0) := rfl
              have k23 := at_any s.out (k : Int)
              have HMC : Hid (∀ W, LX B w W b X [(sb, .cells #[.int .i64 kd, .int .i64 y, .int .i64 z] 31), (mb, mo X)] → W.cell? ⟨mb, k, none⟩ = some (.int .i64 (X.P k).m)) := fun W h => h.memc hlt16
              have k16 : ∀ W, LX B w W b X [(sb, .cells #[.int .i64 kd, .int .i64 y, .int .i64 z] 31), (mb, mo X)] → Calls Try.prog 16 #[ptr b, .int .i64 (atI X k)] W fun e w' => e = .returned (.tuple #[.int .i64 ((slo X (atI X k)).getD 0 : Nat), .bool (slo X (atI X k)).isSome]) ∧ Hid (LX B w w' b X [(sb, .cells #[.int .i64 kd, .int .i64 y, .int .i64 z] 31), (mb, mo X)]) := fun W h => slot_any h _
              cases hcb : atB X k with
              | true =>
                obtain ⟨e1, e2, e3⟩ := bo_yes hin hcb
                rw [hcb] at k23
                rw [e2] at k16
                simp only [Option.getD_some, Option.isSome_some] at k16
                rw [e3, if_pos rfl] at hTs
                have hkn : k < n0 := by have := HBX.out.2; omega
                have q1 : decide ((n0 : Int) ≤ (k : Int)) = false := by simp; omega
                have q2 : decide (n0 ≤ k) = false := by simp; omega
                have q3 : ((k : Int) != k) = false := by simp
                have q4 : (k != k) = false := by simp
                generalize atI X k = Z at *
                generalize hM : (X.P k).m = M0 at *
                have a1 : 0 ≤ A := by omega
                have a2 : 0 ≤ M0 := hm0
                have a3 : A + M0 ≤ 9223372036854775807 := by omega
                have HTA2 : Hid (T + 1 = tk X.P (k + 1) ∧ A + M0 = us X.P (k + 1)) := ⟨by omega, by omega⟩
                clear e1 e2 e3 hcb HTA hT hA hA1 hA2 hbM hm0 hAs hTs hin hM
                go_wp2_with (first | (go_at_call 23; refine k23.mono ?_; rintro e w13 ⟨rfl, s13⟩) | (go_at_call 16; refine (k16 _ s13.out).mono ?_; rintro e w14 ⟨rfl, s14⟩; have cM := HMC.out _ s14.out))
                go_roundw
                case rel => exact ⟨k + 1, T + 1, A + M0, by go_num, by go_num, by go_num, by omega, s14, HTA2⟩
                case measure => simp [intOf]; omega
              | false =>
                have e3 := bo_no hin hcb
                rw [hcb] at k23
                rw [e3] at hTs
                generalize atI X k = Z at *
                generalize (((slo X Z).getD 0 : Nat) : Int) = Q at *
                generalize (slo X Z).isSome = C at *
                generalize hM : (X.P k).m = M0 at *
                have a1 : 0 ≤ A := by omega
                have a2 : 0 ≤ M0 := hm0
                have a3 : A + M0 ≤ 9223372036854775807 := by omega
                have HTA2 : Hid (T = tk X.P (k + 1) ∧ A + M0 = us X.P (k + 1)) := ⟨by simp at hTs; omega, by omega⟩
                clear e3 hcb HTA hT hA hA1 hA2 hbM hm0 hAs hTs hin hM
                go_wp2_with (first | (go_at_call 23; refine k23.mono ?_; rintro e w13 ⟨rfl, s13⟩) | (go_at_call 16; refine (k16 _ s13.out).mono ?_; rintro e w14 ⟨rfl, s14⟩; have cM := HMC.out _ s14.out))
                go_roundw
                case rel => exact ⟨k + 1, T, A + M0, by go_num, by go_num, by go_num, by omega, s14, HTA2⟩
                case measure => simp [intOf]; omega
            · have d3 : decide ((k : Int) < 16) = false := by simp; omega
              have d4 : decide (k < 16) = false := by simp; omega
              have hk : k = 16 := by omega
              have hin := s.out.inv
              obtain ⟨hT, hA⟩ := HTA.out
              rw [hk] at hT hA
              obtain ⟨hX1, hX2⟩ := HBX.out
              have hus := hin.usP (k := 16) (by omega)
              have htk := hin.tkn
              have k18 : ∀ W, LX B w W b X [(sb, .cells #[.int .i64 kd, .int .i64 y, .int .i64 z] 31), (mb, mo X)] → Calls Try.prog 18 #[ptr b] W fun e w' => e = .returned (.int .i64 A) ∧ Hid (LX B w w' b X [(sb, .cells #[.int .i64 kd, .int .i64 y, .int .i64 z] 31), (mb, mo X)]) := fun W h => used_at A hA.symm h
              obtain ⟨F, hF⟩ : ∃ F, M.free X = F := ⟨_, rfl⟩
              obtain ⟨RM, hRM⟩ : ∃ r, room X = r := ⟨_, rfl⟩
              have k21 : ∀ W, LX B w W b X [(sb, .cells #[.int .i64 kd, .int .i64 y, .int .i64 z] 31), (mb, mo X)] → Calls Try.prog 21 #[ptr b] W fun e w' => e = .returned (.int .i64 F) ∧ Hid (LX B w w' b X [(sb, .cells #[.int .i64 kd, .int .i64 y, .int .i64 z] 31), (mb, mo X)]) := fun W h => slots_at F hF h
              have k20 : ∀ W, LX B w W b X [(sb, .cells #[.int .i64 kd, .int .i64 y, .int .i64 z] 31), (mb, mo X)] → Calls Try.prog 20 #[ptr b] W fun e w' => e = .returned (.int .i64 RM) ∧ Hid (LX B w w' b X [(sb, .cells #[.int .i64 kd, .int .i64 y, .int .i64 z] 31), (mb, mo X)]) := fun W h => room_at RM hRM h
              unfold M.free at hF
              unfold M.room at hRM
              have v1 : IntKind.i64.wrap ((T : Int) + F) = (n0 : Int) := by rw [IntKind.wrap_i64]; omega
              have v2 : wrap64 ((T : Int) + F) = (n0 : Int) := by rw [← v1, IntKind.wrap_i64]; unfold wrap64; omega
              have v3 : IntKind.i64.wrap (A + RM) = BU := by rw [IntKind.wrap_i64]; have := hin.bM; omega
              have v4 : wrap64 (A + RM) = BU := by rw [← v3, IntKind.wrap_i64]; unfold wrap64; omega
              have z1 : ((n0 : Int) != n0) = false := by simp
              have z2 : (n0 != n0) = false := by simp
              have z3 : (BU != BU) = false := by simp
              have z4 : (A != A) = false := by simp
              have z5 : decide (A < 0) = false := by simp; omega
              have z6 : decide (BU < A) = false := by simp; omega
              have HF : Hid (∀ W, LX B w W b X [(sb, .cells #[.int .i64 kd, .int .i64 y, .int .i64 z] 31), (mb, mo X)] → LX B w W b X [(mb, mo X)]) := fun W h => h.drop (fun p hp => by simp at hp; simp [hp])
              clear hk hin HTA hT hA hX1 hX2 hus htk hF hRM
              go_wp2_with (go_at_call 21; refine (k21 _ s.out).mono ?_; rintro e w20 ⟨rfl, s20⟩; refine Hid.out ?_)
              refine hide_it ?_
              go_wp2_with (go_at_call 18; refine (k18 _ s20.out).mono ?_; rintro e w21 ⟨rfl, s21⟩; refine Hid.out ?_)
              refine hide_it ?_
              go_wp2_with (go_at_call 18; refine (k18 _ s21.out).mono ?_; rintro e w22 ⟨rfl, s22⟩; refine Hid.out ?_)
              refine hide_it ?_
              go_wp2_with (go_at_call 18; refine (k18 _ s22.out).mono ?_; rintro e w23 ⟨rfl, s23⟩; refine Hid.out ?_)
              refine hide_it ?_
              go_wp2_with (go_at_call 18; refine (k18 _ s23.out).mono ?_; rintro e w24 ⟨rfl, s24⟩; refine Hid.out ?_)
              refine hide_it ?_
              go_wp2_with (go_at_call 20; refine (k20 _ s24.out).mono ?_; rintro e w25 ⟨rfl, s25⟩)
              go_roundw
              case rel => exact ⟨i + 1, X, by go_num, by omega, by omega, HF.out _ s25.out, HBX⟩
              case measure => simp [intOf]; omega
    · by_cases hlt : i < m
      · have d1 : decide ((i : Int) < 200) = false := by simp; omega
        have d2 : decide (i < 200) = false := by simp; omega
        clear HI HB
        go_wp2
        go_ret
        exact ⟨rfl, s.out.bel⟩
      · have d1 : decide ((i : Int) < m) = false := by simp; omega
        have d2 : decide (i < m) = false := by simp; omega
        clear HI HB
        go_wp2
        go_ret
        exact ⟨rfl, s.out.bel⟩
end Go.Proofs.Ytkcbigmccplpiaa
