/- TimerNext, walked. -/
import Derived.Test.YtlpbjafdmhcmgaaRow
import Derived.Deep.RegionHeld3
import Derived.Deep.CutRange
import Derived.Deep.CutBlock
import Derived.BigQuiet
namespace Go.Proofs.Ytlpbjafdmhcmgaa
open Go.RowKit
open M
set_option linter.unusedVariables false
set_option linter.unusedSimpArgs false

/-- All times are such. -/
def Tms (n : Nat) (P : Int → Prop) (S : Nat → Option Int) : Prop := ∀ x y, x < n → S x = some y → P y
theorem Tms.start (n : Nat) (P : Int → Prop) : Tms n P (fun _ => none) := fun x y _ h => by cases h
theorem Tms.set_ {n : Nat} {P : Int → Prop} {S : Nat → Option Int} (h : Tms n P S) (id : Int) {y : Int} (hy : P y) : Tms n P (setS n S id y) := by
  intro x z hx hz
  unfold setS at hz
  split at hz
  · by_cases e : x = id.toNat
    · subst e; rw [upS_is] at hz; cases hz; exact hy
    · rw [upS_ne _ _ e] at hz; exact h x z hx hz
  · exact h x z hx hz
theorem Tms.stop {n : Nat} {P : Int → Prop} {S : Nat → Option Int} (h : Tms n P S) (id : Int) : Tms n P (remS n S id) := by
  intro x z hx hz
  unfold remS at hz
  split at hz
  · by_cases e : x = id.toNat
    · subst e; rw [upS_is] at hz; cases hz
    · rw [upS_ne _ _ e] at hz; exact h x z hx hz
  · exact h x z hx hz
theorem Tms.due {n : Nat} {P : Int → Prop} {S : Nat → Option Int} (h : Tms n P S) (now : Int) : Tms n P (dueS S now) := fun x z hx hz => h x z hx (dueS_some.1 hz).1

theorem StepsIn.atP {w : World} {a : Option Addr} {l : List (Int × Int × Int)} (h : StepsIn w a l) {i : Nat} (hi : i < l.length) : ∃ x y z b o, a = some ⟨b, o, none⟩ ∧ l[i] = (x, y, z) ∧ ∀ W, Below w.heap.size w W → W.cell? ⟨b, o + i * 3, none⟩ = some (.int .i64 x) ∧ W.cell? ⟨b, o + i * 3 + 1, none⟩ = some (.int .i64 y) ∧ W.cell? ⟨b, o + i * 3 + 2, none⟩ = some (.int .i64 z) := by
  obtain ⟨b, o, h1, h2, h3, h4, h5⟩ := h i hi
  exact ⟨_, _, _, b, o, h1, rfl, fun W hb => ⟨by rw [hb.cell (p := ⟨b, _, none⟩) h2]; exact h3, by rw [hb.cell (p := ⟨b, _, none⟩) h2]; exact h4, by rw [hb.cell (p := ⟨b, _, none⟩) h2]; exact h5⟩⟩

/-- Nothing is due ahead of the first, something at it. -/
theorem due_ahead {n : Nat} {S : Nat → Option Int} {x : Nat} {y now : Int} {L : List Nat} (hf : Fst n S x y) (h : Due n S now L) (hy : now < y) : L = [] := h.nil.2 (fun z u hz hu => by have := hf.le z u hz hu; omega)
theorem due_at {n : Nat} {S : Nat → Option Int} {x : Nat} {y now : Int} {L : List Nat} (hf : Fst n S x y) (h : Due n S now L) (hy : y ≤ now) : L.length ≠ 0 := by
  intro e
  have := (h.mem x).2 ⟨hf.lt, y, hf.is, hy⟩
  rw [List.eq_nil_of_length_eq_zero e] at this
  simp at this
theorem dueS_ahead {n : Nat} {S : Nat → Option Int} {x : Nat} {y now : Int} (hf : Fst n S x y) (hy : now < y) : ∀ z, z < n → S z = dueS S now z := by
  intro z hz
  cases hs : S z with
  | none => exact (dueS_none.2 (.inl hs)).symm
  | some u => exact (dueS_some.2 ⟨hs, by have := hf.le z u hz hs; omega⟩).symm
theorem cntS_due {n : Nat} {S : Nat → Option Int} {now : Int} : cntS n (dueS S now) ≤ cntS n S := by
  unfold cntS
  induction n with
  | zero => simp [cnt]
  | succ n ih =>
    unfold cnt
    cases hs : dueS S now n with
    | none => simp; omega
    | some u => rw [(dueS_some.1 hs).1]; simp; exact ih
theorem cntS_lt {n : Nat} {S : Nat → Option Int} {now : Int} {x : Nat} {y : Int} (hx : x < n) (hs : S x = some y) (hy : y ≤ now) : cntS n (dueS S now) + 1 ≤ cntS n S := by
  have h1 : dueS S now x = none := dueS_none.2 (.inr ⟨y, hs, hy⟩)
  have e := cnt_set (p := fun z => (upS S x none z).isSome) (q := fun z => (S z).isSome) hx (fun z hz e => by simp [upS_ne _ _ e]) (by simp [upS_is]) (by simp [hs])
  have h2 : cntS n (dueS S now) = cntS n (dueS (upS S x none) now) := cnt_congr (fun z hz => by
    by_cases q : z = x
    · subst q
      rw [h1]
      simp [dueS, upS_is]
    · simp [dueS, upS_ne _ _ q])
  have h3 : cntS n (dueS (upS S x none) now) ≤ cntS n (upS S x none) := cntS_due
  unfold cntS at *
  omega

set_option maxRecDepth 1000000 in
set_option maxHeartbeats 8000000 in
theorem timerNext_walk (n : Int) (l : List (Int × Int × Int)) (a : Option Addr) (cap : Nat) (w : World) (hI : StepsIn w a l) (hl : l.length ≤ cap) (hc : cap ≤ maxLen) (hb : ∀ t ∈ l, i64B t.1 ∧ i64B t.2.1 ∧ i64B t.2.2) :
    Calls Try.prog 5 #[.int .i64 n, .slice a l.length cap] w fun e w' => e = .returned (.bool true) ∧ Below w.heap.size w w' := by
  obtain ⟨B, hB⟩ : ∃ B, w.heap.size = B := ⟨_, rfl⟩
  have ks : Calls Try.prog 10 #[] w fun e w' => e = .returned (.bool true) ∧ Hid (Below B w w') := by
    have := shown_any w
    rw [hB] at this
    exact this
  have hle : B ≤ w.heap.size := by omega
  obtain ⟨u, hu, hu2⟩ := and16 n
  obtain ⟨N, hN⟩ : ∃ N, u % 50 = N := ⟨_, rfl⟩
  have hN1 : N < 50 := by omega
  have q1 : (u : Int).tmod 50 = (N : Int) := by rw [Int.tmod_eq_emod_of_nonneg (by omega)]; omega
  have q2 : (u : Int) % 50 = (N : Int) := by omega
  have kn : ∀ W, Below B w W → Calls Try.prog 11 #[.int .i64 N] W fun e w' => ∃ t g, e = .returned (ptr t) ∧ Hid (MX B w w' [(t, g, N, fun _ => none)] []) := fun W hb => mx_new hb hle N (by omega)
  have hcm : cap ≤ 9223372036854775807 := by unfold maxLen at hc; omega
  obtain ⟨m, hm⟩ : ∃ m, l.length = m := ⟨_, rfl⟩
  rw [hm] at hl ⊢
  have HI : Hid (∀ (i : Nat), i < m → ∃ x y z b o, a = some ⟨b, o, none⟩ ∧ i64B z ∧ ∀ W, Below B w W → W.cell? ⟨b, o + i * 3, none⟩ = some (.int .i64 x) ∧ W.cell? ⟨b, o + i * 3 + 1, none⟩ = some (.int .i64 y) ∧ W.cell? ⟨b, o + i * 3 + 2, none⟩ = some (.int .i64 z)) := fun i hi => by
    obtain ⟨x, y, z, b, o, h1, h2, h3⟩ := hI.atP (i := i) (by omega)
    have := hb _ (List.getElem_mem (show i < l.length by omega))
    rw [h2] at this
    rw [hB] at h3
    exact ⟨x, y, z, b, o, h1, this.2.2, h3⟩
  rw [hB]
  clear hI hc hB hm hN hb
  go_enter Try.func5, Try.ntmps5
  go_wp2_with (first | (go_at_call 10; refine ks.mono ?_; rintro e w1 ⟨rfl, s1⟩; clear ks) | (go_at_call 11; refine (kn _ s1.out).mono ?_; rintro e w2 ⟨t, g, rfl, s⟩; clear kn s1))
  have HT0 : Hid (Tms N (fun y => -4611686018427387904 ≤ y ∧ y ≤ 4611686018427387904) (fun _ => none)) := Tms.start _ _
  go_loopw [7] (fun iv W => ∃ (i : Nat) (S : Nat → Option Int), iv = .int .i64 i ∧ i ≤ m ∧ i ≤ 100 ∧ Hid (MX B w W [(t, g, N, S)] []) ∧ Hid (Tms N (fun y => -4611686018427387904 ≤ y ∧ y ≤ 4611686018427387904) S)) (fun iv _ => m - (intOf iv).toNat)
  case atStart => exact ⟨0, _, rfl, Nat.zero_le _, by omega, s, HT0⟩
  case round =>
    clear s HT0
    obtain ⟨i, S, rfl, hi, hi2, s, HT⟩ := hrel
    by_cases hlt : i < m
    · by_cases hlt2 : i < 100
      · obtain ⟨x, y, z, b1, o1, rfl, hz, HX⟩ := HI.out i hlt
        have HX := hide_it HX
        obtain ⟨c0, c1, c2⟩ := HX.out _ s.out.bel
        have d1 : decide ((i : Int) < 100) = true := decide_eq_true (by omega)
        have d2 : decide (i < 100) = true := decide_eq_true (by omega)
        unfold i64B at hz
        by_cases hx : x = 3
        · subst hx
          have kk := s.out.stop 0 rfl y
          have HT2 := hide_it (HT.out.stop y)
          simp only [List.set_cons_zero] at kk
          generalize hasB N S y = E1 at kk
          generalize remS N S y = S1 at kk HT2
          go_wp2_with (go_at_call 14; refine kk.mono ?_; rintro e w3 ⟨rfl, t3⟩)
          go_roundw
          case rel => exact ⟨i + 1, S1, by go_num, by omega, by omega, t3, HT2⟩
          case measure => simp [intOf]; omega
        · have hx2 : (x == 3) = false := by simp [hx]
          have sD := hide_it (s.out.below (w' := wr.drew) ((Below.refl _ _).drew))
          have kk := sD.out.set_ 0 rfl y (z / 2)
          have HT2 := hide_it (HT.out.set_ y (y := z / 2) (by omega))
          simp only [List.set_cons_zero] at kk
          generalize setE N y = E1 at kk
          generalize setS N S y (z / 2) = S1 at kk HT2
          go_upto_region 11 with fail
          go_region_held3 (fun V => V.cell? ⟨b1, o1 + i * 3 + 1, none⟩ = some (.int .i64 y) ∧ V.cell? ⟨b1, o1 + i * 3 + 2, none⟩ = some (.int .i64 z)) (first | exact (HX.out _ t3.out.bel).2 | go_keep) (first | (go_at_call 12; refine kk.mono ?_; rintro e w3 ⟨rfl, t3⟩))
          all_goals
            go_wp2
            go_roundw
            case rel => exact ⟨i + 1, S1, by go_num, by omega, by omega, t3, HT2⟩
            case measure => simp [intOf]; omega
      · have d1 : decide ((i : Int) < 100) = false := by simp; omega
        have d2 : decide (i < 100) = false := by simp; omega
        go_wp2
        go_loopw [8] (fun jv W => ∃ (j : Nat) (S : Nat → Option Int), jv = .int .i64 j ∧ j + cntS N S ≤ 50 ∧ Hid (MX B w W [(t, g, N, S)] []) ∧ Hid (Tms N (fun y => -4611686018427387904 ≤ y ∧ y ≤ 4611686018427387904) S)) (fun jv _ => 51 - (intOf jv).toNat)
        case atStart => exact ⟨0, S, rfl, by have := cntS_le N S; omega, s, HT⟩
        case round =>
          clear s HT HI d1 d2
          obtain ⟨j, S, rfl, hj, s, HT⟩ := hrel
          have d1 : decide ((j : Int) < 51) = true := decide_eq_true (by omega)
          have d2 : decide (j < 51) = true := decide_eq_true (by omega)
          rcases s.out.cases 0 rfl with he | ⟨x, y, hf⟩
          · have k1 := s.out.next0 0 rfl he
            have HC : Hid (∀ W, MX B w W [(t, g, N, S)] [] → W.cell? ⟨t, 0, none⟩ = some (ptr g)) := fun W q => q.c0 0 rfl
            have k2 : ∀ W, MX B w W [(t, g, N, S)] [] → Calls Try.prog 22 #[ptr g] W fun e w' => e = .returned (.int .i64 0) ∧ w' = W := fun W q => by
              have := q.len 0 rfl; rw [cntS_emp he] at this; exact this
            have k3 : ∀ W, MX B w W [(t, g, N, S)] [] → Calls Try.prog 16 #[ptr t, .int .i64 4611686018427387904] W fun e w' => ∃ a c, e = .returned (.slice a 0 c) ∧ Hid (Below B w w') := fun W q => (q.due 0 rfl _).mono (by
              rintro e w' ⟨a, L, cap, R', rfl, hd, hr, hm⟩
              have := hd.nil.2 (fun x y hx hs => by rw [he x hx] at hs; cases hs)
              subst this
              exact ⟨a, cap, rfl, hm.out.bel⟩)
            clear he
            go_wp2_with (first | (go_at_call 19; refine k1.mono ?_; rintro e w3 ⟨rfl, s3⟩; have c3 := HC.out _ s3.out) | (go_at_call 22; refine (k2 _ s3.out).mono ?_; rintro e w4 ⟨rfl, rfl⟩) | (go_at_call 16; refine (k3 _ s3.out).mono ?_; rintro e w5 ⟨a5, c5, rfl, s5⟩))
            go_ret
            exact ⟨rfl, s5.out⟩
          · have k1 := s.out.next1 0 rfl hf
            obtain ⟨hy, hy2⟩ := HT.out x y hf.lt hf.is
            have k2 : ∀ W, MX B w W [(t, g, N, S)] [] → Calls Try.prog 16 #[ptr t, .int .i64 (y - 1)] W fun e w' => ∃ a c, e = .returned (.slice a 0 c) ∧ Hid (MX B w w' [(t, g, N, S)] []) := fun W q => (q.due 0 rfl _).mono (by
              rintro e w' ⟨a, L, cap, R', rfl, hd, hr, hm⟩
              have := due_ahead hf hd (by omega)
              subst this
              exact ⟨a, cap, rfl, (hm.out.congr 0 rfl (dueS_ahead hf (by omega))).drop (fun p hp => by simp at hp)⟩)
            have k3 : ∀ W, MX B w W [(t, g, N, S)] [] → Calls Try.prog 16 #[ptr t, .int .i64 y] W fun e w' => ∃ a m c, e = .returned (.slice a (m + 1) c) ∧ Hid (MX B w w' [(t, g, N, dueS S y)] []) := fun W q => (q.due 0 rfl _).mono (by
              rintro e w' ⟨a, L, cap, R', rfl, hd, hr, hm⟩
              have := due_at hf hd (by omega)
              obtain ⟨k, hk⟩ : ∃ k, L.length = k + 1 := ⟨L.length - 1, by omega⟩
              rw [hk]
              exact ⟨a, k, cap, rfl, hm.out.drop (fun p hp => by simp at hp)⟩)
            have HT2 := hide_it (HT.out.due y)
            have hcnt := cntS_lt (now := y) hf.lt hf.is (by omega)
            have HCN := hide_it hcnt
            clear hf hcnt
            go_wp2_with (first | (go_at_call 19; refine k1.mono ?_; rintro e w3 ⟨rfl, s3⟩; refine Hid.out ?_))
            refine hide_it ?_
            go_wp2_with (go_at_call 16; refine (k2 _ s3.out).mono ?_; rintro e w4 ⟨a4, c4, rfl, s4⟩; refine Hid.out ?_)
            refine hide_it ?_
            go_wp2_with (go_at_call 16; refine (k3 _ s4.out).mono ?_; rintro e w5 ⟨a5, m5, c5, rfl, s5⟩)
            go_roundw
            case rel => exact ⟨j + 1, _, by go_num, by have := HCN.out; omega, s5, HT2⟩
            case measure => simp [intOf]; omega
    · have d1 : decide ((i : Int) < m) = false := by simp; omega
      have d2 : decide (i < m) = false := by simp; omega
      go_wp2
      go_loopw [8] (fun jv W => ∃ (j : Nat) (S : Nat → Option Int), jv = .int .i64 j ∧ j + cntS N S ≤ 50 ∧ Hid (MX B w W [(t, g, N, S)] []) ∧ Hid (Tms N (fun y => -4611686018427387904 ≤ y ∧ y ≤ 4611686018427387904) S)) (fun jv _ => 51 - (intOf jv).toNat)
      case atStart => exact ⟨0, S, rfl, by have := cntS_le N S; omega, s, HT⟩
      case round =>
        clear s HT HI d1 d2
        obtain ⟨j, S, rfl, hj, s, HT⟩ := hrel
        have d1 : decide ((j : Int) < 51) = true := decide_eq_true (by omega)
        have d2 : decide (j < 51) = true := decide_eq_true (by omega)
        rcases s.out.cases 0 rfl with he | ⟨x, y, hf⟩
        · have k1 := s.out.next0 0 rfl he
          have HC : Hid (∀ W, MX B w W [(t, g, N, S)] [] → W.cell? ⟨t, 0, none⟩ = some (ptr g)) := fun W q => q.c0 0 rfl
          have k2 : ∀ W, MX B w W [(t, g, N, S)] [] → Calls Try.prog 22 #[ptr g] W fun e w' => e = .returned (.int .i64 0) ∧ w' = W := fun W q => by
            have := q.len 0 rfl; rw [cntS_emp he] at this; exact this
          have k3 : ∀ W, MX B w W [(t, g, N, S)] [] → Calls Try.prog 16 #[ptr t, .int .i64 4611686018427387904] W fun e w' => ∃ a c, e = .returned (.slice a 0 c) ∧ Hid (Below B w w') := fun W q => (q.due 0 rfl _).mono (by
            rintro e w' ⟨a, L, cap, R', rfl, hd, hr, hm⟩
            have := hd.nil.2 (fun x y hx hs => by rw [he x hx] at hs; cases hs)
            subst this
            exact ⟨a, cap, rfl, hm.out.bel⟩)
          clear he
          go_wp2_with (first | (go_at_call 19; refine k1.mono ?_; rintro e w3 ⟨rfl, s3⟩; have c3 := HC.out _ s3.out) | (go_at_call 22; refine (k2 _ s3.out).mono ?_; rintro e w4 ⟨rfl, rfl⟩) | (go_at_call 16; refine (k3 _ s3.out).mono ?_; rintro e w5 ⟨a5, c5, rfl, s5⟩))
          go_ret
          exact ⟨rfl, s5.out⟩
        · have k1 := s.out.next1 0 rfl hf
          obtain ⟨hy, hy2⟩ := HT.out x y hf.lt hf.is
          have k2 : ∀ W, MX B w W [(t, g, N, S)] [] → Calls Try.prog 16 #[ptr t, .int .i64 (y - 1)] W fun e w' => ∃ a c, e = .returned (.slice a 0 c) ∧ Hid (MX B w w' [(t, g, N, S)] []) := fun W q => (q.due 0 rfl _).mono (by
            rintro e w' ⟨a, L, cap, R', rfl, hd, hr, hm⟩
            have := due_ahead hf hd (by omega)
            subst this
            exact ⟨a, cap, rfl, (hm.out.congr 0 rfl (dueS_ahead hf (by omega))).drop (fun p hp => by simp at hp)⟩)
          have k3 : ∀ W, MX B w W [(t, g, N, S)] [] → Calls Try.prog 16 #[ptr t, .int .i64 y] W fun e w' => ∃ a m c, e = .returned (.slice a (m + 1) c) ∧ Hid (MX B w w' [(t, g, N, dueS S y)] []) := fun W q => (q.due 0 rfl _).mono (by
            rintro e w' ⟨a, L, cap, R', rfl, hd, hr, hm⟩
            have := due_at hf hd (by omega)
            obtain ⟨k, hk⟩ : ∃ k, L.length = k + 1 := ⟨L.length - 1, by omega⟩
            rw [hk]
            exact ⟨a, k, cap, rfl, hm.out.drop (fun p hp => by simp at hp)⟩)
          have HT2 := hide_it (HT.out.due y)
          have hcnt := cntS_lt (now := y) hf.lt hf.is (by omega)
          have HCN := hide_it hcnt
          clear hf hcnt
          go_wp2_with (first | (go_at_call 19; refine k1.mono ?_; rintro e w3 ⟨rfl, s3⟩; refine Hid.out ?_))
          refine hide_it ?_
          go_wp2_with (go_at_call 16; refine (k2 _ s3.out).mono ?_; rintro e w4 ⟨a4, c4, rfl, s4⟩; refine Hid.out ?_)
          refine hide_it ?_
          go_wp2_with (go_at_call 16; refine (k3 _ s4.out).mono ?_; rintro e w5 ⟨a5, m5, c5, rfl, s5⟩)
          go_roundw
          case rel => exact ⟨j + 1, _, by go_num, by have := HCN.out; omega, s5, HT2⟩
          case measure => simp [intOf]; omega
end Go.Proofs.Ytlpbjafdmhcmgaa
