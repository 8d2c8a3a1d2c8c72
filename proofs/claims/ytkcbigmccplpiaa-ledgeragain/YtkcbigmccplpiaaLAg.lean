/- LedgerAgain, walked. -/
import Derived.Test.YtkcbigmccplpiaaSho
import Derived.Test.YtkcbigmccplpiaaArg
import Derived.Test.YtkcbigmccplpiaaKee
import Derived.Deep.RegionHeld3
import Derived.Deep.CutRange
import Derived.Deep.CutBlock
import Derived.BigQuiet
namespace Go.Proofs.Ytkcbigmccplpiaa
open Go.RowKit
open M
set_option linter.unusedVariables false
set_option linter.unusedSimpArgs false

/-- One ledger is the other one, all ids d larger. -/
structure Sh (d : Nat) (x y : Lg) : Prop where
  bu : y.bu = x.bu
  n : y.n = x.n
  t : ∀ k, (y.P k).t = (x.P k).t
  m : ∀ k, (y.P k).m = (x.P k).m
  i : ∀ k, (x.P k).t = true → (y.P k).i = (x.P k).i + d
theorem sh_new (d : Nat) (bu : Int) (n : Nat) : Sh d ⟨bu, n, fun _ => no⟩ ⟨bu, n, fun _ => no⟩ := ⟨rfl, rfl, fun _ => rfl, fun _ => rfl, fun k h => by simp [no] at h⟩
section
variable {d : Nat} {x y : Lg}
theorem Sh.us (h : Sh d x y) (k : Nat) : us y.P k = us x.P k := by
  induction k with
  | zero => rfl
  | succ k ih => simp only [M.us, ih, h.m k]
theorem Sh.tk (h : Sh d x y) (k : Nat) : tk y.P k = tk x.P k := by
  induction k with
  | zero => rfl
  | succ k ih => simp only [M.tk, ih, h.t k]
theorem Sh.room (h : Sh d x y) : room y = room x := by unfold M.room; rw [h.bu, h.us]
theorem Sh.free (h : Sh d x y) : M.free y = M.free x := by unfold M.free; rw [h.n, h.tk]
theorem Sh.low (h : Sh d x y) : low y = low x := by
  have : (fun k => !(y.P k).t) = (fun k => !(x.P k).t) := by funext k; rw [h.t]
  unfold M.low; rw [this, h.n]
theorem Sh.slo (h : Sh d x y) (u : Int) : slo y (u + d) = slo x u := by
  have : hasI y (u + d) = hasI x u := by
    funext k
    unfold hasI
    rw [h.t]
    cases hp : (x.P k).t with
    | false => rfl
    | true =>
      rw [h.i k hp]
      simp only [Bool.true_and]
      rw [Bool.eq_iff_iff]; simp
  unfold M.slo; rw [this]
theorem Sh.te (h : Sh d x y) {u : Int} (hu : 0 ≤ u) (m : Int) : te y (u + d) m = te x u m := by
  unfold M.te
  rw [h.bu, h.slo, h.low, h.room]
  have e : (u + d < 0 ∨ m < 0) ↔ (u < 0 ∨ m < 0) := by omega
  simp only [e]
theorem Sh.ts (h : Sh d x y) {u : Int} (hu : 0 ≤ u) (m : Int) : ts y (u + d) m = ts x u m := by unfold M.ts; rw [h.te hu, h.low]
theorem Sh.set (h : Sh d x y) (k : Nat) (p q : Pl) (ht : q.t = p.t) (hm : q.m = p.m) (hi : p.t = true → q.i = p.i + d) : Sh d ⟨x.bu, x.n, setP x.P k p⟩ ⟨y.bu, y.n, setP y.P k q⟩ := by
  refine ⟨h.bu, h.n, fun j => ?_, fun j => ?_, fun j => ?_⟩ <;> simp only <;> by_cases e : j = k
  · subst e; rw [setP_same, setP_same]; exact ht
  · rw [setP_other _ _ e, setP_other _ _ e]; exact h.t j
  · subst e; rw [setP_same, setP_same]; exact hm
  · rw [setP_other _ _ e, setP_other _ _ e]; exact h.m j
  · subst e; rw [setP_same, setP_same]; exact hi
  · rw [setP_other _ _ e, setP_other _ _ e]; exact h.i j
theorem Sh.tx (h : Sh d x y) {u : Int} (hu : 0 ≤ u) (m : Int) : Sh d (tx x u m) (tx y (u + d) m) := by
  unfold M.tx
  rw [h.te hu, h.low]
  split
  · exact h.set _ _ _ rfl rfl (fun _ => rfl)
  · exact h
theorem Sh.fe (h : Sh d x y) (u : Int) : fe y (u + d) = fe x u := by unfold M.fe; rw [h.slo]
theorem Sh.fx (h : Sh d x y) (u : Int) : Sh d (fx x u) (fx y (u + d)) := by
  unfold M.fx
  rw [h.slo]
  split
  · exact h.set _ _ _ rfl rfl (fun q => by cases q)
  · exact h
end
/-- Two ledgers. -/
def GX (B : Nat) (w0 w : World) (a b : Nat) (x y : Lg) : Prop := LX B w0 w a x [(b, blk y)] ∧ Inv y
section
variable {B : Nat} {w0 w w' : World} {a b : Nat} {x y X Y : Lg}
theorem GX.bel (h : GX B w0 w a b x y) : Below B w0 w := h.1.bel
theorem GX.fst (h : GX B w0 w a b x y) {p : Ending → Prop} {F : Nat} {args : Array Value} (k : Calls Try.prog F args w fun e w' => p e ∧ Hid (LX B w0 w' a X [(b, blk y)])) : Calls Try.prog F args w fun e w' => p e ∧ Hid (GX B w0 w' a b X y) :=
  k.mono (fun e w' q => ⟨q.1, q.2.out, h.2⟩)
theorem GX.two (h : GX B w0 w a b x y) : LX B w0 w b y [(a, blk x)] := by
  obtain ⟨h, hi⟩ := h
  obtain ⟨q1, q2, q3⟩ := h.row _ (List.mem_singleton.2 rfl)
  refine ⟨h.bel, q2, h.lo, q1, hi, fun p hp => ?_⟩
  rw [List.mem_singleton.1 hp]
  exact ⟨h.blk, h.le, fun e => q3 e.symm⟩
theorem GX.back (h : LX B w0 w b y [(a, blk x)]) (hi : Inv x) : GX B w0 w a b x y := by
  obtain ⟨q1, q2, q3⟩ := h.row _ (List.mem_singleton.2 rfl)
  refine ⟨⟨h.bel, q2, h.lo, q1, hi, fun p hp => ?_⟩, h.inv⟩
  rw [List.mem_singleton.1 hp]
  exact ⟨h.blk, h.le, fun e => q3 e.symm⟩
theorem GX.snd (h : GX B w0 w a b x y) {p : Ending → Prop} {F : Nat} {args : Array Value} (k : Calls Try.prog F args w fun e w' => p e ∧ Hid (LX B w0 w' b Y [(a, blk x)])) : Calls Try.prog F args w fun e w' => p e ∧ Hid (GX B w0 w' a b x Y) :=
  k.mono (fun e w' q => ⟨q.1, GX.back q.2.out h.1.inv⟩)
end

set_option maxRecDepth 1000000 in
set_option maxHeartbeats 2000000 in
/-- A second ledger, beside one that is there. -/
theorem new_two {B : Nat} {w0 w : World} {a : Nat} {x : Lg} (h : LX B w0 w a x []) (bu sl : Int) (hM : bu ≤ 9223372036854775807) (N : Int) (n : Nat) (h1 : max bu 0 = N) (h2 : min (max sl 0) 16 = (n : Int)) : Calls Try.prog 11 #[.int .i64 bu, .int .i64 sl] w fun e w' => ∃ b, e = .returned (ptr b) ∧ Hid (GX B w0 w' a b x ⟨N, n, fun _ => no⟩) := by
  refine (new_any (B := w.heap.size) (w0 := w) (Below.refl _ _) (Nat.le_refl _) bu sl hM N n h1 h2).mono ?_
  rintro e w' ⟨b, rfl, s⟩
  refine ⟨b, rfl, ?_⟩
  have s := s.out
  have h2 := h.below s.bel
  refine ⟨⟨h2.bel, h2.le, h2.lo, h2.blk, h2.inv, fun p hp => ?_⟩, s.inv⟩
  rw [List.mem_singleton.1 hp]
  have := s.le
  have := h.size
  have := block_lt h.blk
  exact ⟨s.blk, by simp only; omega, by simp only; omega⟩

set_option maxRecDepth 1000000 in
set_option maxHeartbeats 8000000 in
theorem ledgerAgain_walk (bu sl : Int) (l : List (Int × Int × Int)) (a : Option Addr) (cap : Nat) (by_ : Int) (w : World) (hbu : -9223372036854775808 ≤ bu ∧ bu ≤ 9223372036854775807) (hI : StepsIn w a l) (hl : l.length ≤ cap) (hc : cap ≤ maxLen) (hb : ∀ t ∈ l, i64B t.1 ∧ i64B t.2.1 ∧ i64B t.2.2) (hby : 0 ≤ by_ ∧ by_ ≤ 255) :
    Calls Try.prog 8 #[.int .i64 bu, .int .i64 sl, .slice a l.length cap, .int .u8 by_] w fun e w' => e = .returned (.bool true) ∧ Below w.heap.size w w' := by
  obtain ⟨d, rfl⟩ : ∃ d : Nat, by_ = d := ⟨by_.toNat, by omega⟩
  have hd : d ≤ 255 := by omega
  obtain ⟨B, hB⟩ : ∃ B, w.heap.size = B := ⟨_, rfl⟩
  have ks : Calls Try.prog 10 #[] w fun e w' => e = .returned (.bool true) ∧ Hid (Below B w w') := by
    have := shown_any w
    rw [hB] at this
    exact this
  have hlo : B ≤ w.heap.size := by omega
  obtain ⟨BU, hBU⟩ : ∃ N, max bu 0 = N := ⟨_, rfl⟩
  obtain ⟨n0, hn0⟩ : ∃ n : Nat, min (max sl 0) 16 = (n : Int) := ⟨(min (max sl 0) 16).toNat, by omega⟩
  have kn : ∀ W, Below B w W → Calls Try.prog 11 #[.int .i64 bu, .int .i64 sl] W fun e w' => ∃ b, e = .returned (ptr b) ∧ Hid (LX B w w' b ⟨BU, n0, fun _ => no⟩ []) := fun W hb => new_any hb hlo bu sl hbu.2 BU n0 hBU hn0
  have kn2 : ∀ W b, LX B w W b ⟨BU, n0, fun _ => no⟩ [] → Calls Try.prog 11 #[.int .i64 bu, .int .i64 sl] W fun e w' => ∃ b2, e = .returned (ptr b2) ∧ Hid (GX B w w' b b2 ⟨BU, n0, fun _ => no⟩ ⟨BU, n0, fun _ => no⟩) := fun W b h => new_two h bu sl hbu.2 BU n0 hBU hn0
  have hcm : cap ≤ 9223372036854775807 := by unfold maxLen at hc; omega
  obtain ⟨m, hm⟩ : ∃ m, l.length = m := ⟨_, rfl⟩
  have HI : Hid (∀ (i : Nat), i < m → ∃ x y z b o, a = some ⟨b, o, none⟩ ∧ ∀ W, Below B w W → W.cell? ⟨b, o + i * 3, none⟩ = some (.int .i64 x) ∧ W.cell? ⟨b, o + i * 3 + 1, none⟩ = some (.int .i64 y) ∧ W.cell? ⟨b, o + i * 3 + 2, none⟩ = some (.int .i64 z)) := fun i hi => by
    have := hI.get (i := i) (by omega)
    rw [hB] at this
    exact this
  rw [hm] at hl ⊢
  rw [hB]
  clear hB hI hc hm hlo hb hn0 hBU hbu hby
  go_enter Try.func8, Try.ntmps8
  go_wp2_with (first | (go_at_call 10; refine ks.mono ?_; rintro e w1 ⟨rfl, s1⟩; clear ks) | (go_at_call 11; first | (refine (kn2 _ _ s2.out).mono ?_; rintro e w3 ⟨b2, rfl, s⟩; clear kn2 s2) | (refine (kn _ s1.out).mono ?_; rintro e w2 ⟨b1, rfl, s2⟩; clear kn s1)))
  go_loopw [12] (fun iv W => ∃ (i : Nat) (x y : Lg), iv = .int .i64 i ∧ i ≤ m ∧ i ≤ 100 ∧ Hid (GX B w W b1 b2 x y) ∧ Hid (Sh d x y)) (fun iv _ => m - (intOf iv).toNat)
  case atStart => exact ⟨0, _, _, rfl, Nat.zero_le _, by omega, s, sh_new _ _ _⟩
  case round =>
    clear s
    obtain ⟨i, x, y, rfl, hi, hi2, s, HS⟩ := hrel
    by_cases hgo : i < m ∧ i < 100
    · obtain ⟨hlt, hlt2⟩ := hgo
      have h16 : decide ((i : Int) < 100) = true := decide_eq_true (by omega)
      have h16' : decide (i < 100) = true := decide_eq_true (by omega)
      obtain ⟨kd, yy, z, c, o, rfl, HX⟩ := HI.out i hlt
      obtain ⟨c0, c1, c2⟩ := HX _ s.out.bel
      obtain ⟨u, e16, hu⟩ := and16 yy
      have hud : (u : Int) + d < 70000 := by omega
      have HX2 : Hid (∀ W x y, GX B w W b1 b2 x y → W.cell? ⟨c, o + i * 3, none⟩ = some (.int .i64 kd) ∧ W.cell? ⟨c, o + i * 3 + 1, none⟩ = some (.int .i64 yy) ∧ W.cell? ⟨c, o + i * 3 + 2, none⟩ = some (.int .i64 z)) := fun W x y h => HX _ h.bel
      have FIN : ∀ (X Y : Lg), Sh d X Y → Hid (∃ U F, (∀ W, GX B w W b1 b2 X Y → Calls Try.prog 18 #[ptr b1] W fun e w' => e = .returned (.int .i64 U) ∧ Hid (GX B w w' b1 b2 X Y)) ∧ (∀ W, GX B w W b1 b2 X Y → Calls Try.prog 18 #[ptr b2] W fun e w' => e = .returned (.int .i64 U) ∧ Hid (GX B w w' b1 b2 X Y)) ∧ (∀ W, GX B w W b1 b2 X Y → Calls Try.prog 21 #[ptr b1] W fun e w' => e = .returned (.int .i64 F) ∧ Hid (GX B w w' b1 b2 X Y)) ∧ (∀ W, GX B w W b1 b2 X Y → Calls Try.prog 21 #[ptr b2] W fun e w' => e = .returned (.int .i64 F) ∧ Hid (GX B w w' b1 b2 X Y))) := fun X Y hX =>
        ⟨_, _, fun W h => h.fst (used_any h.1), fun W h => h.snd (used_at _ (hX.us 16) h.two), fun W h => h.fst (slots_any h.1), fun W h => h.snd (slots_at _ hX.free h.two)⟩
      by_cases hk3 : kd = 3
      · have d3 : (kd == 3) = true := by simp [hk3]
        have k1 : Calls Try.prog 14 #[ptr b1, .int .i64 u] wr fun e w' => e = .returned (.int .i64 (fe x u : Nat)) ∧ Hid (GX B w w' b1 b2 (fx x u) y) := s.out.fst (free_any s.out.1 u)
        have k2 : ∀ W, GX B w W b1 b2 (fx x u) y → Calls Try.prog 14 #[ptr b2, .int .i64 ((u : Int) + d)] W fun e w' => e = .returned (.int .i64 (fe x u : Nat)) ∧ Hid (GX B w w' b1 b2 (fx x u) (fx y (u + d))) := fun W h => h.snd (free_at _ _ (HS.out.fe u) rfl h.two)
        have HS2 := hide_it (HS.out.fx (u : Int))
        obtain ⟨U, F, g1, g2, g3, g4⟩ := (FIN _ _ HS2.out).out
        generalize fx y (u + d) = Y at *
        generalize fx x u = X at *
        generalize ((fe x u : Nat) : Int) = E at *
        have z1 : (E != E) = false := by simp
        have z2 : (U != U) = false := by simp
        have z3 : (F != F) = false := by simp
        clear hk3 HX HI FIN HS
        go_wp2_with (go_at_call_of 14 (ptr b1); refine k1.mono ?_; rintro e w3 ⟨rfl, s3⟩; refine Hid.out ?_)
        refine hide_it ?_
        go_wp2_with (go_at_call_of 14 (ptr b2); refine (k2 _ s3.out).mono ?_; rintro e w4 ⟨rfl, s4⟩; refine Hid.out ?_)
        refine hide_it ?_
        go_wp2_with (first | (go_at_call_of 18 (ptr b1); refine (g1 _ s4.out).mono ?_; rintro e w5 ⟨rfl, s5⟩) | (go_at_call_of 18 (ptr b2); refine (g2 _ s5.out).mono ?_; rintro e w6 ⟨rfl, s6⟩) | (go_at_call_of 21 (ptr b1); refine (g3 _ s6.out).mono ?_; rintro e w7 ⟨rfl, s7⟩) | (go_at_call_of 21 (ptr b2); refine (g4 _ s7.out).mono ?_; rintro e w8 ⟨rfl, s8⟩))
        go_roundw
        case rel => exact ⟨i + 1, X, Y, by go_num, by omega, by omega, s8, HS2⟩
        case measure => simp [intOf]; omega
      · have d3 : (kd == 3) = false := by simp [hk3]
        have k1 : Calls Try.prog 12 #[ptr b1, .int .i64 u, .int .i64 z] wr fun e w' => e = .returned (.tuple #[.int .i64 (ts x u z : Nat), .int .i64 (te x u z : Nat)]) ∧ Hid (GX B w w' b1 b2 (tx x u z) y) := s.out.fst (take_any s.out.1 u z)
        have k2 : ∀ W, GX B w W b1 b2 (tx x u z) y → Calls Try.prog 12 #[ptr b2, .int .i64 ((u : Int) + d), .int .i64 z] W fun e w' => e = .returned (.tuple #[.int .i64 (ts x u z : Nat), .int .i64 (te x u z : Nat)]) ∧ Hid (GX B w w' b1 b2 (tx x u z) (tx y (u + d) z)) := fun W h => h.snd (take_at _ _ _ _ (HS.out.ts (by omega) z) (HS.out.te (by omega) z) rfl h.two)
        have HS2 := hide_it (HS.out.tx (u := (u : Int)) (by omega) z)
        obtain ⟨U, F, g1, g2, g3, g4⟩ := (FIN _ _ HS2.out).out
        generalize tx y (u + d) z = Y at *
        generalize tx x u z = X at *
        generalize ((te x u z : Nat) : Int) = E at *
        generalize ((ts x u z : Nat) : Int) = V at *
        have z1 : (E != E) = false := by simp
        have z2 : (U != U) = false := by simp
        have z3 : (F != F) = false := by simp
        have z4 : (V != V) = false := by simp
        clear hk3 HX HI FIN HS
        go_wp2_with (go_at_call_of 12 (ptr b1); refine k1.mono ?_; rintro e w3 ⟨rfl, s3⟩; obtain ⟨c0, c1, c2⟩ := HX2.out _ _ _ s3.out; refine Hid.out ?_)
        refine hide_it ?_
        go_wp2_with (go_at_call_of 12 (ptr b2); refine (k2 _ s3.out).mono ?_; rintro e w4 ⟨rfl, s4⟩; refine Hid.out ?_)
        refine hide_it ?_
        go_wp2_with (first | (go_at_call_of 18 (ptr b1); refine (g1 _ s4.out).mono ?_; rintro e w5 ⟨rfl, s5⟩) | (go_at_call_of 18 (ptr b2); refine (g2 _ s5.out).mono ?_; rintro e w6 ⟨rfl, s6⟩) | (go_at_call_of 21 (ptr b1); refine (g3 _ s6.out).mono ?_; rintro e w7 ⟨rfl, s7⟩) | (go_at_call_of 21 (ptr b2); refine (g4 _ s7.out).mono ?_; rintro e w8 ⟨rfl, s8⟩))
        go_roundw
        case rel => exact ⟨i + 1, X, Y, by go_num, by omega, by omega, s8, HS2⟩
        case measure => simp [intOf]; omega
    · by_cases hlt : i < m
      · have d1 : decide ((i : Int) < 100) = false := by simp; omega
        have d2 : decide (i < 100) = false := by simp; omega
        clear HI HS
        go_wp2
        go_ret
        exact ⟨rfl, s.out.bel⟩
      · have d1 : decide ((i : Int) < m) = false := by simp; omega
        have d2 : decide (i < m) = false := by simp; omega
        clear HI HS
        go_wp2
        go_ret
        exact ⟨rfl, s.out.bel⟩
end Go.Proofs.Ytkcbigmccplpiaa
