/- LifeTells, walked. -/
import Derived.Test.YtjdgndbdoceifaaSho
import Derived.Test.YtjdgndbdoceifaaRef
import Derived.Test.YtjdgndbdoceifaaArg
import Derived.Deep.RegionHeld3
import Derived.Deep.CutRange
import Derived.Deep.CutBlock
import Derived.BigQuiet
namespace Go.Proofs.Ytjdgndbdoceifaa
open Go.RowKit
open M
set_option linter.unusedVariables false
set_option linter.unusedSimpArgs false

abbrev o27 (T P : Int) (x : Lf) : Obj := .cells #[.int .i64 T, .int .i64 P, .int .i64 x.s, .int .i64 x.e, .int .i64 x.m, .int .i64 x.p] 27
section
variable {B : Nat} {w0 w : World} {b : Nat} {T P : Int} {x y z : Lf} {r : Nat}
theorem LX.cells27 (h : LX B w0 w b T P x [(r, o27 T P y)]) : (w.cell? ⟨r, 0, none⟩ = some (.int .i64 T) ∧ w.cell? ⟨r, 1, none⟩ = some (.int .i64 P) ∧ w.cell? ⟨r, 2, none⟩ = some (.int .i64 y.s) ∧ w.cell? ⟨r, 3, none⟩ = some (.int .i64 y.e) ∧ w.cell? ⟨r, 4, none⟩ = some (.int .i64 y.m) ∧ w.cell? ⟨r, 5, none⟩ = some (.int .i64 y.p)) ∧ r < w.heap.size ∧ ∀ i, w.frozen? ⟨r, i, none⟩ = false := by
  obtain ⟨q, _⟩ := h.row _ (List.mem_singleton.2 rfl)
  exact ⟨⟨by rw [cell_of_row w _ 0 _ _ _ q]; rfl, by rw [cell_of_row w _ 1 _ _ _ q]; rfl, by rw [cell_of_row w _ 2 _ _ _ q]; rfl, by rw [cell_of_row w _ 3 _ _ _ q]; rfl, by rw [cell_of_row w _ 4 _ _ _ q]; rfl, by rw [cell_of_row w _ 5 _ _ _ q]; rfl⟩, block_lt q, fun i => by simp [World.frozen?, q]⟩
theorem LX.put27 (h : LX B w0 w b T P x [(r, o27 T P y)]) : LX B w0 ((((((w.setCell ⟨r, 0, none⟩ (.int .i64 T)).setCell ⟨r, 1, none⟩ (.int .i64 P)).setCell ⟨r, 2, none⟩ (.int .i64 z.s)).setCell ⟨r, 3, none⟩ (.int .i64 z.e)).setCell ⟨r, 4, none⟩ (.int .i64 z.m)).setCell ⟨r, 5, none⟩ (.int .i64 z.p)) b T P x [(r, o27 T P z)] := by
  have h0 := h.set (List.mem_singleton.2 rfl) 0 (.int .i64 T)
  simp only [List.map_cons, List.map_nil, if_true] at h0
  have h1 := h0.set (List.mem_singleton.2 rfl) 1 (.int .i64 P)
  simp only [List.map_cons, List.map_nil, if_true] at h1
  have h2 := h1.set (List.mem_singleton.2 rfl) 2 (.int .i64 z.s)
  simp only [List.map_cons, List.map_nil, if_true] at h2
  have h3 := h2.set (List.mem_singleton.2 rfl) 3 (.int .i64 z.e)
  simp only [List.map_cons, List.map_nil, if_true] at h3
  have h4 := h3.set (List.mem_singleton.2 rfl) 4 (.int .i64 z.m)
  simp only [List.map_cons, List.map_nil, if_true] at h4
  have h5 := h4.set (List.mem_singleton.2 rfl) 5 (.int .i64 z.p)
  simp only [List.map_cons, List.map_nil, if_true] at h5
  exact h5
end
set_option maxRecDepth 1000000 in
set_option maxHeartbeats 4000000 in
theorem lifeTells_walk (t p : Int) (l : List Int) (a : Option Addr) (cap : Nat) (ep : Int) (w : World) (hI : NumsIn .u8 w a l) (hl : l.length ≤ cap) (hc : cap ≤ maxLen) (hb : ∀ y ∈ l, (Lit.int .u8 y).wf = true) :
    Calls Try.prog 3 #[.int .i64 t, .int .i64 p, .slice a l.length cap, .int .i64 ep] w fun e w' => e = .returned (.bool true) ∧ Below w.heap.size w w' := by
  obtain ⟨B, hB⟩ : ∃ B, w.heap.size = B := ⟨_, rfl⟩
  have ks : Calls Try.prog 9 #[] w fun e w' => e = .returned (.bool true) ∧ Hid (Below B w w') := by
    have := shown_any w
    rw [hB] at this
    exact this
  have hlo : B ≤ w.heap.size := by omega
  obtain ⟨T, hT⟩ : ∃ T, max t 1 = T := ⟨_, rfl⟩
  obtain ⟨P, hP⟩ : ∃ P, max p 0 = P := ⟨_, rfl⟩
  have kn : ∀ W, Below B w W → Calls Try.prog 10 #[.int .i64 t, .int .i64 p] W fun e w' => ∃ b, e = .returned (ptr b) ∧ Hid (LX B w w' b T P ⟨0, 0, 0, 0⟩ []) := fun W hb => new_any hb hlo t p T P hT hP
  have hcm : cap ≤ 9223372036854775807 := by unfold maxLen at hc; omega
  obtain ⟨m, hm⟩ : ∃ m, l.length = m := ⟨_, rfl⟩
  have HJ : Hid (∀ (i : Nat), i < m → ∃ (u : Nat) (c : Nat) (o : Nat), a = some ⟨c, o, none⟩ ∧ u ≤ 255 ∧ ∀ W, Below B w W → W.cell? ⟨c, o + i, none⟩ = some (.int .u8 u)) := fun i hi => by
    have hil : i < l.length := by omega
    obtain ⟨c, o, h1, h2, h3⟩ := hI i hil
    have h4 := bounds_u8 (hb _ (List.getElem_mem hil))
    have h5 : ((l[i].toNat : Nat) : Int) = l[i] := by omega
    exact ⟨l[i].toNat, c, o, h1, by omega, fun W q => by rw [(hB ▸ q : Below w.heap.size w W).cell (p := ⟨c, _, none⟩) h2, h5]; exact h3⟩
  rw [hm] at hl ⊢
  rw [hB]
  have kr : ∀ W, Calls Try.prog 11 #[.int .i64 t, .int .i64 p] W fun e w' => e = .returned (agL T P ⟨0, 0, 0, 0⟩) ∧ Hid (Below W.heap.size W w') := fun W => rnew_any W t p T P hT hP
  clear hB hI hc hm hb hlo hT hP
  go_enter Try.func3, Try.ntmps3
  go_wp2_with (first | (go_at_call 9; refine ks.mono ?_; rintro e w1 ⟨rfl, s1⟩; clear ks) | (go_at_call 10; refine (kn _ s1.out).mono ?_; rintro e w2 ⟨b, rfl, s2⟩; clear kn s1) | (go_at_call 11; refine (kr _).mono ?_; rintro e w3 ⟨rfl, s3⟩; clear kr))
  have s4 := hide_it ((s2.out.below s3.out).alloc (o27 T P ⟨0, 0, 0, 0⟩))
  obtain ⟨r, hr⟩ : ∃ r, w3.heap.size = r := ⟨_, rfl⟩
  rw [hr] at s4
  simp only [hr]
  clear hr s2 s3
  generalize w3.alloc (.cells #[.int .i64 T, .int .i64 P, .int .i64 0, .int .i64 0, .int .i64 0, .int .i64 0] 27) = w4 at *
  go_loopw [12] (fun iv W => ∃ (i : Nat) (x : Lf), iv = .int .i64 i ∧ i ≤ m ∧ i ≤ 300 ∧ Hid (LX B w W b T P x [(r, o27 T P x)]) ∧ Hid (x.e ≤ i)) (fun iv _ => m - (intOf iv).toNat)
  case atStart => exact ⟨0, _, rfl, Nat.zero_le _, by omega, s4, Nat.le_refl _⟩
  case round =>
    clear s4
    obtain ⟨i, x, rfl, hi, hi2, s, HE⟩ := hrel
    by_cases hlt : i < m
    · by_cases hlt2 : i < 300
      · have h100 : decide ((i : Int) < 300) = true := decide_eq_true (by omega)
        have h100' : decide (i < 300) = true := decide_eq_true (by omega)
        obtain ⟨u, c, o1, rfl, hu, HX⟩ := HJ.out i hlt
        have c0 := HX _ s.out.bel
        obtain ⟨k, hk⟩ : ∃ k, u % 11 = k := ⟨_, rfl⟩
        have hk10 : k ≤ 10 := by omega
        have q1 : (u : Int).tmod 11 = (k : Int) := by rw [Int.tmod_eq_emod_of_nonneg (by omega)]; omega
        have q2 : (u : Int) % 11 = (k : Int) := by omega
        have hxe : x.e ≤ 1000000 := by have := HE.out; omega
        have kd := does_any s.out hxe k hk10
        have kdo := fun W => do_any s.out.inv W hxe k hk10
        have HE2 : Hid ((st T P k x).e ≤ i + 1) := by have := HE.out; have := (st_e (T := T) (P := P) k x).2; show _ ≤ _; omega
        generalize er P k x = E at *
        generalize st T P k x = X at *
        have HC : Hid (∀ W, LX B w W b T P X [(r, o27 T P x)] → _) := fun W h => h.cells27
        clear HX hk s HE hxe
        go_upto_region 13 with (first | (go_at_call 12; refine kd.mono ?_; rintro e w5 ⟨rfl, s5⟩; obtain ⟨⟨e0, e1, e2, e3, e4, e5⟩, e6, e7⟩ := HC.out _ s5.out) | (go_at_call 13; refine (kdo _).mono ?_; rintro e w6 ⟨rfl, s6⟩; clear e0 e1 e2 e3 e4 e5 e6 e7; have s7 := hide_it (s5.out.below s6.out); obtain ⟨⟨e0, e1, e2, e3, e4, e5⟩, e6, e7⟩ := HC.out _ s7.out))
        have s8 := hide_it ((s7.out.put27 (z := X)).below ((Below.refl _ _).alloc (Nat.le_refl _) (o27 T P X)))
        generalize (((((w6.setCell ⟨r, 0, none⟩ (.int .i64 T)).setCell ⟨r, 1, none⟩ (.int .i64 P)).setCell ⟨r, 2, none⟩ (.int .i64 X.s)).setCell ⟨r, 3, none⟩ (.int .i64 X.e)).setCell ⟨r, 4, none⟩ (.int .i64 X.m)).setCell ⟨r, 5, none⟩ (.int .i64 X.p) = w7 at *
        generalize w7.alloc (.cells #[.int .i64 T, .int .i64 P, .int .i64 X.s, .int .i64 X.e, .int .i64 X.m, .int .i64 X.p] 27) = w8 at *
        have HD : Hid (∀ W, LX B w W b T P X [(r, o27 T P X)] → W.cell? ⟨r, 2, none⟩ = some (.int .i64 X.s) ∧ W.cell? ⟨r, 3, none⟩ = some (.int .i64 X.e) ∧ W.cell? ⟨r, 4, none⟩ = some (.int .i64 X.m) ∧ W.cell? ⟨r, 5, none⟩ = some (.int .i64 X.p)) := fun W h => by
          obtain ⟨⟨_, _, a, b, c, d⟩, _⟩ := h.cells27
          exact ⟨a, b, c, d⟩
        clear e0 e1 e2 e3 e4 e5 e6 e7 HC s5 s6 s7 kd kdo q1 q2
        obtain ⟨g2, g3, g4, g5⟩ := HD.out _ s8.out
        have sD := hide_it (s8.out.below (Below.refl _ _).drew)
        have y1 : ∀ W, LX B w W b T P X [(r, o27 T P X)] → Calls Try.prog 14 #[ptr b] W fun e w' => e = .returned (.int .i64 X.s) ∧ w' = W := fun W h => state_any h
        have y2 : ∀ W, LX B w W b T P X [(r, o27 T P X)] → Calls Try.prog 15 #[ptr b] W fun e w' => e = .returned (.int .i64 X.e) ∧ w' = W := fun W h => epoch_any h
        have y3 : ∀ W, LX B w W b T P X [(r, o27 T P X)] → Calls Try.prog 16 #[ptr b] W fun e w' => e = .returned (.int .i64 X.m) ∧ w' = W := fun W h => missed_any h
        have y4 : ∀ W, LX B w W b T P X [(r, o27 T P X)] → Calls Try.prog 17 #[ptr b] W fun e w' => e = .returned (.int .i64 X.p) ∧ w' = W := fun W h => stopped_any h
        obtain ⟨c5, hc5⟩ : ∃ c5, decide (5 ≤ X.s) = c5 := ⟨_, rfl⟩
        have hc5' : decide ((5 : Int) ≤ X.s) = c5 := by rw [← hc5]; exact decide_eq_decide.2 (by omega)
        have y5 : ∀ W, LX B w W b T P X [(r, o27 T P X)] → Calls Try.prog 18 #[ptr b] W fun e w' => e = .returned (.bool c5) ∧ Hid (LX B w w' b T P X [(r, o27 T P X)]) := fun W h => by
          have := final_any h
          rw [hc5] at this
          exact this
        by_cases hs2 : X.s = 2
        · have a1 : ((X.s : Int) == 2) = true := by simp [hs2]
          by_cases he : (X.e : Int) = ep
          · have a2 : ((X.e : Int) == ep) = true := by simp [he]
            have y6 : ∀ W, LX B w W b T P X [(r, o27 T P X)] → Calls Try.prog 19 #[ptr b, .int .i64 ep] W fun e w' => e = .returned (.int .i64 0) ∧ Hid (LX B w w' b T P X [(r, o27 T P X)]) := fun W h => by
              have := right_any h ep
              rw [if_pos ⟨hs2, he.symm⟩] at this
              exact this
            clear he hs2
            go_upto_region 16 with fail
            (go_region_held3 (fun V => V.cell? ⟨r, 2, none⟩ = some (.int .i64 X.s) ∧ V.cell? ⟨r, 3, none⟩ = some (.int .i64 X.e) ∧ V.cell? ⟨r, 4, none⟩ = some (.int .i64 X.m) ∧ V.cell? ⟨r, 5, none⟩ = some (.int .i64 X.p)) (first | exact HD.out _ s10.out | exact HD.out _ s9.out | exact HD.out _ sD.out | go_keep) (first | (go_at_call 14; refine (y1 _ sD.out).mono ?_; rintro e wa ⟨rfl, rfl⟩) | (go_at_call 15; refine (y2 _ sD.out).mono ?_; rintro e wb ⟨rfl, rfl⟩) | (go_at_call 16; refine (y3 _ sD.out).mono ?_; rintro e wc ⟨rfl, rfl⟩) | (go_at_call 17; refine (y4 _ sD.out).mono ?_; rintro e wd ⟨rfl, rfl⟩) | (go_at_call 18; refine (y5 _ sD.out).mono ?_; rintro e w9 ⟨rfl, s9⟩) | (go_at_call 19; refine (y6 _ s9.out).mono ?_; rintro e w10 ⟨rfl, s10⟩)))
            all_goals
              go_wp2
              go_roundw
              case rel => exact ⟨i + 1, X, by go_num, by omega, by omega, s10, HE2⟩
              case measure => simp [intOf]; omega
          · have a2 : ((X.e : Int) == ep) = false := by simpa using he
            have y6 : ∀ W, LX B w W b T P X [(r, o27 T P X)] → Calls Try.prog 19 #[ptr b, .int .i64 ep] W fun e w' => e = .returned (.int .i64 7) ∧ Hid (LX B w w' b T P X [(r, o27 T P X)]) := fun W h => by
              have := right_any h ep
              rw [if_neg (fun q => he q.2.symm)] at this
              exact this
            clear he hs2
            go_upto_region 16 with fail
            (go_region_held3 (fun V => V.cell? ⟨r, 2, none⟩ = some (.int .i64 X.s) ∧ V.cell? ⟨r, 3, none⟩ = some (.int .i64 X.e) ∧ V.cell? ⟨r, 4, none⟩ = some (.int .i64 X.m) ∧ V.cell? ⟨r, 5, none⟩ = some (.int .i64 X.p)) (first | exact HD.out _ s10.out | exact HD.out _ s9.out | exact HD.out _ sD.out | go_keep) (first | (go_at_call 14; refine (y1 _ sD.out).mono ?_; rintro e wa ⟨rfl, rfl⟩) | (go_at_call 15; refine (y2 _ sD.out).mono ?_; rintro e wb ⟨rfl, rfl⟩) | (go_at_call 16; refine (y3 _ sD.out).mono ?_; rintro e wc ⟨rfl, rfl⟩) | (go_at_call 17; refine (y4 _ sD.out).mono ?_; rintro e wd ⟨rfl, rfl⟩) | (go_at_call 18; refine (y5 _ sD.out).mono ?_; rintro e w9 ⟨rfl, s9⟩) | (go_at_call 19; refine (y6 _ s9.out).mono ?_; rintro e w10 ⟨rfl, s10⟩)))
            all_goals
              go_wp2
              go_roundw
              case rel => exact ⟨i + 1, X, by go_num, by omega, by omega, s10, HE2⟩
              case measure => simp [intOf]; omega
        · have a1 : ((X.s : Int) == 2) = false := by simp; omega
          have y6 : ∀ W, LX B w W b T P X [(r, o27 T P X)] → Calls Try.prog 19 #[ptr b, .int .i64 ep] W fun e w' => e = .returned (.int .i64 7) ∧ Hid (LX B w w' b T P X [(r, o27 T P X)]) := fun W h => by
            have := right_any h ep
            rw [if_neg (fun q => hs2 q.1)] at this
            exact this
          clear hs2
          go_upto_region 16 with fail
          (go_region_held3 (fun V => V.cell? ⟨r, 2, none⟩ = some (.int .i64 X.s) ∧ V.cell? ⟨r, 3, none⟩ = some (.int .i64 X.e) ∧ V.cell? ⟨r, 4, none⟩ = some (.int .i64 X.m) ∧ V.cell? ⟨r, 5, none⟩ = some (.int .i64 X.p)) (first | exact HD.out _ s10.out | exact HD.out _ s9.out | exact HD.out _ sD.out | go_keep) (first | (go_at_call 14; refine (y1 _ sD.out).mono ?_; rintro e wa ⟨rfl, rfl⟩) | (go_at_call 15; refine (y2 _ sD.out).mono ?_; rintro e wb ⟨rfl, rfl⟩) | (go_at_call 16; refine (y3 _ sD.out).mono ?_; rintro e wc ⟨rfl, rfl⟩) | (go_at_call 17; refine (y4 _ sD.out).mono ?_; rintro e wd ⟨rfl, rfl⟩) | (go_at_call 18; refine (y5 _ sD.out).mono ?_; rintro e w9 ⟨rfl, s9⟩) | (go_at_call 19; refine (y6 _ s9.out).mono ?_; rintro e w10 ⟨rfl, s10⟩)))
          all_goals
            go_wp2
            go_roundw
            case rel => exact ⟨i + 1, X, by go_num, by omega, by omega, s10, HE2⟩
            case measure => simp [intOf]; omega
      · have d1 : decide ((i : Int) < 300) = false := by simp; omega
        have d2 : decide (i < 300) = false := by simp; omega
        go_wp2
        go_ret
        exact ⟨rfl, s.out.bel⟩
    · have d1 : decide ((i : Int) < m) = false := by simp; omega
      have d2 : decide (i < m) = false := by simp; omega
      go_wp2
      go_ret
      exact ⟨rfl, s.out.bel⟩
end Go.Proofs.Ytjdgndbdoceifaa
