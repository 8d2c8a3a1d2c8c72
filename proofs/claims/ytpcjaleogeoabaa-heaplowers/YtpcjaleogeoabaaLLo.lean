/- HeapLowers, walked. -/
import Derived.Test.YtpcjaleogeoabaaLLe
import Derived.BigRegion
namespace Go.Proofs.Ytpcjaleogeoabaa
open Go.RowKit
open M
set_option linter.unusedVariables false
set_option linter.unusedSimpArgs false

theorem firstS_low {own : Nat → Int} {N id : Nat} {y : Int} (hid : id < N) : upS (firstS own N) id (some y) = firstS (upK own id y) N := by
  funext x
  unfold upS firstS upK
  by_cases e : x = id
  · subst e; simp [hid]
  · simp [e]
theorem firstS_has {own : Nat → Int} {N id : Nat} (hid : id < N) : hasB N (firstS own N) (id : Int) = true ∧ keyV N (firstS own N) (id : Int) = own id := by
  simp [hasB, keyV, isId_nat N id hid, firstS, hid]
theorem low_ok {own : Nat → Int} {N id : Nat} {y : Int} (hid : id < N) (hy : y ≤ own id) : lowE N (firstS own N) (id : Int) y = 0 ∧ lowS N (firstS own N) (id : Int) y = firstS (upK own id y) N := by
  obtain ⟨h1, h2⟩ := firstS_has (own := own) hid
  unfold lowE lowS
  rw [h1, h2, isId_nat N id hid]
  refine ⟨by simp only [if_true]; rw [if_neg (by omega)], ?_⟩
  rw [if_pos ⟨rfl, by omega⟩, Int.toNat_natCast]
  exact firstS_low hid
theorem low_high {own : Nat → Int} {N id : Nat} {y : Int} (hid : id < N) (hy : own id < y) : lowE N (firstS own N) (id : Int) y = 3 ∧ lowS N (firstS own N) (id : Int) y = firstS own N := by
  obtain ⟨h1, h2⟩ := firstS_has (own := own) hid
  unfold lowE lowS
  rw [h1, h2, isId_nat N id hid]
  refine ⟨by simp only [if_true]; rw [if_pos hy], ?_⟩
  rw [if_neg (fun q => q.2 hy)]
theorem cnt_first (own : Nat → Int) (N : Nat) : M.cnt (fun x => (firstS own N x).isSome) N = N := cntA (fun x hx => by simp [firstS, hx])
theorem cnt_pop {N x : Nat} {y : Int} {S : Nat → Option Int} (hf : Fst N S x y) {j : Nat} (hc : M.cnt (fun z => (S z).isSome) N + j = N) : M.cnt (fun z => (upS S x none z).isSome) N + (j + 1) = N := by
  have := cnt_set (p := fun y => (upS S x none y).isSome) (q := fun y => (S y).isSome) hf.lt (fun y hy hne => by rw [upS_ne S _ hne]) (by rw [upS_is]; rfl) (by rw [hf.is]; rfl)
  omega

set_option maxRecDepth 1000000 in
set_option maxHeartbeats 8000000 in
theorem heapLowers_walk (ls : List Int) (a : Option Addr) (cap : Nat) (us : List Int) (b : Option Addr) (cap1 : Nat) (vs : List Int) (c : Option Addr) (cap2 : Nat) (w : World) (hI : NumsIn .i64 w a ls) (hl : ls.length ≤ cap) (hc : cap ≤ maxLen) (hwf : ∀ y ∈ ls, (Lit.int .i64 y).wf = true) (hI1 : NumsIn .u8 w b us) (hl1 : us.length ≤ cap1) (hc1 : cap1 ≤ maxLen) (hwf1 : ∀ y ∈ us, (Lit.int .u8 y).wf = true) (hI2 : NumsIn .u8 w c vs) (hl2 : vs.length ≤ cap2) (hc2 : cap2 ≤ maxLen) (hwf2 : ∀ y ∈ vs, (Lit.int .u8 y).wf = true) :
    Calls Try.prog 5 #[.slice a ls.length cap, .slice b us.length cap1, .slice c vs.length cap2] w fun e w' => e = .returned (.bool true) ∧ Below w.heap.size w w' := by
  obtain ⟨B, hB⟩ : ∃ B, w.heap.size = B := ⟨_, rfl⟩
  have ks : Calls Try.prog 11 #[] w fun e w' => e = .returned (.bool true) ∧ Hid (Below B w w') := by
    have := shown_any w
    rw [hB] at this
    exact this
  have hle : B ≤ w.heap.size := by omega
  have hcm : cap ≤ 9223372036854775807 := by unfold maxLen at hc; omega
  have hcm1 : cap1 ≤ 9223372036854775807 := by unfold maxLen at hc1; omega
  have hcm2 : cap2 ≤ 9223372036854775807 := by unfold maxLen at hc2; omega
  obtain ⟨m, hm⟩ : ∃ m, ls.length = m := ⟨_, rfl⟩
  obtain ⟨m1, hm1⟩ : ∃ m, us.length = m := ⟨_, rfl⟩
  obtain ⟨m2, hm2⟩ : ∃ m, vs.length = m := ⟨_, rfl⟩
  obtain ⟨N, hN⟩ : ∃ N, min m 60 = N := ⟨_, rfl⟩
  have hNm : N ≤ m := by omega
  have hN1 : N ≤ 60 := by omega
  have hmin : ∀ (ts : Array TypeId) (t : TypeId) (W : World), (Builtin.min_ ts t #[.int .i64 (m : Int), .int .i64 60]).run Try.prog W = .ok (.int .i64 (N : Int)) W := fun ts t W => by
    have := min_num m 60 ts t W
    rw [hN] at this
    exact this
  obtain ⟨K, hK⟩ : ∃ K, nth ls = K := ⟨_, rfl⟩
  have HK : Hid (∀ (W : World) (i : Nat), Below B w W → i < N → ∃ kb ko, a = some ⟨kb, ko, none⟩ ∧ W.cell? ⟨kb, ko + i, none⟩ = some (.int .i64 (K i)) ∧ -9223372036854775808 ≤ K i ∧ K i ≤ 9223372036854775807) := fun W i hb hi => by
    obtain ⟨kb, ko, h1, h2⟩ := hI.at (hB ▸ hb) (i := i) (by omega)
    rw [← hK]
    refine ⟨kb, ko, h1, h2, ?_⟩
    exact bounds_i64 (hwf (nth ls i) (by
      have hlt : i < ls.length := by omega
      have e : nth ls i = ls[i] := by simp [nth, hlt]
      rw [e]; exact List.getElem_mem hlt))
  have HU : Hid (∀ (W : World) (i : Nat), Below B w W → i < m1 → ∃ kb ko v, b = some ⟨kb, ko, none⟩ ∧ W.cell? ⟨kb, ko + i, none⟩ = some (.int .u8 v) ∧ 0 ≤ v ∧ v ≤ 255) := fun W i hb hi => by
    obtain ⟨kb, ko, h1, h2⟩ := hI1.at (hB ▸ hb) (i := i) (by omega)
    refine ⟨kb, ko, _, h1, h2, ?_⟩
    have := hwf1 (nth us i) (by
      have hlt : i < us.length := by omega
      have e : nth us i = us[i] := by simp [nth, hlt]
      rw [e]; exact List.getElem_mem hlt)
    exact bounds_u8 this
  have HV : Hid (∀ (W : World) (i : Nat), Below B w W → i < m2 → ∃ kb ko v, c = some ⟨kb, ko, none⟩ ∧ W.cell? ⟨kb, ko + i, none⟩ = some (.int .u8 v) ∧ 0 ≤ v ∧ v ≤ 255) := fun W i hb hi => by
    obtain ⟨kb, ko, h1, h2⟩ := hI2.at (hB ▸ hb) (i := i) (by omega)
    refine ⟨kb, ko, _, h1, h2, ?_⟩
    have := hwf2 (nth vs i) (by
      have hlt : i < vs.length := by omega
      have e : nth vs i = vs[i] := by simp [nth, hlt]
      rw [e]; exact List.getElem_mem hlt)
    exact bounds_u8 this
  have kn : ∀ W, Below B w W → Calls Try.prog 12 #[.int .i64 N] W fun e w' => ∃ g, e = .returned (ptr g) ∧ Hid (MX B w w' [(g, N, fun _ => none)] []) := fun W hb => by
    have := (mx_start hb hle).new (N : Int)
    rw [hsz_in N (by omega)] at this
    exact this
  have kn2 : ∀ W g, MX B w W [(g, N, fun _ => none)] [] → Calls Try.prog 12 #[.int .i64 N] W fun e w' => ∃ g', e = .returned (ptr g') ∧ Hid (MX B w w' [(g, N, fun _ => none), (g', N, fun _ => none)] []) := fun W g h => by
    have := h.new (N : Int)
    rw [hsz_in N (by omega)] at this
    exact this
  have kmi := make_ints N (by omega)
  rw [hm] at hl ⊢
  rw [hm1] at hl1 ⊢
  rw [hm2] at hl2 ⊢
  rw [hB]
  clear hI hI1 hI2 hc hc1 hc2 hB hwf hwf1 hwf2 hm hm1 hm2 hN hK
  go_enter Try.func5, Try.ntmps5
  go_wp2_with (first | (go_at_call 11; refine ks.mono ?_; rintro e w1 ⟨rfl, s1⟩; clear ks) | (go_at_call 12; refine (kn _ s1.out).mono ?_; rintro e w2 ⟨g, rfl, s⟩; clear kn s1; refine Hid.out ?_))
  refine hide_it ?_
  go_wp2_with (go_at_call 12; refine (kn2 _ _ s.out).mono ?_; rintro e w3 ⟨g2, rfl, t⟩; clear kn2 s; have s := t; clear t)
  obtain ⟨K2, hK2⟩ : ∃ K2 : Nat → Int, (fun x => K x / 2) = K2 := ⟨_, rfl⟩
  have s0 : Hid (MX B w (w3.alloc (.cells (iRow (fun _ => 0) N) 3)) [(g, N, firstS K2 0), (g2, N, fun _ => none)] [(w3.heap.size, .cells (iRow (fun j => if j < 0 then K2 j else 0) N) 3)]) := by
    have := ((s.out.congr 0 rfl (S' := firstS K2 0) (fun x _ => by simp [firstS])).alloc (.cells (iRow (fun _ => 0) N) 3)).icongr (f' := fun j => if j < 0 then K2 j else 0) (fun j hj => by simp)
    exact this
  obtain ⟨r, hr⟩ : ∃ r, w3.heap.size = r := ⟨_, rfl⟩
  rw [hr] at s0
  simp only [hr]
  clear hr s
  generalize w3.alloc (.cells (iRow (fun _ => 0) N) 3) = w4 at *
  go_loopw [12] (fun iv W => ∃ k : Nat, iv = .int .i64 k ∧ k ≤ N ∧ Hid (MX B w W [(g, N, firstS K2 k), (g2, N, fun _ => none)] [(r, .cells (iRow (fun j => if j < k then K2 j else 0) N) 3)])) (fun iv _ => N - (intOf iv).toNat)
  case atStart => exact ⟨0, rfl, Nat.zero_le _, s0⟩
  case round =>
    clear s0
    obtain ⟨k, rfl, hk, s⟩ := hrel
    by_cases hlt : k < N
    · obtain ⟨kb, ko, rfl, ck, hk1, hk2⟩ := HK.out _ k s.out.bel hlt
      have hkm : k < m := by omega
      obtain ⟨y, hy⟩ : ∃ y, K2 k = y := ⟨_, rfl⟩
      have hy2 : K k / 2 = y := by rw [← hy, ← hK2]
      obtain ⟨cr, fr⟩ := s.out.iat hlt
      have s2 := hide_it (s.out.iset k y (f' := fun j => if j < k + 1 then K2 j else 0) (fun j hj => by
        by_cases e : j = k
        · subst e; simp [hy]
        · simp only [e, if_false]
          by_cases e2 : j < k
          · rw [if_pos e2, if_pos (by omega)]
          · rw [if_neg e2, if_neg (by omega)]))
      generalize (if k < k then K2 k else 0) = v0 at cr
      have kp : Calls Try.prog 13 #[ptr g, .int .i64 k, .int .i64 y] (wr.setCell ⟨r, k, none⟩ (.int .i64 y)) fun e w' => e = .returned (.int .i64 0) ∧ Hid (MX B w w' [(g, N, firstS K2 (k + 1)), (g2, N, fun _ => none)] [(r, .cells (iRow (fun j => if j < k + 1 then K2 j else 0) N) 3)]) := by
        have := s2.out.push 0 rfl (k : Int) y
        rw [(firstS_push hlt).1, ← hy, (firstS_push hlt).2, hy] at this
        exact this
      clear s s2 hy
      generalize K k = kk at *
      go_wp2_with (go_at_call 13; refine kp.mono ?_; rintro e w5 ⟨rfl, t⟩)
      go_roundw
      case rel => exact ⟨k + 1, by go_num, by omega, t⟩
      case measure => simp [intOf]; omega
    · have h2 : decide ((k : Int) < N) = false := by simp; omega
      have h3 : decide (k < N) = false := by simp; omega
      have hkN : k = N := by omega
      rw [hkN] at s
      have s1 : Hid (MX B w wr [(g, N, firstS K2 N), (g2, N, fun _ => none)] [(r, .cells (iRow K2 N) 3)]) := s.out.icongr (fun j hj => by rw [if_pos hj])
      have HB : Hid (∀ x, x < N → -4611686018427387904 - 255 * 0 ≤ K2 x ∧ K2 x ≤ 4611686018427387904) := fun x hx => by
        obtain ⟨_, _, _, _, q, q2⟩ := HK.out _ x s.out.bel hx
        rw [← hK2]
        show -4611686018427387904 - 255 * 0 ≤ K x / 2 ∧ K x / 2 ≤ 4611686018427387904
        omega
      clear s hkN hk HK hK2 kmi
      go_wp2
      go_loopw [13] (fun iv W => ∃ (t : Nat) (own : Nat → Int), iv = .int .i64 t ∧ t ≤ 100 ∧ Hid (MX B w W [(g, N, firstS own N), (g2, N, fun _ => none)] [(r, .cells (iRow own N) 3)]) ∧ Hid (∀ x, x < N → -4611686018427387904 - 255 * (t : Int) ≤ own x ∧ own x ≤ 4611686018427387904)) (fun iv _ => 100 - (intOf iv).toNat)
      case atStart => exact ⟨0, K2, rfl, by omega, s1, HB⟩
      case round =>
        clear s1 HB hlt h2 h3
        obtain ⟨t, own, rfl, ht, s, HO⟩ := hrel
        by_cases h0 : 0 < N
        · have d0 : decide (0 < (N : Int)) = true := decide_eq_true (by omega)
          have d0' : decide (0 < N) = true := decide_eq_true (by omega)
          by_cases h1 : t < m1
          · have d1 : decide ((t : Int) < (m1 : Int)) = true := decide_eq_true (by omega)
            have d1' : decide (t < m1) = true := decide_eq_true (by omega)
            by_cases h2 : t < m2
            · have d2 : decide ((t : Int) < (m2 : Int)) = true := decide_eq_true (by omega)
              have d2' : decide (t < m2) = true := decide_eq_true (by omega)
              by_cases h3 : t < 100
              · have d3 : decide ((t : Int) < 100) = true := decide_eq_true (by omega)
                have d3' : decide (t < 100) = true := decide_eq_true (by omega)
                obtain ⟨ub, uo, v, rfl, cu, hv0, hv1⟩ := HU.out _ t s.out.bel h1
                obtain ⟨vb, vo, q, rfl, cv, hq0, hq1⟩ := HV.out _ t s.out.bel h2
                obtain ⟨vn, rfl⟩ : ∃ vn : Nat, v = vn := ⟨v.toNat, by omega⟩
                obtain ⟨id, hid⟩ : ∃ q, vn % N = q := ⟨_, rfl⟩
                have hidN : id < N := by rw [← hid]; exact Nat.mod_lt _ h0
                have x2 : ((vn : Int)).tmod (N : Int) = (id : Int) := by rw [Int.tmod_eq_emod_of_nonneg (by omega), ← hid]; rfl
                have x4 : ¬ (N : Int) = 0 := by omega
                have x5 : ((N : Int) == 0) = false := by rw [beq_eq_false_iff_ne]; exact x4
                have x6 : ¬ N = 0 := by omega
                obtain ⟨ca, fa⟩ := s.out.iat hidN
                have hb := HO.out id hidN
                obtain ⟨y, hy⟩ : ∃ y, own id - q = y := ⟨_, rfl⟩
                obtain ⟨g1, g2'⟩ := low_ok (own := own) (y := y) hidN (by omega)
                have hu1 : upK own id y id = y := by simp [upK]
                obtain ⟨g3, g4⟩ := low_high (own := upK own id y) (y := y + 1) hidN (by rw [hu1]; omega)
                have hyb : -4611686018427387904 - 25500 ≤ y ∧ y ≤ 4611686018427387904 := by omega
                have HN : Hid (∀ x, x < N → -4611686018427387904 - 255 * ((t + 1 : Nat) : Int) ≤ upK own id y x ∧ upK own id y x ≤ 4611686018427387904) := fun x hx => by
                  have := HO.out x hx
                  unfold upK
                  split
                  · omega
                  · omega
                have s5 := hide_it (s.out.iset id y (f' := upK own id y) (fun j hj => rfl))
                have s6 := hide_it (s5.out.below (w' := (wr.setCell ⟨r, id, none⟩ (.int .i64 y)).drew) ((Below.refl _ _).drew))
                have kl1 : Calls Try.prog 15 #[ptr g, .int .i64 id, .int .i64 y] (wr.setCell ⟨r, id, none⟩ (.int .i64 y)).drew fun e w' => e = .returned (.int .i64 0) ∧ Hid (MX B w w' [(g, N, firstS (upK own id y) N), (g2, N, fun _ => none)] [(r, .cells (iRow (upK own id y) N) 3)]) := by
                  have := s6.out.lower 0 rfl (id : Int) y
                  rw [g1, g2'] at this
                  exact this
                have kl2 : ∀ W, MX B w W [(g, N, firstS (upK own id y) N), (g2, N, fun _ => none)] [(r, .cells (iRow (upK own id y) N) 3)] → Calls Try.prog 15 #[ptr g, .int .i64 id, .int .i64 (y + 1)] W fun e w' => e = .returned (.int .i64 3) ∧ Hid (MX B w w' [(g, N, firstS (upK own id y) N), (g2, N, fun _ => none)] [(r, .cells (iRow (upK own id y) N) 3)]) := fun W h => by
                  have := h.lower 0 rfl (id : Int) (y + 1)
                  rw [g3, g4] at this
                  exact this
                have HC : Hid (∀ W hs, MX B w W hs [(r, .cells (iRow (upK own id y) N) 3)] → W.cell? ⟨r, id, none⟩ = some (.int .i64 y)) := fun W hs h => by
                  have := (h.iat hidN).1
                  rw [hu1] at this
                  exact this
                have c6 := HC.out _ _ ((s5.out.below (w' := (wr.setCell ⟨r, id, none⟩ (.int .i64 y)).drew) ((Below.refl _ _).drew)))
                generalize upK own id y = own2 at *
                generalize own id = o1 at *
                clear s s5 s6 HO g1 g2' g3 g4 hid hu1
                go_upto_region 18 with fail
                go_region
                clear hy ca fa
                generalize (wr.setCell ⟨r, id, none⟩ (.int .i64 y)).drew = w6 at *
                go_wp2_with (go_at_call 15; refine kl1.mono ?_; rintro e w7 ⟨rfl, t7⟩; have c7 := HC.out _ _ t7.out; refine Hid.out ?_)
                refine hide_it ?_
                go_wp2_with (go_at_call 15; refine (kl2 _ t7.out).mono ?_; rintro e w8 ⟨rfl, t8⟩)
                go_roundw
                case rel => exact ⟨t + 1, own2, by go_num, by omega, t8, HN⟩
                case measure => simp [intOf]; omega
              · have d3 : decide ((t : Int) < 100) = false := decide_eq_false (by omega)
                have d3' : decide (t < 100) = false := decide_eq_false (by omega)
                have s9 : Hid (MX B w wr [(g, N, firstS own N), (g2, N, firstS own 0)] [(r, .cells (iRow own N) 3)]) := by
                  have := s.out.congr 1 rfl (S' := firstS own 0) (fun x _ => by simp [firstS])
                  exact this
                clear s HO HU HV
                go_wp2
                go_loopw [15] (fun iv W => ∃ j : Nat, iv = .int .i64 j ∧ j ≤ N ∧ Hid (MX B w W [(g, N, firstS own N), (g2, N, firstS own j)] [(r, .cells (iRow own N) 3)])) (fun iv _ => N - (intOf iv).toNat)
                case atStart => exact ⟨0, rfl, Nat.zero_le _, s9⟩
                case round =>
                  clear s9
                  obtain ⟨j, rfl, hj, s⟩ := hrel
                  by_cases hjl : j < N
                  · have z1 : decide ((j : Int) < (N : Int)) = true := decide_eq_true (by omega)
                    have z1' : decide (j < N) = true := decide_eq_true (by omega)
                    obtain ⟨cj, _⟩ := s.out.iat hjl
                    have kp : Calls Try.prog 13 #[ptr g2, .int .i64 j, .int .i64 (own j)] wr fun e w' => e = .returned (.int .i64 0) ∧ Hid (MX B w w' [(g, N, firstS own N), (g2, N, firstS own (j + 1))] [(r, .cells (iRow own N) 3)]) := by
                      have := s.out.push 1 rfl (j : Int) (own j)
                      rw [(firstS_push hjl).1, (firstS_push hjl).2] at this
                      exact this
                    clear s
                    generalize own j = oj at *
                    go_wp2_with (go_at_call 13; refine kp.mono ?_; rintro e w9 ⟨rfl, t9⟩)
                    go_roundw
                    case rel => exact ⟨j + 1, by go_num, by omega, t9⟩
                    case measure => simp [intOf]; omega
                  · have z1 : decide ((j : Int) < (N : Int)) = false := decide_eq_false (by omega)
                    have z1' : decide (j < N) = false := decide_eq_false (by omega)
                    have hjN : j = N := by omega
                    have sA : Hid (MX B w wr [(g, N, firstS own N), (g2, N, firstS own N)] [(r, .cells (iRow own N) 3)]) := by rw [hjN] at s; exact s
                    have HC0 := hide_it (cnt_first own N)
                    clear s hjN
                    generalize firstS own N = S0 at *
                    go_wp2
                    go_loopw [16] (fun iv W => ∃ (i : Nat) (S : Nat → Option Int), iv = .int .i64 i ∧ i ≤ N ∧ Hid (MX B w W [(g, N, S), (g2, N, S)] [(r, .cells (iRow own N) 3)]) ∧ Hid (M.cnt (fun z => (S z).isSome) N + i = N)) (fun iv _ => N - (intOf iv).toNat)
                    case atStart => exact ⟨0, _, rfl, Nat.zero_le _, sA, by rw [HC0.out]; rfl⟩
                    case round =>
                      clear sA HC0 hj hjl z1 z1'
                      obtain ⟨i, S, rfl, hi, s, HC⟩ := hrel
                      by_cases hil : i < N
                      · have z1 : decide ((i : Int) < (N : Int)) = true := decide_eq_true (by omega)
                        have z1' : decide (i < N) = true := decide_eq_true (by omega)
                        obtain ⟨x, y, hf⟩ : ∃ x y, Fst N S x y := by
                          rcases s.out.cases 0 rfl with he | h
                          · have := he.cnt
                            have := HC.out
                            omega
                          · exact h
                        have HN := hide_it (cnt_pop hf HC.out)
                        have kp : Calls Try.prog 19 #[ptr g] wr fun e w' => e = .returned (.tuple #[.int .i64 x, .int .i64 y, .bool true]) ∧ Hid (MX B w w' [(g, N, upS S x none), (g2, N, S)] [(r, .cells (iRow own N) 3)]) := s.out.pop 0 rfl hf
                        have kp2 : ∀ W, MX B w W [(g, N, upS S x none), (g2, N, S)] [(r, .cells (iRow own N) 3)] → Calls Try.prog 19 #[ptr g2] W fun e w' => e = .returned (.tuple #[.int .i64 x, .int .i64 y, .bool true]) ∧ Hid (MX B w w' [(g, N, upS S x none), (g2, N, upS S x none)] [(r, .cells (iRow own N) 3)]) := fun W h => h.pop 1 rfl hf
                        clear hf HC s
                        generalize upS S x none = S1 at *
                        go_wp2_with (go_at_call 19; refine kp.mono ?_; rintro e w9 ⟨rfl, t9⟩; refine Hid.out ?_)
                        refine hide_it ?_
                        go_wp2_with (go_at_call 19; refine (kp2 _ t9.out).mono ?_; rintro e wB ⟨rfl, tB⟩)
                        go_roundw
                        case rel => exact ⟨i + 1, S1, by go_num, by omega, tB, HN⟩
                        case measure => simp [intOf]; omega
                      · have z1 : decide ((i : Int) < (N : Int)) = false := decide_eq_false (by omega)
                        have z1' : decide (i < N) = false := decide_eq_false (by omega)
                        go_wp2
                        go_ret
                        exact ⟨rfl, s.out.bel⟩
            · have d2 : decide ((t : Int) < (m2 : Int)) = false := decide_eq_false (by omega)
              have d2' : decide (t < m2) = false := decide_eq_false (by omega)
              have s9 : Hid (MX B w wr [(g, N, firstS own N), (g2, N, firstS own 0)] [(r, .cells (iRow own N) 3)]) := by
                have := s.out.congr 1 rfl (S' := firstS own 0) (fun x _ => by simp [firstS])
                exact this
              clear s HO HU HV
              go_wp2
              go_loopw [15] (fun iv W => ∃ j : Nat, iv = .int .i64 j ∧ j ≤ N ∧ Hid (MX B w W [(g, N, firstS own N), (g2, N, firstS own j)] [(r, .cells (iRow own N) 3)])) (fun iv _ => N - (intOf iv).toNat)
              case atStart => exact ⟨0, rfl, Nat.zero_le _, s9⟩
              case round =>
                clear s9
                obtain ⟨j, rfl, hj, s⟩ := hrel
                by_cases hjl : j < N
                · have z1 : decide ((j : Int) < (N : Int)) = true := decide_eq_true (by omega)
                  have z1' : decide (j < N) = true := decide_eq_true (by omega)
                  obtain ⟨cj, _⟩ := s.out.iat hjl
                  have kp : Calls Try.prog 13 #[ptr g2, .int .i64 j, .int .i64 (own j)] wr fun e w' => e = .returned (.int .i64 0) ∧ Hid (MX B w w' [(g, N, firstS own N), (g2, N, firstS own (j + 1))] [(r, .cells (iRow own N) 3)]) := by
                    have := s.out.push 1 rfl (j : Int) (own j)
                    rw [(firstS_push hjl).1, (firstS_push hjl).2] at this
                    exact this
                  clear s
                  generalize own j = oj at *
                  go_wp2_with (go_at_call 13; refine kp.mono ?_; rintro e w9 ⟨rfl, t9⟩)
                  go_roundw
                  case rel => exact ⟨j + 1, by go_num, by omega, t9⟩
                  case measure => simp [intOf]; omega
                · have z1 : decide ((j : Int) < (N : Int)) = false := decide_eq_false (by omega)
                  have z1' : decide (j < N) = false := decide_eq_false (by omega)
                  have hjN : j = N := by omega
                  have sA : Hid (MX B w wr [(g, N, firstS own N), (g2, N, firstS own N)] [(r, .cells (iRow own N) 3)]) := by rw [hjN] at s; exact s
                  have HC0 := hide_it (cnt_first own N)
                  clear s hjN
                  generalize firstS own N = S0 at *
                  go_wp2
                  go_loopw [16] (fun iv W => ∃ (i : Nat) (S : Nat → Option Int), iv = .int .i64 i ∧ i ≤ N ∧ Hid (MX B w W [(g, N, S), (g2, N, S)] [(r, .cells (iRow own N) 3)]) ∧ Hid (M.cnt (fun z => (S z).isSome) N + i = N)) (fun iv _ => N - (intOf iv).toNat)
                  case atStart => exact ⟨0, _, rfl, Nat.zero_le _, sA, by rw [HC0.out]; rfl⟩
                  case round =>
                    clear sA HC0 hj hjl z1 z1'
                    obtain ⟨i, S, rfl, hi, s, HC⟩ := hrel
                    by_cases hil : i < N
                    · have z1 : decide ((i : Int) < (N : Int)) = true := decide_eq_true (by omega)
                      have z1' : decide (i < N) = true := decide_eq_true (by omega)
                      obtain ⟨x, y, hf⟩ : ∃ x y, Fst N S x y := by
                        rcases s.out.cases 0 rfl with he | h
                        · have := he.cnt
                          have := HC.out
                          omega
                        · exact h
                      have HN := hide_it (cnt_pop hf HC.out)
                      have kp : Calls Try.prog 19 #[ptr g] wr fun e w' => e = .returned (.tuple #[.int .i64 x, .int .i64 y, .bool true]) ∧ Hid (MX B w w' [(g, N, upS S x none), (g2, N, S)] [(r, .cells (iRow own N) 3)]) := s.out.pop 0 rfl hf
                      have kp2 : ∀ W, MX B w W [(g, N, upS S x none), (g2, N, S)] [(r, .cells (iRow own N) 3)] → Calls Try.prog 19 #[ptr g2] W fun e w' => e = .returned (.tuple #[.int .i64 x, .int .i64 y, .bool true]) ∧ Hid (MX B w w' [(g, N, upS S x none), (g2, N, upS S x none)] [(r, .cells (iRow own N) 3)]) := fun W h => h.pop 1 rfl hf
                      clear hf HC s
                      generalize upS S x none = S1 at *
                      go_wp2_with (go_at_call 19; refine kp.mono ?_; rintro e w9 ⟨rfl, t9⟩; refine Hid.out ?_)
                      refine hide_it ?_
                      go_wp2_with (go_at_call 19; refine (kp2 _ t9.out).mono ?_; rintro e wB ⟨rfl, tB⟩)
                      go_roundw
                      case rel => exact ⟨i + 1, S1, by go_num, by omega, tB, HN⟩
                      case measure => simp [intOf]; omega
                    · have z1 : decide ((i : Int) < (N : Int)) = false := decide_eq_false (by omega)
                      have z1' : decide (i < N) = false := decide_eq_false (by omega)
                      go_wp2
                      go_ret
                      exact ⟨rfl, s.out.bel⟩
          · have d1 : decide ((t : Int) < (m1 : Int)) = false := decide_eq_false (by omega)
            have d1' : decide (t < m1) = false := decide_eq_false (by omega)
            have s9 : Hid (MX B w wr [(g, N, firstS own N), (g2, N, firstS own 0)] [(r, .cells (iRow own N) 3)]) := by
              have := s.out.congr 1 rfl (S' := firstS own 0) (fun x _ => by simp [firstS])
              exact this
            clear s HO HU HV
            go_wp2
            go_loopw [15] (fun iv W => ∃ j : Nat, iv = .int .i64 j ∧ j ≤ N ∧ Hid (MX B w W [(g, N, firstS own N), (g2, N, firstS own j)] [(r, .cells (iRow own N) 3)])) (fun iv _ => N - (intOf iv).toNat)
            case atStart => exact ⟨0, rfl, Nat.zero_le _, s9⟩
            case round =>
              clear s9
              obtain ⟨j, rfl, hj, s⟩ := hrel
              by_cases hjl : j < N
              · have z1 : decide ((j : Int) < (N : Int)) = true := decide_eq_true (by omega)
                have z1' : decide (j < N) = true := decide_eq_true (by omega)
                obtain ⟨cj, _⟩ := s.out.iat hjl
                have kp : Calls Try.prog 13 #[ptr g2, .int .i64 j, .int .i64 (own j)] wr fun e w' => e = .returned (.int .i64 0) ∧ Hid (MX B w w' [(g, N, firstS own N), (g2, N, firstS own (j + 1))] [(r, .cells (iRow own N) 3)]) := by
                  have := s.out.push 1 rfl (j : Int) (own j)
                  rw [(firstS_push hjl).1, (firstS_push hjl).2] at this
                  exact this
                clear s
                generalize own j = oj at *
                go_wp2_with (go_at_call 13; refine kp.mono ?_; rintro e w9 ⟨rfl, t9⟩)
                go_roundw
                case rel => exact ⟨j + 1, by go_num, by omega, t9⟩
                case measure => simp [intOf]; omega
              · have z1 : decide ((j : Int) < (N : Int)) = false := decide_eq_false (by omega)
                have z1' : decide (j < N) = false := decide_eq_false (by omega)
                have hjN : j = N := by omega
                have sA : Hid (MX B w wr [(g, N, firstS own N), (g2, N, firstS own N)] [(r, .cells (iRow own N) 3)]) := by rw [hjN] at s; exact s
                have HC0 := hide_it (cnt_first own N)
                clear s hjN
                generalize firstS own N = S0 at *
                go_wp2
                go_loopw [16] (fun iv W => ∃ (i : Nat) (S : Nat → Option Int), iv = .int .i64 i ∧ i ≤ N ∧ Hid (MX B w W [(g, N, S), (g2, N, S)] [(r, .cells (iRow own N) 3)]) ∧ Hid (M.cnt (fun z => (S z).isSome) N + i = N)) (fun iv _ => N - (intOf iv).toNat)
                case atStart => exact ⟨0, _, rfl, Nat.zero_le _, sA, by rw [HC0.out]; rfl⟩
                case round =>
                  clear sA HC0 hj hjl z1 z1'
                  obtain ⟨i, S, rfl, hi, s, HC⟩ := hrel
                  by_cases hil : i < N
                  · have z1 : decide ((i : Int) < (N : Int)) = true := decide_eq_true (by omega)
                    have z1' : decide (i < N) = true := decide_eq_true (by omega)
                    obtain ⟨x, y, hf⟩ : ∃ x y, Fst N S x y := by
                      rcases s.out.cases 0 rfl with he | h
                      · have := he.cnt
                        have := HC.out
                        omega
                      · exact h
                    have HN := hide_it (cnt_pop hf HC.out)
                    have kp : Calls Try.prog 19 #[ptr g] wr fun e w' => e = .returned (.tuple #[.int .i64 x, .int .i64 y, .bool true]) ∧ Hid (MX B w w' [(g, N, upS S x none), (g2, N, S)] [(r, .cells (iRow own N) 3)]) := s.out.pop 0 rfl hf
                    have kp2 : ∀ W, MX B w W [(g, N, upS S x none), (g2, N, S)] [(r, .cells (iRow own N) 3)] → Calls Try.prog 19 #[ptr g2] W fun e w' => e = .returned (.tuple #[.int .i64 x, .int .i64 y, .bool true]) ∧ Hid (MX B w w' [(g, N, upS S x none), (g2, N, upS S x none)] [(r, .cells (iRow own N) 3)]) := fun W h => h.pop 1 rfl hf
                    clear hf HC s
                    generalize upS S x none = S1 at *
                    go_wp2_with (go_at_call 19; refine kp.mono ?_; rintro e w9 ⟨rfl, t9⟩; refine Hid.out ?_)
                    refine hide_it ?_
                    go_wp2_with (go_at_call 19; refine (kp2 _ t9.out).mono ?_; rintro e wB ⟨rfl, tB⟩)
                    go_roundw
                    case rel => exact ⟨i + 1, S1, by go_num, by omega, tB, HN⟩
                    case measure => simp [intOf]; omega
                  · have z1 : decide ((i : Int) < (N : Int)) = false := decide_eq_false (by omega)
                    have z1' : decide (i < N) = false := decide_eq_false (by omega)
                    go_wp2
                    go_ret
                    exact ⟨rfl, s.out.bel⟩
        · have d0 : decide (0 < (N : Int)) = false := decide_eq_false (by omega)
          have d0' : decide (0 < N) = false := decide_eq_false (by omega)
          have s9 : Hid (MX B w wr [(g, N, firstS own N), (g2, N, firstS own 0)] [(r, .cells (iRow own N) 3)]) := by
            have := s.out.congr 1 rfl (S' := firstS own 0) (fun x _ => by simp [firstS])
            exact this
          clear s HO HU HV
          go_wp2
          go_loopw [15] (fun iv W => ∃ j : Nat, iv = .int .i64 j ∧ j ≤ N ∧ Hid (MX B w W [(g, N, firstS own N), (g2, N, firstS own j)] [(r, .cells (iRow own N) 3)])) (fun iv _ => N - (intOf iv).toNat)
          case atStart => exact ⟨0, rfl, Nat.zero_le _, s9⟩
          case round =>
            clear s9
            obtain ⟨j, rfl, hj, s⟩ := hrel
            by_cases hjl : j < N
            · have z1 : decide ((j : Int) < (N : Int)) = true := decide_eq_true (by omega)
              have z1' : decide (j < N) = true := decide_eq_true (by omega)
              obtain ⟨cj, _⟩ := s.out.iat hjl
              have kp : Calls Try.prog 13 #[ptr g2, .int .i64 j, .int .i64 (own j)] wr fun e w' => e = .returned (.int .i64 0) ∧ Hid (MX B w w' [(g, N, firstS own N), (g2, N, firstS own (j + 1))] [(r, .cells (iRow own N) 3)]) := by
                have := s.out.push 1 rfl (j : Int) (own j)
                rw [(firstS_push hjl).1, (firstS_push hjl).2] at this
                exact this
              clear s
              generalize own j = oj at *
              go_wp2_with (go_at_call 13; refine kp.mono ?_; rintro e w9 ⟨rfl, t9⟩)
              go_roundw
              case rel => exact ⟨j + 1, by go_num, by omega, t9⟩
              case measure => simp [intOf]; omega
            · have z1 : decide ((j : Int) < (N : Int)) = false := decide_eq_false (by omega)
              have z1' : decide (j < N) = false := decide_eq_false (by omega)
              have hjN : j = N := by omega
              have sA : Hid (MX B w wr [(g, N, firstS own N), (g2, N, firstS own N)] [(r, .cells (iRow own N) 3)]) := by rw [hjN] at s; exact s
              have HC0 := hide_it (cnt_first own N)
              clear s hjN
              generalize firstS own N = S0 at *
              go_wp2
              go_loopw [16] (fun iv W => ∃ (i : Nat) (S : Nat → Option Int), iv = .int .i64 i ∧ i ≤ N ∧ Hid (MX B w W [(g, N, S), (g2, N, S)] [(r, .cells (iRow own N) 3)]) ∧ Hid (M.cnt (fun z => (S z).isSome) N + i = N)) (fun iv _ => N - (intOf iv).toNat)
              case atStart => exact ⟨0, _, rfl, Nat.zero_le _, sA, by rw [HC0.out]; rfl⟩
              case round =>
                clear sA HC0 hj hjl z1 z1'
                obtain ⟨i, S, rfl, hi, s, HC⟩ := hrel
                by_cases hil : i < N
                · have z1 : decide ((i : Int) < (N : Int)) = true := decide_eq_true (by omega)
                  have z1' : decide (i < N) = true := decide_eq_true (by omega)
                  obtain ⟨x, y, hf⟩ : ∃ x y, Fst N S x y := by
                    rcases s.out.cases 0 rfl with he | h
                    · have := he.cnt
                      have := HC.out
                      omega
                    · exact h
                  have HN := hide_it (cnt_pop hf HC.out)
                  have kp : Calls Try.prog 19 #[ptr g] wr fun e w' => e = .returned (.tuple #[.int .i64 x, .int .i64 y, .bool true]) ∧ Hid (MX B w w' [(g, N, upS S x none), (g2, N, S)] [(r, .cells (iRow own N) 3)]) := s.out.pop 0 rfl hf
                  have kp2 : ∀ W, MX B w W [(g, N, upS S x none), (g2, N, S)] [(r, .cells (iRow own N) 3)] → Calls Try.prog 19 #[ptr g2] W fun e w' => e = .returned (.tuple #[.int .i64 x, .int .i64 y, .bool true]) ∧ Hid (MX B w w' [(g, N, upS S x none), (g2, N, upS S x none)] [(r, .cells (iRow own N) 3)]) := fun W h => h.pop 1 rfl hf
                  clear hf HC s
                  generalize upS S x none = S1 at *
                  go_wp2_with (go_at_call 19; refine kp.mono ?_; rintro e w9 ⟨rfl, t9⟩; refine Hid.out ?_)
                  refine hide_it ?_
                  go_wp2_with (go_at_call 19; refine (kp2 _ t9.out).mono ?_; rintro e wB ⟨rfl, tB⟩)
                  go_roundw
                  case rel => exact ⟨i + 1, S1, by go_num, by omega, tB, HN⟩
                  case measure => simp [intOf]; omega
                · have z1 : decide ((i : Int) < (N : Int)) = false := decide_eq_false (by omega)
                  have z1' : decide (i < N) = false := decide_eq_false (by omega)
                  go_wp2
                  go_ret
                  exact ⟨rfl, s.out.bel⟩
end Go.Proofs.Ytpcjaleogeoabaa
