/- TimerPortions, walked. -/
import Derived.Test.YtlpbjafdmhcmgaaApp
import Derived.Test.YtlpbjafdmhcmgaaLSt
namespace Go.Proofs.Ytlpbjafdmhcmgaa
open Go.RowKit
open M
set_option linter.unusedVariables false
set_option linter.unusedSimpArgs false

theorem por_due {n : Nat} {S : Nat → Option Int} {lo hi : Int} {L1 L2 : List Nat} (hle : lo ≤ hi) (h1 : Due n S lo L1) (h2 : Due n (dueS S lo) hi L2) : Due n S hi (L1 ++ L2) := by
  have in2 : ∀ x, x ∈ L2 → x < n ∧ ∃ y, S x = some y ∧ dueS S lo x = some y ∧ lo < y ∧ y ≤ hi := fun x hx => by
    obtain ⟨q1, y, q2, q3⟩ := (h2.mem x).1 hx
    obtain ⟨q4, q5⟩ := dueS_some.1 q2
    exact ⟨q1, y, q4, q2, q5, q3⟩
  refine ⟨fun x => ?_, List.pairwise_append.2 ⟨h1.ord, h2.ord.imp_of_mem (fun {a b} ha hb q => ?_), fun a ha b hb => ?_⟩⟩
  · rw [List.mem_append]
    constructor
    · rintro (q | q)
      · obtain ⟨q1, y, q2, q3⟩ := (h1.mem x).1 q
        exact ⟨q1, y, q2, by omega⟩
      · obtain ⟨q1, y, q2, _, _, q3⟩ := in2 x q
        exact ⟨q1, y, q2, q3⟩
    · rintro ⟨q1, y, q2, q3⟩
      rcases (by omega : y ≤ lo ∨ lo < y) with q | q
      · exact .inl ((h1.mem x).2 ⟨q1, y, q2, q⟩)
      · exact .inr ((h2.mem x).2 ⟨q1, y, dueS_some.2 ⟨q2, q⟩, q3⟩)
  · obtain ⟨_, y, a1, a2, _⟩ := in2 a ha
    obtain ⟨_, z, b1, b2, _⟩ := in2 b hb
    unfold ltP at *
    rw [kS_of a2, kS_of b2] at q
    rw [kS_of a1, kS_of b1]
    exact q
  · obtain ⟨_, y, a1, a2⟩ := (h1.mem a).1 ha
    obtain ⟨_, z, b1, _, b2, _⟩ := in2 b hb
    unfold ltP
    rw [kS_of a1, kS_of b1]
    omega
theorem por_rest {S : Nat → Option Int} {lo hi : Int} (hle : lo ≤ hi) (x : Nat) : dueS (dueS S lo) hi x = dueS S hi x := by
  unfold dueS
  cases S x with
  | none => rfl
  | some y =>
    by_cases q1 : y ≤ lo
    · simp [q1]; omega
    · simp [q1]
theorem rdr_row {B : Nat} {w0 w : World} {hs : List Hp} {R R' : List (Nat × Obj)} {a : Option Addr} {L : List Nat} {cap : Nat} (h : MX B w0 w hs (R' ++ R)) (hr : RowAt a L cap R') : RdR w a L cap := by
  rcases hr with ⟨rfl, rfl, rfl, _⟩ | ⟨b, cur, rfl, rfl, _, _, _, hc⟩
  · exact .inl ⟨rfl, rfl, rfl⟩
  · have hg := h.row (r := b) (o := .cells cur 3) (by simp)
    exact .inr ⟨b, rfl, block_lt hg, fun i hi => by rw [cell_of_row w b i _ _ _ hg]; exact hc i hi⟩

set_option maxRecDepth 1000000 in
set_option maxHeartbeats 8000000 in
theorem timerPortions_walk (l : List Int) (a : Option Addr) (cap : Nat) (A Bq : Int) (w : World) (hI : NumsIn .i64 w a l) (hl : l.length ≤ cap) (hc : cap ≤ maxLen) (hb : ∀ y ∈ l, (Lit.int .i64 y).wf = true) :
    Calls Try.prog 6 #[.slice a l.length cap, .int .i64 A, .int .i64 Bq] w fun e w' => e = .returned (.bool true) ∧ Below w.heap.size w w' := by
  obtain ⟨B, hB⟩ : ∃ B, w.heap.size = B := ⟨_, rfl⟩
  have ks : Calls Try.prog 10 #[] w fun e w' => e = .returned (.bool true) ∧ Hid (Below B w w') := by
    have := shown_any w
    rw [hB] at this
    exact this
  have hle : B ≤ w.heap.size := by omega
  have hcm : cap ≤ 9223372036854775807 := by unfold maxLen at hc; omega
  obtain ⟨K, hK⟩ : ∃ K, nth l = K := ⟨_, rfl⟩
  obtain ⟨m, hm⟩ : ∃ m, l.length = m := ⟨_, rfl⟩
  have HI : Hid (0 < m → ∃ b o, a = some ⟨b, o, none⟩ ∧ ∀ W, Below B w W → ∀ (i : Nat), i < m → W.cell? ⟨b, o + i, none⟩ = some (.int .i64 (K i))) := fun h0 => by
    obtain ⟨b, o, e, _⟩ := hI.at (Below.refl w.heap.size w) (i := 0) (by omega)
    refine ⟨b, o, e, fun W q i hi => ?_⟩
    obtain ⟨b', o', e', c⟩ := hI.at (hB ▸ q) (i := i) (by omega)
    rw [e] at e'
    cases e'
    rw [hK] at c
    exact c
  obtain ⟨n, hn⟩ : ∃ n, min m 50 = n := ⟨_, rfl⟩
  have hnm : n ≤ m := by omega
  have hn50 : n ≤ 50 := by omega
  have kmin : ∀ ts t W, (Builtin.min_ ts t #[.int .i64 (m : Nat), .int .i64 50]).run Try.prog W = .ok (.int .i64 (n : Nat)) W := fun ts t W => by
    have := min_num m 50 ts t W
    rw [hn] at this
    exact this
  obtain ⟨lo, hlo⟩ : ∃ lo, min A Bq = lo := ⟨_, rfl⟩
  obtain ⟨hi, hhi⟩ : ∃ hi, max A Bq = hi := ⟨_, rfl⟩
  have hlh : lo ≤ hi := by omega
  have kmn : ∀ ts t W, (Builtin.min_ ts t #[.int .i64 A, .int .i64 Bq]).run Try.prog W = .ok (.int .i64 lo) W := fun ts t W => by
    rw [run_min_int2]
    congr 2
    split <;> omega
  have kmx : ∀ ts t W, (Builtin.max_ ts t #[.int .i64 A, .int .i64 Bq]).run Try.prog W = .ok (.int .i64 hi) W := fun ts t W => by
    rw [run_max_int2]
    congr 2
    split <;> omega
  have kn : ∀ W, Below B w W → Calls Try.prog 11 #[.int .i64 n] W fun e w' => ∃ t g, e = .returned (ptr t) ∧ Hid (MX B w w' [(t, g, n, fun _ => none)] []) := fun W hb => mx_new hb hle n (by omega)
  have kn2 : ∀ W t0 g0, MX B w W [(t0, g0, n, fun _ => none)] [] → Calls Try.prog 11 #[.int .i64 n] W fun e w' => ∃ t g, e = .returned (ptr t) ∧ Hid (MX B w w' [(t0, g0, n, cS K 0 (fun _ => false)), (t, g, n, cS K 0 (fun _ => false))] []) := fun W t0 g0 h => by
    have := h.new (n : Int)
    rw [hsz_in n (by omega)] at this
    refine this.mono ?_
    rintro e w' ⟨t, g, rfl, q⟩
    exact ⟨t, g, rfl, (q.out.congr 0 rfl (S' := cS K 0 (fun _ => false)) (fun x hx => by simp [cS])).congr 1 rfl (fun x hx => by simp [cS])⟩
  rw [hm] at hl ⊢
  rw [hB]
  clear hI hc hB hm hb hK hn hlo hhi
  go_enter Try.func6, Try.ntmps6
  go_wp2_with (first | (go_at_call 10; refine ks.mono ?_; rintro e w1 ⟨rfl, s1⟩; clear ks; refine Hid.out ?_))
  refine hide_it ?_
  go_wp2_with (go_at_call 11; refine (kn _ s1.out).mono ?_; rintro e w2 ⟨t0, g0, rfl, s2⟩; clear kn s1; refine Hid.out ?_)
  refine hide_it ?_
  go_wp2_with (go_at_call 11; refine (kn2 _ _ _ s2.out).mono ?_; rintro e w3 ⟨t1, g1, rfl, s⟩; clear kn2 s2)
  clear kmin
  go_loopw [11] (fun iv W => ∃ (i : Nat), iv = .int .i64 i ∧ i ≤ n ∧ Hid (MX B w W [(t0, g0, n, cS K i (fun _ => false)), (t1, g1, n, cS K i (fun _ => false))] [])) (fun iv _ => n - (intOf iv).toNat)
  case atStart => exact ⟨0, rfl, Nat.zero_le _, s⟩
  case round =>
    clear s
    obtain ⟨i, rfl, hin, s⟩ := hrel
    by_cases hlt : i < n
    · obtain ⟨b1, o1, rfl, HT⟩ := HI.out (by omega)
      have HT := hide_it HT
      have hE : setE n i = 0 := by simp [setE, isId_nat n i hlt]
      have k1 : Calls Try.prog 12 #[ptr t0, .int .i64 i, .int .i64 (K i)] wr fun e w' => e = .returned (.int .i64 0) ∧ Hid (MX B w w' [(t0, g0, n, cS K (i + 1) (fun _ => false)), (t1, g1, n, cS K i (fun _ => false))] []) := by
        have := s.out.set_ 0 rfl i (K i)
        rw [hE] at this
        exact this.mono (fun e w' q => ⟨q.1, q.2.out.congr 0 rfl (cS_set hlt)⟩)
      have k2 : ∀ W, MX B w W [(t0, g0, n, cS K (i + 1) (fun _ => false)), (t1, g1, n, cS K i (fun _ => false))] [] → Calls Try.prog 12 #[ptr t1, .int .i64 i, .int .i64 (K i)] W fun e w' => e = .returned (.int .i64 0) ∧ Hid (MX B w w' [(t0, g0, n, cS K (i + 1) (fun _ => false)), (t1, g1, n, cS K (i + 1) (fun _ => false))] []) := fun W h => by
        have := h.set_ 1 rfl i (K i)
        rw [hE] at this
        exact this.mono (fun e w' q => ⟨q.1, q.2.out.congr 1 rfl (cS_set hlt)⟩)
      have c0 := HT.out _ s.out.bel i (by omega)
      clear hE
      go_wp2_with (go_at_call_of 12 (ptr t0); refine k1.mono ?_; rintro e w4 ⟨rfl, s4⟩; have c1 := HT.out _ s4.out.bel i (by omega); refine Hid.out ?_)
      refine hide_it ?_
      go_wp2_with (go_at_call_of 12 (ptr t1); refine (k2 _ s4.out).mono ?_; rintro e w5 ⟨rfl, s5⟩)
      go_roundw
      case rel => exact ⟨i + 1, by go_num, by omega, s5⟩
      case measure => simp [intOf]; omega
    · have d1 : decide ((i : Int) < n) = false := by simp; omega
      have d2 : decide (i < n) = false := by simp; omega
      have hii : i = n := by omega
      have s1 := s
      rw [hii] at s1
      clear s hii
      have hall : cntS n (cS K n (fun _ => false)) = n := cS_all
      generalize cS K n (fun _ => false) = S at *
      have k1 : Calls Try.prog 16 #[ptr t0, .int .i64 lo] wr fun e w' => ∃ (ax : Option Addr) (L : List Nat) (cx : Nat), e = .returned (.slice ax L.length cx) ∧ L.length ≤ 50 ∧ Hid (Due n S lo L) ∧ Hid (MX B w w' [(t0, g0, n, dueS S lo), (t1, g1, n, S)] [] ∧ RdR w' ax L cx) := (s1.out.due 0 rfl lo).mono (by
        rintro e w' ⟨ax, L, cx, R', rfl, hd, hr, hm⟩
        have := hd.len_le
        exact ⟨ax, L, cx, rfl, by omega, hd, hm.out.drop (fun p hp => List.mem_append_right _ hp), rdr_row hm.out hr⟩)
      have k2 : ∀ W ao c L, PT B w W [(t0, g0, n, dueS S lo), (t1, g1, n, S)] ao c L → Calls Try.prog 16 #[ptr t0, .int .i64 hi] W fun e w' => ∃ (ax : Option Addr) (L2 : List Nat) (cx : Nat), e = .returned (.slice ax L2.length cx) ∧ L2.length ≤ 50 ∧ Hid (Due n (dueS S lo) hi L2) ∧ Hid (PT B w w' [(t0, g0, n, dueS (dueS S lo) hi), (t1, g1, n, S)] ao c L ∧ RdR w' ax L2 cx) := fun W ao c L h => (h.due 0 rfl hi).mono (by
        rintro e w' ⟨ax, L2, cx, rfl, hd, hp⟩
        have := hd.len_le
        exact ⟨ax, L2, cx, rfl, by omega, hd, hp⟩)
      have k3 : ∀ W ao c L, PT B w W [(t0, g0, n, dueS (dueS S lo) hi), (t1, g1, n, S)] ao c L → Calls Try.prog 16 #[ptr t1, .int .i64 hi] W fun e w' => ∃ (ax : Option Addr) (L2 : List Nat) (cx : Nat), e = .returned (.slice ax L2.length cx) ∧ Hid (Due n S hi L2) ∧ Hid (PT B w w' [(t0, g0, n, dueS (dueS S lo) hi), (t1, g1, n, dueS S hi)] ao c L ∧ RdR w' ax L2 cx) := fun W ao c L h => (h.due 1 rfl hi).mono (by
        rintro e w' ⟨ax, L2, cx, rfl, hd, hp⟩
        exact ⟨ax, L2, cx, rfl, hd, hp⟩)
      have hrest : ∀ x, dueS (dueS S lo) hi x = dueS S hi x := por_rest hlh
      obtain ⟨cc, hcc⟩ : ∃ cc, cntS n (dueS S hi) = cc := ⟨_, rfl⟩
      have kl0 : ∀ W ao c L, PT B w W [(t0, g0, n, dueS (dueS S lo) hi), (t1, g1, n, dueS S hi)] ao c L → Calls Try.prog 22 #[ptr g0] W fun e w' => e = .returned (.int .i64 cc) ∧ w' = W := fun W ao c L h => by
        have := h.mx.len 0 rfl
        rw [cntS_congr (fun x _ => hrest x), hcc] at this
        exact this
      have kl1 : ∀ W ao c L, PT B w W [(t0, g0, n, dueS (dueS S lo) hi), (t1, g1, n, dueS S hi)] ao c L → Calls Try.prog 22 #[ptr g1] W fun e w' => e = .returned (.int .i64 cc) ∧ w' = W := fun W ao c L h => by
        have := h.mx.len 1 rfl
        rw [hcc] at this
        exact this
      have HQ : Hid (∀ W Sa Sb ao c L, PT B w W [(t0, g0, n, Sa), (t1, g1, n, Sb)] ao c L → W.cell? ⟨t0, 0, none⟩ = some (ptr g0) ∧ W.cell? ⟨t1, 0, none⟩ = some (ptr g1)) := fun W Sa Sb ao c L h => ⟨h.mx.c0 0 rfl, h.mx.c0 1 rfl⟩
      have HS := hide_it hall
      have HCC := hide_it hcc
      clear s1 hrest hcc hall HI
      go_wp2_with (go_at_call 16; refine k1.mono ?_; clear k1; rintro e w4 ⟨ax, L, cx, rfl, hL, HD1, s4⟩; have p4 := hide_it (pt_new s4.out.1); have r4 := hide_it (s4.out.2.below (W := w4.alloc (.cells #[] 3)) ((Below.refl _ _).alloc (Nat.le_refl _) _)); clear s4; refine Hid.out ?_)
      refine hide_it ?_
      go_wp2_with (at_builtin; refine wpList_addrow rfl (.tmp 55) (.tmp 56) rfl p4.out r4.out (by simp; omega) rfl rfl ?_; intro ao1 cap1 w6 p6; simp only [List.nil_append] at p6 ⊢; have P6 := hide_it p6; clear p6 p4 r4; refine Hid.out ?_)
      refine hide_it ?_
      go_wp2_with (go_at_call 16; refine (k2 _ _ _ _ P6.out).mono ?_; clear k2; rintro e w7 ⟨ax2, L2, cx2, rfl, hL2, HD2, s7⟩; refine Hid.out ?_)
      refine hide_it ?_
      go_wp2_with (at_builtin; refine wpList_addrow rfl (.tmp 57) (.tmp 62) rfl s7.out.1 s7.out.2 (by omega) rfl rfl ?_; intro ao3 cap3 w8 p8; have P8 := hide_it p8; clear p8 s7; have HDD := hide_it (por_due hlh HD1.out HD2.out); have hlen2 : (L ++ L2).length ≤ 100 := (by simp; omega); clear HD1 HD2 P6; generalize L ++ L2 = LL at *; obtain ⟨len, hlen⟩ : ∃ len, LL.length = len := ⟨_, rfl⟩; have HE := hide_it hlen; have hlen3 : len ≤ 100 := (by omega); simp only [hlen]; clear hlen hlen2; refine Hid.out ?_)
      refine hide_it ?_
      have HLen := hide_it HDD.out.len
      have w1 : IntKind.i64.wrap ((n : Int) - (len : Int)) = (cc : Int) := by
        have h1 := HLen.out
        have h2 := HCC.out
        have h3 := HS.out
        have h4 := HE.out
        rw [IntKind.wrap_i64]
        omega
      have w2' : wrap64 ((n : Int) - (len : Int)) = (cc : Int) := by
        rw [IntKind.wrap_i64] at w1
        unfold wrap64
        omega
      have kS : ∀ W ay (M : List Nat) cy, Due n S hi M → PT B w W [(t0, g0, n, dueS (dueS S lo) hi), (t1, g1, n, dueS S hi)] ao3 cap3 LL ∧ RdR W ay M cy → Calls Try.prog 17 #[.slice ao3 len cap3, .slice ay M.length cy] W fun e w' => e = .returned (.bool true) ∧ Hid (PT B w w' [(t0, g0, n, dueS (dueS S lo) hi), (t1, g1, n, dueS S hi)] ao3 cap3 LL) := fun W ay M cy hd h => by
        have := hd.uniq HDD.out
        subst this
        have hM : M.length ≤ 100 := by have := HE.out; omega
        have h2 := same_any h.1.rd.rd h.2.rd (by simp; omega) (by simp; omega) cap3 cy
        rw [List.length_map, HE.out] at h2
        rw [HE.out]
        refine h2.mono ?_
        rintro e w' ⟨rfl, hb⟩
        exact ⟨by simp, h.1.below hb⟩
      have ecc : (cc == cc) = true := by simp
      clear HLen
      go_upto_region 14 with fail
      have q0 := HQ.out _ _ _ _ _ _ P8.out
      go_region_held3 (fun V => V.cell? ⟨t0, 0, none⟩ = some (ptr g0) ∧ V.cell? ⟨t1, 0, none⟩ = some (ptr g1)) (first | exact HQ.out _ _ _ _ _ _ s10.out | exact HQ.out _ _ _ _ _ _ s9.out.1 | exact HQ.out _ _ _ _ _ _ P8.out | go_keep) (first | (go_at_call 16; refine (k3 _ _ _ _ (P8.out.below ((Below.refl _ _).drew))).mono ?_; rintro e w9 ⟨ay, M, cy, rfl, HM, s9⟩) | (go_at_call 17; refine (kS _ _ _ _ HM.out s9.out).mono ?_; rintro e w10 ⟨rfl, s10⟩) | (go_at_call_of 22 (ptr g0); refine (kl0 _ _ _ _ s10.out).mono ?_; rintro e w11 ⟨rfl, rfl⟩) | (go_at_call_of 22 (ptr g1); refine (kl1 _ _ _ _ s10.out).mono ?_; rintro e w12 ⟨rfl, rfl⟩))
      all_goals
        go_wp2
        go_ret
        exact ⟨rfl, s10.out.mx.bel⟩
end Go.Proofs.Ytlpbjafdmhcmgaa
