/- TimerOnce, walked. -/
import Derived.Test.YtlpbjafdmhcmgaaLSt
namespace Go.Proofs.Ytlpbjafdmhcmgaa
open Go.RowKit
open M
set_option linter.unusedVariables false
set_option linter.unusedSimpArgs false

/-- What is there of those of f: by their times, none up to lo. -/
def OS (n : Nat) (K : Nat → Int) (f : Nat → Bool) (S : Nat → Option Int) (lo : Int) : Prop := ∀ x y, x < n → S x = some y → y = K x ∧ f x = false ∧ lo < y
theorem OS.due {n : Nat} {K : Nat → Int} {f : Nat → Bool} {S : Nat → Option Int} {lo now : Int} (h : OS n K f S lo) : OS n K f (dueS S now) now := fun x y hx hs => by
  obtain ⟨h1, h2⟩ := dueS_some.1 hs
  exact ⟨(h x y hx h1).1, (h x y hx h1).2.1, h2⟩
theorem OS.pick {n : Nat} {K : Nat → Int} {f : Nat → Bool} {S : Nat → Option Int} {lo now : Int} (h : OS n K f S lo) {L : List Nat} (hd : Due n S now L) : (∀ i, i < L.length → ∃ x, L[i]? = some x ∧ x < n ∧ f x = false ∧ lo < K x ∧ K x ≤ now) ∧ (∀ q x y, L[q + 1]? = some x → L[q]? = some y → K y < K x ∨ (K y = K x ∧ y < x)) := by
  have one : ∀ i (hi : i < L.length), S L[i] = some (K L[i]) ∧ f L[i] = false ∧ lo < K L[i] ∧ K L[i] ≤ now := fun i hi => by
    obtain ⟨y, h1, h2⟩ := hd.has hi
    obtain ⟨e1, e2, e3⟩ := h _ y (hd.lt hi) h1
    subst e1
    exact ⟨h1, e2, e3, h2⟩
  refine ⟨fun i hi => ⟨L[i], List.getElem?_eq_getElem hi, hd.lt hi, (one i hi).2⟩, fun q x y e1 e2 => ?_⟩
  obtain ⟨h1, h2⟩ := List.getElem?_eq_some_iff.1 e1
  obtain ⟨h3, h4⟩ := List.getElem?_eq_some_iff.1 e2
  have := hd.step h1 (one q h3).1 (one (q + 1) h1).1
  rw [h2, h4] at this
  exact this
theorem OS.fin {n : Nat} {K : Nat → Int} {f : Nat → Bool} {S : Nat → Option Int} {lo : Int} (h : OS n K f S lo) (hK : ∀ x, K x ≤ lo) : cntS n S = 0 := cntS_emp (fun x hx => by
  cases hs : S x with
  | none => rfl
  | some y =>
    obtain ⟨e1, _, e3⟩ := h x y hx hs
    have := hK x
    omega)
theorem OS.start {n : Nat} {K : Nat → Int} {f : Nat → Bool} {lo : Int} (hK : ∀ x, lo < K x) : OS n K f (cS K n f) lo := fun x y hx hs => by
  unfold cS at hs
  split at hs
  · next q => cases hs; exact ⟨rfl, q.2, hK x⟩
  · cases hs
/-- One round of what is set at first. -/
theorem cS_two {K : Nat → Int} {n i : Nat} {f : Nat → Bool} (hi : i < n) (hf : f i = false) : (∀ x, x < n → cS K (i + 1) f x = setS n (setS n (cS K i f) i 1000) i (K i) x) ∧ cntS n (cS K (i + 1) f) = cntS n (cS K i f) + 1 := by
  refine ⟨fun x hx => ?_, ?_⟩
  · unfold setS
    simp only [isId_nat n i hi, if_true, Int.toNat_natCast]
    by_cases e : x = i
    · subst e; rw [upS_is]; simp [cS, hf]
    · rw [upS_ne _ _ e, upS_ne _ _ e]; unfold cS; congr 1; simp; omega
  · refine cnt_set (p := fun x => (cS K i f x).isSome) (q := fun x => (cS K (i + 1) f x).isSome) hi (fun y hy e => ?_) (by simp [cS]) (by simp [cS, hf])
    have h : (y < i + 1 ∧ f y = false) ↔ (y < i ∧ f y = false) := by
      constructor
      · rintro ⟨h1, h2⟩; exact ⟨by omega, h2⟩
      · rintro ⟨h1, h2⟩; exact ⟨by omega, h2⟩
    simp only [cS, h]
theorem cS_two' {K : Nat → Int} {n i : Nat} {f : Nat → Bool} (hi : i < n) (hf : f i = true) : (∀ x, x < n → cS K (i + 1) f x = remS n (setS n (setS n (cS K i f) i 1000) i (K i)) i x) ∧ cntS n (cS K (i + 1) f) = cntS n (cS K i f) := by
  have h : ∀ x, cS K (i + 1) f x = cS K i f x := fun x => by
    have h : (x < i + 1 ∧ f x = false) ↔ (x < i ∧ f x = false) := by
      constructor
      · rintro ⟨h1, h2⟩
        refine ⟨?_, h2⟩
        rcases (by omega : x < i ∨ x = i) with q | q
        · exact q
        · subst q; rw [hf] at h2; cases h2
      · rintro ⟨h1, h2⟩; exact ⟨by omega, h2⟩
    simp only [cS, h]
  refine ⟨fun x hx => ?_, cntS_congr (fun x hx => h x)⟩
  unfold remS setS
  simp only [isId_nat n i hi, if_true, Int.toNat_natCast]
  have hh : hasB n (upS (upS (cS K i f) i (some 1000)) i (some (K i))) i = true := by simp [hasB, isId_nat n i hi, upS_is]
  rw [if_pos hh, h x]
  by_cases e : x = i
  · subst e; rw [upS_is]; simp [cS]
  · rw [upS_ne _ _ e, upS_ne _ _ e, upS_ne _ _ e]
theorem two_has {K : Nat → Int} {n i : Nat} {f : Nat → Bool} (hi : i < n) : hasB n (setS n (setS n (cS K i f) i 1000) i (K i)) i = true ∧ hasB n (cS K (i + 1) f) i = !f i := by
  refine ⟨by simp [hasB, isId_nat n i hi, setS, upS_is], ?_⟩
  cases hf : f i <;> simp [hasB, isId_nat n i hi, cS, hf]
theorem set_nat {n i : Nat} (hi : i < n) : setE n i = 0 := by simp [setE, isId_nat n i hi]
theorem rem_stay {n : Nat} {S : Nat → Option Int} {id : Int} (h : hasB n S id = false) : remS n S id = S := by simp [remS, h]

/-- A timer, and the row that was told. -/
structure TR (B : Nat) (w W : World) (t g n : Nat) (S : Nat → Option Int) (ad : Option Addr) (L : List Nat) : Prop where
  mx : MX B w W [(t, g, n, S)] []
  rd : Rd W ad (L.map fun (x : Nat) => (x : Int))
theorem TR.below {B : Nat} {w W W' : World} {t g n : Nat} {S : Nat → Option Int} {ad : Option Addr} {L : List Nat} (h : TR B w W t g n S ad L) (hb : Below W.heap.size W W') : TR B w W' t g n S ad L := ⟨h.mx.below hb, h.rd.below hb⟩
theorem TR.at_ {B : Nat} {w W : World} {t g n : Nat} {S : Nat → Option Int} {ad : Option Addr} {L : List Nat} (h : TR B w W t g n S ad L) (h0 : 0 < L.length) : ∃ b, ad = some ⟨b, 0, none⟩ ∧ ∀ i x, L[i]? = some x → W.cell? ⟨b, i, none⟩ = some (.int .i64 (x : Nat)) := by
  obtain ⟨b, e, _⟩ := h.rd 0 (by simpa using h0)
  refine ⟨b, e, fun i x hx => ?_⟩
  obtain ⟨h1, h2⟩ := List.getElem?_eq_some_iff.1 hx
  obtain ⟨b', e', _, c⟩ := h.rd i (by simpa using h1)
  rw [e] at e'
  cases e'
  rw [c]
  simp [h2]

set_option maxRecDepth 1000000 in
set_option maxHeartbeats 16000000 in
theorem timerOnce_walk (l : List Int) (a : Option Addr) (cap : Nat) (l2 : List Bool) (a2 : Option Addr) (cap2 : Nat) (step : Int) (w : World) (hI : NumsIn .u8 w a l) (hl : l.length ≤ cap) (hc : cap ≤ maxLen) (hb : ∀ y ∈ l, (Lit.int .u8 y).wf = true) (hI2 : BoolsIn w a2 l2) (hl2 : l2.length ≤ cap2) (hc2 : cap2 ≤ maxLen) :
    Calls Try.prog 4 #[.slice a l.length cap, .slice a2 l2.length cap2, .int .i64 step] w fun e w' => e = .returned (.bool true) ∧ Below w.heap.size w w' := by
  obtain ⟨B, hB⟩ : ∃ B, w.heap.size = B := ⟨_, rfl⟩
  have ks : Calls Try.prog 10 #[] w fun e w' => e = .returned (.bool true) ∧ Hid (Below B w w') := by
    have := shown_any w
    rw [hB] at this
    exact this
  have hle : B ≤ w.heap.size := by omega
  have hcm : cap ≤ 9223372036854775807 := by unfold maxLen at hc; omega
  have hcm2 : cap2 ≤ 9223372036854775807 := by unfold maxLen at hc2; omega
  obtain ⟨u, hu, hu2⟩ := and16 step
  obtain ⟨d, hN⟩ : ∃ d, u % 9 = d := ⟨_, rfl⟩
  have hd9 : d < 9 := by omega
  have q1 : (u : Int).tmod 9 = (d : Int) := by rw [Int.tmod_eq_emod_of_nonneg (by omega)]; omega
  have q2 : (u : Int) % 9 = (d : Int) := by omega
  obtain ⟨st, hst⟩ : ∃ st, 1 + d = st := ⟨_, rfl⟩
  have hst9 : st ≤ 9 := by omega
  have hst1 : 1 ≤ st := by omega
  have q3 : (1 : Int) + (d : Int) = (st : Int) := by omega
  obtain ⟨K, hK⟩ : ∃ K : Nat → Int, (fun x => nth l x % 200) = K := ⟨_, rfl⟩
  obtain ⟨f, hf⟩ : ∃ f : Nat → Bool, (fun x => l2.getD x false) = f := ⟨_, rfl⟩
  obtain ⟨m, hm⟩ : ∃ m, l.length = m := ⟨_, rfl⟩
  obtain ⟨m2, hm2⟩ : ∃ m, l2.length = m := ⟨_, rfl⟩
  have HK : Hid (∀ x, 0 ≤ K x ∧ K x < 200) := fun x => by rw [← hK]; exact ⟨by show 0 ≤ nth l x % 200; omega, by show nth l x % 200 < 200; omega⟩
  have HI : Hid (0 < m → ∃ b o, a = some ⟨b, o, none⟩ ∧ ∀ W, Below B w W → ∀ (i : Nat), i < m → ∃ v : Int, W.cell? ⟨b, o + i, none⟩ = some (.int .u8 v) ∧ IntKind.i64.wrap v = v ∧ v.tmod 200 = K i ∧ v % 200 = K i) := fun h0 => by
    obtain ⟨b, o, e, _⟩ := hI.at (Below.refl w.heap.size w) (i := 0) (by omega)
    refine ⟨b, o, e, fun W q i hi => ?_⟩
    obtain ⟨b', o', e', c⟩ := hI.at (hB ▸ q) (i := i) (by omega)
    rw [e] at e'
    cases e'
    have hv : 0 ≤ nth l i ∧ nth l i ≤ 255 := by
      unfold nth
      rw [List.getD_eq_getElem?_getD]
      cases hx : l[i]? with
      | none => decide
      | some v => exact bounds_u8 (hb _ (List.mem_of_getElem? hx))
    refine ⟨nth l i, c, by rw [IntKind.wrap_i64]; omega, ?_, by rw [← hK]⟩
    rw [Int.tmod_eq_emod_of_nonneg hv.1, ← hK]
  have HJ : Hid (0 < m2 → ∃ b o, a2 = some ⟨b, o, none⟩ ∧ ∀ W, Below B w W → ∀ (i : Nat), i < m2 → W.cell? ⟨b, o + i, none⟩ = some (.bool (f i))) := fun h0 => by
    obtain ⟨b, o, e, _⟩ := hI2 0 (by omega)
    refine ⟨b, o, e, fun W q i hi => ?_⟩
    obtain ⟨b', o', e', h2, c⟩ := hI2 i (by omega)
    rw [e] at e'
    cases e'
    rw [(hB ▸ q : Below w.heap.size w W).cell (p := ⟨b, _, none⟩) h2, c, ← hf]
    simp [show i < l2.length by omega]
  have HF : Hid (∀ i, m2 ≤ i → f i = false) := fun i hi => by
    rw [← hf]
    have : l2[i]? = none := List.getElem?_eq_none (by omega)
    simp [List.getD_eq_getElem?_getD, this]
  obtain ⟨n, hn⟩ : ∃ n, min m 100 = n := ⟨_, rfl⟩
  have hnm : n ≤ m := by omega
  have hn50 : n ≤ 100 := by omega
  have kmin : ∀ ts t W, (Builtin.min_ ts t #[.int .i64 (m : Nat), .int .i64 100]).run Try.prog W = .ok (.int .i64 (n : Nat)) W := fun ts t W => by
    have := min_num m 100 ts t W
    rw [hn] at this
    exact this
  have kn : ∀ W, Below B w W → Calls Try.prog 11 #[.int .i64 n] W fun e w' => ∃ t g, e = .returned (ptr t) ∧ Hid (MX B w w' [(t, g, n, cS K 0 f)] []) := fun W hb => (mx_new hb hle n (by omega)).mono (by
    rintro e w' ⟨t, g, rfl, h⟩
    exact ⟨t, g, rfl, h.out.congr 0 rfl (fun x hx => by simp [cS])⟩)
  rw [hm] at hl ⊢
  rw [hm2] at hl2 ⊢
  rw [hB]
  clear hI hI2 hc hc2 hB hm hm2 hb hK hn hf hN hst
  go_enter Try.func4, Try.ntmps4
  go_wp2_with (first | (go_at_call 10; refine ks.mono ?_; rintro e w1 ⟨rfl, s1⟩; clear ks) | (go_at_call 11; refine (kn _ s1.out).mono ?_; rintro e w2 ⟨t, g, rfl, s⟩; clear kn s1))
  clear kmin hu q1 q2 q3
  go_loopw [10, 11] (fun lv iv W => ∃ (i left : Nat), lv = .int .i64 left ∧ iv = .int .i64 i ∧ i ≤ n ∧ left ≤ 100 ∧ Hid (left = cntS n (cS K i f)) ∧ Hid (MX B w W [(t, g, n, cS K i f)] [])) (fun lv iv _ => n - (intOf iv).toNat)
  case atStart => exact ⟨0, 0, rfl, rfl, Nat.zero_le _, by omega, (cntS_emp (fun x hx => by simp [cS])).symm, s⟩
  case round =>
    clear s
    obtain ⟨i, left, rfl, rfl, hi, hl100, HL, s⟩ := hrel
    by_cases hlt : i < n
    · obtain ⟨b1, o1, rfl, HT⟩ := HI.out (by omega)
      obtain ⟨v, c0, v1, v2, v3⟩ := HT _ s.out.bel i (by omega)
      have HT := hide_it HT
      have k1 : Calls Try.prog 12 #[ptr t, .int .i64 i, .int .i64 1000] wr fun e w' => e = .returned (.int .i64 0) ∧ Hid (MX B w w' [(t, g, n, setS n (cS K i f) i 1000)] []) := by
        have := s.out.set_ 0 rfl i 1000
        rw [set_nat hlt] at this
        exact this
      have k2 : ∀ W, MX B w W [(t, g, n, setS n (cS K i f) i 1000)] [] → Calls Try.prog 12 #[ptr t, .int .i64 i, .int .i64 (K i)] W fun e w' => e = .returned (.int .i64 0) ∧ Hid (MX B w w' [(t, g, n, setS n (setS n (cS K i f) i 1000) i (K i))] []) := fun W h => by
        have := h.set_ 0 rfl i (K i)
        rw [set_nat hlt] at this
        exact this
      have HC : Hid (∀ W hs, MX B w W hs [] → ∃ v : Int, W.cell? ⟨b1, o1 + i, none⟩ = some (.int .u8 v) ∧ IntKind.i64.wrap v = v ∧ v.tmod 200 = K i ∧ v % 200 = K i) := fun W hs h => HT.out _ h.bel i (by omega)
      obtain ⟨e1, e2⟩ := two_has (K := K) (f := f) hlt
      have hcl : cntS n (cS K (i + 1) f) ≤ 100 := by have := cntS_le n (cS K (i + 1) f); omega
      clear HT c0 v1 v2 v3
      cases hfi : f i with
      | false =>
        obtain ⟨p1, p2⟩ := cS_two (K := K) hlt hfi
        have HP := hide_it p1
        have HP2 := hide_it p2
        have hl2' : left + 1 ≤ 100 := by have := HL.out; omega
        clear p1 p2 e1 e2 hcl
        by_cases him : i < m2
        · have d1 : decide ((i : Int) < m2) = true := decide_eq_true (by omega)
          have d2 : decide (i < m2) = true := decide_eq_true (by omega)
          obtain ⟨b2, o2, rfl, HT2⟩ := HJ.out (by omega)
          have HCB : Hid (∀ W hs, MX B w W hs [] → W.cell? ⟨b2, o2 + i, none⟩ = some (.bool false)) := fun W hs h => by
            have := HT2 _ h.bel i him
            rw [hfi] at this
            exact this
          clear HT2 hfi
          generalize setS n (cS K i f) i 1000 = S1 at *
          generalize setS n S1 i (K i) = S2 at *
          generalize K i = ki at *
          go_wp2_with (go_at_call 12; refine k1.mono ?_; rintro e w3 ⟨rfl, s3⟩; obtain ⟨v, c3, v1, v2, v3⟩ := HC.out _ _ s3.out; refine Hid.out ?_)
          refine hide_it ?_
          go_wp2_with (go_at_call 12; refine (k2 _ s3.out).mono ?_; rintro e w4 ⟨rfl, s4⟩; have c4 := HCB.out _ _ s4.out)
          go_roundw
          case rel => exact ⟨i + 1, left + 1, by go_num, by go_num, by omega, hl2', by show left + 1 = _; rw [HP2.out, ← HL.out], s4.out.congr 0 rfl HP.out⟩
          case measure => simp [intOf]; omega
        · have d1 : decide ((i : Int) < m2) = false := by simp; omega
          have d2 : decide (i < m2) = false := by simp; omega
          have HCB : Hid (∀ W hs, MX B w W hs [] → True) := fun W hs h => trivial
          clear hfi
          generalize setS n (cS K i f) i 1000 = S1 at *
          generalize setS n S1 i (K i) = S2 at *
          generalize K i = ki at *
          go_wp2_with (go_at_call 12; refine k1.mono ?_; rintro e w3 ⟨rfl, s3⟩; obtain ⟨v, c3, v1, v2, v3⟩ := HC.out _ _ s3.out; refine Hid.out ?_)
          refine hide_it ?_
          go_wp2_with (go_at_call 12; refine (k2 _ s3.out).mono ?_; rintro e w4 ⟨rfl, s4⟩; have c4 := HCB.out _ _ s4.out)
          go_roundw
          case rel => exact ⟨i + 1, left + 1, by go_num, by go_num, by omega, hl2', by show left + 1 = _; rw [HP2.out, ← HL.out], s4.out.congr 0 rfl HP.out⟩
          case measure => simp [intOf]; omega
      | true =>
        obtain ⟨p1, p2⟩ := cS_two' (K := K) hlt hfi
        have HP2 := hide_it p2
        have him : i < m2 := by
          rcases Nat.lt_or_ge i m2 with q | q
          · exact q
          · have := HF.out i q; rw [hfi] at this; cases this
        have d1 : decide ((i : Int) < m2) = true := decide_eq_true (by omega)
        have d2 : decide (i < m2) = true := decide_eq_true (by omega)
        obtain ⟨b2, o2, rfl, HT2⟩ := HJ.out (by omega)
        have HCB : Hid (∀ W hs, MX B w W hs [] → W.cell? ⟨b2, o2 + i, none⟩ = some (.bool true)) := fun W hs h => by
          have := HT2 _ h.bel i him
          rw [hfi] at this
          exact this
        have k3 : ∀ W, MX B w W [(t, g, n, setS n (setS n (cS K i f) i 1000) i (K i))] [] → Calls Try.prog 14 #[ptr t, .int .i64 i] W fun e w' => e = .returned (.bool true) ∧ Hid (MX B w w' [(t, g, n, cS K (i + 1) f)] []) := fun W h => by
          have := h.stop 0 rfl i
          rw [e1] at this
          exact this.mono (fun e w' q => ⟨q.1, q.2.out.congr 0 rfl p1⟩)
        have k4 : ∀ W, MX B w W [(t, g, n, cS K (i + 1) f)] [] → Calls Try.prog 14 #[ptr t, .int .i64 i] W fun e w' => e = .returned (.bool false) ∧ Hid (MX B w w' [(t, g, n, cS K (i + 1) f)] []) := fun W h => by
          have := h.stop 0 rfl i
          rw [e2, hfi] at this
          exact this.mono (fun e w' q => ⟨q.1, by have z := q.2; rw [rem_stay (by rw [e2, hfi]; rfl)] at z; exact z⟩)
        clear HT2 hfi p1 p2 e1 e2 hcl
        generalize setS n (cS K i f) i 1000 = S1 at *
        generalize setS n S1 i (K i) = S2 at *
        generalize K i = ki at *
        go_wp2_with (go_at_call 12; refine k1.mono ?_; rintro e w3 ⟨rfl, s3⟩; obtain ⟨v, c3, v1, v2, v3⟩ := HC.out _ _ s3.out; refine Hid.out ?_)
        refine hide_it ?_
        go_wp2_with (go_at_call 12; refine (k2 _ s3.out).mono ?_; rintro e w4 ⟨rfl, s4⟩; have c4 := HCB.out _ _ s4.out; refine Hid.out ?_)
        refine hide_it ?_
        go_wp2_with (go_at_call 14; refine (k3 _ s4.out).mono ?_; rintro e w5 ⟨rfl, s5⟩; refine Hid.out ?_)
        refine hide_it ?_
        go_wp2_with (go_at_call 14; refine (k4 _ s5.out).mono ?_; rintro e w6 ⟨rfl, s6⟩)
        go_roundw
        case rel => exact ⟨i + 1, left, by go_num, by go_num, by omega, hl100, by rw [HP2.out]; exact HL.out, s6⟩
        case measure => simp [intOf]; omega
    · have d1 : decide ((i : Int) < n) = false := by simp; omega
      have d2 : decide (i < n) = false := by simp; omega
      have hin : i = n := by omega
      have s1 := s
      have HL1 := HL
      rw [hin] at s1 HL1
      clear s HL hin
      have HO0 : Hid (OS n K f (cS K n f) ((0 : Nat) - (st : Int))) := OS.start (fun x => by have := (HK.out x).1; omega)
      go_wp2
      go_loopw [10, 12] (fun lv pv W => ∃ (now left : Nat) (S : Nat → Option Int), lv = .int .i64 left ∧ pv = .int .i64 now ∧ now ≤ 300 ∧ left ≤ 100 ∧ Hid (left = cntS n S) ∧ Hid (OS n K f S ((now : Int) - st)) ∧ Hid (MX B w W [(t, g, n, S)] [])) (fun lv pv _ => 400 - (intOf pv).toNat)
      case atStart => exact ⟨0, left, _, rfl, rfl, by omega, hl100, HL1, HO0, s1⟩
      case round =>
        clear s1 HL1 HO0 d1 d2
        obtain ⟨now, left, S, rfl, rfl, hnow, hl100, HL, HO, s⟩ := hrel
        by_cases hlt : now < 200 + st
        · have d1 : decide ((now : Int) < 200 + (st : Int)) = true := decide_eq_true (by omega)
          have d2 : decide (now < 200 + st) = true := decide_eq_true (by omega)
          have kd : Calls Try.prog 16 #[ptr t, .int .i64 now] wr fun e w' => ∃ (ad : Option Addr) (L : List Nat) (cd : Nat), e = .returned (.slice ad L.length cd) ∧ Hid (Due n S now L) ∧ Hid (TR B w w' t g n (dueS S now) ad L) := (s.out.due 0 rfl _).mono (by
            rintro e w' ⟨ad, L, cd, R', rfl, hdu, hr, hm⟩
            exact ⟨ad, L, cd, rfl, hdu, hm.out.drop (fun p hp => List.mem_append_right _ hp), rd_row hm.out hr⟩)
          clear s
          go_wp2_with (go_at_call 16; refine kd.mono ?_; rintro e w5 ⟨ad, L, cd, rfl, HD, sQ⟩; clear kd)
          obtain ⟨len, hlen⟩ : ∃ len, L.length = len := ⟨_, rfl⟩
          have HLen := hide_it hlen
          simp only [hlen]
          have HPK := hide_it (HO.out.pick HD.out)
          have HO2 : Hid (OS n K f (dueS S now) now) := HO.out.due
          have HCT := hide_it HD.out.len
          have hlenL : len ≤ left := by have h1 := HCT.out; have h2 := HL.out; omega
          clear hlen HD HO
          generalize dueS S now = S2 at *
          go_loopw [14] (fun kv W => ∃ k : Nat, kv = .int .i64 k ∧ k ≤ len ∧ Hid (TR B w W t g n S2 ad L)) (fun kv _ => len - (intOf kv).toNat)
          case atStart => exact ⟨0, rfl, Nat.zero_le _, sQ⟩
          case round =>
            clear sQ d1 d2
            obtain ⟨k, rfl, hk, s⟩ := hrel
            by_cases hkl : k < len
            · have m1 : decide ((k : Int) < len) = true := decide_eq_true (by omega)
              have m2' : decide (k < len) = true := decide_eq_true (by omega)
              obtain ⟨x, e1, hxn, hxf, hx1, hx2⟩ := HPK.out.1 k (by rw [HLen.out]; exact hkl)
              obtain ⟨bl, rfl, HX⟩ := s.out.at_ (by rw [HLen.out]; omega)
              have c1 := HX k x e1
              obtain ⟨bt, ot, rfl, HT⟩ := HI.out (by omega)
              obtain ⟨v, c2, v1, v2, v3⟩ := HT _ s.out.mx.bel x (by omega)
              have hxm : x < m := by omega
              have TE : Hid (∀ j, TR B w (wr.drewN j) t g n S2 (some ⟨bl, 0, none⟩) L) := fun j => s.out.below ⟨rfl, rfl, rfl, Nat.le_refl _, fun _ _ => rfl⟩
              have g0 : decide ((now : Int) < K x) = false := decide_eq_false (by omega)
              obtain ⟨ns, hns⟩ : ∃ ns : Int, (now : Int) - st = ns := ⟨_, rfl⟩
              have w1 : IntKind.i64.wrap ((now : Int) - st) = ns := by rw [IntKind.wrap_i64]; omega
              have w2' : wrap64 ((now : Int) - st) = ns := by unfold wrap64; omega
              have g1 : decide (K x ≤ ns) = false := decide_eq_false (by omega)
              clear hns hx1 hx2
              by_cases hxs : x < m2
              · have s1 : decide ((x : Int) < m2) = true := decide_eq_true (by omega)
                have s2 : decide (x < m2) = true := decide_eq_true (by omega)
                obtain ⟨b2, o2, rfl, HT2⟩ := HJ.out (by omega)
                have c3 := HT2 _ s.out.mx.bel x hxs
                rw [hxf] at c3
                clear HT2 hxf
                by_cases hk0 : k = 0
                · have z1 : decide (0 < (k : Int)) = false := decide_eq_false (by omega)
                  have z2 : decide (0 < k) = false := decide_eq_false (by omega)
                  clear HT HX hk0 e1
                  generalize K x = kx at *
                  go_upto_region 26 with fail
                  simp only [List.append_eq, List.cons_append, List.nil_append]
                  go_big_quiet (fail)
                  go_wp2
                  go_roundw
                  case rel => exact ⟨k + 1, by go_num, by omega, TE.out _⟩
                  case measure => simp [intOf]; omega
                · have z1 : decide (0 < (k : Int)) = true := decide_eq_true (by omega)
                  have z2 : decide (0 < k) = true := decide_eq_true (by omega)
                  obtain ⟨q, hq⟩ : ∃ q, k = q + 1 := ⟨k - 1, by omega⟩
                  have w3 : IntKind.i64.wrap ((k : Int) - 1) = (q : Int) := by rw [IntKind.wrap_i64]; omega
                  have w4 : wrap64 ((k : Int) - 1) = (q : Int) := by unfold wrap64; omega
                  obtain ⟨y, e2, hyn, _, _, _⟩ := HPK.out.1 q (by rw [HLen.out]; omega)
                  have c4 := HX q y e2
                  obtain ⟨vy, c5, y1, y2, y3⟩ := HT _ s.out.mx.bel y (by omega)
                  have hord := HPK.out.2 q x y (by rw [← hq]; exact e1) e2
                  have hq1 : q < len := by omega
                  have hym : y < m := by omega
                  clear HT HX e1 e2 hq hk0
                  generalize K x = kx at *
                  generalize K y = ky at *
                  have g2 : decide (kx < ky) = false := decide_eq_false (by omega)
                  rcases hord with ho | ⟨ho, ho2⟩
                  · have g3 : (ky == kx) = false := by rw [beq_eq_false_iff_ne]; omega
                    go_upto_region 26 with fail
                    simp only [List.append_eq, List.cons_append, List.nil_append]
                    go_big_quiet (fail)
                    go_wp2
                    go_roundw
                    case rel => exact ⟨k + 1, by go_num, by omega, TE.out _⟩
                    case measure => simp [intOf]; omega
                  · have g3 : (ky == kx) = true := by rw [beq_iff_eq]; exact ho
                    have g4 : decide ((x : Int) ≤ y) = false := decide_eq_false (by omega)
                    have g5 : decide (x ≤ y) = false := decide_eq_false (by omega)
                    clear ho ho2
                    go_upto_region 26 with fail
                    simp only [List.append_eq, List.cons_append, List.nil_append]
                    go_big_quiet (fail)
                    go_wp2
                    go_roundw
                    case rel => exact ⟨k + 1, by go_num, by omega, TE.out _⟩
                    case measure => simp [intOf]; omega
              · have s1 : decide ((x : Int) < m2) = false := by simp; omega
                have s2 : decide (x < m2) = false := by simp; omega
                clear hxf
                by_cases hk0 : k = 0
                · have z1 : decide (0 < (k : Int)) = false := decide_eq_false (by omega)
                  have z2 : decide (0 < k) = false := decide_eq_false (by omega)
                  clear HT HX hk0 e1
                  generalize K x = kx at *
                  go_upto_region 26 with fail
                  simp only [List.append_eq, List.cons_append, List.nil_append]
                  go_big_quiet (fail)
                  go_wp2
                  go_roundw
                  case rel => exact ⟨k + 1, by go_num, by omega, TE.out _⟩
                  case measure => simp [intOf]; omega
                · have z1 : decide (0 < (k : Int)) = true := decide_eq_true (by omega)
                  have z2 : decide (0 < k) = true := decide_eq_true (by omega)
                  obtain ⟨q, hq⟩ : ∃ q, k = q + 1 := ⟨k - 1, by omega⟩
                  have w3 : IntKind.i64.wrap ((k : Int) - 1) = (q : Int) := by rw [IntKind.wrap_i64]; omega
                  have w4 : wrap64 ((k : Int) - 1) = (q : Int) := by unfold wrap64; omega
                  obtain ⟨y, e2, hyn, _, _, _⟩ := HPK.out.1 q (by rw [HLen.out]; omega)
                  have c4 := HX q y e2
                  obtain ⟨vy, c5, y1, y2, y3⟩ := HT _ s.out.mx.bel y (by omega)
                  have hord := HPK.out.2 q x y (by rw [← hq]; exact e1) e2
                  have hq1 : q < len := by omega
                  have hym : y < m := by omega
                  clear HT HX e1 e2 hq hk0
                  generalize K x = kx at *
                  generalize K y = ky at *
                  have g2 : decide (kx < ky) = false := decide_eq_false (by omega)
                  rcases hord with ho | ⟨ho, ho2⟩
                  · have g3 : (ky == kx) = false := by rw [beq_eq_false_iff_ne]; omega
                    go_upto_region 26 with fail
                    simp only [List.append_eq, List.cons_append, List.nil_append]
                    go_big_quiet (fail)
                    go_wp2
                    go_roundw
                    case rel => exact ⟨k + 1, by go_num, by omega, TE.out _⟩
                    case measure => simp [intOf]; omega
                  · have g3 : (ky == kx) = true := by rw [beq_iff_eq]; exact ho
                    have g4 : decide ((x : Int) ≤ y) = false := decide_eq_false (by omega)
                    have g5 : decide (x ≤ y) = false := decide_eq_false (by omega)
                    clear ho ho2
                    go_upto_region 26 with fail
                    simp only [List.append_eq, List.cons_append, List.nil_append]
                    go_big_quiet (fail)
                    go_wp2
                    go_roundw
                    case rel => exact ⟨k + 1, by go_num, by omega, TE.out _⟩
                    case measure => simp [intOf]; omega
            · have d1 : decide ((k : Int) < len) = false := by simp; omega
              have d2 : decide (k < len) = false := by simp; omega
              obtain ⟨l1, hl1⟩ : ∃ l1, left = len + l1 := ⟨left - len, by omega⟩
              have w1 : IntKind.i64.wrap ((left : Int) - len) = (l1 : Int) := by rw [IntKind.wrap_i64]; omega
              have w2' : wrap64 ((left : Int) - len) = (l1 : Int) := by unfold wrap64; omega
              have HL1 : Hid (l1 = cntS n S2) := by
                have h1 := HCT.out
                have h2 := HL.out
                have h3 := HLen.out
                show l1 = cntS n S2
                omega
              have hl1' : l1 ≤ 100 := by omega
              have HOn : Hid (OS n K f S2 (((now + st : Nat) : Int) - st)) := by
                have h1 := HO2.out
                rw [show ((now : Nat) : Int) = ((now + st : Nat) : Int) - st by omega] at h1
                exact h1
              clear hl1 HL HO2 HCT
              go_wp2
              go_roundw
              case rel => exact ⟨now + st, l1, S2, by go_num, by first | go_num | simp, by omega, hl1', HL1, HOn, s.out.mx⟩
              case measure => simp [intOf]; omega
        · have d1 : decide ((now : Int) < 200 + (st : Int)) = false := by simp; omega
          have d2 : decide (now < 200 + st) = false := by simp; omega
          have h0 := HO.out.fin (fun x => by have := (HK.out x).2; omega)
          have hl0 := HL.out
          rw [h0] at hl0
          have kl := s.out.len 0 rfl
          rw [h0] at kl
          have z1 : ((left : Int) == 0) = true := by simp [hl0]
          have z2 : (left == 0) = true := by simp [hl0]
          have c3 := s.out.c0 0 rfl
          clear h0 hl0 HL HO
          go_wp2_with (go_at_call 22; refine kl.mono ?_; rintro e w6 ⟨rfl, rfl⟩)
          go_ret
          exact ⟨rfl, s.out.bel⟩
end Go.Proofs.Ytlpbjafdmhcmgaa
