/- TimerStops, walked. -/
import Derived.Test.YtlpbjafdmhcmgaaOvr
import Derived.Deep.RegionHeld3
import Derived.Deep.CutRange
import Derived.Deep.CutBlock
import Derived.BigQuiet
namespace Go.Proofs.Ytlpbjafdmhcmgaa
open Go.RowKit
open M
set_option linter.unusedVariables false
set_option linter.unusedSimpArgs false

/-- The first i are there, by their times, but those of f. -/
def cS (K : Nat → Int) (i : Nat) (f : Nat → Bool) (x : Nat) : Option Int := if x < i ∧ f x = false then some (K x) else none
theorem cS_set {K : Nat → Int} {n i : Nat} (hi : i < n) : ∀ x, x < n → cS K (i + 1) (fun _ => false) x = setS n (cS K i (fun _ => false)) i (K i) x := by
  intro x hx
  unfold setS
  rw [isId_nat n i hi, if_pos rfl, Int.toNat_natCast]
  by_cases e : x = i
  · subst e; rw [upS_is]; simp [cS]
  · rw [upS_ne _ _ e]; unfold cS; congr 1; simp; omega
theorem cS_has {K : Nat → Int} {n : Nat} {f : Nat → Bool} {x : Nat} (hx : x < n) : hasB n (cS K n f) x = !f x := by
  cases hf : f x <;> simp [hasB, isId_nat n x hx, cS, hf, hx]
theorem cS_stop {K : Nat → Int} {n : Nat} {f : Nat → Bool} {x : Nat} (hx : x < n) : ∀ y, y < n → cS K n (fun j => if j = x then true else f j) y = remS n (cS K n f) x y := by
  intro y hy
  unfold remS
  rw [cS_has hx]
  by_cases e : y = x
  · subst e
    cases hf : f y <;> simp [cS, upS, hf]
  · cases hf : f x <;> simp [cS, upS, e]
theorem cS_cnt {K : Nat → Int} {n : Nat} {f : Nat → Bool} {x : Nat} (hx : x < n) : cntS n (cS K n (fun j => if j = x then true else f j)) + (if f x = true then 0 else 1) = cntS n (cS K n f) := by
  cases hf : f x with
  | true =>
    simp
    refine cnt_congr (fun y hy => ?_)
    by_cases e : y = x
    · subst e; simp [cS, hf]
    · simp [cS, e]
  | false =>
    have h := cnt_set (p := fun y => (cS K n (fun j => if j = x then true else f j) y).isSome) (q := fun y => (cS K n f y).isSome) hx (fun y hy e => by simp [cS, e]) (by simp [cS]) (by simp [cS, hf, hx])
    rw [if_neg (by simp)]
    unfold cntS
    omega
theorem cS_all {K : Nat → Int} {n : Nat} : cntS n (cS K n (fun _ => false)) = n := by
  have h : ∀ n, cnt (fun _ => true) n = n := fun n => by
    induction n with
    | zero => rfl
    | succ n ih => unfold cnt; simp [ih]
  unfold cntS
  rw [cnt_congr (q := fun _ => true) (fun x hx => by simp [cS, hx])]
  exact h n
theorem cS_due {K : Nat → Int} {n : Nat} {f : Nat → Bool} {now : Int} {L : List Nat} (hK : ∀ x, x < n → K x ≤ now) (h : Due n (cS K n f) now L) : (∀ i (hi : i < L.length), L[i] < n ∧ f L[i] = false) ∧ (∀ i (hi : i + 1 < L.length), K L[i] < K L[i + 1] ∨ (K L[i] = K L[i + 1] ∧ L[i] < L[i + 1])) ∧ L.length = cntS n (cS K n f) ∧ cntS n (dueS (cS K n f) now) = 0 := by
  have one : ∀ i (hi : i < L.length), L[i] < n ∧ f L[i] = false ∧ cS K n f L[i] = some (K L[i]) := fun i hi => by
    obtain ⟨y, h1, h2⟩ := h.has hi
    have hl := h.lt hi
    have h1' := h1
    unfold cS at h1
    split at h1
    · next q => cases h1; exact ⟨hl, q.2, h1'⟩
    · cases h1
  have h0 : cntS n (dueS (cS K n f) now) = 0 := cntS_emp (fun x hx => by
    cases hs : cS K n f x with
    | none => exact dueS_none.2 (.inl hs)
    | some u =>
      refine dueS_none.2 (.inr ⟨u, hs, ?_⟩)
      unfold cS at hs
      split at hs
      · cases hs; exact hK x hx
      · cases hs)
  exact ⟨fun i hi => ⟨(one i hi).1, (one i hi).2.1⟩, fun i hi => h.step hi (one i (by omega)).2.2 (one (i + 1) hi).2.2, by have := h.len; omega, h0⟩

/-- The timer, the row of those that are gone, and the row that was told. -/
structure QS (B : Nat) (w W : World) (t g n : Nat) (S : Nat → Option Int) (r : Nat) (f : Nat → Bool) (ad : Option Addr) (L : List Nat) : Prop where
  mx : MX B w W [(t, g, n, S)] [(r, .cells (bRow f n) 4)]
  rd : Rd W ad (L.map fun (x : Nat) => (x : Int))
theorem QS.below {B : Nat} {w W W' : World} {t g n : Nat} {S : Nat → Option Int} {r : Nat} {f : Nat → Bool} {ad : Option Addr} {L : List Nat} (h : QS B w W t g n S r f ad L) (hb : Below W.heap.size W W') : QS B w W' t g n S r f ad L := ⟨h.mx.below hb, h.rd.below hb⟩
theorem QS.cells {B : Nat} {w W : World} {t g n : Nat} {S : Nat → Option Int} {r : Nat} {f : Nat → Bool} {ad : Option Addr} {L : List Nat} (h : QS B w W t g n S r f ad L) (h0 : 0 < L.length) : ∃ b, ad = some ⟨b, 0, none⟩ ∧ ∀ i (hi : i < L.length), L[i] < n → W.cell? ⟨b, i, none⟩ = some (.int .i64 (L[i] : Nat)) ∧ W.cell? ⟨r, L[i], none⟩ = some (.bool (f L[i])) := by
  obtain ⟨b, e, _⟩ := h.rd 0 (by simpa using h0)
  refine ⟨b, e, fun i hi hn => ⟨?_, (h.mx.bat hn).1⟩⟩
  obtain ⟨b', e', _, c⟩ := h.rd i (by simpa using hi)
  rw [e] at e'
  cases e'
  rw [c]
  simp
theorem QS.pick {B : Nat} {w W : World} {t g n : Nat} {S : Nat → Option Int} {r : Nat} {f : Nat → Bool} {ad : Option Addr} {L : List Nat} (h : QS B w W t g n S r f ad L) (ho : ∀ i (hi : i < L.length), L[i] < n ∧ f L[i] = false) (h0 : 0 < L.length) : ∃ b, ad = some ⟨b, 0, none⟩ ∧ ∀ i, i < L.length → ∃ x, L[i]? = some x ∧ x < n ∧ W.cell? ⟨b, i, none⟩ = some (.int .i64 (x : Nat)) ∧ W.cell? ⟨r, x, none⟩ = some (.bool false) := by
  obtain ⟨b, e, hc⟩ := h.cells h0
  refine ⟨b, e, fun i hi => ?_⟩
  obtain ⟨h1, h2⟩ := ho i hi
  obtain ⟨c1, c2⟩ := hc i hi h1
  rw [h2] at c2
  exact ⟨L[i], List.getElem?_eq_getElem hi, h1, c1, c2⟩
theorem pick_ord {K : Nat → Int} {L : List Nat} (h : ∀ i (hi : i + 1 < L.length), K L[i] < K L[i + 1] ∨ (K L[i] = K L[i + 1] ∧ L[i] < L[i + 1])) {q x y : Nat} (e1 : L[q + 1]? = some x) (e2 : L[q]? = some y) : K y < K x ∨ (K y = K x ∧ y < x) := by
  obtain ⟨h1, h2⟩ := List.getElem?_eq_some_iff.1 e1
  obtain ⟨h3, h4⟩ := List.getElem?_eq_some_iff.1 e2
  have := h q h1
  rw [h2, h4] at this
  exact this

set_option maxRecDepth 1000000 in
set_option maxHeartbeats 8000000 in
theorem timerStops_walk (l : List Int) (a : Option Addr) (cap : Nat) (l2 : List Int) (a2 : Option Addr) (cap2 : Nat) (w : World) (hI : NumsIn .i64 w a l) (hl : l.length ≤ cap) (hc : cap ≤ maxLen) (hb : ∀ y ∈ l, (Lit.int .i64 y).wf = true) (hI2 : NumsIn .u8 w a2 l2) (hl2 : l2.length ≤ cap2) (hc2 : cap2 ≤ maxLen) (hb2 : ∀ y ∈ l2, (Lit.int .u8 y).wf = true) :
    Calls Try.prog 8 #[.slice a l.length cap, .slice a2 l2.length cap2] w fun e w' => e = .returned (.bool true) ∧ Below w.heap.size w w' := by
  obtain ⟨B, hB⟩ : ∃ B, w.heap.size = B := ⟨_, rfl⟩
  have ks : Calls Try.prog 10 #[] w fun e w' => e = .returned (.bool true) ∧ Hid (Below B w w') := by
    have := shown_any w
    rw [hB] at this
    exact this
  have hle : B ≤ w.heap.size := by omega
  have hcm : cap ≤ 9223372036854775807 := by unfold maxLen at hc; omega
  have hcm2 : cap2 ≤ 9223372036854775807 := by unfold maxLen at hc2; omega
  obtain ⟨K, hK⟩ : ∃ K, nth l = K := ⟨_, rfl⟩
  obtain ⟨m, hm⟩ : ∃ m, l.length = m := ⟨_, rfl⟩
  obtain ⟨m2, hm2⟩ : ∃ m, l2.length = m := ⟨_, rfl⟩
  have HK : Hid (∀ x, K x ≤ 9223372036854775807) := fun x => by
    rw [← hK]
    unfold nth
    rw [List.getD_eq_getElem?_getD]
    cases hx : l[x]? with
    | none => decide
    | some v => exact (bounds_i64 (hb _ (List.mem_of_getElem? hx))).2
  have HI : Hid (0 < m → ∃ b o, a = some ⟨b, o, none⟩ ∧ ∀ W, Below B w W → ∀ (i : Nat), i < m → W.cell? ⟨b, o + i, none⟩ = some (.int .i64 (K i))) := fun h0 => by
    obtain ⟨b, o, e, _⟩ := hI.at (Below.refl w.heap.size w) (i := 0) (by omega)
    refine ⟨b, o, e, fun W q i hi => ?_⟩
    obtain ⟨b', o', e', c⟩ := hI.at (hB ▸ q) (i := i) (by omega)
    rw [e] at e'
    cases e'
    rw [hK] at c
    exact c
  have HJ : Hid (∀ (i : Nat), i < m2 → ∃ v b o, a2 = some ⟨b, o, none⟩ ∧ 0 ≤ v ∧ v ≤ 255 ∧ ∀ W, Below B w W → W.cell? ⟨b, o + i, none⟩ = some (.int .u8 v)) := fun i hi => by
    have hil : i < l2.length := by omega
    obtain ⟨b, o, h1, h2, h3⟩ := hI2 i hil
    have h4 := bounds_u8 (hb2 _ (List.getElem_mem hil))
    exact ⟨l2[i], b, o, h1, h4.1, h4.2, fun W q => by rw [(hB ▸ q : Below w.heap.size w W).cell (p := ⟨b, _, none⟩) h2]; exact h3⟩
  obtain ⟨n, hn⟩ : ∃ n, min m 50 = n := ⟨_, rfl⟩
  have hnm : n ≤ m := by omega
  have hn50 : n ≤ 50 := by omega
  have kmin : ∀ ts t W, (Builtin.min_ ts t #[.int .i64 (m : Nat), .int .i64 50]).run Try.prog W = .ok (.int .i64 (n : Nat)) W := fun ts t W => by
    have := min_num m 50 ts t W
    rw [hn] at this
    exact this
  have kn : ∀ W, Below B w W → Calls Try.prog 11 #[.int .i64 n] W fun e w' => ∃ t g, e = .returned (ptr t) ∧ Hid (MX B w w' [(t, g, n, cS K 0 (fun _ => false))] []) := fun W hb => (mx_new hb hle n (by omega)).mono (by
    rintro e w' ⟨t, g, rfl, h⟩
    exact ⟨t, g, rfl, h.out.congr 0 rfl (fun x hx => by simp [cS])⟩)
  have mb : ∀ W : World, (Instr.makeSlice 49 (.int .i64 n) (.int .i64 n)).run Try.prog W = .ok (.slice (some ⟨W.heap.size, 0, none⟩) n n) (W.alloc (.cells (bRow (fun _ => false) n) 4)) := fun W => make_bools n (by omega) W
  rw [hm] at hl ⊢
  rw [hm2] at hl2 ⊢
  rw [hB]
  clear hI hI2 hc hc2 hB hm hm2 hb hb2 hK hn
  go_enter Try.func8, Try.ntmps8
  go_wp2_with (first | (go_at_call 10; refine ks.mono ?_; rintro e w1 ⟨rfl, s1⟩; clear ks) | (go_at_call 11; refine (kn _ s1.out).mono ?_; rintro e w2 ⟨t, g, rfl, s⟩; clear kn s1))
  have s0 := hide_it (s.out.alloc (.cells (bRow (fun _ => false) n) 4))
  obtain ⟨r, hr⟩ : ∃ r, w2.heap.size = r := ⟨_, rfl⟩
  rw [hr] at s0
  simp only [hr]
  clear hr s mb kmin
  generalize w2.alloc (.cells (bRow (fun _ => false) n) 4) = w3 at *
  go_loopw [10] (fun iv W => ∃ (i : Nat), iv = .int .i64 i ∧ i ≤ n ∧ Hid (MX B w W [(t, g, n, cS K i (fun _ => false))] [(r, .cells (bRow (fun _ => false) n) 4)])) (fun iv _ => n - (intOf iv).toNat)
  case atStart => exact ⟨0, rfl, Nat.zero_le _, s0⟩
  case round =>
    clear s0
    obtain ⟨i, rfl, hi, s⟩ := hrel
    by_cases hlt : i < n
    · obtain ⟨b1, o1, rfl, HT⟩ := HI.out (by omega)
      have c0 := HT _ s.out.bel i (by omega)
      clear HT
      have kk : Calls Try.prog 12 #[ptr t, .int .i64 i, .int .i64 (K i)] wr fun e w' => e = .returned (.int .i64 0) ∧ Hid (MX B w w' [(t, g, n, cS K (i + 1) (fun _ => false))] [(r, .cells (bRow (fun _ => false) n) 4)]) := by
        have := s.out.set_ 0 rfl i (K i)
        rw [show setE n i = 0 by simp [setE, isId_nat n i hlt]] at this
        exact this.mono (fun e w' q => ⟨q.1, q.2.out.congr 0 rfl (cS_set hlt)⟩)
      go_wp2_with (go_at_call 12; refine kk.mono ?_; rintro e w4 ⟨rfl, s2⟩)
      go_roundw
      case rel => exact ⟨i + 1, by go_num, by omega, s2⟩
      case measure => simp [intOf]; omega
    · have d1 : decide ((i : Int) < n) = false := by simp; omega
      have d2 : decide (i < n) = false := by simp; omega
      have hin : i = n := by omega
      have s1 := s
      rw [hin] at s1
      clear s hin
      go_wp2
      go_loopw [9, 11] (fun lv jv W => ∃ (j left : Nat) (f : Nat → Bool), lv = .int .i64 left ∧ jv = .int .i64 j ∧ j ≤ m2 ∧ j ≤ 50 ∧ left ≤ 50 ∧ Hid (left = cntS n (cS K n f)) ∧ Hid (MX B w W [(t, g, n, cS K n f)] [(r, .cells (bRow f n) 4)])) (fun lv jv _ => m2 - (intOf jv).toNat)
      case atStart => exact ⟨0, n, _, rfl, rfl, Nat.zero_le _, by omega, hn50, cS_all.symm, s1⟩
      case round =>
        clear s1 d1 d2
        obtain ⟨j, left, f, rfl, rfl, hj, hj2, hl50, HL, s⟩ := hrel
        by_cases hn0 : 0 < n
        · have n1 : decide (0 < (n : Int)) = true := decide_eq_true (by omega)
          have n2 : decide (0 < n) = true := decide_eq_true (by omega)
          by_cases hlt : j < m2
          · have m1 : decide ((j : Int) < m2) = true := decide_eq_true (by omega)
            have m2' : decide (j < m2) = true := decide_eq_true (by omega)
            by_cases hlt2 : j < 50
            · have h50 : decide ((j : Int) < 50) = true := decide_eq_true (by omega)
              have h50' : decide (j < 50) = true := decide_eq_true (by omega)
              obtain ⟨v, b2, o2, rfl, hv0, hv1, HX⟩ := HJ.out j hlt
              have c0 := HX _ s.out.bel
              clear HX
              obtain ⟨x, hx⟩ : ∃ x : Nat, v % n = (x : Int) := ⟨(v % n).toNat, by have := Int.emod_nonneg v (show (n : Int) ≠ 0 by omega); omega⟩
              have hxn : x < n := by have := Int.emod_lt_of_pos v (show (0 : Int) < n by omega); omega
              have hx2 : v.tmod n = (x : Int) := by rw [Int.tmod_eq_emod_of_nonneg hv0]; exact hx
              have hw : IntKind.i64.wrap v = v := by rw [IntKind.wrap_i64]; omega
              have hnz : ((n : Int) == 0) = false := by rw [beq_eq_false_iff_ne]; omega
              have hnz2 : ¬ n = 0 := by omega
              have HF : Hid (∀ W hs, MX B w W hs [(r, .cells (bRow f n) 4)] → W.cell? ⟨r, x, none⟩ = some (.bool (f x)) ∧ W.frozen? ⟨r, x, none⟩ = false) := fun W hs h => h.bat hxn
              have HP : Hid (∀ W hs, MX B w W hs [(r, .cells (bRow f n) 4)] → MX B w (W.setCell ⟨r, x, none⟩ (.bool true)) hs [(r, .cells (bRow (fun j => if j = x then true else f j) n) 4)]) := fun W hs h => h.bset x true (fun j hj => rfl)
              have kk : ∀ W, MX B w W [(t, g, n, cS K n f)] [(r, .cells (bRow f n) 4)] → Calls Try.prog 14 #[ptr t, .int .i64 x] W fun e w' => e = .returned (.bool (!f x)) ∧ Hid (MX B w w' [(t, g, n, cS K n (fun j => if j = x then true else f j))] [(r, .cells (bRow f n) 4)]) := fun W h => by
                have := h.stop 0 rfl x
                rw [cS_has hxn] at this
                exact this.mono (fun e w' q => ⟨q.1, q.2.out.congr 0 rfl (cS_stop hxn)⟩)
              have hcnt := cS_cnt (K := K) (n := n) (f := f) hxn
              have HCN := hide_it hcnt
              have s2 := hide_it (s.out.below (w' := wr.drew) ((Below.refl _ _).drew))
              have kk2 := kk _ s2.out
              clear hcnt kk
              cases hfx : f x with
              | true =>
                simp only [hfx] at kk2
                have HQ : Hid (∀ W hs, MX B w W hs [(r, .cells (bRow f n) 4)] → W.cell? ⟨r, x, none⟩ = some (.bool true) ∧ W.frozen? ⟨r, x, none⟩ = false) := fun W hs h => by
                  have := HF.out W hs h
                  rw [hfx] at this
                  exact this
                have HFX := hide_it hfx
                obtain ⟨c1, f1⟩ := HQ.out _ _ s.out
                clear hfx HF s hx hv0 hv1 c1 f1
                go_upto_region 17 with fail
                have c1 := (HQ.out _ _ s2.out).1
                go_region_held3 (fun V => V.cell? ⟨r, x, none⟩ = some (.bool true)) (first | exact (HQ.out _ _ t3.out).1 | exact (HQ.out _ _ s2.out).1 | go_keep) (first | (go_at_call 14; refine kk2.mono ?_; rintro e w4 ⟨rfl, t3⟩))
                all_goals
                  obtain ⟨c3, f3⟩ := HQ.out _ _ t3.out
                  have t4 := hide_it (HP.out _ _ t3.out)
                  go_wp2
                  go_roundw
                  case rel => exact ⟨j + 1, left, _, rfl, by go_num, by omega, by omega, hl50, by have h1 := HL.out; have h2 := HCN.out; rw [if_pos HFX.out] at h2; show left = _; omega, t4⟩
                  case measure => simp [intOf]; omega
              | false =>
                simp only [hfx] at kk2
                have HQ : Hid (∀ W hs, MX B w W hs [(r, .cells (bRow f n) 4)] → W.cell? ⟨r, x, none⟩ = some (.bool false) ∧ W.frozen? ⟨r, x, none⟩ = false) := fun W hs h => by
                  have := HF.out W hs h
                  rw [hfx] at this
                  exact this
                have HFX := hide_it hfx
                obtain ⟨l1, hl1⟩ : ∃ l1, left = l1 + 1 := ⟨left - 1, by have h1 := HL.out; have h2 := HCN.out; rw [if_neg (by rw [hfx]; simp)] at h2; omega⟩
                have w1 : IntKind.i64.wrap ((left : Int) - 1) = (l1 : Int) := by rw [IntKind.wrap_i64]; omega
                have w2' : wrap64 ((left : Int) - 1) = (l1 : Int) := by unfold wrap64; omega
                have HL1 := hide_it hl1
                obtain ⟨c1, f1⟩ := HQ.out _ _ s.out
                clear hfx HF s hx hv0 hv1 c1 f1 hl1
                go_upto_region 17 with fail
                have c1 := (HQ.out _ _ s2.out).1
                go_region_held3 (fun V => V.cell? ⟨r, x, none⟩ = some (.bool false)) (first | exact (HQ.out _ _ t3.out).1 | exact (HQ.out _ _ s2.out).1 | go_keep) (first | (go_at_call 14; refine kk2.mono ?_; rintro e w4 ⟨rfl, t3⟩))
                all_goals
                  obtain ⟨c3, f3⟩ := HQ.out _ _ t3.out
                  have t4 := hide_it (HP.out _ _ t3.out)
                  go_wp2
                  go_roundw
                  case rel => exact ⟨j + 1, l1, _, by go_num, by go_num, by omega, by omega, by have := HL1.out; omega, by have h1 := HL.out; have h2 := HCN.out; have h3 := HL1.out; rw [if_neg (by rw [HFX.out]; simp)] at h2; show l1 = _; omega, t4⟩
                  case measure => simp [intOf]; omega
            · have d1 : decide ((j : Int) < 50) = false := by simp; omega
              have d2 : decide (j < 50) = false := by simp; omega
              have kd : Calls Try.prog 16 #[ptr t, .int .i64 9223372036854775807] wr fun e w' => ∃ (ad : Option Addr) (L : List Nat) (cd : Nat), e = .returned (.slice ad left cd) ∧ Hid (left = L.length) ∧ Hid ((∀ i (hi : i < L.length), L[i] < n ∧ f L[i] = false) ∧ (∀ i (hi : i + 1 < L.length), K L[i] < K L[i + 1] ∨ (K L[i] = K L[i + 1] ∧ L[i] < L[i + 1]))) ∧ Hid (QS B w w' t g n (dueS (cS K n f) 9223372036854775807) r f ad L) ∧ Hid (cntS n (dueS (cS K n f) 9223372036854775807) = 0) := (s.out.due 0 rfl _).mono (by
                rintro e w' ⟨ad, L, cd, R', rfl, hdu, hr, hm⟩
                obtain ⟨p1, p2, p3, p4⟩ := cS_due (fun x hx => HK.out x) hdu
                have hL : L.length = left := by rw [p3]; exact HL.out.symm
                exact ⟨ad, L, cd, by rw [hL], hL.symm, ⟨p1, p2⟩, ⟨hm.out.drop (fun p hp => List.mem_append_right _ hp), rd_row hm.out hr⟩, p4⟩)
              clear HJ HK s HL
              go_wp2_with (go_at_call 16; refine kd.mono ?_; rintro e w5 ⟨ad, L, cd, rfl, HLL, HO, sQ, HZ⟩; clear kd)
              generalize dueS (cS K n f) 9223372036854775807 = S2 at *
              go_loopw [14] (fun pv W => ∃ p : Nat, pv = .int .i64 p ∧ p ≤ left ∧ Hid (QS B w W t g n S2 r f ad L)) (fun pv _ => left - (intOf pv).toNat)
              case atStart => exact ⟨0, rfl, Nat.zero_le _, sQ⟩
              case round =>
                clear sQ d1 d2
                obtain ⟨p, rfl, hp, s⟩ := hrel
                by_cases hlt : p < left
                · have m1 : decide ((p : Int) < left) = true := decide_eq_true (by omega)
                  have m2' : decide (p < left) = true := decide_eq_true (by omega)
                  have hpl : p < L.length := by rw [← HLL.out]; exact hlt
                  obtain ⟨bl, rfl, HX⟩ := s.out.pick HO.out.1 (by omega)
                  obtain ⟨x, e1, hxn, c1, c2⟩ := HX p hpl
                  obtain ⟨bt, ot, rfl, HT⟩ := HI.out (by omega)
                  have c3 := HT _ s.out.mx.bel x (by omega)
                  have TE : Hid (∀ j, QS B w (wr.drewN j) t g n S2 r f (some ⟨bl, 0, none⟩) L) := fun j => s.out.below ⟨rfl, rfl, rfl, Nat.le_refl _, fun _ _ => rfl⟩
                  by_cases hp0 : p = 0
                  · have z1 : decide (0 < (p : Int)) = false := decide_eq_false (by omega)
                    have z2 : decide (0 < p) = false := decide_eq_false (by omega)
                    have hxm : x < m := by omega
                    clear HT HX hp0 e1 hpl
                    go_wp2
                    go_big_quiet (fail)
                    go_wp2
                    go_roundw
                    case rel => exact ⟨p + 1, by go_num, by omega, TE.out _⟩
                    case measure => simp [intOf]; omega
                  · have z1 : decide (0 < (p : Int)) = true := decide_eq_true (by omega)
                    have z2 : decide (0 < p) = true := decide_eq_true (by omega)
                    obtain ⟨q, hq⟩ : ∃ q, p = q + 1 := ⟨p - 1, by omega⟩
                    have w1 : IntKind.i64.wrap ((p : Int) - 1) = (q : Int) := by rw [IntKind.wrap_i64]; omega
                    have w2' : wrap64 ((p : Int) - 1) = (q : Int) := by unfold wrap64; omega
                    obtain ⟨y, e2, hyn, c4, _⟩ := HX q (by omega)
                    have c5 := HT _ s.out.mx.bel y (by omega)
                    have hord := pick_ord HO.out.2 (by rw [← hq]; exact e1) e2
                    have hq1 : q < left := by omega
                    have hxm : x < m := by omega
                    have hym : y < m := by omega
                    clear HT HX e1 e2 hpl hq hp0
                    generalize K x = kx at *
                    generalize K y = ky at *
                    have g1 : decide (kx < ky) = false := decide_eq_false (by omega)
                    rcases hord with ho | ⟨ho, ho2⟩
                    · have g2 : (ky == kx) = false := by rw [beq_eq_false_iff_ne]; omega
                      go_wp2
                      go_big_quiet (fail)
                      go_wp2
                      go_roundw
                      case rel => exact ⟨p + 1, by go_num, by omega, TE.out _⟩
                      case measure => simp [intOf]; omega
                    · have g2 : (ky == kx) = true := by rw [beq_iff_eq]; exact ho
                      have g3 : decide ((x : Int) ≤ y) = false := decide_eq_false (by omega)
                      have g4 : decide (x ≤ y) = false := decide_eq_false (by omega)
                      clear ho ho2
                      go_wp2
                      go_big_quiet (fail)
                      go_wp2
                      go_roundw
                      case rel => exact ⟨p + 1, by go_num, by omega, TE.out _⟩
                      case measure => simp [intOf]; omega
                · have d1 : decide ((p : Int) < left) = false := by simp; omega
                  have d2 : decide (p < left) = false := by simp; omega
                  have kl := s.out.mx.len 0 rfl
                  rw [HZ.out] at kl
                  have c3 := s.out.mx.c0 0 rfl
                  go_wp2_with (go_at_call 22; refine kl.mono ?_; rintro e w6 ⟨rfl, rfl⟩)
                  go_ret
                  exact ⟨rfl, s.out.mx.bel⟩
          · have d1 : decide ((j : Int) < m2) = false := by simp; omega
            have d2 : decide (j < m2) = false := by simp; omega
            have kd : Calls Try.prog 16 #[ptr t, .int .i64 9223372036854775807] wr fun e w' => ∃ (ad : Option Addr) (L : List Nat) (cd : Nat), e = .returned (.slice ad left cd) ∧ Hid (left = L.length) ∧ Hid ((∀ i (hi : i < L.length), L[i] < n ∧ f L[i] = false) ∧ (∀ i (hi : i + 1 < L.length), K L[i] < K L[i + 1] ∨ (K L[i] = K L[i + 1] ∧ L[i] < L[i + 1]))) ∧ Hid (QS B w w' t g n (dueS (cS K n f) 9223372036854775807) r f ad L) ∧ Hid (cntS n (dueS (cS K n f) 9223372036854775807) = 0) := (s.out.due 0 rfl _).mono (by
              rintro e w' ⟨ad, L, cd, R', rfl, hdu, hr, hm⟩
              obtain ⟨p1, p2, p3, p4⟩ := cS_due (fun x hx => HK.out x) hdu
              have hL : L.length = left := by rw [p3]; exact HL.out.symm
              exact ⟨ad, L, cd, by rw [hL], hL.symm, ⟨p1, p2⟩, ⟨hm.out.drop (fun p hp => List.mem_append_right _ hp), rd_row hm.out hr⟩, p4⟩)
            clear HJ HK s HL
            go_wp2_with (go_at_call 16; refine kd.mono ?_; rintro e w5 ⟨ad, L, cd, rfl, HLL, HO, sQ, HZ⟩; clear kd)
            generalize dueS (cS K n f) 9223372036854775807 = S2 at *
            go_loopw [14] (fun pv W => ∃ p : Nat, pv = .int .i64 p ∧ p ≤ left ∧ Hid (QS B w W t g n S2 r f ad L)) (fun pv _ => left - (intOf pv).toNat)
            case atStart => exact ⟨0, rfl, Nat.zero_le _, sQ⟩
            case round =>
              clear sQ d1 d2
              obtain ⟨p, rfl, hp, s⟩ := hrel
              by_cases hlt : p < left
              · have m1 : decide ((p : Int) < left) = true := decide_eq_true (by omega)
                have m2' : decide (p < left) = true := decide_eq_true (by omega)
                have hpl : p < L.length := by rw [← HLL.out]; exact hlt
                obtain ⟨bl, rfl, HX⟩ := s.out.pick HO.out.1 (by omega)
                obtain ⟨x, e1, hxn, c1, c2⟩ := HX p hpl
                obtain ⟨bt, ot, rfl, HT⟩ := HI.out (by omega)
                have c3 := HT _ s.out.mx.bel x (by omega)
                have TE : Hid (∀ j, QS B w (wr.drewN j) t g n S2 r f (some ⟨bl, 0, none⟩) L) := fun j => s.out.below ⟨rfl, rfl, rfl, Nat.le_refl _, fun _ _ => rfl⟩
                by_cases hp0 : p = 0
                · have z1 : decide (0 < (p : Int)) = false := decide_eq_false (by omega)
                  have z2 : decide (0 < p) = false := decide_eq_false (by omega)
                  have hxm : x < m := by omega
                  clear HT HX hp0 e1 hpl
                  go_wp2
                  go_big_quiet (fail)
                  go_wp2
                  go_roundw
                  case rel => exact ⟨p + 1, by go_num, by omega, TE.out _⟩
                  case measure => simp [intOf]; omega
                · have z1 : decide (0 < (p : Int)) = true := decide_eq_true (by omega)
                  have z2 : decide (0 < p) = true := decide_eq_true (by omega)
                  obtain ⟨q, hq⟩ : ∃ q, p = q + 1 := ⟨p - 1, by omega⟩
                  have w1 : IntKind.i64.wrap ((p : Int) - 1) = (q : Int) := by rw [IntKind.wrap_i64]; omega
                  have w2' : wrap64 ((p : Int) - 1) = (q : Int) := by unfold wrap64; omega
                  obtain ⟨y, e2, hyn, c4, _⟩ := HX q (by omega)
                  have c5 := HT _ s.out.mx.bel y (by omega)
                  have hord := pick_ord HO.out.2 (by rw [← hq]; exact e1) e2
                  have hq1 : q < left := by omega
                  have hxm : x < m := by omega
                  have hym : y < m := by omega
                  clear HT HX e1 e2 hpl hq hp0
                  generalize K x = kx at *
                  generalize K y = ky at *
                  have g1 : decide (kx < ky) = false := decide_eq_false (by omega)
                  rcases hord with ho | ⟨ho, ho2⟩
                  · have g2 : (ky == kx) = false := by rw [beq_eq_false_iff_ne]; omega
                    go_wp2
                    go_big_quiet (fail)
                    go_wp2
                    go_roundw
                    case rel => exact ⟨p + 1, by go_num, by omega, TE.out _⟩
                    case measure => simp [intOf]; omega
                  · have g2 : (ky == kx) = true := by rw [beq_iff_eq]; exact ho
                    have g3 : decide ((x : Int) ≤ y) = false := decide_eq_false (by omega)
                    have g4 : decide (x ≤ y) = false := decide_eq_false (by omega)
                    clear ho ho2
                    go_wp2
                    go_big_quiet (fail)
                    go_wp2
                    go_roundw
                    case rel => exact ⟨p + 1, by go_num, by omega, TE.out _⟩
                    case measure => simp [intOf]; omega
              · have d1 : decide ((p : Int) < left) = false := by simp; omega
                have d2 : decide (p < left) = false := by simp; omega
                have kl := s.out.mx.len 0 rfl
                rw [HZ.out] at kl
                have c3 := s.out.mx.c0 0 rfl
                go_wp2_with (go_at_call 22; refine kl.mono ?_; rintro e w6 ⟨rfl, rfl⟩)
                go_ret
                exact ⟨rfl, s.out.mx.bel⟩
        · have d1 : decide (0 < (n : Int)) = false := by simp; omega
          have d2 : decide (0 < n) = false := by simp; omega
          have kd : Calls Try.prog 16 #[ptr t, .int .i64 9223372036854775807] wr fun e w' => ∃ (ad : Option Addr) (L : List Nat) (cd : Nat), e = .returned (.slice ad left cd) ∧ Hid (left = L.length) ∧ Hid ((∀ i (hi : i < L.length), L[i] < n ∧ f L[i] = false) ∧ (∀ i (hi : i + 1 < L.length), K L[i] < K L[i + 1] ∨ (K L[i] = K L[i + 1] ∧ L[i] < L[i + 1]))) ∧ Hid (QS B w w' t g n (dueS (cS K n f) 9223372036854775807) r f ad L) ∧ Hid (cntS n (dueS (cS K n f) 9223372036854775807) = 0) := (s.out.due 0 rfl _).mono (by
            rintro e w' ⟨ad, L, cd, R', rfl, hdu, hr, hm⟩
            obtain ⟨p1, p2, p3, p4⟩ := cS_due (fun x hx => HK.out x) hdu
            have hL : L.length = left := by rw [p3]; exact HL.out.symm
            exact ⟨ad, L, cd, by rw [hL], hL.symm, ⟨p1, p2⟩, ⟨hm.out.drop (fun p hp => List.mem_append_right _ hp), rd_row hm.out hr⟩, p4⟩)
          clear HJ HK s HL
          go_wp2_with (go_at_call 16; refine kd.mono ?_; rintro e w5 ⟨ad, L, cd, rfl, HLL, HO, sQ, HZ⟩; clear kd)
          generalize dueS (cS K n f) 9223372036854775807 = S2 at *
          go_loopw [14] (fun pv W => ∃ p : Nat, pv = .int .i64 p ∧ p ≤ left ∧ Hid (QS B w W t g n S2 r f ad L)) (fun pv _ => left - (intOf pv).toNat)
          case atStart => exact ⟨0, rfl, Nat.zero_le _, sQ⟩
          case round =>
            clear sQ d1 d2
            obtain ⟨p, rfl, hp, s⟩ := hrel
            by_cases hlt : p < left
            · have m1 : decide ((p : Int) < left) = true := decide_eq_true (by omega)
              have m2' : decide (p < left) = true := decide_eq_true (by omega)
              have hpl : p < L.length := by rw [← HLL.out]; exact hlt
              obtain ⟨bl, rfl, HX⟩ := s.out.pick HO.out.1 (by omega)
              obtain ⟨x, e1, hxn, c1, c2⟩ := HX p hpl
              obtain ⟨bt, ot, rfl, HT⟩ := HI.out (by omega)
              have c3 := HT _ s.out.mx.bel x (by omega)
              have TE : Hid (∀ j, QS B w (wr.drewN j) t g n S2 r f (some ⟨bl, 0, none⟩) L) := fun j => s.out.below ⟨rfl, rfl, rfl, Nat.le_refl _, fun _ _ => rfl⟩
              by_cases hp0 : p = 0
              · have z1 : decide (0 < (p : Int)) = false := decide_eq_false (by omega)
                have z2 : decide (0 < p) = false := decide_eq_false (by omega)
                have hxm : x < m := by omega
                have EL := hide_it e1
                clear HT HX hp0 e1 hpl
                go_wp2
                go_big_quiet (fail)
                go_wp2
                go_roundw
                case rel => exact ⟨p + 1, by go_num, by omega, TE.out _⟩
                case measure => simp [intOf]; omega
              · have z1 : decide (0 < (p : Int)) = true := decide_eq_true (by omega)
                have z2 : decide (0 < p) = true := decide_eq_true (by omega)
                obtain ⟨q, hq⟩ : ∃ q, p = q + 1 := ⟨p - 1, by omega⟩
                have w1 : IntKind.i64.wrap ((p : Int) - 1) = (q : Int) := by rw [IntKind.wrap_i64]; omega
                have w2' : wrap64 ((p : Int) - 1) = (q : Int) := by unfold wrap64; omega
                obtain ⟨y, e2, hyn, c4, _⟩ := HX q (by omega)
                have c5 := HT _ s.out.mx.bel y (by omega)
                have hord := pick_ord HO.out.2 (by rw [← hq]; exact e1) e2
                have hq1 : q < left := by omega
                have hxm : x < m := by omega
                have hym : y < m := by omega
                clear HT HX e1 e2 hpl hq hp0
                generalize K x = kx at *
                generalize K y = ky at *
                have g1 : decide (kx < ky) = false := decide_eq_false (by omega)
                rcases hord with ho | ⟨ho, ho2⟩
                · have g2 : (ky == kx) = false := by rw [beq_eq_false_iff_ne]; omega
                  go_wp2
                  go_big_quiet (fail)
                  go_wp2
                  go_roundw
                  case rel => exact ⟨p + 1, by go_num, by omega, TE.out _⟩
                  case measure => simp [intOf]; omega
                · have g2 : (ky == kx) = true := by rw [beq_iff_eq]; exact ho
                  have g3 : decide ((x : Int) ≤ y) = false := decide_eq_false (by omega)
                  have g4 : decide (x ≤ y) = false := decide_eq_false (by omega)
                  clear ho ho2
                  go_wp2
                  go_big_quiet (fail)
                  go_wp2
                  go_roundw
                  case rel => exact ⟨p + 1, by go_num, by omega, TE.out _⟩
                  case measure => simp [intOf]; omega
            · have d1 : decide ((p : Int) < left) = false := by simp; omega
              have d2 : decide (p < left) = false := by simp; omega
              have kl := s.out.mx.len 0 rfl
              rw [HZ.out] at kl
              have c3 := s.out.mx.c0 0 rfl
              go_wp2_with (go_at_call 22; refine kl.mono ?_; rintro e w6 ⟨rfl, rfl⟩)
              go_ret
              exact ⟨rfl, s.out.mx.bel⟩
end Go.Proofs.Ytlpbjafdmhcmgaa
