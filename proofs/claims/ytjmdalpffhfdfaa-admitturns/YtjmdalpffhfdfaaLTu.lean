/- AdmitTurns, walked. -/
import Derived.Test.YtjmdalpffhfdfaaSho
import Derived.Test.YtjmdalpffhfdfaaArg
import Derived.Deep.RegionHeld3
import Derived.Deep.CutRange
import Derived.Deep.CutBlock
import Derived.BigQuiet
namespace Go.Proofs.Ytjmdalpffhfdfaa
open Go.RowKit
open M
set_option linter.unusedVariables false
set_option linter.unusedSimpArgs false

/-- The ids from i on, below n. -/
def rg (i n : Nat) : List Int := (List.range' i (n - i)).map fun (k : Nat) => 100 + (k : Int)
theorem rg_len (i n : Nat) : (rg i n).length = n - i := by simp [rg]
theorem rg_mem {i n : Nat} {z : Int} : z ∈ rg i n → 100 + (i : Int) ≤ z ∧ z < 100 + (n : Int) := by
  intro h
  obtain ⟨k, hk, rfl⟩ := List.mem_map.1 h
  obtain ⟨j, hj, rfl⟩ := List.mem_range'.1 hk
  omega
theorem rg_cons {i n : Nat} (h : i < n) : rg i n = (100 + (i : Int)) :: rg (i + 1) n := by
  unfold rg
  rw [show n - i = (n - (i + 1)) + 1 by omega, List.range'_succ]
  rfl
theorem rg_nil {i n : Nat} (h : n ≤ i) : rg i n = [] := by unfold rg; rw [show n - i = 0 by omega]; rfl
theorem rg_snoc {i n : Nat} (h : i ≤ n) : rg i (n + 1) = rg i n ++ [100 + (n : Int)] := by
  unfold rg
  rw [show n + 1 - i = (n - i) + 1 by omega, List.range'_1_concat, List.map_append]
  simp
  omega
abbrev tst (n q : Nat) (A Q : List Int) : Ad := ⟨n, q, A, Q⟩
theorem tu_add {n q i : Nat} (h : i < n + q) : ts (tst n q (rg 0 (min i n)) (rg n i)) (100 + i) = (if i < n then 1 else 0) ∧ te (tst n q (rg 0 (min i n)) (rg n i)) (100 + i) = 0 ∧ tx (tst n q (rg 0 (min i n)) (rg n i)) (100 + i) = tst n q (rg 0 (min (i + 1) n)) (rg n (i + 1)) := by
  have h1 : ¬ ((100 + (i : Int)) ∈ rg 0 (min i n) ∨ (100 + (i : Int)) ∈ rg n i) := by
    rintro (e | e)
    · have := rg_mem e; omega
    · have := rg_mem e; omega
  unfold ts te tx
  simp only [if_neg h1, rg_len]
  by_cases hi : i < n
  · have h2 : ((min i n - 0 : Nat) : Int) < n := by omega
    simp only [if_pos h2, if_pos hi]
    refine ⟨trivial, trivial, ?_⟩
    rw [show min i n = i by omega, show min (i + 1) n = i + 1 by omega, rg_snoc (Nat.zero_le i), rg_nil (i := n) (n := i) (by omega), rg_nil (i := n) (n := i + 1) (by omega)]
  · have h2 : ¬ ((min i n - 0 : Nat) : Int) < n := by omega
    have h3 : ((i - n : Nat) : Int) < q := by omega
    simp only [if_neg h2, if_pos h3, if_neg hi]
    refine ⟨trivial, trivial, ?_⟩
    rw [show min i n = n by omega, show min (i + 1) n = n by omega, rg_snoc (i := n) (n := i) (by omega)]
theorem tu_full {n q : Nat} : ts (tst n q (rg 0 n) (rg n (n + q))) 99 = 0 ∧ te (tst n q (rg 0 n) (rg n (n + q))) 99 = 4 ∧ tx (tst n q (rg 0 n) (rg n (n + q))) 99 = tst n q (rg 0 n) (rg n (n + q)) := by
  have h1 : ¬ ((99 : Int) ∈ rg 0 n ∨ (99 : Int) ∈ rg n (n + q)) := by
    rintro (e | e)
    · have := rg_mem e; omega
    · have := rg_mem e; omega
  have h2 : ¬ ((n - 0 : Nat) : Int) < n := by omega
  have h3 : ¬ ((n + q - n : Nat) : Int) < q := by omega
  unfold ts te tx
  simp only [if_neg h1, rg_len, if_neg h2, if_neg h3]
  exact ⟨trivial, trivial, trivial⟩
theorem tu_nil {n q : Nat} {A : List Int} {z : Int} (h : z ∈ A) : es (tst n q A []) z = -1 ∧ ee (tst n q A []) z = 0 ∧ ex (tst n q A []) z = tst n q (A.erase z) [] := by
  unfold es ee ex
  simp [h]
theorem tu_cons {n q : Nat} {A r : List Int} {z y : Int} (hi : Inv (tst n q A (y :: r))) (h : z ∈ A) : es (tst n q A (y :: r)) z = y ∧ ee (tst n q A (y :: r)) z = 0 ∧ ex (tst n q A (y :: r)) z = tst n q (A.erase z ++ [y]) r := by
  have hn : ¬ z ∈ y :: r := hi.dis h
  unfold es ee ex
  simp only [if_neg hn, if_pos h, if_pos (Or.inl h : z ∈ A ∨ z ∈ y :: r)]
  exact ⟨rfl, trivial, rfl⟩

set_option maxRecDepth 1000000 in
set_option maxHeartbeats 8000000 in
theorem admitTurns_walk (ac qu : Int) (l : List Int) (a : Option Addr) (cap : Nat) (w : World) (hI : NumsIn .u8 w a l) (hl : l.length ≤ cap) (hc : cap ≤ maxLen) (hb : ∀ y ∈ l, (Lit.int .u8 y).wf = true) :
    Calls Try.prog 4 #[.int .i64 ac, .int .i64 qu, .slice a l.length cap] w fun e w' => e = .returned (.bool true) ∧ Below w.heap.size w w' := by
  obtain ⟨B, hB⟩ : ∃ B, w.heap.size = B := ⟨_, rfl⟩
  have ks : Calls Try.prog 10 #[] w fun e w' => e = .returned (.bool true) ∧ Hid (Below B w w') := by
    have := shown_any w
    rw [hB] at this
    exact this
  have hlo : B ≤ w.heap.size := by omega
  obtain ⟨u0, e16, hu0⟩ := and16 ac
  obtain ⟨v0, hv0⟩ : ∃ v, u0 % 10 = v := ⟨_, rfl⟩
  have r16 : (u0 : Int).tmod 10 = (v0 : Int) := by rw [Int.tmod_eq_emod_of_nonneg (by omega)]; omega
  have r16' : (u0 : Int) % 10 = (v0 : Int) := by omega
  have hv10 : v0 < 10 := by omega
  obtain ⟨n0, hn0⟩ : ∃ n, 1 + v0 = n := ⟨_, rfl⟩
  have s16 : (1 : Int) + (v0 : Int) = (n0 : Int) := by omega
  obtain ⟨u1, f16, hu1⟩ := and16 qu
  obtain ⟨q0, hq0⟩ : ∃ v, u1 % 21 = v := ⟨_, rfl⟩
  have t16 : (u1 : Int).tmod 21 = (q0 : Int) := by rw [Int.tmod_eq_emod_of_nonneg (by omega)]; omega
  have t16' : (u1 : Int) % 21 = (q0 : Int) := by omega
  have hq20 : q0 ≤ 20 := by omega
  have hn10 : n0 ≤ 10 := by omega
  have hn1 : 1 ≤ n0 := by omega
  obtain ⟨al, hal⟩ : ∃ n, n0 + q0 = n := ⟨_, rfl⟩
  have al1 : (n0 : Int) + (q0 : Int) = (al : Int) := by omega
  have hal30 : al ≤ 30 := by omega
  have kn : ∀ W, Below B w W → Calls Try.prog 11 #[.int .i64 n0, .int .i64 q0] W fun e w' => ∃ b, e = .returned (ptr b) ∧ Hid (MX B w w' [(b, tst n0 q0 (rg 0 (min 0 n0)) (rg n0 0))] []) := fun W hb => by
    have := (mx_start hb hlo).new n0 q0 (by omega) (by omega)
    have e : mk0 (n0 : Int) q0 = tst n0 q0 (rg 0 (min 0 n0)) (rg n0 0) := by
      unfold mk0
      rw [show max (n0 : Int) 1 = n0 by omega, show max (q0 : Int) 0 = q0 by omega, Nat.zero_min, rg_nil (Nat.le_refl 0), rg_nil (Nat.zero_le n0)]
    rw [e] at this
    exact this
  have hcm : cap ≤ 9223372036854775807 := by unfold maxLen at hc; omega
  obtain ⟨m, hm⟩ : ∃ m, l.length = m := ⟨_, rfl⟩
  have HI : Hid (∀ (i : Nat), i < m → ∃ (v : Int) (b o : Nat), a = some ⟨b, o, none⟩ ∧ (0 ≤ v ∧ v ≤ 255) ∧ ∀ W, Below B w W → W.cell? ⟨b, o + i, none⟩ = some (.int .u8 v)) := fun i hi => by
    obtain ⟨b, o, e, h⟩ := hI.get (i := i) (by omega)
    rw [hB] at h
    exact ⟨_, b, o, e, bounds_u8 (hb _ (List.getElem_mem (by omega))), h⟩
  have HZ : Hid (∀ W b A Q, MX B w W [(b, tst n0 q0 A Q)] [] → siz (tst n0 q0 A Q) ≤ 100 ∧ A.length ≤ n0) := fun W b A Q h => by
    have h1 := (h.inv 0 rfl).la
    have h2 := (h.inv 0 rfl).lq
    simp only at h1 h2
    unfold siz
    simp only
    omega
  have kA : ∀ b W (i : Nat), i < al → MX B w W [(b, tst n0 q0 (rg 0 (min i n0)) (rg n0 i))] [] → Calls Try.prog 12 #[ptr b, .int .i64 (100 + (i : Int))] W fun e w' => e = .returned (.tuple #[.int .i64 (if i < n0 then 1 else 0), .int .i64 0]) ∧ Hid (MX B w w' [(b, tst n0 q0 (rg 0 (min (i + 1) n0)) (rg n0 (i + 1)))] []) := fun b W i hi h => by
    have := h.add 0 rfl (by have := (HZ.out _ _ _ _ h).1; omega) (100 + (i : Int))
    obtain ⟨e1, e2, e3⟩ := tu_add (n := n0) (q := q0) (i := i) (by omega)
    rw [e1, e2, e3] at this
    exact this
  have HA := hide_it kA
  have HF : Hid (∀ b W, MX B w W [(b, tst n0 q0 (rg 0 (min al n0)) (rg n0 al))] [] → Calls Try.prog 12 #[ptr b, .int .i64 99] W fun e w' => e = .returned (.tuple #[.int .i64 0, .int .i64 4]) ∧ Hid (MX B w w' [(b, tst n0 q0 (rg 0 n0) (rg n0 al))] [])) := fun b W h => by
    have := h.add 0 rfl (by have := (HZ.out _ _ _ _ h).1; omega) 99
    obtain ⟨e1, e2, e3⟩ := tu_full (n := n0) (q := q0)
    rw [show min al n0 = n0 by omega] at this
    rw [hal] at e1 e2 e3
    rw [e1, e2, e3] at this
    exact this
  have HE : Hid (∀ b W A Q, MX B w W [(b, tst n0 q0 A Q)] [] → (Calls Try.prog 16 #[ptr b] W fun e w' => ∃ a c, e = .returned (.slice a A.length c) ∧ A.length ≤ c ∧ c ≤ 9223372036854775807 ∧ Hid (MX B w w' [(b, tst n0 q0 A Q)] [] ∧ Rd w' a A c)) ∧ (∀ a c, Rd W a A c → Calls Try.prog 17 #[ptr b] W fun e w' => ∃ a2 c2, e = .returned (.slice a2 Q.length c2) ∧ Hid (MX B w w' [(b, tst n0 q0 A Q)] [] ∧ Rd w' a A c))) := fun b W A Q h => by
    have hz := (HZ.out _ _ _ _ h).1
    refine ⟨(h.act 0 rfl (by omega)).mono ?_, fun a c hr => (h.wai 0 rfl (by omega)).mono ?_⟩
    · rintro e w' ⟨a, c, rfl, s⟩
      exact ⟨a, c, rfl, s.out.2.1.1, by have := s.out.2.1.2.1; unfold maxLen at this; omega, s.out.1, s.out.2.1⟩
    · rintro e w' ⟨a2, c2, rfl, s⟩; exact ⟨a2, c2, rfl, s.out.1, hr.below s.out.2.2⟩
  have HN : Hid (∀ b W A Q z, z ∈ A → MX B w W [(b, tst n0 q0 A Q)] [] → (Q = [] → Calls Try.prog 14 #[ptr b, .int .i64 z] W fun e w' => e = .returned (.tuple #[.int .i64 (-1), .int .i64 0]) ∧ Hid (MX B w w' [(b, tst n0 q0 (A.erase z) [])] [])) ∧ ∀ y r, Q = y :: r → Calls Try.prog 14 #[ptr b, .int .i64 z] W fun e w' => e = .returned (.tuple #[.int .i64 y, .int .i64 0]) ∧ Hid (MX B w w' [(b, tst n0 q0 (A.erase z ++ [y]) r)] [])) := fun b W A Q z hm h => by
    have hz := (HZ.out _ _ _ _ h).1
    refine ⟨fun e => ?_, fun y r e => ?_⟩
    · subst e
      obtain ⟨e1, e2, e3⟩ := tu_nil (n := n0) (q := q0) hm
      have := h.end_ 0 rfl (by omega) z
      rw [e1, e2, e3] at this
      exact this
    · subst e
      obtain ⟨e1, e2, e3⟩ := tu_cons (h.inv 0 rfl) hm
      have := h.end_ 0 rfl (by omega) z
      rw [e1, e2, e3] at this
      exact this
  rw [hm] at hl ⊢
  rw [hB]
  clear hB hI hc hm hlo hu0 hn0 hv0 hu1 hq0 kA hb
  have HAL := hide_it hal
  clear hal
  go_enter Try.func4, Try.ntmps4
  go_wp2_with (first | (go_at_call 10; refine ks.mono ?_; rintro e w1 ⟨rfl, s1⟩; clear ks) | (go_at_call 11; refine (kn _ s1.out).mono ?_; rintro e w2 ⟨b, rfl, s⟩; clear kn s1))
  go_loopw [10] (fun iv W => ∃ (i : Nat), iv = .int .i64 i ∧ i ≤ al ∧ Hid (MX B w W [(b, tst n0 q0 (rg 0 (min i n0)) (rg n0 i))] [])) (fun iv _ => al - (intOf iv).toNat)
  case atStart => exact ⟨0, rfl, Nat.zero_le _, s⟩
  case round =>
    clear s r16 r16' e16 s16 t16 t16' f16 al1 hv10
    obtain ⟨i, rfl, hi, s⟩ := hrel
    by_cases hlt : i < al
    · have d1 : decide ((i : Int) < (al : Int)) = true := decide_eq_true (by omega)
      have d2 : decide (i < al) = true := decide_eq_true hlt
      have k1 := HA.out b wr i hlt s.out
      by_cases hin : i < n0
      · have d3 : decide ((i : Int) < (n0 : Int)) = true := decide_eq_true (by omega)
        have d4 : decide (i < n0) = true := decide_eq_true hin
        rw [if_pos hin] at k1
        clear HI HZ HA HF HE HN
        go_wp2_with (go_at_call 12; refine k1.mono ?_; rintro e w4 ⟨rfl, s4⟩)
        go_roundw
        case rel => exact ⟨i + 1, by go_num, by omega, s4⟩
        case measure => simp [intOf]; omega
      · have d3 : decide ((i : Int) < (n0 : Int)) = false := decide_eq_false (by omega)
        have d4 : decide (i < n0) = false := decide_eq_false hin
        rw [if_neg hin] at k1
        clear HI HZ HA HF HE HN
        go_wp2_with (go_at_call 12; refine k1.mono ?_; rintro e w4 ⟨rfl, s4⟩)
        go_roundw
        case rel => exact ⟨i + 1, by go_num, by omega, s4⟩
        case measure => simp [intOf]; omega
    · have hin : i = al := by omega
      subst hin
      have d1 : decide ((i : Int) < (i : Int)) = false := decide_eq_false (by omega)
      have d2 : decide (i < i) = false := decide_eq_false (by omega)
      have k1 := HF.out b wr s.out
      have SL : Hid (∀ W, MX B w W [(b, tst n0 q0 (rg 0 n0) (rg n0 i))] [] → MX B w W [(b, tst n0 q0 (rg 0 n0) (rg (min (n0 + 0) i) i))] []) := fun W h => by
        rw [show min (n0 + 0) i = n0 by have := HAL.out; omega]; exact h
      have hm0 : Hid (n0 = min (n0 + 0) i ∧ (rg 0 n0).length = min n0 (i - 0)) := ⟨by have := HAL.out; omega, by rw [rg_len]; have := HAL.out; omega⟩
      clear HA HF
      go_wp2_with (go_at_call 12; refine k1.mono ?_; rintro e w4 ⟨rfl, s4⟩; clear k1 s; have s5 := hide_it (SL.out _ s4.out); clear s4 SL)
      go_loopw [15, 16] (fun nv jv W => ∃ (j nx : Nat) (A : List Int), nv = .int .i64 nx ∧ jv = .int .i64 j ∧ j ≤ i ∧ Hid (nx = min (n0 + j) i ∧ A.length = min n0 (i - j)) ∧ Hid (MX B w W [(b, tst n0 q0 A (rg nx i))] [])) (fun nv jv _ => i - (intOf jv).toNat)
      case atStart => exact ⟨0, n0, rg 0 n0, rfl, rfl, Nat.zero_le _, hm0, by have := s5.out; rw [← hm0.out.1] at this; exact this⟩
      case round =>
        clear s5 hm0
        obtain ⟨j, nx, A, rfl, rfl, hj, HX, s⟩ := hrel
        by_cases hji : j < i
        · have d3 : decide ((j : Int) < (i : Int)) = true := decide_eq_true (by omega)
          have d4 : decide (j < i) = true := decide_eq_true hji
          obtain ⟨x1, x2⟩ := HX.out
          obtain ⟨d, hd⟩ : ∃ d, i - j = d := ⟨_, rfl⟩
          obtain ⟨NA, hNA⟩ : ∃ N, A.length = N := ⟨_, rfl⟩
          obtain ⟨NW, hNW⟩ : ∃ N, (rg nx i).length = N := ⟨_, rfl⟩
          have hna0 : 0 < NA := by omega
          have hna1 : NA ≤ 10 := by omega
          have w1' : IntKind.i64.wrap ((i : Int) - (j : Int)) = (d : Int) := by rw [IntKind.wrap_i64]; omega
          have w2' : wrap64 ((i : Int) - (j : Int)) = (d : Int) := by rw [← w1', IntKind.wrap_i64]; unfold wrap64; omega
          obtain ⟨D, hD⟩ : ∃ D : Int, (d : Int) - (n0 : Int) = D := ⟨_, rfl⟩
          have w3' : IntKind.i64.wrap ((d : Int) - (n0 : Int)) = D := by rw [IntKind.wrap_i64]; omega
          have w4' : wrap64 ((d : Int) - (n0 : Int)) = D := by rw [← w3', IntKind.wrap_i64]; unfold wrap64; omega
          have m1 : ∀ ts u W, (Builtin.min_ ts u #[.int .i64 n0, .int .i64 d]).run Try.prog W = .ok (.int .i64 NA) W := fun ts u W => by
            rw [show (NA : Int) = min (n0 : Int) d by omega]; exact min_num _ _ ts u W
          rw [rg_len] at hNW
          have m2 : ∀ ts u W, (Builtin.max_ ts u #[.int .i64 0, .int .i64 D]).run Try.prog W = .ok (.int .i64 NW) W := fun ts u W => by
            rw [show (NW : Int) = max 0 D by omega]; exact max_num _ _ ts u W
          have k1 := (HE.out b wr A _ s.out).1
          have k2 : ∀ W a c, MX B w W [(b, tst n0 q0 A (rg nx i))] [] ∧ Rd W a A c → _ := fun W a c h => (HE.out b W A _ h.1).2 a c h.2
          rw [rg_len, hNW] at k2
          rw [hNA] at k1
          have HNA := hide_it hNA
          have nz1 : ((NA : Int) == 0) = false := by simp; omega
          have nz2 : ¬ NA = 0 := by omega
          have nz3 : ((NA : Int) != NA) = false := by simp
          have nz4 : ((NW : Int) != NW) = false := by simp
          have HGET : Hid (∀ (k : Nat), k < NA → ∃ z, z ∈ A ∧ ∀ W a c, Rd W a A c → ∃ b o, a = some ⟨b, o, none⟩ ∧ W.cell? ⟨b, o + k, none⟩ = some (.int .i64 z)) := fun k hk => by
            have hk2 : k < A.length := by omega
            refine ⟨A[k], List.getElem_mem hk2, fun W a c h => ?_⟩
            obtain ⟨b, o, z, e1, e2, e3⟩ := h.get hk2
            rw [List.getElem?_eq_getElem hk2] at e2
            cases e2
            exact ⟨b, o, e1, e3⟩
          -- what End makes of it
          have PART : Hid (∀ z, z ∈ A → ∃ V nx2 A2, ((nx < i ∧ V = 100 + (nx : Int) ∧ nx2 = nx + 1) ∨ (¬ nx < i ∧ V = -1 ∧ nx = nx2)) ∧ Hid (nx2 = min (n0 + (j + 1)) i ∧ A2.length = min n0 (i - (j + 1))) ∧ ∀ W, MX B w W [(b, tst n0 q0 A (rg nx i))] [] → Calls Try.prog 14 #[ptr b, .int .i64 z] W fun e w' => e = .returned (.tuple #[.int .i64 V, .int .i64 0]) ∧ Hid (MX B w w' [(b, tst n0 q0 A2 (rg nx2 i))] [])) := fun z hz => by
            have hle := List.length_erase_of_mem hz
            by_cases h : nx < i
            · exact ⟨_, nx + 1, A.erase z ++ [100 + (nx : Int)], .inl ⟨h, rfl, rfl⟩, ⟨by omega, by rw [List.length_append, hle, List.length_singleton]; omega⟩, fun W g => (HN.out b W A _ z hz g).2 _ _ (rg_cons h)⟩
            · refine ⟨_, nx, A.erase z, .inr ⟨h, rfl, rfl⟩, ⟨by omega, by rw [hle]; omega⟩, fun W g => ?_⟩
              rw [rg_nil (by omega)] at g ⊢
              exact (HN.out b W A [] z hz g).1 rfl
          have hnx : nx ≤ i := by omega
          clear HE HN HZ HNA hNA x1 x2 hNW HX hD hd HAL
          by_cases hjm : j < m
          · have d7 : decide ((j : Int) < (m : Int)) = true := decide_eq_true (by omega)
            have d8 : decide (j < m) = true := decide_eq_true hjm
            obtain ⟨v, bb, oo, rfl, ⟨hv0, hv1⟩, HXX⟩ := HI.out j hjm
            have HXC : Hid (∀ W, MX B w W [(b, tst n0 q0 A (rg nx i))] [] → W.cell? ⟨bb, oo + j, none⟩ = some (.int .u8 v)) := fun W h => HXX _ h.bel
            obtain ⟨kk, hkk⟩ : ∃ k : Nat, v % (NA : Int) = (k : Int) := ⟨(v % (NA : Int)).toNat, by have := Int.emod_nonneg v (b := (NA : Int)) (by omega); omega⟩
            have hkl : kk < NA := by have := Int.emod_lt_of_pos v (b := (NA : Int)) (by omega); omega
            have wv : IntKind.i64.wrap v = v := by rw [IntKind.wrap_i64]; omega
            have tv : v.tmod (NA : Int) = (kk : Int) := by rw [Int.tmod_eq_emod_of_nonneg hv0]; exact hkk
            clear HI HXX
            obtain ⟨z, hz, hg⟩ := HGET.out kk (by omega)
            have HG := hide_it hg
            obtain ⟨V, nx2, A2, hcase, HX2, k4⟩ := PART.out z hz
            clear PART HGET hz hg
            rcases hcase with ⟨q1, rfl, rfl⟩ | ⟨q1, rfl, e12⟩
            · have d5 : decide ((nx : Int) < (i : Int)) = true := decide_eq_true (by omega)
              have d6 : decide (nx < i) = true := decide_eq_true q1
              have zz : ((100 : Int) + nx != 100 + nx) = false := by simp
              go_wp2_with (go_at_call 16; refine k1.mono ?_; rintro e w5 ⟨a5, c5, rfl, l5, m5, s5⟩; clear k1; refine Hid.out ?_)
              refine hide_it ?_
              go_wp2_with (go_at_call 17; refine (k2 _ _ _ s5.out).mono ?_; rintro e w6 ⟨a6, c6, rfl, s6⟩; have cv := HXC.out _ s6.out.1; obtain ⟨bz, oz, rfl, cz⟩ := HG.out _ _ _ s6.out.2; clear k2; refine Hid.out ?_)
              refine hide_it ?_
              go_wp2_with (go_at_call 14; refine (k4 _ s6.out.1).mono ?_; rintro e w7 ⟨rfl, s7⟩; clear k4)
              go_roundw
              case rel => exact ⟨j + 1, nx + 1, A2, by first | rfl | go_num, by go_num, by omega, HX2, s7⟩
              case measure => simp [intOf]; omega
            · subst e12
              have d5 : decide ((nx : Int) < (i : Int)) = false := decide_eq_false (by omega)
              have d6 : decide (nx < i) = false := decide_eq_false q1
              have zz : ((-1 : Int) != -1) = false := by decide
              go_wp2_with (go_at_call 16; refine k1.mono ?_; rintro e w5 ⟨a5, c5, rfl, l5, m5, s5⟩; clear k1; refine Hid.out ?_)
              refine hide_it ?_
              go_wp2_with (go_at_call 17; refine (k2 _ _ _ s5.out).mono ?_; rintro e w6 ⟨a6, c6, rfl, s6⟩; have cv := HXC.out _ s6.out.1; obtain ⟨bz, oz, rfl, cz⟩ := HG.out _ _ _ s6.out.2; clear k2; refine Hid.out ?_)
              refine hide_it ?_
              go_wp2_with (go_at_call 14; refine (k4 _ s6.out.1).mono ?_; rintro e w7 ⟨rfl, s7⟩; clear k4)
              go_roundw
              case rel => exact ⟨j + 1, nx, A2, by first | rfl | go_num, by go_num, by omega, HX2, s7⟩
              case measure => simp [intOf]; omega
          · have d7 : decide ((j : Int) < (m : Int)) = false := decide_eq_false (by omega)
            have d8 : decide (j < m) = false := decide_eq_false hjm
            clear HI
            obtain ⟨z, hz, hg⟩ := HGET.out 0 (by omega)
            have HG := hide_it hg
            obtain ⟨V, nx2, A2, hcase, HX2, k4⟩ := PART.out z hz
            clear PART HGET hz hg
            rcases hcase with ⟨q1, rfl, rfl⟩ | ⟨q1, rfl, e12⟩
            · have d5 : decide ((nx : Int) < (i : Int)) = true := decide_eq_true (by omega)
              have d6 : decide (nx < i) = true := decide_eq_true q1
              have zz : ((100 : Int) + nx != 100 + nx) = false := by simp
              go_wp2_with (go_at_call 16; refine k1.mono ?_; rintro e w5 ⟨a5, c5, rfl, l5, m5, s5⟩; clear k1; refine Hid.out ?_)
              refine hide_it ?_
              go_wp2_with (go_at_call 17; refine (k2 _ _ _ s5.out).mono ?_; rintro e w6 ⟨a6, c6, rfl, s6⟩; obtain ⟨bz, oz, rfl, cz⟩ := HG.out _ _ _ s6.out.2; rw [Nat.add_zero] at cz; clear k2; refine Hid.out ?_)
              refine hide_it ?_
              go_wp2_with (go_at_call 14; refine (k4 _ s6.out.1).mono ?_; rintro e w7 ⟨rfl, s7⟩; clear k4)
              go_roundw
              case rel => exact ⟨j + 1, nx + 1, A2, by first | rfl | go_num, by go_num, by omega, HX2, s7⟩
              case measure => simp [intOf]; omega
            · subst e12
              have d5 : decide ((nx : Int) < (i : Int)) = false := decide_eq_false (by omega)
              have d6 : decide (nx < i) = false := decide_eq_false q1
              have zz : ((-1 : Int) != -1) = false := by decide
              go_wp2_with (go_at_call 16; refine k1.mono ?_; rintro e w5 ⟨a5, c5, rfl, l5, m5, s5⟩; clear k1; refine Hid.out ?_)
              refine hide_it ?_
              go_wp2_with (go_at_call 17; refine (k2 _ _ _ s5.out).mono ?_; rintro e w6 ⟨a6, c6, rfl, s6⟩; obtain ⟨bz, oz, rfl, cz⟩ := HG.out _ _ _ s6.out.2; rw [Nat.add_zero] at cz; clear k2; refine Hid.out ?_)
              refine hide_it ?_
              go_wp2_with (go_at_call 14; refine (k4 _ s6.out.1).mono ?_; rintro e w7 ⟨rfl, s7⟩; clear k4)
              go_roundw
              case rel => exact ⟨j + 1, nx, A2, by first | rfl | go_num, by go_num, by omega, HX2, s7⟩
              case measure => simp [intOf]; omega
        · have hij : j = i := by omega
          subst hij
          have d3 : decide ((j : Int) < (j : Int)) = false := decide_eq_false (by omega)
          have d4 : decide (j < j) = false := decide_eq_false (by omega)
          obtain ⟨x1, x2⟩ := HX.out
          have hA0 : A.length = 0 := by omega
          have hnx : nx = j := by have := HAL.out; omega
          have k1 : Calls Try.prog 16 #[ptr b] wr fun e w' => ∃ a c, e = .returned (.slice a 0 c) ∧ Hid (MX B w w' [(b, tst n0 q0 A (rg nx j))] [] ∧ Rd w' a A c) := ((HE.out b wr A _ s.out).1).mono (by rintro e w' ⟨a, c, rfl, _, _, s⟩; exact ⟨a, c, by rw [hA0], s⟩)
          have k2 : ∀ W a c, MX B w W [(b, tst n0 q0 A (rg nx j))] [] ∧ Rd W a A c → Calls Try.prog 17 #[ptr b] W fun e w' => ∃ a2 c2, e = .returned (.slice a2 0 c2) ∧ Hid (Below B w w') := fun W a c h => ((HE.out b W A _ h.1).2 a c h.2).mono (by rintro e w' ⟨a2, c2, rfl, s⟩; exact ⟨a2, c2, by rw [rg_len, hnx, Nat.sub_self], s.out.1.bel⟩)
          clear HI HE HN HZ HX x1 x2 hA0 hnx HAL
          go_wp2_with (go_at_call 16; refine k1.mono ?_; rintro e w5 ⟨a5, c5, rfl, s5⟩; refine Hid.out ?_)
          refine hide_it ?_
          go_wp2_with (go_at_call 17; refine (k2 _ _ _ s5.out).mono ?_; rintro e w6 ⟨a6, c6, rfl, s6⟩)
          go_ret
          exact ⟨rfl, s6.out⟩
end Go.Proofs.Ytjmdalpffhfdfaa
