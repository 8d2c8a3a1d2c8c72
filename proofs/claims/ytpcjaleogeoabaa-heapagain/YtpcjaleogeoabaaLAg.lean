/- HeapAgain, walked. -/
import Derived.Test.YtpcjaleogeoabaaRow
import Derived.Deep.RegionHeld3
import Derived.Deep.CutRange
import Derived.Deep.CutBlock
import Derived.BigQuiet
namespace Go.Proofs.Ytpcjaleogeoabaa
open Go.RowKit
open M
set_option linter.unusedVariables false
set_option linter.unusedSimpArgs false

theorem kindsA (k : Int) : k = 1 ∨ k = 2 ∨ k = 3 ∨ k = 4 ∨ k = 5 ∨ ((k == 1) = false ∧ (k == 2) = false ∧ (k == 3) = false ∧ (k == 4) = false ∧ (k == 5) = false) := by
  simp only [beq_eq_false_iff_ne]
  omega
theorem StepsIn.atA {w : World} {a : Option Addr} {l : List (Int × Int × Int)} (h : StepsIn w a l) {i : Nat} (hi : i < l.length) : ∃ x y z b o, a = some ⟨b, o, none⟩ ∧ ∀ W, Below w.heap.size w W → W.cell? ⟨b, o + i * 3, none⟩ = some (.int .i64 x) ∧ W.cell? ⟨b, o + i * 3 + 1, none⟩ = some (.int .i64 y) ∧ W.cell? ⟨b, o + i * 3 + 2, none⟩ = some (.int .i64 z) := by
  obtain ⟨b, o, h1, h2, h3, h4, h5⟩ := h i hi
  exact ⟨_, _, _, b, o, h1, fun W hb => ⟨by rw [hb.cell (p := ⟨b, _, none⟩) h2]; exact h3, by rw [hb.cell (p := ⟨b, _, none⟩) h2]; exact h4, by rw [hb.cell (p := ⟨b, _, none⟩) h2]; exact h5⟩⟩

theorem fst_cases (N : Nat) (S : Nat → Option Int) : Emp N S ∨ ∃ x y, Fst N S x y := by
  induction N with
  | zero => exact .inl (fun x hx => by omega)
  | succ n ih =>
    cases hs : S n with
    | none =>
      rcases ih with h | ⟨x, y, h⟩
      · refine .inl (fun x hx => ?_)
        by_cases e : x = n
        · subst e; exact hs
        · exact h x (by omega)
      · refine .inr ⟨x, y, by have := h.lt; omega, h.is, fun z u hz hu => ?_⟩
        by_cases e : z = n
        · subst e; rw [hs] at hu; cases hu
        · exact h.le z u (by omega) hu
    | some v =>
      rcases ih with h | ⟨x, y, h⟩
      · refine .inr ⟨n, v, by omega, hs, fun z u hz hu => ?_⟩
        by_cases e : z = n
        · subst e; rw [hs] at hu; cases hu; exact .inr ⟨rfl, Nat.le_refl _⟩
        · rw [h z (by omega)] at hu; cases hu
      · have hx := h.lt
        by_cases hv : v < y
        · refine .inr ⟨n, v, by omega, hs, fun z u hz hu => ?_⟩
          by_cases e : z = n
          · subst e; rw [hs] at hu; cases hu; exact .inr ⟨rfl, Nat.le_refl _⟩
          · have := h.le z u (by omega) hu; omega
        · refine .inr ⟨x, y, by omega, h.is, fun z u hz hu => ?_⟩
          by_cases e : z = n
          · subst e; rw [hs] at hu; cases hu; omega
          · exact h.le z u (by omega) hu

/-- What a step answers of a heap that has S, and what it has then. -/
def StA (N : Nat) (S : Nat → Option Int) (x y z : Int) (S' : Nat → Option Int) (e0 e1 e2 : Int) : Prop :=
  ((x = 1 ∨ x = 2) ∧ e0 = pushE N S y ∧ e1 = 0 ∧ e2 = 0 ∧ S' = pushS N S y z) ∨ (x = 3 ∧ e0 = lowE N S y z ∧ e1 = 0 ∧ e2 = 0 ∧ S' = lowS N S y z) ∨ (x = 4 ∧ e0 = keyV N S y ∧ e1 = remE N S y ∧ e2 = 0 ∧ S' = remS N S y) ∨
  (x = 5 ∧ Emp N S ∧ e0 = 0 ∧ e1 = 0 ∧ e2 = 0 ∧ S' = S) ∨ (x = 5 ∧ (∃ t : Nat, e0 = t ∧ Fst N S t e1 ∧ S' = upS S t none) ∧ e2 = 1) ∨
  (((x == 1) = false ∧ (x == 2) = false ∧ (x == 3) = false ∧ (x == 4) = false ∧ (x == 5) = false) ∧ e0 = 0 ∧ e1 = 0 ∧ e2 = 0 ∧ S' = S)
theorem stA_ex {N : Nat} {S : Nat → Option Int} (h : Emp N S ∨ ∃ x y, Fst N S x y) (x y z : Int) : ∃ S' e0 e1 e2, StA N S x y z S' e0 e1 e2 := by
  rcases kindsA x with q | q | q | q | q | q
  · exact ⟨_, _, _, _, .inl ⟨.inl q, rfl, rfl, rfl, rfl⟩⟩
  · exact ⟨_, _, _, _, .inl ⟨.inr q, rfl, rfl, rfl, rfl⟩⟩
  · exact ⟨_, _, _, _, .inr (.inl ⟨q, rfl, rfl, rfl, rfl⟩)⟩
  · exact ⟨_, _, _, _, .inr (.inr (.inl ⟨q, rfl, rfl, rfl, rfl⟩))⟩
  · rcases h with h | ⟨t, u, h⟩
    · exact ⟨_, _, _, _, .inr (.inr (.inr (.inl ⟨q, h, rfl, rfl, rfl, rfl⟩)))⟩
    · exact ⟨_, _, _, _, .inr (.inr (.inr (.inr (.inl ⟨q, ⟨t, rfl, h, rfl⟩, rfl⟩))))⟩
  · exact ⟨_, _, _, _, .inr (.inr (.inr (.inr (.inr ⟨q, rfl, rfl, rfl, rfl⟩))))⟩

theorem eq57 (e0 e1 e2 : Int) (w : World) : (Op.equalIn 10000 57 (.agg #[.int .i64 e0, .int .i64 e1, .int .i64 e2]) (.agg #[.int .i64 e0, .int .i64 e1, .int .i64 e2])).run Try.prog w = .ok true w := by
  have u3 := Try.underlying3
  have a3 := Try.isAgg3
  have z3 := Try.sizeOf3
  rw [show (10000 : Nat) = 9999 + 1 from rfl, Op.equalIn]
  simp only [Sem.run_bind, run_underlying Try.underlying57, Result.andThen_ok]
  simp only [Std.Legacy.Range.forIn_eq_forIn_range', Std.Legacy.Range.size, Nat.sub_zero, Nat.add_sub_cancel, Nat.div_one, List.range'_succ, List.range'_zero, List.forIn_cons, List.forIn_nil]
  go_simp
theorem neq57 (e0 e1 e2 : Int) (w : World) : (binOp .neq 57 (.agg #[.int .i64 e0, .int .i64 e1, .int .i64 e2]) (.agg #[.int .i64 e0, .int .i64 e1, .int .i64 e2])).run Try.prog w = .ok (.bool false) w := by
  have h := eq57
  go_simp

/-- The three heaps, their array, what the steps told, and the step at hand. -/
structure AG (B : Nat) (w W : World) (N g0 g1 g2 : Nat) (S0 S1 S2 : Nat → Option Int) (hb q sb : Nat) (got sv : Array Value) : Prop where
  mx : MX B w W [(g0, N, S0), (g1, N, S1), (g2, N, S2)] [(sb, .cells sv 31), (q, .cells got 58), (hb, .cells #[ptr g0, ptr g1, ptr g2] 56)]
  n1 : sb ≠ q
  n2 : q ≠ hb
section
variable {B : Nat} {w W W' : World} {N g0 g1 g2 : Nat} {S0 S1 S2 : Nat → Option Int} {hb q sb : Nat} {got sv : Array Value}
theorem AG.h0 (h : AG B w W N g0 g1 g2 S0 S1 S2 hb q sb got sv) : W.cell? ⟨hb, 0, none⟩ = some (ptr g0) ∧ W.cell? ⟨hb, 1, none⟩ = some (ptr g1) ∧ W.cell? ⟨hb, 2, none⟩ = some (ptr g2) := by
  have hr := h.mx.row (r := hb) (o := .cells #[ptr g0, ptr g1, ptr g2] 56) (by simp)
  exact ⟨by rw [cell_of_row W hb 0 _ _ _ hr]; rfl, by rw [cell_of_row W hb 1 _ _ _ hr]; rfl, by rw [cell_of_row W hb 2 _ _ _ hr]; rfl⟩
theorem AG.sat (h : AG B w W N g0 g1 g2 S0 S1 S2 hb q sb got sv) (i : Nat) : W.cell? ⟨sb, i, none⟩ = sv[i]? := by
  have hr := h.mx.row (r := sb) (o := .cells sv 31) (by simp)
  exact cell_of_row W sb i _ _ _ hr
theorem AG.gat (h : AG B w W N g0 g1 g2 S0 S1 S2 hb q sb got sv) (i : Nat) : W.cell? ⟨q, i, none⟩ = got[i]? ∧ W.frozen? ⟨q, i, none⟩ = false := by
  have hr := h.mx.row (r := q) (o := .cells got 58) (by simp)
  exact ⟨cell_of_row W q i _ _ _ hr, by simp [World.frozen?, hr]⟩
theorem AG.below (h : AG B w W N g0 g1 g2 S0 S1 S2 hb q sb got sv) (hb' : Below W.heap.size W W') : AG B w W' N g0 g1 g2 S0 S1 S2 hb q sb got sv := ⟨h.mx.below hb', h.n1, h.n2⟩
theorem AG.put (h : AG B w W N g0 g1 g2 S0 S1 S2 hb q sb got sv) (i : Nat) (u : Value) : AG B w (W.setCell ⟨q, i, none⟩ u) N g0 g1 g2 S0 S1 S2 hb q sb (got.setIfInBounds i u) sv := by
  have := h.mx.set (r := q) (cur := got) (t := 58) (by simp) i u
  have e2 : ¬ hb = q := fun e => h.n2 e.symm
  simp only [List.map_cons, List.map_nil, h.n1, e2, if_true, if_false] at this
  exact ⟨this, h.n1, h.n2⟩
theorem AG.of (h : AG B w W N g0 g1 g2 S0 S1 S2 hb q sb got sv) {S0' S1' S2' : Nat → Option Int} (hm : MX B w W' [(g0, N, S0'), (g1, N, S1'), (g2, N, S2')] [(sb, .cells sv 31), (q, .cells got 58), (hb, .cells #[ptr g0, ptr g1, ptr g2] 56)]) : AG B w W' N g0 g1 g2 S0' S1' S2' hb q sb got sv := ⟨hm, h.n1, h.n2⟩
end

set_option maxRecDepth 1000000 in
set_option maxHeartbeats 8000000 in
theorem heapAgain_walk (n : Int) (l : List (Int × Int × Int)) (a : Option Addr) (cap : Nat) (l2 : List (Int × Int × Int)) (b : Option Addr) (cap2 : Nat) (w : World) (hI : StepsIn w a l) (hl : l.length ≤ cap) (hc : cap ≤ maxLen) (hI2 : StepsIn w b l2) (hl2 : l2.length ≤ cap2) (hc2 : cap2 ≤ maxLen) :
    Calls Try.prog 8 #[.int .i64 n, .slice a l.length cap, .slice b l2.length cap2] w fun e w' => e = .returned (.bool true) ∧ Below w.heap.size w w' := by
  obtain ⟨B, hB⟩ : ∃ B, w.heap.size = B := ⟨_, rfl⟩
  have ks : Calls Try.prog 11 #[] w fun e w' => e = .returned (.bool true) ∧ Hid (Below B w w') := by
    have := shown_any w
    rw [hB] at this
    exact this
  have hle : B ≤ w.heap.size := by omega
  obtain ⟨u, hu, hu2⟩ := and16 n
  obtain ⟨N, hN⟩ : ∃ N, u % 30 = N := ⟨_, rfl⟩
  have hN1 : N < 30 := by omega
  have q1 : (u : Int).tmod 30 = (N : Int) := by rw [Int.tmod_eq_emod_of_nonneg (by omega)]; omega
  have q2 : (u : Int) % 30 = (N : Int) := by omega
  have kn : ∀ W hs R, MX B w W hs R → Calls Try.prog 12 #[.int .i64 N] W fun e w' => ∃ g, e = .returned (ptr g) ∧ Hid (MX B w w' (hs ++ [(g, N, fun _ => none)]) R) := fun W hs R h => by
    have := h.new (N : Int)
    rw [hsz_in N (by omega)] at this
    exact this
  have hcm : cap ≤ 9223372036854775807 := by unfold maxLen at hc; omega
  have hcm2 : cap2 ≤ 9223372036854775807 := by unfold maxLen at hc2; omega
  obtain ⟨m, hm⟩ : ∃ m, l.length = m := ⟨_, rfl⟩
  obtain ⟨m2, hm2⟩ : ∃ m, l2.length = m := ⟨_, rfl⟩
  rw [hm] at hl ⊢
  rw [hm2] at hl2 ⊢
  have HI : Hid (∀ (i : Nat), i < m → ∃ x y z b o, a = some ⟨b, o, none⟩ ∧ ∀ W, Below B w W → W.cell? ⟨b, o + i * 3, none⟩ = some (.int .i64 x) ∧ W.cell? ⟨b, o + i * 3 + 1, none⟩ = some (.int .i64 y) ∧ W.cell? ⟨b, o + i * 3 + 2, none⟩ = some (.int .i64 z)) := fun i hi => by
    have := hI.atA (i := i) (by omega)
    rw [hB] at this
    exact this
  have HJ : Hid (∀ (i : Nat), i < m2 → ∃ x y z b' o, b = some ⟨b', o, none⟩ ∧ ∀ W, Below B w W → W.cell? ⟨b', o + i * 3, none⟩ = some (.int .i64 x) ∧ W.cell? ⟨b', o + i * 3 + 1, none⟩ = some (.int .i64 y) ∧ W.cell? ⟨b', o + i * 3 + 2, none⟩ = some (.int .i64 z)) := fun i hi => by
    have := hI2.atA (i := i) (by omega)
    rw [hB] at this
    exact this
  rw [hB]
  clear hI hI2 hc hc2 hB hm hm2 hN
  go_enter Try.func8, Try.ntmps8
  go_wp2_with (go_at_call 11; refine ks.mono ?_; rintro e w1 ⟨rfl, s1⟩; clear ks)
  have s0 : Hid (MX B w (w1.alloc (.cells #[.pointer none, .pointer none, .pointer none] 56)) [] [(w1.heap.size, .cells #[.pointer none, .pointer none, .pointer none] 56)]) := (mx_start s1.out hle).alloc _
  obtain ⟨hb, hhb⟩ : ∃ r, w1.heap.size = r := ⟨_, rfl⟩
  rw [hhb] at s0
  simp only [hhb]
  clear hhb s1
  generalize w1.alloc (.cells #[.pointer none, .pointer none, .pointer none] 56) = w2 at *
  go_loopw [9] (fun kv W => (kv = .int .i64 0 ∧ Hid (MX B w W [] [(hb, .cells #[.pointer none, .pointer none, .pointer none] 56)])) ∨ (∃ g0, kv = .int .i64 1 ∧ Hid (MX B w W [(g0, N, fun _ => none)] [(hb, .cells #[ptr g0, .pointer none, .pointer none] 56)])) ∨ (∃ g0 g1, kv = .int .i64 2 ∧ Hid (MX B w W [(g0, N, fun _ => none), (g1, N, fun _ => none)] [(hb, .cells #[ptr g0, ptr g1, .pointer none] 56)])) ∨ (∃ g0 g1 g2, kv = .int .i64 3 ∧ Hid (MX B w W [(g0, N, fun _ => none), (g1, N, fun _ => none), (g2, N, fun _ => none)] [(hb, .cells #[ptr g0, ptr g1, ptr g2] 56)]))) (fun kv _ => 3 - (intOf kv).toNat)
  case atStart => exact .inl ⟨rfl, s0⟩
  case round =>
    clear s0
    rcases hrel with ⟨rfl, s⟩ | ⟨g0, rfl, s⟩ | ⟨g0, g1, rfl, s⟩ | ⟨g0, g1, g2, rfl, s⟩
    · have kk := kn _ _ _ s.out
      have HS : Hid (∀ W g0, MX B w W [(g0, N, fun _ => none)] [(hb, .cells #[.pointer none, .pointer none, .pointer none] 56)] → (W.cell? ⟨hb, 0, none⟩ = some (.pointer none) ∧ W.frozen? ⟨hb, 0, none⟩ = false) ∧ MX B w (W.setCell ⟨hb, 0, none⟩ (ptr g0)) [(g0, N, fun _ => none)] [(hb, .cells #[ptr g0, .pointer none, .pointer none] 56)]) := fun W g0 h => by
        have hr := h.row (List.mem_singleton.2 rfl)
        refine ⟨⟨by rw [cell_of_row W hb 0 _ _ _ hr]; rfl, by simp [World.frozen?, hr]⟩, ?_⟩
        have := h.set (List.mem_singleton.2 rfl) 0 (ptr g0)
        simp only [List.map_cons, List.map_nil, if_true] at this
        exact this
      go_wp2_with (go_at_call 12; refine kk.mono ?_; rintro e w3 ⟨g0, rfl, t⟩; obtain ⟨⟨c1, f1⟩, t1⟩ := HS.out _ g0 t.out; have t2 := hide_it t1; clear t1)
      go_roundw
      case rel => exact .inr (.inl ⟨g0, rfl, t2⟩)
      case measure => simp [intOf]
    · have kk := kn _ _ _ s.out
      have HS : Hid (∀ W g1, MX B w W [(g0, N, fun _ => none), (g1, N, fun _ => none)] [(hb, .cells #[ptr g0, .pointer none, .pointer none] 56)] → (W.cell? ⟨hb, 1, none⟩ = some (.pointer none) ∧ W.frozen? ⟨hb, 1, none⟩ = false) ∧ MX B w (W.setCell ⟨hb, 1, none⟩ (ptr g1)) [(g0, N, fun _ => none), (g1, N, fun _ => none)] [(hb, .cells #[ptr g0, ptr g1, .pointer none] 56)]) := fun W g1 h => by
        have hr := h.row (List.mem_singleton.2 rfl)
        refine ⟨⟨by rw [cell_of_row W hb 1 _ _ _ hr]; rfl, by simp [World.frozen?, hr]⟩, ?_⟩
        have := h.set (List.mem_singleton.2 rfl) 1 (ptr g1)
        simp only [List.map_cons, List.map_nil, if_true] at this
        exact this
      go_wp2_with (go_at_call 12; refine kk.mono ?_; rintro e w3 ⟨g1, rfl, t⟩; obtain ⟨⟨c1, f1⟩, t1⟩ := HS.out _ g1 t.out; have t2 := hide_it t1; clear t1)
      go_roundw
      case rel => exact .inr (.inr (.inl ⟨g0, g1, rfl, t2⟩))
      case measure => simp [intOf]
    · have kk := kn _ _ _ s.out
      have HS : Hid (∀ W g2, MX B w W [(g0, N, fun _ => none), (g1, N, fun _ => none), (g2, N, fun _ => none)] [(hb, .cells #[ptr g0, ptr g1, .pointer none] 56)] → (W.cell? ⟨hb, 2, none⟩ = some (.pointer none) ∧ W.frozen? ⟨hb, 2, none⟩ = false) ∧ MX B w (W.setCell ⟨hb, 2, none⟩ (ptr g2)) [(g0, N, fun _ => none), (g1, N, fun _ => none), (g2, N, fun _ => none)] [(hb, .cells #[ptr g0, ptr g1, ptr g2] 56)]) := fun W g2 h => by
        have hr := h.row (List.mem_singleton.2 rfl)
        refine ⟨⟨by rw [cell_of_row W hb 2 _ _ _ hr]; rfl, by simp [World.frozen?, hr]⟩, ?_⟩
        have := h.set (List.mem_singleton.2 rfl) 2 (ptr g2)
        simp only [List.map_cons, List.map_nil, if_true] at this
        exact this
      go_wp2_with (go_at_call 12; refine kk.mono ?_; rintro e w3 ⟨g2, rfl, t⟩; obtain ⟨⟨c1, f1⟩, t1⟩ := HS.out _ g2 t.out; have t2 := hide_it t1; clear t1)
      go_roundw
      case rel => exact .inr (.inr (.inr ⟨g0, g1, g2, rfl, t2⟩))
      case measure => simp [intOf]
    · have s1 : Hid (MX B w wr [(g0, N, fun _ => none), (g1, N, fun _ => none), (g2, N, fun _ => none)] [(hb, .cells #[ptr g0, ptr g1, ptr g2] 56)]) := s
      clear s kn
      go_wp2
      go_loopw [10] (fun iv W => ∃ (i : Nat) (S T : Nat → Option Int), iv = .int .i64 i ∧ i ≤ m ∧ i ≤ 100 ∧ Hid (MX B w W [(g0, N, S), (g1, N, S), (g2, N, T)] [(hb, .cells #[ptr g0, ptr g1, ptr g2] 56)])) (fun iv _ => m - (intOf iv).toNat)
      case atStart => exact ⟨0, _, _, rfl, Nat.zero_le _, by omega, s1⟩
      case round =>
        clear s1
        obtain ⟨i, S, T, rfl, hi, hi2, s⟩ := hrel
        by_cases hlt : i < m
        · by_cases hlt2 : i < 100
          · have h100 : decide ((i : Int) < 100) = true := decide_eq_true (by omega)
            have h100' : decide (i < 100) = true := decide_eq_true (by omega)
            obtain ⟨x, y, z, b1, o1, rfl, HX⟩ := HI.out i hlt
            have HX := hide_it HX
            obtain ⟨S', e0, e1, e2, hst⟩ := stA_ex (s.out.cases 0 rfl) x y z
            have HST := hide_it hst
            clear hst
            have s2 := hide_it (s.out.alloc (.cells #[.int .i64 0, .int .i64 0, .int .i64 0, .int .i64 0, .int .i64 0, .int .i64 0] 58))
            have hqn : wr.heap.size ≠ hb := fun e => by
              have := block_lt (s.out.row (List.mem_singleton.2 rfl))
              omega
            clear s
            go_wp2
            obtain ⟨q, hq⟩ : ∃ r, wr.heap.size = r := ⟨_, rfl⟩
            rw [hq] at s2 hqn
            simp only [hq]
            clear hq
            generalize wr.alloc (.cells #[.int .i64 0, .int .i64 0, .int .i64 0, .int .i64 0, .int .i64 0, .int .i64 0] 58) = w4 at *
            go_loopw [12] (fun kv W => (kv = .int .i64 0 ∧ Hid (MX B w W [(g0, N, S), (g1, N, S), (g2, N, T)] [(q, .cells #[.int .i64 0, .int .i64 0, .int .i64 0, .int .i64 0, .int .i64 0, .int .i64 0] 58), (hb, .cells #[ptr g0, ptr g1, ptr g2] 56)])) ∨ (∃ T', kv = .int .i64 1 ∧ Hid (MX B w W [(g0, N, S'), (g1, N, S), (g2, N, T')] [(q, .cells #[.int .i64 e0, .int .i64 e1, .int .i64 e2, .int .i64 0, .int .i64 0, .int .i64 0] 58), (hb, .cells #[ptr g0, ptr g1, ptr g2] 56)])) ∨ (∃ T', kv = .int .i64 2 ∧ Hid (MX B w W [(g0, N, S'), (g1, N, S'), (g2, N, T')] [(q, .cells #[.int .i64 e0, .int .i64 e1, .int .i64 e2, .int .i64 e0, .int .i64 e1, .int .i64 e2] 58), (hb, .cells #[ptr g0, ptr g1, ptr g2] 56)]))) (fun kv _ => 2 - (intOf kv).toNat)
            case atStart => exact .inl ⟨rfl, s2⟩
            case round =>
              clear s2
              rcases hrel with ⟨rfl, s⟩ | ⟨T', rfl, s⟩ | ⟨T', rfl, s⟩
              · obtain ⟨c0, c1, c2⟩ := HX.out _ s.out.bel
                have sA := hide_it (s.out.alloc (.cells #[.int .i64 x, .int .i64 y, .int .i64 z] 31))
                have hsn : wr.heap.size ≠ q := fun e => by
                  have := block_lt (s.out.row (r := q) (o := .cells #[.int .i64 0, .int .i64 0, .int .i64 0, .int .i64 0, .int .i64 0, .int .i64 0] 58) (by simp))
                  omega
                clear s
                go_upto_block 6 with fail
                obtain ⟨sb, hsb⟩ : ∃ r, wr.heap.size = r := ⟨_, rfl⟩
                rw [hsb] at sA hsn
                simp only [hsb]
                clear hsb c0 c1 c2
                generalize wr.alloc (.cells #[.int .i64 x, .int .i64 y, .int .i64 z] 31) = w5 at *
                have sB : Hid (AG B w w5 N g0 g1 g2 S S T hb q sb #[.int .i64 0, .int .i64 0, .int .i64 0, .int .i64 0, .int .i64 0, .int .i64 0] #[.int .i64 x, .int .i64 y, .int .i64 z]) := ⟨sA.out, hsn, hqn⟩
                clear sA hsn
                have HC : Hid (∀ W (a b c : Nat → Option Int) got, AG B w W N g0 g1 g2 a b c hb q sb got #[.int .i64 x, .int .i64 y, .int .i64 z] → W.cell? ⟨hb, 0, none⟩ = some (ptr g0) ∧ W.cell? ⟨sb, 1, none⟩ = some (.int .i64 y) ∧ W.cell? ⟨sb, 2, none⟩ = some (.int .i64 z)) := fun W a b c got h => ⟨h.h0.1, by rw [h.sat]; rfl, by rw [h.sat]; rfl⟩
                obtain ⟨c0, d1, d2⟩ := HC.out _ _ _ _ _ sB.out
                go_cut [14, 15, 16, 17, 18] from 45 to 140 (fun _ _ _ _ _ wx => Hid (AG B w wx N g0 g1 g2 S' S T hb q sb #[.int .i64 e0, .int .i64 e1, .int .i64 e2, .int .i64 0, .int .i64 0, .int .i64 0] #[.int .i64 x, .int .i64 y, .int .i64 z]))
                case first =>
                  have sD := hide_it (sB.out.below (W' := w5.drew) ((Below.refl _ _).drew))
                  rcases HST.out with ⟨hx, h0, h1, h2, h3⟩ | ⟨hx, h0, h1, h2, h3⟩ | ⟨hx, h0, h1, h2, h3⟩ | ⟨hx, he, h0, h1, h2, h3⟩ | ⟨hx, ⟨t0, h0, hf, h3⟩, h2⟩ | ⟨⟨k1, k2, k3, k4, k5⟩, h0, h1, h2, h3⟩
                  · rcases hx with hx | hx
                    ·
                      have k1 : (x == 1) = true := by simp [hx]
                      have kp : Calls Try.prog 13 #[ptr g0, .int .i64 y, .int .i64 z] w5.drew fun e w' => e = .returned (.int .i64 (pushE N S y)) ∧ Hid (AG B w w' N g0 g1 g2 (pushS N S y z) S T hb q sb #[.int .i64 0, .int .i64 0, .int .i64 0, .int .i64 0, .int .i64 0, .int .i64 0] #[.int .i64 x, .int .i64 y, .int .i64 z]) := (sD.out.mx.push 0 rfl y z).mono (fun e w' h => ⟨h.1, hide_it (sD.out.of h.2.out)⟩)
                      rw [← h0, ← h3] at kp
                      have HH := hide_it (And.intro h1 h2)
                      clear hx h0 h1 h2 h3 sB HST
                      go_upto_region 21 with fail
                      (go_region_held3 (fun V => V.cell? ⟨hb, 0, none⟩ = some (ptr g0) ∧ V.cell? ⟨sb, 1, none⟩ = some (.int .i64 y) ∧ V.cell? ⟨sb, 2, none⟩ = some (.int .i64 z)) (first | exact HC.out _ _ _ _ _ sD.out | exact HC.out _ _ _ _ _ t6.out | exact HC.out _ _ _ _ _ (t6.out.below ⟨rfl, rfl, rfl, Nat.le_refl _, fun _ _ => rfl⟩) | exact HC.out _ _ _ _ _ ((t6.out.put _ _).below ⟨rfl, rfl, rfl, Nat.le_refl _, fun _ _ => rfl⟩) | go_keep) ((go_at_call 13; refine kp.mono ?_; rintro e w6 ⟨rfl, t6⟩; obtain ⟨c6, f6⟩ := t6.out.gat 0; simp only [List.getElem?_toArray, List.getElem?_cons_succ, List.getElem?_cons_zero] at c6)))
                      all_goals
                        go_wp2
                        go_meet
                        obtain ⟨z1, z2⟩ := HH.out
                        rw [z1, z2]
                        exact (t6.out.put 0 _).below ⟨rfl, rfl, rfl, Nat.le_refl _, fun _ _ => rfl⟩
                    ·
                      have k1 : (x == 1) = false := by simp [hx]
                      have k2 : (x == 2) = true := by simp [hx]
                      have kp : Calls Try.prog 13 #[ptr g0, .int .i64 y, .int .i64 z] w5.drew fun e w' => e = .returned (.int .i64 (pushE N S y)) ∧ Hid (AG B w w' N g0 g1 g2 (pushS N S y z) S T hb q sb #[.int .i64 0, .int .i64 0, .int .i64 0, .int .i64 0, .int .i64 0, .int .i64 0] #[.int .i64 x, .int .i64 y, .int .i64 z]) := (sD.out.mx.push 0 rfl y z).mono (fun e w' h => ⟨h.1, hide_it (sD.out.of h.2.out)⟩)
                      rw [← h0, ← h3] at kp
                      have HH := hide_it (And.intro h1 h2)
                      clear hx h0 h1 h2 h3 sB HST
                      go_upto_region 21 with fail
                      (go_region_held3 (fun V => V.cell? ⟨hb, 0, none⟩ = some (ptr g0) ∧ V.cell? ⟨sb, 1, none⟩ = some (.int .i64 y) ∧ V.cell? ⟨sb, 2, none⟩ = some (.int .i64 z)) (first | exact HC.out _ _ _ _ _ sD.out | exact HC.out _ _ _ _ _ t6.out | exact HC.out _ _ _ _ _ (t6.out.below ⟨rfl, rfl, rfl, Nat.le_refl _, fun _ _ => rfl⟩) | exact HC.out _ _ _ _ _ ((t6.out.put _ _).below ⟨rfl, rfl, rfl, Nat.le_refl _, fun _ _ => rfl⟩) | go_keep) ((go_at_call 13; refine kp.mono ?_; rintro e w6 ⟨rfl, t6⟩; obtain ⟨c6, f6⟩ := t6.out.gat 0; simp only [List.getElem?_toArray, List.getElem?_cons_succ, List.getElem?_cons_zero] at c6)))
                      all_goals
                        go_wp2
                        go_meet
                        obtain ⟨z1, z2⟩ := HH.out
                        rw [z1, z2]
                        exact (t6.out.put 0 _).below ⟨rfl, rfl, rfl, Nat.le_refl _, fun _ _ => rfl⟩
                  ·
                    have k1 : (x == 1) = false := by simp [hx]
                    have k2 : (x == 2) = false := by simp [hx]
                    have k3 : (x == 3) = true := by simp [hx]
                    have kp : Calls Try.prog 15 #[ptr g0, .int .i64 y, .int .i64 z] w5.drew fun e w' => e = .returned (.int .i64 (lowE N S y z)) ∧ Hid (AG B w w' N g0 g1 g2 (lowS N S y z) S T hb q sb #[.int .i64 0, .int .i64 0, .int .i64 0, .int .i64 0, .int .i64 0, .int .i64 0] #[.int .i64 x, .int .i64 y, .int .i64 z]) := (sD.out.mx.lower 0 rfl y z).mono (fun e w' h => ⟨h.1, hide_it (sD.out.of h.2.out)⟩)
                    rw [← h0, ← h3] at kp
                    have HH := hide_it (And.intro h1 h2)
                    clear hx h0 h1 h2 h3 sB HST
                    go_upto_region 23 with fail
                    (go_region_held3 (fun V => V.cell? ⟨hb, 0, none⟩ = some (ptr g0) ∧ V.cell? ⟨sb, 1, none⟩ = some (.int .i64 y) ∧ V.cell? ⟨sb, 2, none⟩ = some (.int .i64 z)) (first | exact HC.out _ _ _ _ _ sD.out | exact HC.out _ _ _ _ _ t6.out | exact HC.out _ _ _ _ _ (t6.out.below ⟨rfl, rfl, rfl, Nat.le_refl _, fun _ _ => rfl⟩) | exact HC.out _ _ _ _ _ ((t6.out.put _ _).below ⟨rfl, rfl, rfl, Nat.le_refl _, fun _ _ => rfl⟩) | go_keep) ((go_at_call 15; refine kp.mono ?_; rintro e w6 ⟨rfl, t6⟩; obtain ⟨c6, f6⟩ := t6.out.gat 0; simp only [List.getElem?_toArray, List.getElem?_cons_succ, List.getElem?_cons_zero] at c6)))
                    all_goals
                      go_wp2
                      go_meet
                      obtain ⟨z1, z2⟩ := HH.out
                      rw [z1, z2]
                      exact (t6.out.put 0 _).below ⟨rfl, rfl, rfl, Nat.le_refl _, fun _ _ => rfl⟩
                  ·
                    have k1 : (x == 1) = false := by simp [hx]
                    have k2 : (x == 2) = false := by simp [hx]
                    have k3 : (x == 3) = false := by simp [hx]
                    have k4 : (x == 4) = true := by simp [hx]
                    have kp : Calls Try.prog 17 #[ptr g0, .int .i64 y] w5.drew fun e w' => e = .returned (.tuple #[.int .i64 (keyV N S y), .int .i64 (remE N S y)]) ∧ Hid (AG B w w' N g0 g1 g2 (remS N S y) S T hb q sb #[.int .i64 0, .int .i64 0, .int .i64 0, .int .i64 0, .int .i64 0, .int .i64 0] #[.int .i64 x, .int .i64 y, .int .i64 z]) := (sD.out.mx.remove 0 rfl y).mono (fun e w' h => ⟨h.1, hide_it (sD.out.of h.2.out)⟩)
                    rw [← h0, ← h1, ← h3] at kp
                    have HH := hide_it h2
                    clear hx h0 h1 h2 h3 sB HST
                    go_upto_region 25 with fail
                    (go_region_held3 (fun V => V.cell? ⟨hb, 0, none⟩ = some (ptr g0) ∧ V.cell? ⟨sb, 1, none⟩ = some (.int .i64 y) ∧ V.cell? ⟨sb, 2, none⟩ = some (.int .i64 z)) (first | exact HC.out _ _ _ _ _ sD.out | exact HC.out _ _ _ _ _ t6.out | exact HC.out _ _ _ _ _ (t6.out.below ⟨rfl, rfl, rfl, Nat.le_refl _, fun _ _ => rfl⟩) | exact HC.out _ _ _ _ _ ((t6.out.put _ _).below ⟨rfl, rfl, rfl, Nat.le_refl _, fun _ _ => rfl⟩) | go_keep) ((go_at_call 17; refine kp.mono ?_; rintro e w6 ⟨rfl, t6⟩)))
                    all_goals
                      obtain ⟨c60, f60⟩ := t6.out.gat 0
                      obtain ⟨c61, f61⟩ := t6.out.gat 1
                      obtain ⟨c62, f62⟩ := t6.out.gat 2
                      simp only [List.getElem?_toArray, List.getElem?_cons_succ, List.getElem?_cons_zero] at c60 c61 c62
                      go_wp2
                      go_meet
                      have q := ((t6.out.put 0 (.int .i64 e0)).put 1 (.int .i64 e1)).put 2 (.int .i64 0)
                      rw [HH.out]
                      exact q
                  ·
                    have k1 : (x == 1) = false := by simp [hx]
                    have k2 : (x == 2) = false := by simp [hx]
                    have k3 : (x == 3) = false := by simp [hx]
                    have k4 : (x == 4) = false := by simp [hx]
                    have k5 : (x == 5) = true := by simp [hx]
                    have kp : Calls Try.prog 19 #[ptr g0] w5 fun e w' => e = .returned (.tuple #[.int .i64 0, .int .i64 0, .bool false]) ∧ Hid (AG B w w' N g0 g1 g2 S S T hb q sb #[.int .i64 0, .int .i64 0, .int .i64 0, .int .i64 0, .int .i64 0, .int .i64 0] #[.int .i64 x, .int .i64 y, .int .i64 z]) := (sB.out.mx.pop0 0 rfl he).mono (fun e w' h => ⟨h.1, hide_it (sB.out.of h.2.out)⟩)
                    have HH := hide_it (And.intro h0 (And.intro h1 (And.intro h2 h3)))
                    clear hx h0 h1 h2 h3 HST he
                    go_wp2_with (go_at_call 19; refine kp.mono ?_; rintro e w6 ⟨rfl, t6⟩; obtain ⟨c60, f60⟩ := t6.out.gat 0; obtain ⟨c61, f61⟩ := t6.out.gat 1; obtain ⟨c62, f62⟩ := t6.out.gat 2; simp only [List.getElem?_toArray, List.getElem?_cons_succ, List.getElem?_cons_zero] at c60 c61 c62)
                    go_meet
                    obtain ⟨z0, z1, z2, z3⟩ := HH.out
                    have q := ((t6.out.put 0 (.int .i64 0)).put 1 (.int .i64 0)).put 2 (.int .i64 0)
                    rw [z0, z1, z2, z3]
                    exact q
                  ·
                    have k1 : (x == 1) = false := by simp [hx]
                    have k2 : (x == 2) = false := by simp [hx]
                    have k3 : (x == 3) = false := by simp [hx]
                    have k4 : (x == 4) = false := by simp [hx]
                    have k5 : (x == 5) = true := by simp [hx]
                    have kp : Calls Try.prog 19 #[ptr g0] w5 fun e w' => e = .returned (.tuple #[.int .i64 t0, .int .i64 e1, .bool true]) ∧ Hid (AG B w w' N g0 g1 g2 (upS S t0 none) S T hb q sb #[.int .i64 0, .int .i64 0, .int .i64 0, .int .i64 0, .int .i64 0, .int .i64 0] #[.int .i64 x, .int .i64 y, .int .i64 z]) := (sB.out.mx.pop 0 rfl hf).mono (fun e w' h => ⟨h.1, hide_it (sB.out.of h.2.out)⟩)
                    rw [← h3, ← h0] at kp
                    have HH := hide_it h2
                    clear hx h0 h2 h3 HST hf
                    go_wp2_with (go_at_call 19; refine kp.mono ?_; rintro e w6 ⟨rfl, t6⟩; obtain ⟨c60, f60⟩ := t6.out.gat 0; obtain ⟨c61, f61⟩ := t6.out.gat 1; obtain ⟨c62, f62⟩ := t6.out.gat 2; simp only [List.getElem?_toArray, List.getElem?_cons_succ, List.getElem?_cons_zero] at c60 c61 c62; obtain ⟨c63, f63⟩ := (((t6.out.put 0 (.int .i64 e0)).put 1 (.int .i64 e1)).put 2 (.int .i64 0)).gat 2; simp only [List.setIfInBounds_toArray, List.set_cons_zero, List.set_cons_succ, List.getElem?_toArray, List.getElem?_cons_succ, List.getElem?_cons_zero] at c63)
                    go_meet
                    have q := (((t6.out.put 0 (.int .i64 e0)).put 1 (.int .i64 e1)).put 2 (.int .i64 0)).put 2 (.int .i64 1)
                    rw [HH.out]
                    exact q
                  ·
                    have HH := hide_it (And.intro h0 (And.intro h1 (And.intro h2 h3)))
                    clear h0 h1 h2 h3 HST
                    go_wp2
                    go_meet
                    obtain ⟨z0, z1, z2, z3⟩ := HH.out
                    have q := sB.out
                    rw [z0, z1, z2, z3]
                    exact q
                case rest =>
                  clear sB HC c0 d1 d2
                  have sC := hcut
                  clear hcut
                  by_cases hm : i < m2
                  · have v1 : decide ((i : Int) < (m2 : Int)) = true := decide_eq_true (by omega)
                    have v1' : decide (i < m2) = true := decide_eq_true (by omega)
                    obtain ⟨x2, y2, z2, b2, o2, rfl, HY⟩ := HJ.out i hm
                    have HY := hide_it HY
                    obtain ⟨_, p1, p2⟩ := HY.out _ sC.out.mx.bel
                    have p0 := sC.out.h0.2.2
                    obtain ⟨T1, hT1⟩ : ∃ T1, pushS N T y2 z2 = T1 := ⟨_, rfl⟩
                    obtain ⟨E1, hE1⟩ : ∃ E1, pushE N T y2 = E1 := ⟨_, rfl⟩
                    have kp : Calls Try.prog 13 #[ptr g2, .int .i64 y2, .int .i64 z2] wc.drew fun e w' => e = .returned (.int .i64 E1) ∧ Hid (AG B w w' N g0 g1 g2 S' S T1 hb q sb #[.int .i64 e0, .int .i64 e1, .int .i64 e2, .int .i64 0, .int .i64 0, .int .i64 0] #[.int .i64 x, .int .i64 y, .int .i64 z]) := by
                      rw [← hT1, ← hE1]
                      exact ((sC.out.below (W' := wc.drew) ((Below.refl _ _).drew)).mx.push 2 rfl y2 z2).mono (fun e w' h => ⟨h.1, hide_it (sC.out.of h.2.out)⟩)
                    have HC2 : Hid (∀ W (a b c : Nat → Option Int) got, AG B w W N g0 g1 g2 a b c hb q sb got #[.int .i64 x, .int .i64 y, .int .i64 z] → W.cell? ⟨hb, 2, none⟩ = some (ptr g2) ∧ W.cell? ⟨b2, o2 + i * 3 + 1, none⟩ = some (.int .i64 y2) ∧ W.cell? ⟨b2, o2 + i * 3 + 2, none⟩ = some (.int .i64 z2)) := fun W a b c got h => ⟨h.h0.2.2, (HY.out _ h.mx.bel).2.1, (HY.out _ h.mx.bel).2.2⟩
                    clear hT1 hE1
                    rcases fst_cases N T1 with he | ⟨x3, y3, hf⟩
                    · have kq : ∀ W, AG B w W N g0 g1 g2 S' S T1 hb q sb #[.int .i64 e0, .int .i64 e1, .int .i64 e2, .int .i64 0, .int .i64 0, .int .i64 0] #[.int .i64 x, .int .i64 y, .int .i64 z] → Calls Try.prog 19 #[ptr g2] W fun e w' => e = .returned (.tuple #[.int .i64 0, .int .i64 0, .bool false]) ∧ Hid (AG B w w' N g0 g1 g2 S' S T1 hb q sb #[.int .i64 e0, .int .i64 e1, .int .i64 e2, .int .i64 0, .int .i64 0, .int .i64 0] #[.int .i64 x, .int .i64 y, .int .i64 z]) := fun W h => (h.mx.pop0 2 rfl he).mono (fun e w' q => ⟨q.1, hide_it (h.of q.2.out)⟩)
                      clear he HST
                      go_upto_region 33 with fail
                      (go_region_held3 (fun V => V.cell? ⟨hb, 2, none⟩ = some (ptr g2) ∧ V.cell? ⟨b2, o2 + i * 3 + 1, none⟩ = some (.int .i64 y2) ∧ V.cell? ⟨b2, o2 + i * 3 + 2, none⟩ = some (.int .i64 z2)) (first | exact HC2.out _ _ _ _ _ t8.out | exact HC2.out _ _ _ _ _ (t8.out.below ⟨rfl, rfl, rfl, Nat.le_refl _, fun _ _ => rfl⟩) | exact HC2.out _ _ _ _ _ (sC.out.below ⟨rfl, rfl, rfl, Nat.le_refl _, fun _ _ => rfl⟩) | go_keep) ((go_at_call 13; refine kp.mono ?_; rintro e w8 ⟨rfl, t8⟩)))
                      all_goals
                        have p3 := t8.out.h0.2.2
                        go_wp2_with (go_at_call 19; refine (kq _ t8.out).mono ?_; rintro e w9 ⟨rfl, t9⟩)
                        go_roundw
                        case rel => exact .inr (.inl ⟨T1, rfl, t9.out.mx.drop (fun p hp => List.mem_cons_of_mem _ hp)⟩)
                        case measure => simp [intOf]
                    · have kq : ∀ W, AG B w W N g0 g1 g2 S' S T1 hb q sb #[.int .i64 e0, .int .i64 e1, .int .i64 e2, .int .i64 0, .int .i64 0, .int .i64 0] #[.int .i64 x, .int .i64 y, .int .i64 z] → Calls Try.prog 19 #[ptr g2] W fun e w' => e = .returned (.tuple #[.int .i64 x3, .int .i64 y3, .bool true]) ∧ Hid (AG B w w' N g0 g1 g2 S' S (upS T1 x3 none) hb q sb #[.int .i64 e0, .int .i64 e1, .int .i64 e2, .int .i64 0, .int .i64 0, .int .i64 0] #[.int .i64 x, .int .i64 y, .int .i64 z]) := fun W h => (h.mx.pop 2 rfl hf).mono (fun e w' q => ⟨q.1, hide_it (h.of q.2.out)⟩)
                      clear hf HST
                      generalize upS T1 x3 none = T2 at *
                      go_upto_region 33 with fail
                      (go_region_held3 (fun V => V.cell? ⟨hb, 2, none⟩ = some (ptr g2) ∧ V.cell? ⟨b2, o2 + i * 3 + 1, none⟩ = some (.int .i64 y2) ∧ V.cell? ⟨b2, o2 + i * 3 + 2, none⟩ = some (.int .i64 z2)) (first | exact HC2.out _ _ _ _ _ t8.out | exact HC2.out _ _ _ _ _ (t8.out.below ⟨rfl, rfl, rfl, Nat.le_refl _, fun _ _ => rfl⟩) | exact HC2.out _ _ _ _ _ (sC.out.below ⟨rfl, rfl, rfl, Nat.le_refl _, fun _ _ => rfl⟩) | go_keep) ((go_at_call 13; refine kp.mono ?_; rintro e w8 ⟨rfl, t8⟩)))
                      all_goals
                        have p3 := t8.out.h0.2.2
                        go_wp2_with (go_at_call 19; refine (kq _ t8.out).mono ?_; rintro e w9 ⟨rfl, t9⟩)
                        go_roundw
                        case rel => exact .inr (.inl ⟨T2, rfl, t9.out.mx.drop (fun p hp => List.mem_cons_of_mem _ hp)⟩)
                        case measure => simp [intOf]
                  · have v1 : decide ((i : Int) < (m2 : Int)) = false := decide_eq_false (by omega)
                    have v1' : decide (i < m2) = false := decide_eq_false (by omega)
                    go_wp2
                    go_roundw
                    case rel => exact .inr (.inl ⟨T, rfl, sC.out.mx.drop (fun p hp => List.mem_cons_of_mem _ hp)⟩)
                    case measure => simp [intOf]
              · obtain ⟨c0, c1, c2⟩ := HX.out _ s.out.bel
                have sA := hide_it (s.out.alloc (.cells #[.int .i64 x, .int .i64 y, .int .i64 z] 31))
                have hsn : wr.heap.size ≠ q := fun e => by
                  have := block_lt (s.out.row (r := q) (o := .cells #[.int .i64 e0, .int .i64 e1, .int .i64 e2, .int .i64 0, .int .i64 0, .int .i64 0] 58) (by simp))
                  omega
                clear s
                go_upto_block 6 with fail
                obtain ⟨sb, hsb⟩ : ∃ r, wr.heap.size = r := ⟨_, rfl⟩
                rw [hsb] at sA hsn
                simp only [hsb]
                clear hsb c0 c1 c2
                generalize wr.alloc (.cells #[.int .i64 x, .int .i64 y, .int .i64 z] 31) = w5 at *
                have sB : Hid (AG B w w5 N g0 g1 g2 S' S T' hb q sb #[.int .i64 e0, .int .i64 e1, .int .i64 e2, .int .i64 0, .int .i64 0, .int .i64 0] #[.int .i64 x, .int .i64 y, .int .i64 z]) := ⟨sA.out, hsn, hqn⟩
                clear sA hsn
                have HC : Hid (∀ W (a b c : Nat → Option Int) got, AG B w W N g0 g1 g2 a b c hb q sb got #[.int .i64 x, .int .i64 y, .int .i64 z] → W.cell? ⟨hb, 1, none⟩ = some (ptr g1) ∧ W.cell? ⟨sb, 1, none⟩ = some (.int .i64 y) ∧ W.cell? ⟨sb, 2, none⟩ = some (.int .i64 z)) := fun W a b c got h => ⟨h.h0.2.1, by rw [h.sat]; rfl, by rw [h.sat]; rfl⟩
                obtain ⟨c0, d1, d2⟩ := HC.out _ _ _ _ _ sB.out
                go_cut [14, 15, 16, 17, 18] from 45 to 140 (fun _ _ _ _ _ wx => Hid (AG B w wx N g0 g1 g2 S' S' T' hb q sb #[.int .i64 e0, .int .i64 e1, .int .i64 e2, .int .i64 e0, .int .i64 e1, .int .i64 e2] #[.int .i64 x, .int .i64 y, .int .i64 z]))
                case first =>
                  have sD := hide_it (sB.out.below (W' := w5.drew) ((Below.refl _ _).drew))
                  rcases HST.out with ⟨hx, h0, h1, h2, h3⟩ | ⟨hx, h0, h1, h2, h3⟩ | ⟨hx, h0, h1, h2, h3⟩ | ⟨hx, he, h0, h1, h2, h3⟩ | ⟨hx, ⟨t0, h0, hf, h3⟩, h2⟩ | ⟨⟨k1, k2, k3, k4, k5⟩, h0, h1, h2, h3⟩
                  · rcases hx with hx | hx
                    ·
                      have k1 : (x == 1) = true := by simp [hx]
                      have kp : Calls Try.prog 13 #[ptr g1, .int .i64 y, .int .i64 z] w5.drew fun e w' => e = .returned (.int .i64 (pushE N S y)) ∧ Hid (AG B w w' N g0 g1 g2 S' (pushS N S y z) T' hb q sb #[.int .i64 e0, .int .i64 e1, .int .i64 e2, .int .i64 0, .int .i64 0, .int .i64 0] #[.int .i64 x, .int .i64 y, .int .i64 z]) := (sD.out.mx.push 1 rfl y z).mono (fun e w' h => ⟨h.1, hide_it (sD.out.of h.2.out)⟩)
                      rw [← h0, ← h3] at kp
                      have HH := hide_it (And.intro h1 h2)
                      clear hx h0 h1 h2 h3 sB HST
                      go_upto_region 21 with fail
                      (go_region_held3 (fun V => V.cell? ⟨hb, 1, none⟩ = some (ptr g1) ∧ V.cell? ⟨sb, 1, none⟩ = some (.int .i64 y) ∧ V.cell? ⟨sb, 2, none⟩ = some (.int .i64 z)) (first | exact HC.out _ _ _ _ _ sD.out | exact HC.out _ _ _ _ _ t6.out | exact HC.out _ _ _ _ _ (t6.out.below ⟨rfl, rfl, rfl, Nat.le_refl _, fun _ _ => rfl⟩) | exact HC.out _ _ _ _ _ ((t6.out.put _ _).below ⟨rfl, rfl, rfl, Nat.le_refl _, fun _ _ => rfl⟩) | go_keep) ((go_at_call 13; refine kp.mono ?_; rintro e w6 ⟨rfl, t6⟩; obtain ⟨c6, f6⟩ := t6.out.gat 3; simp only [List.getElem?_toArray, List.getElem?_cons_succ, List.getElem?_cons_zero] at c6)))
                      all_goals
                        go_wp2
                        go_meet
                        obtain ⟨z1, z2⟩ := HH.out
                        have q := t6.out.put 3 (.int .i64 e0)
                        simp only [z1, z2] at q ⊢
                        exact q
                    ·
                      have k1 : (x == 1) = false := by simp [hx]
                      have k2 : (x == 2) = true := by simp [hx]
                      have kp : Calls Try.prog 13 #[ptr g1, .int .i64 y, .int .i64 z] w5.drew fun e w' => e = .returned (.int .i64 (pushE N S y)) ∧ Hid (AG B w w' N g0 g1 g2 S' (pushS N S y z) T' hb q sb #[.int .i64 e0, .int .i64 e1, .int .i64 e2, .int .i64 0, .int .i64 0, .int .i64 0] #[.int .i64 x, .int .i64 y, .int .i64 z]) := (sD.out.mx.push 1 rfl y z).mono (fun e w' h => ⟨h.1, hide_it (sD.out.of h.2.out)⟩)
                      rw [← h0, ← h3] at kp
                      have HH := hide_it (And.intro h1 h2)
                      clear hx h0 h1 h2 h3 sB HST
                      go_upto_region 21 with fail
                      (go_region_held3 (fun V => V.cell? ⟨hb, 1, none⟩ = some (ptr g1) ∧ V.cell? ⟨sb, 1, none⟩ = some (.int .i64 y) ∧ V.cell? ⟨sb, 2, none⟩ = some (.int .i64 z)) (first | exact HC.out _ _ _ _ _ sD.out | exact HC.out _ _ _ _ _ t6.out | exact HC.out _ _ _ _ _ (t6.out.below ⟨rfl, rfl, rfl, Nat.le_refl _, fun _ _ => rfl⟩) | exact HC.out _ _ _ _ _ ((t6.out.put _ _).below ⟨rfl, rfl, rfl, Nat.le_refl _, fun _ _ => rfl⟩) | go_keep) ((go_at_call 13; refine kp.mono ?_; rintro e w6 ⟨rfl, t6⟩; obtain ⟨c6, f6⟩ := t6.out.gat 3; simp only [List.getElem?_toArray, List.getElem?_cons_succ, List.getElem?_cons_zero] at c6)))
                      all_goals
                        go_wp2
                        go_meet
                        obtain ⟨z1, z2⟩ := HH.out
                        have q := t6.out.put 3 (.int .i64 e0)
                        simp only [z1, z2] at q ⊢
                        exact q
                  ·
                    have k1 : (x == 1) = false := by simp [hx]
                    have k2 : (x == 2) = false := by simp [hx]
                    have k3 : (x == 3) = true := by simp [hx]
                    have kp : Calls Try.prog 15 #[ptr g1, .int .i64 y, .int .i64 z] w5.drew fun e w' => e = .returned (.int .i64 (lowE N S y z)) ∧ Hid (AG B w w' N g0 g1 g2 S' (lowS N S y z) T' hb q sb #[.int .i64 e0, .int .i64 e1, .int .i64 e2, .int .i64 0, .int .i64 0, .int .i64 0] #[.int .i64 x, .int .i64 y, .int .i64 z]) := (sD.out.mx.lower 1 rfl y z).mono (fun e w' h => ⟨h.1, hide_it (sD.out.of h.2.out)⟩)
                    rw [← h0, ← h3] at kp
                    have HH := hide_it (And.intro h1 h2)
                    clear hx h0 h1 h2 h3 sB HST
                    go_upto_region 23 with fail
                    (go_region_held3 (fun V => V.cell? ⟨hb, 1, none⟩ = some (ptr g1) ∧ V.cell? ⟨sb, 1, none⟩ = some (.int .i64 y) ∧ V.cell? ⟨sb, 2, none⟩ = some (.int .i64 z)) (first | exact HC.out _ _ _ _ _ sD.out | exact HC.out _ _ _ _ _ t6.out | exact HC.out _ _ _ _ _ (t6.out.below ⟨rfl, rfl, rfl, Nat.le_refl _, fun _ _ => rfl⟩) | exact HC.out _ _ _ _ _ ((t6.out.put _ _).below ⟨rfl, rfl, rfl, Nat.le_refl _, fun _ _ => rfl⟩) | go_keep) ((go_at_call 15; refine kp.mono ?_; rintro e w6 ⟨rfl, t6⟩; obtain ⟨c6, f6⟩ := t6.out.gat 3; simp only [List.getElem?_toArray, List.getElem?_cons_succ, List.getElem?_cons_zero] at c6)))
                    all_goals
                      go_wp2
                      go_meet
                      obtain ⟨z1, z2⟩ := HH.out
                      have q := t6.out.put 3 (.int .i64 e0)
                      simp only [z1, z2] at q ⊢
                      exact q
                  ·
                    have k1 : (x == 1) = false := by simp [hx]
                    have k2 : (x == 2) = false := by simp [hx]
                    have k3 : (x == 3) = false := by simp [hx]
                    have k4 : (x == 4) = true := by simp [hx]
                    have kp : Calls Try.prog 17 #[ptr g1, .int .i64 y] w5.drew fun e w' => e = .returned (.tuple #[.int .i64 (keyV N S y), .int .i64 (remE N S y)]) ∧ Hid (AG B w w' N g0 g1 g2 S' (remS N S y) T' hb q sb #[.int .i64 e0, .int .i64 e1, .int .i64 e2, .int .i64 0, .int .i64 0, .int .i64 0] #[.int .i64 x, .int .i64 y, .int .i64 z]) := (sD.out.mx.remove 1 rfl y).mono (fun e w' h => ⟨h.1, hide_it (sD.out.of h.2.out)⟩)
                    rw [← h0, ← h1, ← h3] at kp
                    have HH := hide_it h2
                    clear hx h0 h1 h2 h3 sB HST
                    go_upto_region 25 with fail
                    (go_region_held3 (fun V => V.cell? ⟨hb, 1, none⟩ = some (ptr g1) ∧ V.cell? ⟨sb, 1, none⟩ = some (.int .i64 y) ∧ V.cell? ⟨sb, 2, none⟩ = some (.int .i64 z)) (first | exact HC.out _ _ _ _ _ sD.out | exact HC.out _ _ _ _ _ t6.out | exact HC.out _ _ _ _ _ (t6.out.below ⟨rfl, rfl, rfl, Nat.le_refl _, fun _ _ => rfl⟩) | exact HC.out _ _ _ _ _ ((t6.out.put _ _).below ⟨rfl, rfl, rfl, Nat.le_refl _, fun _ _ => rfl⟩) | go_keep) ((go_at_call 17; refine kp.mono ?_; rintro e w6 ⟨rfl, t6⟩)))
                    all_goals
                      obtain ⟨c60, f60⟩ := t6.out.gat 3
                      obtain ⟨c61, f61⟩ := t6.out.gat 4
                      obtain ⟨c62, f62⟩ := t6.out.gat 5
                      simp only [List.getElem?_toArray, List.getElem?_cons_succ, List.getElem?_cons_zero] at c60 c61 c62
                      go_wp2
                      go_meet
                      have q := ((t6.out.put 3 (.int .i64 e0)).put 4 (.int .i64 e1)).put 5 (.int .i64 0)
                      rw [HH.out] at q ⊢
                      exact q
                  ·
                    have k1 : (x == 1) = false := by simp [hx]
                    have k2 : (x == 2) = false := by simp [hx]
                    have k3 : (x == 3) = false := by simp [hx]
                    have k4 : (x == 4) = false := by simp [hx]
                    have k5 : (x == 5) = true := by simp [hx]
                    have kp : Calls Try.prog 19 #[ptr g1] w5 fun e w' => e = .returned (.tuple #[.int .i64 0, .int .i64 0, .bool false]) ∧ Hid (AG B w w' N g0 g1 g2 S' S T' hb q sb #[.int .i64 e0, .int .i64 e1, .int .i64 e2, .int .i64 0, .int .i64 0, .int .i64 0] #[.int .i64 x, .int .i64 y, .int .i64 z]) := (sB.out.mx.pop0 1 rfl he).mono (fun e w' h => ⟨h.1, hide_it (sB.out.of h.2.out)⟩)
                    have HH := hide_it (And.intro h0 (And.intro h1 (And.intro h2 h3)))
                    clear hx h0 h1 h2 h3 HST he
                    go_wp2_with (go_at_call 19; refine kp.mono ?_; rintro e w6 ⟨rfl, t6⟩; obtain ⟨c60, f60⟩ := t6.out.gat 3; obtain ⟨c61, f61⟩ := t6.out.gat 4; obtain ⟨c62, f62⟩ := t6.out.gat 5; simp only [List.getElem?_toArray, List.getElem?_cons_succ, List.getElem?_cons_zero] at c60 c61 c62)
                    go_meet
                    obtain ⟨z0, z1, z2, z3⟩ := HH.out
                    have q := ((t6.out.put 3 (.int .i64 0)).put 4 (.int .i64 0)).put 5 (.int .i64 0)
                    simp only [z0, z1, z2, z3] at q ⊢
                    exact q
                  ·
                    have k1 : (x == 1) = false := by simp [hx]
                    have k2 : (x == 2) = false := by simp [hx]
                    have k3 : (x == 3) = false := by simp [hx]
                    have k4 : (x == 4) = false := by simp [hx]
                    have k5 : (x == 5) = true := by simp [hx]
                    have kp : Calls Try.prog 19 #[ptr g1] w5 fun e w' => e = .returned (.tuple #[.int .i64 t0, .int .i64 e1, .bool true]) ∧ Hid (AG B w w' N g0 g1 g2 S' (upS S t0 none) T' hb q sb #[.int .i64 e0, .int .i64 e1, .int .i64 e2, .int .i64 0, .int .i64 0, .int .i64 0] #[.int .i64 x, .int .i64 y, .int .i64 z]) := (sB.out.mx.pop 1 rfl hf).mono (fun e w' h => ⟨h.1, hide_it (sB.out.of h.2.out)⟩)
                    rw [← h3, ← h0] at kp
                    have HH := hide_it h2
                    clear hx h0 h2 h3 HST hf
                    go_wp2_with (go_at_call 19; refine kp.mono ?_; rintro e w6 ⟨rfl, t6⟩; obtain ⟨c60, f60⟩ := t6.out.gat 3; obtain ⟨c61, f61⟩ := t6.out.gat 4; obtain ⟨c62, f62⟩ := t6.out.gat 5; simp only [List.getElem?_toArray, List.getElem?_cons_succ, List.getElem?_cons_zero] at c60 c61 c62; obtain ⟨c63, f63⟩ := (((t6.out.put 3 (.int .i64 e0)).put 4 (.int .i64 e1)).put 5 (.int .i64 0)).gat 5; simp only [List.setIfInBounds_toArray, List.set_cons_zero, List.set_cons_succ, List.getElem?_toArray, List.getElem?_cons_succ, List.getElem?_cons_zero] at c63)
                    go_meet
                    have q := (((t6.out.put 3 (.int .i64 e0)).put 4 (.int .i64 e1)).put 5 (.int .i64 0)).put 5 (.int .i64 1)
                    rw [HH.out] at q ⊢
                    exact q
                  ·
                    have HH := hide_it (And.intro h0 (And.intro h1 (And.intro h2 h3)))
                    clear h0 h1 h2 h3 HST
                    go_wp2
                    go_meet
                    obtain ⟨z0, z1, z2, z3⟩ := HH.out
                    have q := sB.out
                    simp only [z0, z1, z2, z3] at q ⊢
                    exact q
                case rest =>
                  clear sB HC c0 d1 d2
                  have sC := hcut
                  clear hcut
                  by_cases hm : i < m2
                  · have v1 : decide ((i : Int) < (m2 : Int)) = true := decide_eq_true (by omega)
                    have v1' : decide (i < m2) = true := decide_eq_true (by omega)
                    go_wp2
                    go_roundw
                    case rel => exact .inr (.inr ⟨T', rfl, sC.out.mx.drop (fun p hp => List.mem_cons_of_mem _ hp)⟩)
                    case measure => simp [intOf]
                  · have v1 : decide ((i : Int) < (m2 : Int)) = false := decide_eq_false (by omega)
                    have v1' : decide (i < m2) = false := decide_eq_false (by omega)
                    go_wp2
                    go_roundw
                    case rel => exact .inr (.inr ⟨T', rfl, sC.out.mx.drop (fun p hp => List.mem_cons_of_mem _ hp)⟩)
                    case measure => simp [intOf]
              ·
                have kl : ∀ g j, (j = 0 ∧ g = g0) ∨ (j = 1 ∧ g = g1) → ∀ W, MX B w W [(g0, N, S'), (g1, N, S'), (g2, N, T')] [(q, .cells #[.int .i64 e0, .int .i64 e1, .int .i64 e2, .int .i64 e0, .int .i64 e1, .int .i64 e2] 58), (hb, .cells #[ptr g0, ptr g1, ptr g2] 56)] → Calls Try.prog 26 #[ptr g] W fun e w' => e = .returned (.int .i64 (M.cnt (fun x => (S' x).isSome) N : Nat)) ∧ w' = W := fun g j hg W h => by
                  rcases hg with ⟨_, rfl⟩ | ⟨_, rfl⟩
                  · exact h.len 0 rfl
                  · exact h.len 1 rfl
                have k0 := fun n => kl g0 0 (.inl ⟨rfl, rfl⟩) (wr.drewN n) (s.out.below ⟨rfl, rfl, rfl, Nat.le_refl _, fun _ _ => rfl⟩)
                have k1 := fun n => kl g1 1 (.inr ⟨rfl, rfl⟩) (wr.drewN n) (s.out.below ⟨rfl, rfl, rfl, Nat.le_refl _, fun _ _ => rfl⟩)
                have hcb : M.cnt (fun x => (S' x).isSome) N ≤ N := cnt_le _ _
                generalize M.cnt (fun x => (S' x).isSome) N = cc at *
                have hq2 := s.out.row (r := q) (o := .cells #[.int .i64 e0, .int .i64 e1, .int .i64 e2, .int .i64 e0, .int .i64 e1, .int .i64 e2] 58) (by simp)
                have hb2 := s.out.row (r := hb) (o := .cells #[ptr g0, ptr g1, ptr g2] 56) (by simp)
                have r0 : wr.cell? ⟨q, 0, none⟩ = some (.int .i64 e0) := by rw [cell_of_row wr q 0 _ _ _ hq2]; rfl
                have r1 : wr.cell? ⟨q, 1, none⟩ = some (.int .i64 e1) := by rw [cell_of_row wr q 1 _ _ _ hq2]; rfl
                have r2 : wr.cell? ⟨q, 2, none⟩ = some (.int .i64 e2) := by rw [cell_of_row wr q 2 _ _ _ hq2]; rfl
                have r3 : wr.cell? ⟨q, 3, none⟩ = some (.int .i64 e0) := by rw [cell_of_row wr q 3 _ _ _ hq2]; rfl
                have r4 : wr.cell? ⟨q, 4, none⟩ = some (.int .i64 e1) := by rw [cell_of_row wr q 4 _ _ _ hq2]; rfl
                have r5 : wr.cell? ⟨q, 5, none⟩ = some (.int .i64 e2) := by rw [cell_of_row wr q 5 _ _ _ hq2]; rfl
                have h0 : wr.cell? ⟨hb, 0, none⟩ = some (ptr g0) := by rw [cell_of_row wr hb 0 _ _ _ hb2]; rfl
                have h1 : wr.cell? ⟨hb, 1, none⟩ = some (ptr g1) := by rw [cell_of_row wr hb 1 _ _ _ hb2]; rfl
                clear hq2 hb2 kl HST
                have nq := neq57
                go_upto_region 35 with fail
                go_big_quiet ((first | (go_at_call_of 26 g0; exact Calls.quiet_of_same (k0 _)) | (go_at_call 26; exact Calls.quiet_of_same (k0 _)) | (go_at_call 26; exact Calls.quiet_of_same (k1 _))))
                go_wp2
                go_roundw
                case rel => exact ⟨i + 1, S', T', by go_num, by omega, by omega, (s.out.drop (fun p hp => List.mem_cons_of_mem _ hp)).below ⟨rfl, rfl, rfl, Nat.le_refl _, fun _ _ => rfl⟩⟩
                case measure => simp [intOf]; omega
          · have h2 : decide ((i : Int) < 100) = false := decide_eq_false (by omega)
            have h3 : decide (i < 100) = false := decide_eq_false (by omega)
            go_wp2
            go_ret
            exact ⟨rfl, s.out.bel⟩
        · have h2 : decide ((i : Int) < m) = false := decide_eq_false (by omega)
          have h3 : decide (i < m) = false := decide_eq_false (by omega)
          go_wp2
          go_ret
          exact ⟨rfl, s.out.bel⟩
end Go.Proofs.Ytpcjaleogeoabaa
