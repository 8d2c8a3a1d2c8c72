/- TimerPlays, walked. -/
import Derived.Test.YtlpbjafdmhcmgaaPla
import Derived.Deep.RegionHeld3
import Derived.Deep.CutRange
import Derived.Deep.CutBlock
import Derived.BigQuiet
namespace Go.Proofs.Ytlpbjafdmhcmgaa
open Go.RowKit
open M
set_option linter.unusedVariables false
set_option linter.unusedSimpArgs false

section
variable {B : Nat} {w : World} {t g N : Nat} {S : Nat → Option Int} {rb : Nat} {n : Int} {L : List It} {R : List (Nat × Obj)}
theorem pq_start {W : World} (h : MX B w W [(t, g, N, S)] [(rb, .cells #[.int .i64 n, .slice none 0 0] 29)]) : PQ B w W t g N S rb n [] [] := by
  obtain ⟨F, h⟩ := h
  obtain ⟨q1, q2, q3⟩ := h.row _ (List.mem_singleton.2 rfl)
  refine ⟨F, .slice none 0 0, ⟨h.bel, h.le, h.ho, h.bnd, h.dis, fun p hp => by simp at hp⟩, ⟨q1, .inl ⟨rfl, rfl⟩, by simp [Value.ownBlock]⟩, fun k hk => ?_, fun p hp => by simp at hp⟩
  rcases hk with rfl | hk
  · exact ⟨q2, q3 0⟩
  · simp [Value.ownBlock] at hk
theorem rset_all (hs : RS N S L) (hN : hsz n = N) (hl : L.length ≤ 300) (y z : Int) : ∃ L', RS N (setS N S y z) L' ∧ L'.length ≤ L.length + 1 ∧ ∀ W S2, PQ B w W t g N S2 rb n L R → Calls Try.prog 13 #[ptr rb, .int .i64 y, .int .i64 z] W fun e w' => e = .returned (.int .i64 (setE N y)) ∧ Hid (PQ B w w' t g N S2 rb n L' R) := by
  cases hid : isId N y with
  | false =>
    refine ⟨L, by unfold setS; rw [hid]; exact hs, by omega, fun W S2 h => ?_⟩
    rw [show setE N y = 1 by simp [setE, hid]]
    exact h.same (Z := fun e _ => e = .returned (.int .i64 1)) (fun v hm => (rset_bad hm y z (by rw [hN]; exact hid)).mono (fun e w' q => ⟨q.1, below_of_eq q.2⟩))
  | true =>
    refine ⟨_, hs.set_ hid z, ?_, fun W S2 h => ?_⟩
    · have := rmL_len L y
      have h2 := posL_le (rmL L y) (y, z)
      unfold insL
      simp only [List.length_append, List.length_take, List.length_drop, List.length_singleton]
      omega
    · rw [show setE N y = 0 by simp [setE, hid]]
      exact h.ref (Z := fun e _ => e = .returned (.int .i64 0)) (fun v hm => rset_new hm (by omega) y z (by rw [hN]; exact hid))
theorem rstop_all (hs : RS N S L) (hl : L.length ≤ 300) (y : Int) : ∃ L', RS N (remS N S y) L' ∧ L'.length ≤ L.length + 1 ∧ ∀ W S2, PQ B w W t g N S2 rb n L R → Calls Try.prog 15 #[ptr rb, .int .i64 y] W fun e w' => e = .returned (.bool (hasB N S y)) ∧ Hid (PQ B w w' t g N S2 rb n L' R) := by
  obtain ⟨h1, h2⟩ := hs.stop y
  refine ⟨_, h1, by have := rmL_len L y; omega, fun W S2 h => ?_⟩
  exact h.ref (Z := fun e _ => e = .returned (.bool (hasB N S y))) (fun v hm => (rstop_any hm (by omega) y h2).mono (by
    rintro e w' ⟨rfl, v', q1, q2, q3, _⟩
    exact ⟨rfl, v', q1, q2, q3⟩))
theorem rdue_all (hs : RS N S L) (hl : L.length ≤ 300) {M : List Nat} {z : Int} (hd : Due N S z M) : ∃ L', RS N (dueS S z) L' ∧ L'.length ≤ L.length + 1 ∧ ∀ W S2 ax, PY B w W t g N S2 rb n L ax M.length R → Rd W ax (M.map fun (x : Nat) => (x : Int)) → Calls Try.prog 18 #[ptr rb, .int .i64 z] W fun e w' => (∃ ay cy, e = .returned (.slice ay M.length cy) ∧ Rd w' ay (M.map fun (x : Nat) => (x : Int))) ∧ Hid (PY B w w' t g N S2 rb n L' ax M.length R ∧ Rd w' ax (M.map fun (x : Nat) => (x : Int))) := by
  obtain ⟨A, D, e, hA, hD, hr, hdu, hm⟩ := hs.due z
  subst e
  have := hd.uniq hdu
  subst this
  have hlen : (idsL A).length = A.length := by simp [idsL]
  simp at hl
  refine ⟨D, hr, by simp; omega, fun W S2 ax h hrd => ?_⟩
  refine h.ref (Z := fun e w' => ∃ ay cy, e = .returned (.slice ay (idsL A).length cy) ∧ Rd w' ay ((idsL A).map fun (x : Nat) => (x : Int))) hrd (fun v hmm => (rdue_any hmm (by omega) (by omega) z hA hD).mono ?_)
  rintro e w' ⟨ao, c, rfl, q1, q2⟩
  exact ⟨⟨ao, c, by rw [hlen], by rw [← hm]; exact q1⟩, q2⟩
theorem rat_all (hs : RS N S L) (hl : L.length ≤ 300) (y : Int) (W : World) (S2 : Nat → Option Int) (h : PQ B w W t g N S2 rb n L R) : Calls Try.prog 21 #[ptr rb, .int .i64 y] W fun e w' => e = .returned (.tuple #[.int .i64 (keyV N S y), .bool (hasB N S y)]) ∧ w' = W := by
  obtain ⟨F, v, h⟩ := h
  exact rat_any h.rm (by omega) (hs.at_ y)
theorem PQ.rl {W : World} (h : PQ B w W t g N S rb n L R) : ∃ ao c, W.cell? ⟨rb, 1, none⟩ = some (.slice ao L.length c) := by
  obtain ⟨F, v, h⟩ := h
  obtain ⟨ao, c, e, _⟩ := h.rm.row.form
  exact ⟨ao, c, by rw [h.rm.c1, e]⟩
theorem PQ.rl1 {W : World} {p : It} {T : List It} (h : PQ B w W t g N S rb n (p :: T) R) : ∃ b o c, W.cell? ⟨rb, 1, none⟩ = some (.slice (some ⟨b, o, none⟩) (T.length + 1) c) ∧ W.cell? ⟨b, o + 1, none⟩ = some (.int .i64 p.2) := by
  obtain ⟨F, v, h⟩ := h
  obtain ⟨b, o, c, e, _, _, hc⟩ := h.rm.row.cells (by simp)
  refine ⟨b, o, c, by rw [h.rm.c1, e]; rfl, ?_⟩
  have := (hc 0 p rfl).2
  simpa using this
end
theorem kindsP (k : Int) : k = 1 ∨ k = 2 ∨ k = 3 ∨ k = 4 ∨ ((k == 1) = false ∧ (k == 2) = false ∧ (k == 3) = false ∧ (k == 4) = false) := kindsT k

set_option maxRecDepth 1000000 in
set_option maxHeartbeats 8000000 in
theorem timerPlays_walk (n : Int) (l : List (Int × Int × Int)) (a : Option Addr) (cap : Nat) (w : World) (hI : StepsIn w a l) (hl : l.length ≤ cap) (hc : cap ≤ maxLen) :
    Calls Try.prog 3 #[.int .i64 n, .slice a l.length cap] w fun e w' => e = .returned (.bool true) ∧ Below w.heap.size w w' := by
  obtain ⟨B, hB⟩ : ∃ B, w.heap.size = B := ⟨_, rfl⟩
  have ks : Calls Try.prog 10 #[] w fun e w' => e = .returned (.bool true) ∧ Hid (Below B w w') := by
    have := shown_any w
    rw [hB] at this
    exact this
  have hle : B ≤ w.heap.size := by omega
  obtain ⟨N, hN⟩ : ∃ N, hsz n = N := ⟨_, rfl⟩
  have hN1 : N ≤ 65536 := by rw [← hN]; exact hsz_le n
  have kn : ∀ W, Below B w W → Calls Try.prog 11 #[.int .i64 n] W fun e w' => ∃ t g, e = .returned (ptr t) ∧ Hid (MX B w w' [(t, g, N, fun _ => none)] []) := fun W hb => by
    have := (mx_start hb hle).new n
    rw [hN] at this
    exact this
  have hcm : cap ≤ 9223372036854775807 := by unfold maxLen at hc; omega
  obtain ⟨m, hm⟩ : ∃ m, l.length = m := ⟨_, rfl⟩
  rw [hm] at hl ⊢
  have HI : Hid (∀ (i : Nat), i < m → ∃ x y z b o, a = some ⟨b, o, none⟩ ∧ ∀ W, Below B w W → W.cell? ⟨b, o + i * 3, none⟩ = some (.int .i64 x) ∧ W.cell? ⟨b, o + i * 3 + 1, none⟩ = some (.int .i64 y) ∧ W.cell? ⟨b, o + i * 3 + 2, none⟩ = some (.int .i64 z)) := fun i hi => by
    have := hI.get (i := i) (by omega)
    rw [hB] at this
    exact this
  have HN := hide_it hN
  rw [hB]
  clear hI hc hB hm hN
  go_enter Try.func3, Try.ntmps3
  go_wp2_with (first | (go_at_call 10; refine ks.mono ?_; rintro e w1 ⟨rfl, s1⟩; clear ks) | (go_at_call 11; refine (kn _ s1.out).mono ?_; rintro e w2 ⟨t, g, rfl, s⟩; clear kn s1))
  have s0 := hide_it (pq_start (s.out.alloc (.cells #[.int .i64 n, .slice none 0 0] 29)))
  obtain ⟨rb, hrb⟩ : ∃ r, w2.heap.size = r := ⟨_, rfl⟩
  rw [hrb] at s0
  simp only [hrb]
  clear hrb s
  generalize w2.alloc (.cells #[.int .i64 n, .slice none 0 0] 29) = w3 at *
  go_loopw [8] (fun iv W => ∃ (i : Nat) (S : Nat → Option Int) (L : List It), iv = .int .i64 i ∧ i ≤ m ∧ i ≤ 200 ∧ Hid (PQ B w W t g N S rb n L []) ∧ Hid (RS N S L) ∧ Hid (L.length ≤ i)) (fun iv _ => m - (intOf iv).toNat)
  case atStart => exact ⟨0, _, _, rfl, Nat.zero_le _, by omega, s0, RS.start N, Nat.le_refl _⟩
  case round =>
    clear s0
    obtain ⟨i, S, L, rfl, hi, hi2, s, HS, HLi⟩ := hrel
    by_cases hlt : i < m
    · by_cases hlt2 : i < 200
      · have h200 : decide ((i : Int) < 200) = true := decide_eq_true (by omega)
        have h200' : decide (i < 200) = true := decide_eq_true (by omega)
        obtain ⟨x, y, z, b1, o1, rfl, HX⟩ := HI.out i hlt
        have HX := hide_it HX
        obtain ⟨c0, c1, c2⟩ := HX.out _ s.out.mx.bel
        have hL3 : L.length ≤ 300 := by have := HLi.out; omega
        have sB := hide_it (s.out.alloc (.cells #[.int .i64 x, .int .i64 y, .int .i64 z] 31))
        clear s
        go_upto_block 2 with fail
        obtain ⟨sb, hsb⟩ : ∃ r, wr.heap.size = r := ⟨_, rfl⟩
        rw [hsb] at sB
        simp only [hsb]
        clear hsb c0 c1 c2
        generalize wr.alloc (.cells #[.int .i64 x, .int .i64 y, .int .i64 z] 31) = w5 at *
        have HC : Hid (∀ W S L, PQ B w W t g N S rb n L [(sb, .cells #[.int .i64 x, .int .i64 y, .int .i64 z] 31)] → W.cell? ⟨sb, 1, none⟩ = some (.int .i64 y) ∧ W.cell? ⟨sb, 2, none⟩ = some (.int .i64 z)) := fun W S L h => by
          have hr := h.mx.row (List.mem_singleton.2 rfl)
          exact ⟨by rw [cell_of_row W sb 1 _ _ _ hr]; rfl, by rw [cell_of_row W sb 2 _ _ _ hr]; rfl⟩
        have d0 : w5.cell? ⟨sb, 0, none⟩ = some (.int .i64 x) := by
          have hr := sB.out.mx.row (List.mem_singleton.2 rfl)
          rw [cell_of_row w5 sb 0 _ _ _ hr]; rfl
        obtain ⟨d1, d2⟩ := HC.out _ _ _ sB.out
        go_cut [10, 11, 12, 13, 14, 15, 16, 17, 18] from 41 to 166 (fun s10 _ _ _ _ _ _ _ _ wx => s10 = .bool true ∧ ∃ (S' : Nat → Option Int) (L' : List It), Hid (PQ B w wx t g N S' rb n L' [(sb, .cells #[.int .i64 x, .int .i64 y, .int .i64 z] 31)]) ∧ Hid (RS N S' L') ∧ Hid (L'.length ≤ i + 1))
        case first =>
          have sD := hide_it (sB.out.below (W' := w5.drew) ((Below.refl _ _).drew))
          rcases kindsP x with hx | hx | hx | hx | ⟨k1, k2, k3, k4⟩
          ·
            have k1 : (x == 1) = true := by simp [hx]
            obtain ⟨L', hr', hl', hc'⟩ := rset_all (B := B) (w := w) (t := t) (g := g) (rb := rb) (R := [(sb, .cells #[.int .i64 x, .int .i64 y, .int .i64 z] 31)]) HS.out HN.out hL3 y z
            obtain ⟨E, hE⟩ : ∃ E, setE N y = E := ⟨_, rfl⟩
            obtain ⟨S1, hS1⟩ : ∃ S1, setS N S y z = S1 := ⟨_, rfl⟩
            have kp : Calls Try.prog 12 #[ptr t, .int .i64 y, .int .i64 z] w5.drew fun e w' => e = .returned (.int .i64 E) ∧ Hid (PQ B w w' t g N S1 rb n L [(sb, .cells #[.int .i64 x, .int .i64 y, .int .i64 z] 31)]) := by
              rw [← hE, ← hS1]
              exact sD.out.op (fun F q => set_any q y z)
            have kr : ∀ W, PQ B w W t g N S1 rb n L [(sb, .cells #[.int .i64 x, .int .i64 y, .int .i64 z] 31)] → Calls Try.prog 13 #[ptr rb, .int .i64 y, .int .i64 z] W fun e w' => e = .returned (.int .i64 E) ∧ Hid (PQ B w w' t g N S1 rb n L' [(sb, .cells #[.int .i64 x, .int .i64 y, .int .i64 z] 31)]) := fun W h => by
              rw [← hE]; exact hc' W S1 h
            rw [hS1] at hr'
            have HR := hide_it hr'
            have HLL : Hid (L'.length ≤ i + 1) := by have := HLi.out; show L'.length ≤ i + 1; omega
            have eE : (E == E) = true := by simp
            clear hx hE hS1 hr' hc' hl' sB HS
            go_upto_region 14 with fail
            (go_region_held3 (fun V => V.cell? ⟨sb, 1, none⟩ = some (.int .i64 y) ∧ V.cell? ⟨sb, 2, none⟩ = some (.int .i64 z)) (first | exact HC.out _ _ _ t7.out | exact HC.out _ _ _ t6.out | exact HC.out _ _ _ sD.out | go_keep) (first | (go_at_call 12; refine kp.mono ?_; rintro e w6 ⟨rfl, t6⟩) | (go_at_call 13; refine (kr _ t6.out).mono ?_; rintro e w7 ⟨rfl, t7⟩)))
            all_goals
              go_wp2
              go_meet
              exact ⟨rfl, S1, L', t7.out.below ⟨rfl, rfl, rfl, Nat.le_refl _, fun _ _ => rfl⟩, HR.out, HLL.out⟩
          ·
            have k1 : (x == 1) = false := by simp [hx]
            have k2 : (x == 2) = true := by simp [hx]
            obtain ⟨L', hr', hl', hc'⟩ := rset_all (B := B) (w := w) (t := t) (g := g) (rb := rb) (R := [(sb, .cells #[.int .i64 x, .int .i64 y, .int .i64 z] 31)]) HS.out HN.out hL3 y z
            obtain ⟨E, hE⟩ : ∃ E, setE N y = E := ⟨_, rfl⟩
            obtain ⟨S1, hS1⟩ : ∃ S1, setS N S y z = S1 := ⟨_, rfl⟩
            have kp : Calls Try.prog 12 #[ptr t, .int .i64 y, .int .i64 z] w5.drew fun e w' => e = .returned (.int .i64 E) ∧ Hid (PQ B w w' t g N S1 rb n L [(sb, .cells #[.int .i64 x, .int .i64 y, .int .i64 z] 31)]) := by
              rw [← hE, ← hS1]
              exact sD.out.op (fun F q => set_any q y z)
            have kr : ∀ W, PQ B w W t g N S1 rb n L [(sb, .cells #[.int .i64 x, .int .i64 y, .int .i64 z] 31)] → Calls Try.prog 13 #[ptr rb, .int .i64 y, .int .i64 z] W fun e w' => e = .returned (.int .i64 E) ∧ Hid (PQ B w w' t g N S1 rb n L' [(sb, .cells #[.int .i64 x, .int .i64 y, .int .i64 z] 31)]) := fun W h => by
              rw [← hE]; exact hc' W S1 h
            rw [hS1] at hr'
            have HR := hide_it hr'
            have HLL : Hid (L'.length ≤ i + 1) := by have := HLi.out; show L'.length ≤ i + 1; omega
            have eE : (E == E) = true := by simp
            clear hx hE hS1 hr' hc' hl' sB HS
            go_upto_region 14 with fail
            (go_region_held3 (fun V => V.cell? ⟨sb, 1, none⟩ = some (.int .i64 y) ∧ V.cell? ⟨sb, 2, none⟩ = some (.int .i64 z)) (first | exact HC.out _ _ _ t7.out | exact HC.out _ _ _ t6.out | exact HC.out _ _ _ sD.out | go_keep) (first | (go_at_call 12; refine kp.mono ?_; rintro e w6 ⟨rfl, t6⟩) | (go_at_call 13; refine (kr _ t6.out).mono ?_; rintro e w7 ⟨rfl, t7⟩)))
            all_goals
              go_wp2
              go_meet
              exact ⟨rfl, S1, L', t7.out.below ⟨rfl, rfl, rfl, Nat.le_refl _, fun _ _ => rfl⟩, HR.out, HLL.out⟩
          ·
            have k1 : (x == 1) = false := by simp [hx]
            have k2 : (x == 2) = false := by simp [hx]
            have k3 : (x == 3) = true := by simp [hx]
            obtain ⟨L', hr', hl', hc'⟩ := rstop_all (B := B) (w := w) (t := t) (g := g) (rb := rb) (n := n) (R := [(sb, .cells #[.int .i64 x, .int .i64 y, .int .i64 z] 31)]) HS.out hL3 y
            obtain ⟨E, hE⟩ : ∃ E, hasB N S y = E := ⟨_, rfl⟩
            obtain ⟨S1, hS1⟩ : ∃ S1, remS N S y = S1 := ⟨_, rfl⟩
            have kp : Calls Try.prog 14 #[ptr t, .int .i64 y] w5.drew fun e w' => e = .returned (.bool E) ∧ Hid (PQ B w w' t g N S1 rb n L [(sb, .cells #[.int .i64 x, .int .i64 y, .int .i64 z] 31)]) := by
              rw [← hE, ← hS1]
              exact sD.out.op (fun F q => stop_any q y)
            have kr : ∀ W, PQ B w W t g N S1 rb n L [(sb, .cells #[.int .i64 x, .int .i64 y, .int .i64 z] 31)] → Calls Try.prog 15 #[ptr rb, .int .i64 y] W fun e w' => e = .returned (.bool E) ∧ Hid (PQ B w w' t g N S1 rb n L' [(sb, .cells #[.int .i64 x, .int .i64 y, .int .i64 z] 31)]) := fun W h => by
              rw [← hE]; exact hc' W S1 h
            rw [hS1] at hr'
            have HR := hide_it hr'
            have HLL : Hid (L'.length ≤ i + 1) := by have := HLi.out; show L'.length ≤ i + 1; omega
            have eE : (E == E) = true := by simp
            clear hx hE hS1 hr' hc' hl' sB HS
            go_upto_region 16 with fail
            (go_region_held3 (fun V => V.cell? ⟨sb, 1, none⟩ = some (.int .i64 y) ∧ V.cell? ⟨sb, 2, none⟩ = some (.int .i64 z)) (first | exact HC.out _ _ _ t7.out | exact HC.out _ _ _ t6.out | exact HC.out _ _ _ sD.out | go_keep) (first | (go_at_call 14; refine kp.mono ?_; rintro e w6 ⟨rfl, t6⟩) | (go_at_call 15; refine (kr _ t6.out).mono ?_; rintro e w7 ⟨rfl, t7⟩)))
            all_goals
              go_wp2
              go_meet
              exact ⟨rfl, S1, L', t7.out.below ⟨rfl, rfl, rfl, Nat.le_refl _, fun _ _ => rfl⟩, HR.out, HLL.out⟩
          ·
            have k1 : (x == 1) = false := by simp [hx]
            have k2 : (x == 2) = false := by simp [hx]
            have k3 : (x == 3) = false := by simp [hx]
            have k4 : (x == 4) = true := by simp [hx]
            obtain ⟨S1, hS1⟩ : ∃ S1, dueS S z = S1 := ⟨_, rfl⟩
            have hO : Oth [(sb, .cells #[.int .i64 x, .int .i64 y, .int .i64 z] 31)] := fun q hq => by rw [List.mem_singleton.1 hq]; exact ⟨_, _, rfl, by decide⟩
            have kp : Calls Try.prog 16 #[ptr t, .int .i64 z] w5 fun e w' => ∃ (ax : Option Addr) (M : List Nat) (cx : Nat), e = .returned (.slice ax M.length cx) ∧ M.length ≤ 65536 ∧ Hid (PY B w w' t g N S1 rb n L ax M.length [(sb, .cells #[.int .i64 x, .int .i64 y, .int .i64 z] 31)] ∧ Rd w' ax (M.map fun (x : Nat) => (x : Int))) ∧ Hid (Due N S z M) := (sB.out.due z).mono (by
              rintro e w' ⟨ax, M, cx, R', rfl, hd, hr, hm⟩
              rw [hS1] at hm
              have := hd.len_le
              exact ⟨ax, M, cx, rfl, by omega, ⟨py_of hO hr hm.out, rd_row hm.out.mx hr⟩, hd⟩)
            have kr : ∀ (M : List Nat), Due N S z M → ∃ L', RS N S1 L' ∧ L'.length ≤ i + 1 ∧ ∀ W ax cx, M.length ≤ 65536 → PY B w W t g N S1 rb n L ax M.length [(sb, .cells #[.int .i64 x, .int .i64 y, .int .i64 z] 31)] ∧ Rd W ax (M.map fun (x : Nat) => (x : Int)) → Calls Try.prog 18 #[ptr rb, .int .i64 z] W fun e w' => ∃ ay cy, e = .returned (.slice ay M.length cy) ∧ Hid (PY B w w' t g N S1 rb n L' ax M.length [(sb, .cells #[.int .i64 x, .int .i64 y, .int .i64 z] 31)] ∧ Calls Try.prog 17 #[.slice ax M.length cx, .slice ay M.length cy] w' fun e w2 => e = .returned (.bool true) ∧ Hid (PY B w w2 t g N S1 rb n L' ax M.length [(sb, .cells #[.int .i64 x, .int .i64 y, .int .i64 z] 31)])) := fun M hd => by
              obtain ⟨L', h1, h2, h3⟩ := rdue_all (B := B) (w := w) (t := t) (g := g) (rb := rb) (n := n) (R := [(sb, .cells #[.int .i64 x, .int .i64 y, .int .i64 z] 31)]) HS.out hL3 hd
              rw [hS1] at h1
              refine ⟨L', h1, by have := HLi.out; omega, fun W ax cx hM ⟨hp, hr⟩ => (h3 W S1 ax hp hr).mono ?_⟩
              rintro e w' ⟨⟨ay, cy, rfl, r2⟩, q⟩
              refine ⟨ay, cy, rfl, q.out.1, ?_⟩
              have := same_any q.out.2 r2 (by simp; omega) (by simp; omega) cx cy
              rw [List.length_map] at this
              refine this.mono ?_
              rintro e w2 ⟨rfl, hb⟩
              exact ⟨by simp, q.out.1.below hb⟩
            clear hx hS1 HS
            go_wp2_with (go_at_call 16; refine kp.mono ?_; clear kp; rintro e w6 ⟨ax, M, cx, rfl, hM, t6, hd6⟩; obtain ⟨L', hr', hl', hc'⟩ := kr M hd6.out; have HR := hide_it hr'; have HLL := hide_it hl'; have kq := hc' _ ax cx hM t6.out; clear hc' hr' hl' kr hd6; obtain ⟨d3, d4⟩ := HC.out _ _ _ t6.out.1.pq; refine Hid.out ?_)
            refine hide_it ?_
            go_wp2_with (first | (go_at_call 18; refine kq.mono ?_; rintro e w7 ⟨ay, cy, rfl, t7⟩; have kS := t7.out.2) | (go_at_call 17; refine kS.mono ?_; rintro e w8 ⟨rfl, t8⟩))
            clear kq kS t7 t6 d3 d4 d1 d2 d0 sB sD
            obtain ⟨p, hp⟩ : ∃ p, M.length = p := ⟨_, rfl⟩
            rw [hp] at t8 hM
            simp only [hp]
            clear hp
            go_loopw [12] (fun kv W => ∃ k : Nat, kv = .int .i64 k ∧ k ≤ p ∧ Hid (PY B w W t g N S1 rb n L' ax p [(sb, .cells #[.int .i64 x, .int .i64 y, .int .i64 z] 31)])) (fun kv _ => p - (intOf kv).toNat)
            case atStart => exact ⟨0, rfl, Nat.zero_le _, t8⟩
            case round =>
              clear t8
              obtain ⟨k, rfl, hk, t8⟩ := hrel
              by_cases hkl : k < p
              · obtain ⟨bx, vx, rfl, c1, f1, hput⟩ := t8.out.put hkl
                have HP := hide_it (hput (.int .i64 (-7)))
                clear hput
                go_wp2
                go_roundw
                case rel => exact ⟨k + 1, by go_num, by omega, HP⟩
                case measure => simp [intOf]; omega
              · have d3 : decide ((k : Int) < p) = false := by simp; omega
                have d4 : decide (k < p) = false := by simp; omega
                go_wp2
                go_meet
                exact ⟨rfl, S1, L', t8.out.pq, HR.out, HLL.out⟩
          · have HLL : Hid (L.length ≤ i + 1) := by have := HLi.out; show L.length ≤ i + 1; omega
            go_wp2
            go_meet
            exact ⟨rfl, S, L, sB.out, HS.out, HLL.out⟩
        case rest =>
          clear sB d0 d1 d2 HS HLi hL3
          obtain ⟨hs10, S2, L2, s6, HT, HL2⟩ := hcut
          subst hs10
          have hL3 : L2.length ≤ 300 := by have := HL2.out; omega
          obtain ⟨Kv, hKv⟩ : ∃ E, keyV N S2 y = E := ⟨_, rfl⟩
          obtain ⟨Hv, hHv⟩ : ∃ E, hasB N S2 y = E := ⟨_, rfl⟩
          have kk : ∀ W, PQ B w W t g N S2 rb n L2 [(sb, .cells #[.int .i64 x, .int .i64 y, .int .i64 z] 31)] → Calls Try.prog 20 #[ptr t, .int .i64 y] W fun e w' => e = .returned (.tuple #[.int .i64 Kv, .bool Hv]) ∧ w' = W := fun W h => by
            rw [← hKv, ← hHv]; exact h.mx.at_ 0 rfl y
          have kr : ∀ W, PQ B w W t g N S2 rb n L2 [(sb, .cells #[.int .i64 x, .int .i64 y, .int .i64 z] 31)] → Calls Try.prog 21 #[ptr rb, .int .i64 y] W fun e w' => e = .returned (.tuple #[.int .i64 Kv, .bool Hv]) ∧ w' = W := fun W h => by
            rw [← hKv, ← hHv]; exact rat_all HT.out hL3 y W S2 h
          have kl : ∀ W, PQ B w W t g N S2 rb n L2 [(sb, .cells #[.int .i64 x, .int .i64 y, .int .i64 z] 31)] → Calls Try.prog 22 #[ptr g] W fun e w' => e = .returned (.int .i64 L2.length) ∧ w' = W := fun W h => by
            rw [HT.out.len]; exact h.mx.len 0 rfl
          have HG : Hid (∀ W, PQ B w W t g N S2 rb n L2 [(sb, .cells #[.int .i64 x, .int .i64 y, .int .i64 z] 31)] → W.cell? ⟨t, 0, none⟩ = some (ptr g)) := fun W h => h.mx.c0 0 rfl
          have HRL : Hid (∀ W, PQ B w W t g N S2 rb n L2 [(sb, .cells #[.int .i64 x, .int .i64 y, .int .i64 z] 31)] → PQ B w W t g N S2 rb n L2 [(sb, .cells #[.int .i64 x, .int .i64 y, .int .i64 z] 31)]) := fun W h => h
          obtain ⟨d1, d2⟩ := HC.out _ _ _ s6.out
          have eh : (Hv != Hv) = false := by simp
          have ek : (Kv != Kv) = false := by simp
          clear hKv hHv
          cases L2 with
          | nil =>
            have kf : Calls Try.prog 19 #[ptr t] wc fun e w' => e = .returned (.tuple #[.int .i64 0, .bool false]) ∧ Hid (PQ B w w' t g N S2 rb n [] [(sb, .cells #[.int .i64 x, .int .i64 y, .int .i64 z] 31)]) := by
              obtain ⟨F, v, hp⟩ := s6.out
              exact (next_none (hp.mf.ho 0 _ rfl) (HT.out.emp rfl)).mono (fun e w' q => ⟨q.1, hide_it (s6.out.below (below_of_eq q.2))⟩)
            simp only [List.length_nil] at kl
            go_upto_region 27 with (first | (go_at_call 19; refine kf.mono ?_; rintro e w7 ⟨rfl, t7⟩; obtain ⟨d3, d4⟩ := HC.out _ _ _ t7.out) | (go_at_call 20; refine (kk _ t7.out).mono ?_; rintro e w8 ⟨rfl, rfl⟩) | (go_at_call 21; refine (kr _ t7.out).mono ?_; rintro e w9 ⟨rfl, rfl⟩))
            obtain ⟨ao, cp, e1⟩ := (HRL.out _ t7.out).rl
            simp only [List.length_nil] at e1
            have e2 := HG.out _ t7.out
            have kl' := fun j => kl (w9.drewN j) (t7.out.below ⟨rfl, rfl, rfl, Nat.le_refl _, fun _ _ => rfl⟩)
            have TE : Hid (∀ j, PQ B w (w9.drewN j) t g N S2 rb n [] []) := fun j => (t7.out.drop (R' := []) (fun p hp => by simp at hp)).below ⟨rfl, rfl, rfl, Nat.le_refl _, fun _ _ => rfl⟩
            clear kk kr kl kf s6 HRL HC d1 d2 d3 d4 HX HG hL3 t7
            go_big_quiet ((first | (go_at_call 22; exact Calls.quiet_of_same (kl' _))))
            go_wp2
            go_roundw
            case rel => exact ⟨i + 1, S2, [], by go_num, by omega, by omega, TE.out _, HT.out, HL2.out⟩
            case measure => simp [intOf]; omega
          | cons p T =>
            obtain ⟨x0, hx0, hf⟩ := HT.out.fst rfl
            have kf : Calls Try.prog 19 #[ptr t] wc fun e w' => e = .returned (.tuple #[.int .i64 p.2, .bool true]) ∧ Hid (PQ B w w' t g N S2 rb n (p :: T) [(sb, .cells #[.int .i64 x, .int .i64 y, .int .i64 z] 31)]) := by
              obtain ⟨F, v, hp⟩ := s6.out
              exact (next_some (hp.mf.ho 0 _ rfl) hf).mono (fun e w' q => ⟨q.1, hide_it (s6.out.below q.2)⟩)
            simp only [List.length_cons] at kl hL3
            have hrl := fun W h => (HRL.out W h).rl1
            have HRR := hide_it hrl
            clear hrl hf hx0
            go_upto_region 27 with (first | (go_at_call 19; refine kf.mono ?_; rintro e w7 ⟨rfl, t7⟩; obtain ⟨d3, d4⟩ := HC.out _ _ _ t7.out) | (go_at_call 20; refine (kk _ t7.out).mono ?_; rintro e w8 ⟨rfl, rfl⟩) | (go_at_call 21; refine (kr _ t7.out).mono ?_; rintro e w9 ⟨rfl, rfl⟩))
            obtain ⟨b, o, cp, e1, e3⟩ := HRR.out _ t7.out
            have e2 := HG.out _ t7.out
            have kl' := fun j => kl (w9.drewN j) (t7.out.below ⟨rfl, rfl, rfl, Nat.le_refl _, fun _ _ => rfl⟩)
            have TE : Hid (∀ j, PQ B w (w9.drewN j) t g N S2 rb n (p :: T) []) := fun j => (t7.out.drop (R' := []) (fun p hp => by simp at hp)).below ⟨rfl, rfl, rfl, Nat.le_refl _, fun _ _ => rfl⟩
            obtain ⟨y0, hy0⟩ : ∃ y0, p.2 = y0 := ⟨_, rfl⟩
            obtain ⟨tl, htl⟩ : ∃ tl, T.length + 1 = tl := ⟨_, rfl⟩
            rw [hy0] at e3
            rw [htl] at e1 hL3
            rw [htl] at kl'
            have ht0 : 0 < tl := by omega
            simp only [hy0]
            have ey : (y0 != y0) = false := by simp
            have ec : ((tl : Int) != (tl : Int)) = false := by simp
            have eg : decide (0 < (tl : Int)) = true := decide_eq_true (by omega)
            have eg' : decide (0 < tl) = true := decide_eq_true ht0
            clear kk kr kl kf s6 HRL HRR HC d1 d2 d3 d4 HX HG t7 hy0 htl
            go_big_quiet ((first | (go_at_call 22; exact Calls.quiet_of_same (kl' _))))
            go_wp2
            go_roundw
            case rel => exact ⟨i + 1, S2, p :: T, by go_num, by omega, by omega, TE.out _, HT.out, HL2.out⟩
            case measure => simp [intOf]; omega
      · have h2 : decide ((i : Int) < 200) = false := decide_eq_false (by omega)
        have h3 : decide (i < 200) = false := decide_eq_false (by omega)
        go_wp2
        go_ret
        exact ⟨rfl, s.out.mx.bel⟩
    · have h2 : decide ((i : Int) < m) = false := decide_eq_false (by omega)
      have h3 : decide (i < m) = false := decide_eq_false (by omega)
      go_wp2
      go_ret
      exact ⟨rfl, s.out.mx.bel⟩
end Go.Proofs.Ytlpbjafdmhcmgaa
