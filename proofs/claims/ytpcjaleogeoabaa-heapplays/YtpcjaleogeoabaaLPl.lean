/- HeapPlays, walked. -/
import Derived.Test.YtpcjaleogeoabaaPlb
import Derived.Deep.RegionHeld3
import Derived.Deep.CutRange
import Derived.Deep.CutBlock
import Derived.BigQuiet
namespace Go.Proofs.Ytpcjaleogeoabaa
open Go.RowKit
open M
set_option linter.unusedVariables false
set_option linter.unusedSimpArgs false

theorem kindsP (k : Int) : k = 1 ∨ k = 2 ∨ k = 3 ∨ k = 4 ∨ k = 5 ∨ ((k == 1) = false ∧ (k == 2) = false ∧ (k == 3) = false ∧ (k == 4) = false ∧ (k == 5) = false) := by
  simp only [beq_eq_false_iff_ne]
  omega
theorem StepsIn.atP {w : World} {a : Option Addr} {l : List (Int × Int × Int)} (h : StepsIn w a l) {i : Nat} (hi : i < l.length) : ∃ x y z b o, a = some ⟨b, o, none⟩ ∧ ∀ W, Below w.heap.size w W → W.cell? ⟨b, o + i * 3, none⟩ = some (.int .i64 x) ∧ W.cell? ⟨b, o + i * 3 + 1, none⟩ = some (.int .i64 y) ∧ W.cell? ⟨b, o + i * 3 + 2, none⟩ = some (.int .i64 z) := by
  obtain ⟨b, o, h1, h2, h3, h4, h5⟩ := h i hi
  exact ⟨_, _, _, b, o, h1, fun W hb => ⟨by rw [hb.cell (p := ⟨b, _, none⟩) h2]; exact h3, by rw [hb.cell (p := ⟨b, _, none⟩) h2]; exact h4, by rw [hb.cell (p := ⟨b, _, none⟩) h2]; exact h5⟩⟩

theorem fst_casesP (N : Nat) (S : Nat → Option Int) : Emp N S ∨ ∃ x y, Fst N S x y := by
  induction N with
  | zero => exact .inl (fun x hx => by omega)
  | succ n ih =>
    cases hs : S n with
    | none =>
      rcases ih with h | ⟨x, y, h⟩
      · refine .inl (fun x hx => ?_)
        by_cases e : x = n
        · subst e; exact hs
        · exact h x (by omega)
      · refine .inr ⟨x, y, by have := h.lt; omega, h.is, fun z u hz hu => ?_⟩
        by_cases e : z = n
        · subst e; rw [hs] at hu; cases hu
        · exact h.le z u (by omega) hu
    | some v =>
      rcases ih with h | ⟨x, y, h⟩
      · refine .inr ⟨n, v, by omega, hs, fun z u hz hu => ?_⟩
        by_cases e : z = n
        · subst e; rw [hs] at hu; cases hu; exact .inr ⟨rfl, Nat.le_refl _⟩
        · rw [h z (by omega)] at hu; cases hu
      · have hx := h.lt
        by_cases hv : v < y
        · refine .inr ⟨n, v, by omega, hs, fun z u hz hu => ?_⟩
          by_cases e : z = n
          · subst e; rw [hs] at hu; cases hu; exact .inr ⟨rfl, Nat.le_refl _⟩
          · have := h.le z u (by omega) hu; omega
        · refine .inr ⟨x, y, by omega, h.is, fun z u hz hu => ?_⟩
          by_cases e : z = n
          · subst e; rw [hs] at hu; cases hu; omega
          · exact h.le z u (by omega) hu


set_option maxRecDepth 1000000 in
set_option maxHeartbeats 8000000 in
theorem heapPlays_walk (n : Int) (l : List (Int × Int × Int)) (a : Option Addr) (cap : Nat) (w : World) (hI : StepsIn w a l) (hl : l.length ≤ cap) (hc : cap ≤ maxLen) :
    Calls Try.prog 3 #[.int .i64 n, .slice a l.length cap] w fun e w' => e = .returned (.bool true) ∧ Below w.heap.size w w' := by
  obtain ⟨B, hB⟩ : ∃ B, w.heap.size = B := ⟨_, rfl⟩
  have ks : Calls Try.prog 11 #[] w fun e w' => e = .returned (.bool true) ∧ Hid (Below B w w') := by
    have := shown_any w
    rw [hB] at this
    exact this
  have hle : B ≤ w.heap.size := by omega
  obtain ⟨N, hN⟩ : ∃ N, hsz n = N := ⟨_, rfl⟩
  have hN1 : N ≤ 65536 := by rw [← hN]; exact hsz_le n
  have kn : ∀ W, Below B w W → Calls Try.prog 12 #[.int .i64 n] W fun e w' => ∃ g, e = .returned (ptr g) ∧ Hid (MX B w w' [(g, N, fun _ => none)] []) := fun W hb => by
    have := (mx_start hb hle).new n
    rw [hN] at this
    exact this
  have hcm : cap ≤ 9223372036854775807 := by unfold maxLen at hc; omega
  obtain ⟨m, hm⟩ : ∃ m, l.length = m := ⟨_, rfl⟩
  rw [hm] at hl ⊢
  have HI : Hid (∀ (i : Nat), i < m → ∃ x y z b o, a = some ⟨b, o, none⟩ ∧ ∀ W, Below B w W → W.cell? ⟨b, o + i * 3, none⟩ = some (.int .i64 x) ∧ W.cell? ⟨b, o + i * 3 + 1, none⟩ = some (.int .i64 y) ∧ W.cell? ⟨b, o + i * 3 + 2, none⟩ = some (.int .i64 z)) := fun i hi => by
    have := hI.atP (i := i) (by omega)
    rw [hB] at this
    exact this
  rw [hB]
  clear hI hc hB hm
  go_enter Try.func3, Try.ntmps3
  go_wp2_with (first | (go_at_call 11; refine ks.mono ?_; rintro e w1 ⟨rfl, s1⟩; clear ks) | (go_at_call 12; refine (kn _ s1.out).mono ?_; rintro e w2 ⟨g, rfl, s⟩; clear kn s1))
  have s0 := hide_it (pq_start (s.out.alloc (.cells #[.int .i64 n, .slice none 0 0] 29)))
  obtain ⟨rb, hrb⟩ : ∃ r, w2.heap.size = r := ⟨_, rfl⟩
  rw [hrb] at s0
  simp only [hrb]
  clear hrb s
  generalize w2.alloc (.cells #[.int .i64 n, .slice none 0 0] 29) = w3 at *
  go_loopw [8] (fun iv W => ∃ (i : Nat) (S : Nat → Option Int) (L : List It), iv = .int .i64 i ∧ i ≤ m ∧ i ≤ 200 ∧ Hid (PQ B w W g N S rb n L []) ∧ Hid (RS N S L)) (fun iv _ => m - (intOf iv).toNat)
  case atStart => exact ⟨0, _, _, rfl, Nat.zero_le _, by omega, s0, RS.start N⟩
  case round =>
    clear s0
    obtain ⟨i, S, L, rfl, hi, hi2, s, HS⟩ := hrel
    by_cases hlt : i < m
    · by_cases hlt2 : i < 200
      · have h200 : decide ((i : Int) < 200) = true := decide_eq_true (by omega)
        have h200' : decide (i < 200) = true := decide_eq_true (by omega)
        obtain ⟨x, y, z, b1, o1, rfl, HX⟩ := HI.out i hlt
        have HX := hide_it HX
        obtain ⟨c0, c1, c2⟩ := HX.out _ s.out.mx.bel
        have sA := hide_it (s.out.alloc (.cells #[.int .i64 x, .int .i64 y, .int .i64 z] 31))
        clear s
        go_upto_block 2 with fail
        obtain ⟨sb, hsb⟩ : ∃ r, wr.heap.size = r := ⟨_, rfl⟩
        rw [hsb] at sA
        simp only [hsb]
        clear hsb c0 c1 c2
        generalize wr.alloc (.cells #[.int .i64 x, .int .i64 y, .int .i64 z] 31) = w5 at *
        have sB := sA
        clear sA
        have HC : Hid (∀ W (a : Nat → Option Int) (b : List It), PQ B w W g N a rb n b [(sb, .cells #[.int .i64 x, .int .i64 y, .int .i64 z] 31)] → W.cell? ⟨sb, 1, none⟩ = some (.int .i64 y) ∧ W.cell? ⟨sb, 2, none⟩ = some (.int .i64 z)) := fun W a b h => by
          have hr := h.mx.row (List.mem_singleton.2 rfl)
          exact ⟨by rw [cell_of_row W sb 1 _ _ _ hr]; rfl, by rw [cell_of_row W sb 2 _ _ _ hr]; rfl⟩
        obtain ⟨d1, d2⟩ := HC.out _ _ _ sB.out
        go_cut [10, 11, 12, 13, 14, 15, 16, 17, 18, 19] from 37 to 207 (fun s10 _ _ _ _ _ _ _ _ _ wx => s10 = .bool true ∧ ∃ (S' : Nat → Option Int) (L' : List It), Hid (PQ B w wx g N S' rb n L' [(sb, .cells #[.int .i64 x, .int .i64 y, .int .i64 z] 31)]) ∧ Hid (RS N S' L'))
        case first =>
          have sD := hide_it (sB.out.below (W' := w5.drew) ((Below.refl _ _).drew))
          rcases kindsP x with hx | hx | hx | hx | hx | ⟨k1, k2, k3, k4, k5⟩
          ·
            have k1 : (x == 1) = true := by simp [hx]
            obtain ⟨L', hr', hc'⟩ := rpush_all (B := B) (w := w) (g := g) (rb := rb) (R := [(sb, .cells #[.int .i64 x, .int .i64 y, .int .i64 z] 31)]) HS.out hN y z
            obtain ⟨E, hE⟩ : ∃ E, pushE N S y = E := ⟨_, rfl⟩
            obtain ⟨S1, hS1⟩ : ∃ S1, pushS N S y z = S1 := ⟨_, rfl⟩
            have kp : Calls Try.prog 13 #[ptr g, .int .i64 y, .int .i64 z] w5.drew fun e w' => e = .returned (.int .i64 E) ∧ Hid (PQ B w w' g N S1 rb n L [(sb, .cells #[.int .i64 x, .int .i64 y, .int .i64 z] 31)]) := by
              rw [← hE, ← hS1]
              exact sD.out.op (fun F q => push_any q y z)
            have kr : ∀ W, PQ B w W g N S1 rb n L [(sb, .cells #[.int .i64 x, .int .i64 y, .int .i64 z] 31)] → Calls Try.prog 14 #[ptr rb, .int .i64 y, .int .i64 z] W fun e w' => e = .returned (.int .i64 E) ∧ Hid (PQ B w w' g N S1 rb n L' [(sb, .cells #[.int .i64 x, .int .i64 y, .int .i64 z] 31)]) := fun W h => by
              rw [← hE]; exact hc' W S1 h
            rw [hS1] at hr'
            have HR := hide_it hr'
            have eE : (E == E) = true := by simp
            clear hx hE hS1 hr' hc' sB HS
            go_upto_region 14 with fail
            (go_region_held3 (fun V => V.cell? ⟨sb, 1, none⟩ = some (.int .i64 y) ∧ V.cell? ⟨sb, 2, none⟩ = some (.int .i64 z)) (first | exact HC.out _ _ _ t7.out | exact HC.out _ _ _ t6.out | exact HC.out _ _ _ sD.out | exact HC.out _ _ _ (t7.out.below ⟨rfl, rfl, rfl, Nat.le_refl _, fun _ _ => rfl⟩) | go_keep) (first | (go_at_call 13; refine kp.mono ?_; rintro e w6 ⟨rfl, t6⟩) | (go_at_call 14; refine (kr _ t6.out).mono ?_; rintro e w7 ⟨rfl, t7⟩)))
            all_goals
              go_wp2
              go_meet
              exact ⟨rfl, S1, L', t7.out.below ⟨rfl, rfl, rfl, Nat.le_refl _, fun _ _ => rfl⟩, HR.out⟩
          ·
            have k1 : (x == 1) = false := by simp [hx]
            have k2 : (x == 2) = true := by simp [hx]
            obtain ⟨L', hr', hc'⟩ := rpush_all (B := B) (w := w) (g := g) (rb := rb) (R := [(sb, .cells #[.int .i64 x, .int .i64 y, .int .i64 z] 31)]) HS.out hN y z
            obtain ⟨E, hE⟩ : ∃ E, pushE N S y = E := ⟨_, rfl⟩
            obtain ⟨S1, hS1⟩ : ∃ S1, pushS N S y z = S1 := ⟨_, rfl⟩
            have kp : Calls Try.prog 13 #[ptr g, .int .i64 y, .int .i64 z] w5.drew fun e w' => e = .returned (.int .i64 E) ∧ Hid (PQ B w w' g N S1 rb n L [(sb, .cells #[.int .i64 x, .int .i64 y, .int .i64 z] 31)]) := by
              rw [← hE, ← hS1]
              exact sD.out.op (fun F q => push_any q y z)
            have kr : ∀ W, PQ B w W g N S1 rb n L [(sb, .cells #[.int .i64 x, .int .i64 y, .int .i64 z] 31)] → Calls Try.prog 14 #[ptr rb, .int .i64 y, .int .i64 z] W fun e w' => e = .returned (.int .i64 E) ∧ Hid (PQ B w w' g N S1 rb n L' [(sb, .cells #[.int .i64 x, .int .i64 y, .int .i64 z] 31)]) := fun W h => by
              rw [← hE]; exact hc' W S1 h
            rw [hS1] at hr'
            have HR := hide_it hr'
            have eE : (E == E) = true := by simp
            clear hx hE hS1 hr' hc' sB HS
            go_upto_region 14 with fail
            (go_region_held3 (fun V => V.cell? ⟨sb, 1, none⟩ = some (.int .i64 y) ∧ V.cell? ⟨sb, 2, none⟩ = some (.int .i64 z)) (first | exact HC.out _ _ _ t7.out | exact HC.out _ _ _ t6.out | exact HC.out _ _ _ sD.out | exact HC.out _ _ _ (t7.out.below ⟨rfl, rfl, rfl, Nat.le_refl _, fun _ _ => rfl⟩) | go_keep) (first | (go_at_call 13; refine kp.mono ?_; rintro e w6 ⟨rfl, t6⟩) | (go_at_call 14; refine (kr _ t6.out).mono ?_; rintro e w7 ⟨rfl, t7⟩)))
            all_goals
              go_wp2
              go_meet
              exact ⟨rfl, S1, L', t7.out.below ⟨rfl, rfl, rfl, Nat.le_refl _, fun _ _ => rfl⟩, HR.out⟩
          ·
            have k1 : (x == 1) = false := by simp [hx]
            have k2 : (x == 2) = false := by simp [hx]
            have k3 : (x == 3) = true := by simp [hx]
            obtain ⟨L', hr', hc'⟩ := rlow_all (B := B) (w := w) (g := g) (rb := rb) (R := [(sb, .cells #[.int .i64 x, .int .i64 y, .int .i64 z] 31)]) HS.out hN y z
            obtain ⟨E, hE⟩ : ∃ E, lowE N S y z = E := ⟨_, rfl⟩
            obtain ⟨S1, hS1⟩ : ∃ S1, lowS N S y z = S1 := ⟨_, rfl⟩
            have kp : Calls Try.prog 15 #[ptr g, .int .i64 y, .int .i64 z] w5.drew fun e w' => e = .returned (.int .i64 E) ∧ Hid (PQ B w w' g N S1 rb n L [(sb, .cells #[.int .i64 x, .int .i64 y, .int .i64 z] 31)]) := by
              rw [← hE, ← hS1]
              exact sD.out.op (fun F q => lower_any q y z)
            have kr : ∀ W, PQ B w W g N S1 rb n L [(sb, .cells #[.int .i64 x, .int .i64 y, .int .i64 z] 31)] → Calls Try.prog 16 #[ptr rb, .int .i64 y, .int .i64 z] W fun e w' => e = .returned (.int .i64 E) ∧ Hid (PQ B w w' g N S1 rb n L' [(sb, .cells #[.int .i64 x, .int .i64 y, .int .i64 z] 31)]) := fun W h => by
              rw [← hE]; exact hc' W S1 h
            rw [hS1] at hr'
            have HR := hide_it hr'
            have eE : (E == E) = true := by simp
            clear hx hE hS1 hr' hc' sB HS
            go_upto_region 16 with fail
            (go_region_held3 (fun V => V.cell? ⟨sb, 1, none⟩ = some (.int .i64 y) ∧ V.cell? ⟨sb, 2, none⟩ = some (.int .i64 z)) (first | exact HC.out _ _ _ t7.out | exact HC.out _ _ _ t6.out | exact HC.out _ _ _ sD.out | exact HC.out _ _ _ (t7.out.below ⟨rfl, rfl, rfl, Nat.le_refl _, fun _ _ => rfl⟩) | go_keep) (first | (go_at_call 15; refine kp.mono ?_; rintro e w6 ⟨rfl, t6⟩) | (go_at_call 16; refine (kr _ t6.out).mono ?_; rintro e w7 ⟨rfl, t7⟩)))
            all_goals
              go_wp2
              go_meet
              exact ⟨rfl, S1, L', t7.out.below ⟨rfl, rfl, rfl, Nat.le_refl _, fun _ _ => rfl⟩, HR.out⟩
          ·
            have k1 : (x == 1) = false := by simp [hx]
            have k2 : (x == 2) = false := by simp [hx]
            have k3 : (x == 3) = false := by simp [hx]
            have k4 : (x == 4) = true := by simp [hx]
            obtain ⟨L', hr', hc'⟩ := rrem_all (B := B) (w := w) (g := g) (rb := rb) (R := [(sb, .cells #[.int .i64 x, .int .i64 y, .int .i64 z] 31)]) HS.out hN y
            obtain ⟨E, hE⟩ : ∃ E, remE N S y = E := ⟨_, rfl⟩
            obtain ⟨Kv, hKv⟩ : ∃ E, keyV N S y = E := ⟨_, rfl⟩
            obtain ⟨S1, hS1⟩ : ∃ S1, remS N S y = S1 := ⟨_, rfl⟩
            have kp : Calls Try.prog 17 #[ptr g, .int .i64 y] w5 fun e w' => e = .returned (.tuple #[.int .i64 Kv, .int .i64 E]) ∧ Hid (PQ B w w' g N S1 rb n L [(sb, .cells #[.int .i64 x, .int .i64 y, .int .i64 z] 31)]) := by
              rw [← hE, ← hS1, ← hKv]
              exact sB.out.op (fun F q => remove_any q y)
            have kr : ∀ W, PQ B w W g N S1 rb n L [(sb, .cells #[.int .i64 x, .int .i64 y, .int .i64 z] 31)] → Calls Try.prog 18 #[ptr rb, .int .i64 y] W fun e w' => e = .returned (.tuple #[.int .i64 Kv, .int .i64 E]) ∧ Hid (PQ B w w' g N S1 rb n L' [(sb, .cells #[.int .i64 x, .int .i64 y, .int .i64 z] 31)]) := fun W h => by
              rw [← hE, ← hKv]; exact hc' W S1 h
            rw [hS1] at hr'
            have HR := hide_it hr'
            have eE : (E == E) = true := by simp
            have eK : (Kv == Kv) = true := by simp
            clear hx hE hKv hS1 hr' hc' HS
            go_wp2_with (first | (go_at_call 17; refine kp.mono ?_; rintro e w6 ⟨rfl, t6⟩; obtain ⟨d3, d4⟩ := HC.out _ _ _ t6.out) | (go_at_call 18; refine (kr _ t6.out).mono ?_; rintro e w7 ⟨rfl, t7⟩))
            go_meet
            exact ⟨rfl, S1, L', t7.out, HR.out⟩
          ·
            have k1 : (x == 1) = false := by simp [hx]
            have k2 : (x == 2) = false := by simp [hx]
            have k3 : (x == 3) = false := by simp [hx]
            have k4 : (x == 4) = false := by simp [hx]
            have k5 : (x == 5) = true := by simp [hx]
            rcases fst_casesP N S with he | ⟨x0, y0, hf⟩
            ·
              have kp : Calls Try.prog 19 #[ptr g] w5 fun e w' => e = .returned (.tuple #[.int .i64 0, .int .i64 0, .bool false]) ∧ Hid (PQ B w w' g N S rb n L [(sb, .cells #[.int .i64 x, .int .i64 y, .int .i64 z] 31)]) := by
                obtain ⟨F, v, hp⟩ := sB.out
                exact (pop_none (hp.mf.ho 0 _ rfl) he).mono (fun e w' q => ⟨q.1, hide_it (sB.out.below (below_of_eq q.2))⟩)
              have kr : ∀ W, PQ B w W g N S rb n L [(sb, .cells #[.int .i64 x, .int .i64 y, .int .i64 z] 31)] → Calls Try.prog 20 #[ptr rb] W fun e w' => e = .returned (.tuple #[.agg #[.int .i64 0, .int .i64 0], .bool false]) ∧ Hid (PQ B w w' g N S rb n L [(sb, .cells #[.int .i64 x, .int .i64 y, .int .i64 z] 31)]) := fun W h => rpop_emp HS.out he W S h
              have HR := HS
              clear he
              clear hx HS
              go_wp2_with (first | (go_at_call 19; refine kp.mono ?_; rintro e w6 ⟨rfl, t6⟩) | (go_at_call 20; refine (kr _ t6.out).mono ?_; rintro e w7 ⟨rfl, t7⟩))
              go_meet
              exact ⟨rfl, S, L, t7.out.below ((Below.refl _ _).alloc (Nat.le_refl _) _), HR.out⟩
            ·
              obtain ⟨L', hr', hc'⟩ := rpop_fst (B := B) (w := w) (g := g) (rb := rb) (R := [(sb, .cells #[.int .i64 x, .int .i64 y, .int .i64 z] 31)]) HS.out hN hf
              have kp : Calls Try.prog 19 #[ptr g] w5 fun e w' => e = .returned (.tuple #[.int .i64 x0, .int .i64 y0, .bool true]) ∧ Hid (PQ B w w' g N (upS S x0 none) rb n L [(sb, .cells #[.int .i64 x, .int .i64 y, .int .i64 z] 31)]) := sB.out.op (fun F q => pop_some q hf)
              have kr : ∀ W, PQ B w W g N (upS S x0 none) rb n L [(sb, .cells #[.int .i64 x, .int .i64 y, .int .i64 z] 31)] → Calls Try.prog 20 #[ptr rb] W fun e w' => e = .returned (.tuple #[.agg #[.int .i64 x0, .int .i64 y0], .bool true]) ∧ Hid (PQ B w w' g N (upS S x0 none) rb n L' [(sb, .cells #[.int .i64 x, .int .i64 y, .int .i64 z] 31)]) := fun W h => hc' W _ h
              have HR := hide_it hr'
              generalize upS S x0 none = S1 at *
              have ex : (y0 == y0) = true := by simp
              clear hf hr' hc'
              clear hx HS
              go_wp2_with (first | (go_at_call 19; refine kp.mono ?_; rintro e w6 ⟨rfl, t6⟩) | (go_at_call 20; refine (kr _ t6.out).mono ?_; rintro e w7 ⟨rfl, t7⟩))
              go_meet
              exact ⟨rfl, S1, L', t7.out.below ((Below.refl _ _).alloc (Nat.le_refl _) _), HR.out⟩
          ·
            go_wp2
            go_meet
            exact ⟨rfl, S, L, sB.out, HS.out⟩
        case rest =>
          clear sB d1 d2 HS
          obtain ⟨hs10, S2, L2, s6, HT⟩ := hcut
          subst hs10
          obtain ⟨Kv, hKv⟩ : ∃ E, keyV N S2 y = E := ⟨_, rfl⟩
          obtain ⟨Hv, hHv⟩ : ∃ E, hasB N S2 y = E := ⟨_, rfl⟩
          have kk : ∀ W, PQ B w W g N S2 rb n L2 [(sb, .cells #[.int .i64 x, .int .i64 y, .int .i64 z] 31)] → Calls Try.prog 23 #[ptr g, .int .i64 y] W fun e w' => e = .returned (.tuple #[.int .i64 Kv, .bool Hv]) ∧ w' = W := fun W h => by
            rw [← hKv, ← hHv]; exact h.mx.key 0 rfl y
          have kr : ∀ W, PQ B w W g N S2 rb n L2 [(sb, .cells #[.int .i64 x, .int .i64 y, .int .i64 z] 31)] → Calls Try.prog 24 #[ptr rb, .int .i64 y] W fun e w' => e = .returned (.tuple #[.int .i64 Kv, .bool Hv]) ∧ w' = W := fun W h => by
            rw [← hKv, ← hHv]; exact rkey_all HT.out hN y W S2 h
          have kh : ∀ W, PQ B w W g N S2 rb n L2 [(sb, .cells #[.int .i64 x, .int .i64 y, .int .i64 z] 31)] → Calls Try.prog 25 #[ptr g, .int .i64 y] W fun e w' => e = .returned (.bool Hv) ∧ w' = W := fun W h => by
            rw [← hHv]; exact h.mx.has 0 rfl y
          obtain ⟨c, hc⟩ : ∃ c, L2.length = c := ⟨_, rfl⟩
          have hcN : c ≤ N := by rw [← hc]; exact HT.out.len
          have kl : ∀ W, PQ B w W g N S2 rb n L2 [(sb, .cells #[.int .i64 x, .int .i64 y, .int .i64 z] 31)] → Calls Try.prog 26 #[ptr g] W fun e w' => e = .returned (.int .i64 c) ∧ w' = W := fun W h => by
            rw [← hc, HT.out.cnt]; exact h.mx.len 0 rfl
          have HRL : Hid (∀ W, PQ B w W g N S2 rb n L2 [(sb, .cells #[.int .i64 x, .int .i64 y, .int .i64 z] 31)] → ∃ ao cp, W.cell? ⟨rb, 1, none⟩ = some (.slice ao c cp)) := fun W h => by rw [← hc]; exact h.rl
          clear hKv hHv hc
          obtain ⟨fx, fy, fb, kf, kg⟩ : ∃ (fx fy : Int) (fb : Bool), (Calls Try.prog 21 #[ptr g] wc fun e w' => e = .returned (.tuple #[.int .i64 fx, .int .i64 fy, .bool fb]) ∧ Hid (PQ B w w' g N S2 rb n L2 [(sb, .cells #[.int .i64 x, .int .i64 y, .int .i64 z] 31)])) ∧ ∀ W, PQ B w W g N S2 rb n L2 [(sb, .cells #[.int .i64 x, .int .i64 y, .int .i64 z] 31)] → Calls Try.prog 22 #[ptr rb] W fun e w' => e = .returned (.tuple #[.agg #[.int .i64 fx, .int .i64 fy], .bool fb]) ∧ Hid (PQ B w w' g N S2 rb n L2 [(sb, .cells #[.int .i64 x, .int .i64 y, .int .i64 z] 31)]) := by
            rcases fst_casesP N S2 with he | ⟨x0, y0, hf⟩
            · refine ⟨0, 0, false, ?_, fun W h => rfirst_emp HT.out he W S2 h⟩
              obtain ⟨F, v, hp⟩ := s6.out
              exact (first_none (hp.mf.ho 0 _ rfl) he).mono (fun e w' q => ⟨q.1, hide_it (s6.out.below (below_of_eq q.2))⟩)
            · refine ⟨x0, y0, true, ?_, fun W h => rfirst_fst HT.out hN hf W S2 h⟩
              obtain ⟨F, v, hp⟩ := s6.out
              exact (first_some (hp.mf.ho 0 _ rfl) hf).mono (fun e w' q => ⟨q.1, hide_it (s6.out.below q.2)⟩)
          go_upto_region 29 with (first | (go_at_call 21; refine kf.mono ?_; rintro e w7 ⟨rfl, t7⟩) | (go_at_call 22; refine (kg _ t7.out).mono ?_; rintro e w8 ⟨rfl, t8⟩; have t9 := hide_it (t8.out.alloc (.cells #[.int .i64 fx, .int .i64 fy] 39)); have tA := hide_it (t9.out.drop (R' := [(sb, .cells #[.int .i64 x, .int .i64 y, .int .i64 z] 31)]) (fun p hp => List.mem_cons_of_mem _ hp)); obtain ⟨d3, d4⟩ := HC.out _ _ _ tA.out) | (go_at_call 23; refine (kk _ tA.out).mono ?_; rintro e w9 ⟨rfl, rfl⟩) | (go_at_call 24; refine (kr _ tA.out).mono ?_; rintro e wA ⟨rfl, rfl⟩))
          obtain ⟨ao, cp, e1⟩ := HRL.out _ tA.out
          have kh' := fun j => kh ((w8.alloc (.cells #[.int .i64 fx, .int .i64 fy] 39)).drewN j) (tA.out.below ⟨rfl, rfl, rfl, Nat.le_refl _, fun _ _ => rfl⟩)
          have kl' := fun j => kl ((w8.alloc (.cells #[.int .i64 fx, .int .i64 fy] 39)).drewN j) (tA.out.below ⟨rfl, rfl, rfl, Nat.le_refl _, fun _ _ => rfl⟩)
          have q0 : (w8.alloc (.cells #[.int .i64 fx, .int .i64 fy] 39)).cell? ⟨w8.heap.size, 0, none⟩ = some (.int .i64 fx) := by rw [cell_of_row _ _ 0 _ _ _ (heap_alloc_new w8 _)]; rfl
          have q1 : (w8.alloc (.cells #[.int .i64 fx, .int .i64 fy] 39)).cell? ⟨w8.heap.size, 1, none⟩ = some (.int .i64 fy) := by rw [cell_of_row _ _ 1 _ _ _ (heap_alloc_new w8 _)]; rfl
          have TE : Hid (∀ j, PQ B w ((w8.alloc (.cells #[.int .i64 fx, .int .i64 fy] 39)).drewN j) g N S2 rb n L2 []) := fun j => (tA.out.drop (R' := []) (fun p hp => by simp at hp)).below ⟨rfl, rfl, rfl, Nat.le_refl _, fun _ _ => rfl⟩
          clear kk kr kh kl kf kg t7 t8 t9 tA HRL HC d4 HX
          obtain ⟨xb, hxb⟩ : ∃ r, w8.heap.size = r := ⟨_, rfl⟩
          rw [hxb] at q0 q1
          simp only [hxb]
          clear hxb
          generalize w8.alloc (.cells #[.int .i64 fx, .int .i64 fy] 39) = w9 at *
          have eb : (fb != fb) = false := by simp
          have eh : (Hv != Hv) = false := by simp
          have ex : (fx != fx) = false := by simp
          have ey : (fy != fy) = false := by simp
          have ek : (Kv != Kv) = false := by simp
          have ec : ((c : Int) != (c : Int)) = false := by simp
          go_big_quiet ((first | (go_at_call 25; exact Calls.quiet_of_same (kh' _)) | (go_at_call 26; exact Calls.quiet_of_same (kl' _))))
          go_wp2
          go_roundw
          case rel => exact ⟨i + 1, S2, L2, by go_num, by omega, by omega, TE.out _, HT.out⟩
          case measure => simp [intOf]; omega
      · have h2 : decide ((i : Int) < 200) = false := decide_eq_false (by omega)
        have h3 : decide (i < 200) = false := decide_eq_false (by omega)
        go_wp2
        go_ret
        exact ⟨rfl, s.out.mx.bel⟩
    · have h2 : decide ((i : Int) < m) = false := decide_eq_false (by omega)
      have h3 : decide (i < m) = false := decide_eq_false (by omega)
      go_wp2
      go_ret
      exact ⟨rfl, s.out.mx.bel⟩
end Go.Proofs.Ytpcjaleogeoabaa
