/- AdmitPlays, walked. -/
import Derived.Test.YtjmdalpffhfdfaaSho
import Derived.Test.YtjmdalpffhfdfaaArg
import Derived.Deep.RegionHeld3
import Derived.Deep.CutRange
import Derived.Deep.CutBlock
import Derived.BigQuiet
import Derived.Test.YtjmdalpffhfdfaaSam
import Derived.Test.YtjmdalpffhfdfaaPla
namespace Go.Proofs.Ytjmdalpffhfdfaa
open Go.RowKit
open M
set_option linter.unusedVariables false
set_option linter.unusedSimpArgs false

theorem kinds3 (k : Int) : k = 1 ∨ k = 2 ∨ k = 3 ∨ ((k == 1) = false ∧ (k == 2) = false ∧ (k == 3) = false) := by
  by_cases h1 : k = 1
  · exact .inl h1
  · by_cases h2 : k = 2
    · exact .inr (.inl h2)
    · by_cases h3 : k = 3
      · exact .inr (.inr (.inl h3))
      · exact .inr (.inr (.inr ⟨by simp [h1], by simp [h2], by simp [h3]⟩))
theorem rd_take {w : World} {a : Option Addr} {A Q : List Int} {c : Nat} (h : Rd w a (A ++ Q) c) : A.length ≤ c ∧ (a ≠ none → Rd w a A c) := by
  have hl : (A ++ Q).length = A.length + Q.length := List.length_append
  refine ⟨by have := h.1; omega, fun hn => ?_⟩
  rcases h.2.2 with ⟨_, e, _⟩ | ⟨b, o, e, hb, hc⟩
  · exact absurd e hn
  · refine ⟨by have := h.1; omega, h.2.1, .inr ⟨b, o, e, hb, fun i hi => ?_⟩⟩
    rw [hc i (by omega), List.getElem_append_left hi]
theorem rd_drop {w : World} {b o : Nat} {A Q : List Int} {c : Nat} (h : Rd w (some ⟨b, o, none⟩) (A ++ Q) c) : Rd w (if c = A.length then some ⟨b, o, none⟩ else some ⟨b, o + A.length, none⟩) Q (c - A.length) := by
  have hl : (A ++ Q).length = A.length + Q.length := List.length_append
  have h1 := h.1
  rcases h.2.2 with ⟨_, e, _⟩ | ⟨b', o', e, hb, hc⟩
  · cases e
  · cases e
    refine ⟨by omega, by have := h.2.1; omega, ?_⟩
    by_cases q : c = A.length
    · rw [if_pos q]
      exact .inr ⟨b, o, rfl, hb, fun i hi => by omega⟩
    · rw [if_neg q]
      refine .inr ⟨b, o + A.length, rfl, hb, fun i hi => ?_⟩
      rw [show o + A.length + i = o + (A.length + i) by omega, hc _ (by omega), List.getElem_append_right (by omega)]
      simp

set_option maxRecDepth 1000000 in
set_option maxHeartbeats 8000000 in
theorem admitPlays_walk (ac qu : Int) (l : List (Int × Int)) (a : Option Addr) (cap : Nat) (w : World) (hac : -9223372036854775808 ≤ ac ∧ ac ≤ 9223372036854775807) (hqu : -9223372036854775808 ≤ qu ∧ qu ≤ 9223372036854775807) (hI : StepsIn w a l) (hl : l.length ≤ cap) (hc : cap ≤ maxLen) (hb : ∀ t ∈ l, i64B t.1 ∧ i64B t.2) :
    Calls Try.prog 3 #[.int .i64 ac, .int .i64 qu, .slice a l.length cap] w fun e w' => e = .returned (.bool true) ∧ Below w.heap.size w w' := by
  obtain ⟨B, hB⟩ : ∃ B, w.heap.size = B := ⟨_, rfl⟩
  have ks : Calls Try.prog 10 #[] w fun e w' => e = .returned (.bool true) ∧ Hid (Below B w w') := by
    have := shown_any w
    rw [hB] at this
    exact this
  have hlo : B ≤ w.heap.size := by omega
  have kn : ∀ W, Below B w W → Calls Try.prog 11 #[.int .i64 ac, .int .i64 qu] W fun e w' => ∃ t, e = .returned (ptr t) ∧ Hid (MX B w w' [(t, mk0 ac qu)] []) := fun W hb => (mx_start hb hlo).new ac qu hac.2 hqu.2
  have hcm : cap ≤ 9223372036854775807 := by unfold maxLen at hc; omega
  obtain ⟨m, hm⟩ : ∃ m, l.length = m := ⟨_, rfl⟩
  have HI : Hid (∀ (i : Nat), i < m → ∃ x y b o, a = some ⟨b, o, none⟩ ∧ ∀ W, Below B w W → W.cell? ⟨b, o + i * 2, none⟩ = some (.int .i64 x) ∧ W.cell? ⟨b, o + i * 2 + 1, none⟩ = some (.int .i64 y)) := fun i hi => by
    have := hI.get (i := i) (by omega)
    rw [hB] at this
    exact this
  rw [hm] at hl ⊢
  rw [hB]
  have k0 : Hid (max ac 1 = (mk0 ac qu).a ∧ max qu 0 = (mk0 ac qu).q ∧ siz (mk0 ac qu) ≤ 0) := ⟨rfl, rfl, Nat.le_refl _⟩
  have kL : Hid ((mk0 ac qu).A ++ (mk0 ac qu).Q = []) := rfl
  generalize mk0 ac qu = x0 at *
  clear hB hI hc hm hlo hb hac hqu
  go_enter Try.func3, Try.ntmps3
  go_wp2_with (first | (go_at_call 10; refine ks.mono ?_; rintro e w1 ⟨rfl, s1⟩; clear ks) | (go_at_call 11; refine (kn _ s1.out).mono ?_; rintro e w2 ⟨t, rfl, s⟩; clear kn s1))
  have s0 : Hid (PX B w (w2.alloc (.cells #[.int .i64 ac, .int .i64 qu, .slice none 0 0] 29)) t x0 w2.heap.size ac qu (x0.A ++ x0.Q) []) := by
    rw [kL.out]
    exact px_start (s.out.alloc (.cells #[.int .i64 ac, .int .i64 qu, .slice none 0 0] 29))
  obtain ⟨rb, hrb⟩ : ∃ r, w2.heap.size = r := ⟨_, rfl⟩
  rw [hrb] at s0
  simp only [hrb]
  clear hrb s kL
  generalize w2.alloc (.cells #[.int .i64 ac, .int .i64 qu, .slice none 0 0] 29) = w3 at *
  go_loopw [10] (fun iv W => ∃ (i : Nat) (x : Ad), iv = .int .i64 i ∧ i ≤ m ∧ i ≤ 200 ∧ Hid (PX B w W t x rb ac qu (x.A ++ x.Q) []) ∧ Hid (max ac 1 = x.a ∧ max qu 0 = x.q ∧ siz x ≤ i)) (fun iv _ => m - (intOf iv).toNat)
  case atStart => exact ⟨0, _, rfl, Nat.zero_le _, by omega, s0, k0⟩
  case round =>
    clear s0 k0
    obtain ⟨i, x, rfl, hi, hi2, s, HB⟩ := hrel
    by_cases hgo : i < m ∧ i < 200
    · obtain ⟨hlt, hlt2⟩ := hgo
      have h16 : decide ((i : Int) < 200) = true := decide_eq_true (by omega)
      have h16' : decide (i < 200) = true := decide_eq_true (by omega)
      obtain ⟨kd, y, c, o, rfl, HX⟩ := HI.out i hlt
      obtain ⟨c0, c1⟩ := HX _ s.out.bel
      have sB := hide_it (s.out.alloc (.cells #[.int .i64 kd, .int .i64 y] 31))
      clear s HX HI
      go_upto_block 2 with fail
      obtain ⟨sb, hsb⟩ : ∃ r, wr.heap.size = r := ⟨_, rfl⟩
      rw [hsb] at sB
      simp only [hsb]
      clear hsb c0 c1
      generalize wr.alloc (.cells #[.int .i64 kd, .int .i64 y] 31) = w5 at *
      have HC : Hid (∀ W X L R, (sb, Obj.cells #[.int .i64 kd, .int .i64 y] 31) ∈ R → PX B w W t X rb ac qu L R → W.cell? ⟨sb, 0, none⟩ = some (.int .i64 kd) ∧ W.cell? ⟨sb, 1, none⟩ = some (.int .i64 y)) := fun W X L R hm h => by
        have hr := h.row hm
        exact ⟨by rw [cell_of_row W sb 0 _ _ _ hr]; rfl, by rw [cell_of_row W sb 1 _ _ _ hr]; rfl⟩
      obtain ⟨d1, d2⟩ := HC.out _ _ _ _ (List.mem_singleton.2 rfl) sB.out
      have hin := sB.out.inv
      have hsz : siz x ≤ 200 := by have := HB.out.2.2; omega
      go_cut [12, 13, 14, 15, 16, 17, 18, 19, 20] from 54 to 176 (fun s12 _ _ _ _ _ _ _ _ wx => s12 = .bool true ∧ ∃ (X : Ad), Hid (PX B w wx t X rb ac qu (X.A ++ X.Q) [(sb, Obj.cells #[.int .i64 kd, .int .i64 y] 31)]) ∧ Hid (max ac 1 = X.a ∧ max qu 0 = X.q ∧ siz X ≤ i + 1))
      case first =>
        rcases kinds3 kd with hx | hx | hx | ⟨k1, k2, k3⟩
        ·
          have k1 : (kd == 1) = true := by simp [hx]
          have kp : Calls Try.prog 12 #[ptr t, .int .i64 y] w5 fun e w' => e = .returned (.tuple #[.int .i64 (ts x y), .int .i64 (te x y)]) ∧ Hid (PX B w w' t (tx x y) rb ac qu (x.A ++ x.Q) [(sb, Obj.cells #[.int .i64 kd, .int .i64 y] 31)]) := sB.out.own (p := fun e => e = .returned (.tuple #[.int .i64 (ts x y), .int .i64 (te x y)])) (fun R' h => h.add 0 rfl (by omega) y)
          have kr : ∀ W X, PX B w W t X rb ac qu (x.A ++ x.Q) [(sb, Obj.cells #[.int .i64 kd, .int .i64 y] 31)] → Calls Try.prog 13 #[ptr rb, .int .i64 y] W fun e w' => e = .returned (.tuple #[.int .i64 (ts x y), .int .i64 (te x y)]) ∧ Hid (PX B w w' t X rb ac qu ((tx x y).A ++ (tx x y).Q) [(sb, Obj.cells #[.int .i64 kd, .int .i64 y] 31)]) := fun W X h => ref_add h hin (by omega) HB.out.1 HB.out.2.1 y
          have HB2 : Hid (max ac 1 = (tx x y).a ∧ max qu 0 = (tx x y).q ∧ siz (tx x y) ≤ i + 1) := ⟨by rw [(tx_ab x y).1]; exact HB.out.1, by rw [(tx_ab x y).2]; exact HB.out.2.1, by have := siz_tx hin y; have := HB.out.2.2; omega⟩
          have HC5 := hide_it (fun W X h => HC.out W X (x.A ++ x.Q) [(sb, Obj.cells #[.int .i64 kd, .int .i64 y] 31)] (List.mem_singleton.2 rfl) h)
          generalize tx x y = X at *
          generalize te x y = E at *
          generalize ts x y = V at *
          have e1 : (E == E) = true := by simp
          have e2 : (V == V) = true := by simp
          clear hx HB hin hsz
          go_wp2_with (go_at_call 12; refine kp.mono ?_; rintro e w6 ⟨rfl, t6⟩; obtain ⟨d3, d4⟩ := HC5.out _ _ t6.out; refine Hid.out ?_)
          refine hide_it ?_
          go_wp2_with (go_at_call 13; refine (kr _ _ t6.out).mono ?_; rintro e w7 ⟨rfl, t7⟩)
          all_goals
            go_meet
            exact ⟨rfl, X, t7.out, HB2.out⟩
        ·
          have k1 : (kd == 1) = false := by simp [hx]
          have k2 : (kd == 2) = true := by simp [hx]
          have kp : Calls Try.prog 12 #[ptr t, .int .i64 y] w5 fun e w' => e = .returned (.tuple #[.int .i64 (ts x y), .int .i64 (te x y)]) ∧ Hid (PX B w w' t (tx x y) rb ac qu (x.A ++ x.Q) [(sb, Obj.cells #[.int .i64 kd, .int .i64 y] 31)]) := sB.out.own (p := fun e => e = .returned (.tuple #[.int .i64 (ts x y), .int .i64 (te x y)])) (fun R' h => h.add 0 rfl (by omega) y)
          have kr : ∀ W X, PX B w W t X rb ac qu (x.A ++ x.Q) [(sb, Obj.cells #[.int .i64 kd, .int .i64 y] 31)] → Calls Try.prog 13 #[ptr rb, .int .i64 y] W fun e w' => e = .returned (.tuple #[.int .i64 (ts x y), .int .i64 (te x y)]) ∧ Hid (PX B w w' t X rb ac qu ((tx x y).A ++ (tx x y).Q) [(sb, Obj.cells #[.int .i64 kd, .int .i64 y] 31)]) := fun W X h => ref_add h hin (by omega) HB.out.1 HB.out.2.1 y
          have HB2 : Hid (max ac 1 = (tx x y).a ∧ max qu 0 = (tx x y).q ∧ siz (tx x y) ≤ i + 1) := ⟨by rw [(tx_ab x y).1]; exact HB.out.1, by rw [(tx_ab x y).2]; exact HB.out.2.1, by have := siz_tx hin y; have := HB.out.2.2; omega⟩
          have HC5 := hide_it (fun W X h => HC.out W X (x.A ++ x.Q) [(sb, Obj.cells #[.int .i64 kd, .int .i64 y] 31)] (List.mem_singleton.2 rfl) h)
          generalize tx x y = X at *
          generalize te x y = E at *
          generalize ts x y = V at *
          have e1 : (E == E) = true := by simp
          have e2 : (V == V) = true := by simp
          clear hx HB hin hsz
          go_wp2_with (go_at_call 12; refine kp.mono ?_; rintro e w6 ⟨rfl, t6⟩; obtain ⟨d3, d4⟩ := HC5.out _ _ t6.out; refine Hid.out ?_)
          refine hide_it ?_
          go_wp2_with (go_at_call 13; refine (kr _ _ t6.out).mono ?_; rintro e w7 ⟨rfl, t7⟩)
          all_goals
            go_meet
            exact ⟨rfl, X, t7.out, HB2.out⟩
        ·
          have k1 : (kd == 1) = false := by simp [hx]
          have k2 : (kd == 2) = false := by simp [hx]
          have k3 : (kd == 3) = true := by simp [hx]
          have kp : Calls Try.prog 14 #[ptr t, .int .i64 y] w5 fun e w' => e = .returned (.tuple #[.int .i64 (es x y), .int .i64 (ee x y)]) ∧ Hid (PX B w w' t (ex x y) rb ac qu (x.A ++ x.Q) [(sb, Obj.cells #[.int .i64 kd, .int .i64 y] 31)]) := sB.out.own (p := fun e => e = .returned (.tuple #[.int .i64 (es x y), .int .i64 (ee x y)])) (fun R' h => h.end_ 0 rfl (by omega) y)
          have kr : ∀ W X, PX B w W t X rb ac qu (x.A ++ x.Q) [(sb, Obj.cells #[.int .i64 kd, .int .i64 y] 31)] → Calls Try.prog 15 #[ptr rb, .int .i64 y] W fun e w' => e = .returned (.tuple #[.int .i64 (es x y), .int .i64 (ee x y)]) ∧ Hid (PX B w w' t X rb ac qu ((ex x y).A ++ (ex x y).Q) [(sb, Obj.cells #[.int .i64 kd, .int .i64 y] 31)]) := fun W X h => ref_end h hin (by omega) HB.out.1 y
          have HB2 : Hid (max ac 1 = (ex x y).a ∧ max qu 0 = (ex x y).q ∧ siz (ex x y) ≤ i + 1) := ⟨by rw [(ex_ab x y).1]; exact HB.out.1, by rw [(ex_ab x y).2]; exact HB.out.2.1, by have := siz_ex hin y; have := HB.out.2.2; omega⟩
          have HC5 := hide_it (fun W X h => HC.out W X (x.A ++ x.Q) [(sb, Obj.cells #[.int .i64 kd, .int .i64 y] 31)] (List.mem_singleton.2 rfl) h)
          generalize ex x y = X at *
          generalize ee x y = E at *
          generalize es x y = V at *
          have e1 : (E == E) = true := by simp
          have e2 : (V == V) = true := by simp
          clear hx HB hin hsz
          go_wp2_with (go_at_call 14; refine kp.mono ?_; rintro e w6 ⟨rfl, t6⟩; obtain ⟨d3, d4⟩ := HC5.out _ _ t6.out; refine Hid.out ?_)
          refine hide_it ?_
          go_wp2_with (go_at_call 15; refine (kr _ _ t6.out).mono ?_; rintro e w7 ⟨rfl, t7⟩)
          all_goals
            go_meet
            exact ⟨rfl, X, t7.out, HB2.out⟩
        · go_wp2
          go_meet
          exact ⟨rfl, x, sB.out, HB.out.1, HB.out.2.1, by have := HB.out.2.2; omega⟩
      case rest =>
        clear sB d1 d2 HB hin hsz
        obtain ⟨hs12, X, s6, HB⟩ := hcut
        subst hs12
        obtain ⟨d1, d2⟩ := HC.out _ _ _ _ (List.mem_singleton.2 rfl) s6.out
        have hin := s6.out.inv
        obtain ⟨N1, hN1⟩ : ∃ n, X.A.length = n := ⟨_, rfl⟩
        obtain ⟨N2, hN2⟩ : ∃ n, X.Q.length = n := ⟨_, rfl⟩
        have hsz : N1 + N2 ≤ 201 := by have := HB.out.2.2; unfold siz at this; omega
        have hsX : siz X ≤ 201 := by have := HB.out.2.2; omega
        have kA : ∀ W, PX B w W t X rb ac qu (X.A ++ X.Q) [(sb, Obj.cells #[.int .i64 kd, .int .i64 y] 31)] → Calls Try.prog 16 #[ptr t] W fun e w' => ∃ a c R', e = .returned (.slice a N1 c) ∧ N1 ≤ c ∧ c ≤ 9223372036854775807 ∧ Hid (RowAt a X.A c R' ∧ PX B w w' t X rb ac qu (X.A ++ X.Q) (R' ++ [(sb, Obj.cells #[.int .i64 kd, .int .i64 y] 31)])) := fun W h => (h.actR (by omega)).mono (by
          rintro e w' ⟨a, c, R', rfl, g, s⟩
          have hr := g.rd (w := w') (fun p hp => s.out.row (List.mem_append_left _ hp))
          have h1 := hr.1
          have h2 := hr.2.1
          unfold maxLen at h2
          rw [hN1] at h1
          exact ⟨a, c, R', by rw [hN1], h1, by omega, g, s.out⟩)
        have kW : ∀ W R, PX B w W t X rb ac qu (X.A ++ X.Q) R → Calls Try.prog 17 #[ptr t] W fun e w' => ∃ a c R', e = .returned (.slice a N2 c) ∧ N2 ≤ c ∧ c ≤ 9223372036854775807 ∧ Hid (RowAt a X.Q c R' ∧ PX B w w' t X rb ac qu (X.A ++ X.Q) (R' ++ R)) := fun W R h => (h.waiR (by omega)).mono (by
          rintro e w' ⟨a, c, R', rfl, g, s⟩
          have hr := g.rd (w := w') (fun p hp => s.out.row (List.mem_append_left _ hp))
          have h1 := hr.1
          have h2 := hr.2.1
          unfold maxLen at h2
          rw [hN2] at h1
          exact ⟨a, c, R', by rw [hN2], h1, by omega, g, s.out⟩)
        have kS : ∀ W R, PX B w W t X rb ac qu (X.A ++ X.Q) R → Calls Try.prog 18 #[ptr t, .int .i64 y] W fun e w' => e = .returned (.tuple #[.int .i64 (sI X y), .bool (sB X y)]) ∧ Hid (PX B w w' t X rb ac qu (X.A ++ X.Q) R) := fun W R h => h.own (p := fun e => e = .returned (.tuple #[.int .i64 (sI X y), .bool (sB X y)])) (fun R' g => g.sta 0 rfl (by omega) y)
        have kR : ∀ W R, PX B w W t X rb ac qu (X.A ++ X.Q) R → Calls Try.prog 19 #[ptr rb, .int .i64 y] W fun e w' => e = .returned (.tuple #[.int .i64 (sI X y), .bool (sB X y)]) ∧ Hid (PX B w w' t X rb ac qu (X.A ++ X.Q) R) := fun W R h => ref_state h hin (by omega) HB.out.1 y
        have kP : ∀ W R, PX B w W t X rb ac qu (X.A ++ X.Q) R → Calls Try.prog 20 #[ptr rb] W fun e w' => e = .returned (.int .i64 N1) ∧ Hid (PX B w w' t X rb ac qu (X.A ++ X.Q) R) := fun W R h => by
          have := ref_split h hin (by omega) HB.out.1
          rw [hN1] at this
          exact this
        have HCR : Hid (∀ W R, (sb, Obj.cells #[.int .i64 kd, .int .i64 y] 31) ∈ R → PX B w W t X rb ac qu (X.A ++ X.Q) R → W.cell? ⟨sb, 1, none⟩ = some (.int .i64 y)) := fun W R hm h => (HC.out W X _ R hm h).2
        have HNN := hide_it (And.intro hN1 hN2)
        generalize sI X y = Z at *
        generalize sB X y = C at *
        have z1 : (Z != Z) = false := by simp
        have z2 : (C != C) = false := by cases C <;> rfl
        clear hN1 hN2 hin HC hsX
        go_wp2_with (go_at_call 16; refine (kA _ s6.out).mono ?_; rintro e w7 ⟨a7, c7, R1, rfl, l7, g7, s7⟩; refine Hid.out ?_)
        refine hide_it ?_
        go_wp2_with (go_at_call 17; refine (kW _ _ s7.out.2).mono ?_; rintro e w8 ⟨a8, c8, R2, rfl, l8, g8, s8⟩; have d3 := HCR.out _ _ (List.mem_append_right _ (List.mem_append_right _ (List.mem_singleton.2 rfl))) s8.out.2; refine Hid.out ?_)
        refine hide_it ?_
        go_wp2_with (go_at_call 18; refine (kS _ _ s8.out.2).mono ?_; rintro e w9 ⟨rfl, s9⟩; have d4 := HCR.out _ _ (List.mem_append_right _ (List.mem_append_right _ (List.mem_singleton.2 rfl))) s9.out; refine Hid.out ?_)
        refine hide_it ?_
        go_wp2_with (go_at_call 19; refine (kR _ _ s9.out).mono ?_; rintro e w10 ⟨rfl, s10⟩; refine Hid.out ?_)
        refine hide_it ?_
        go_wp2_with (go_at_call 20; refine (kP _ _ s10.out).mono ?_; rintro e w11 ⟨rfl, s11⟩; refine Hid.out ?_)
        refine hide_it ?_
        have hR1 : Hid (RowAt a7 X.A c7 R1 ∧ RowAt a8 X.Q c8 R2) := ⟨s7.out.1, s8.out.1⟩
        have HRD : Hid (∀ W, Below w11.heap.size w11 W → Rd W a7 X.A c7 ∧ Rd W a8 X.Q c8) := fun W hb => ⟨(hR1.out.1.rd (w := w11) (fun p hp => s11.out.row (List.mem_append_right _ (List.mem_append_left _ hp)))).below hb, (hR1.out.2.rd (w := w11) (fun p hp => s11.out.row (List.mem_append_left _ hp))).below hb⟩
        have HWX : Hid (∀ W, Below w11.heap.size w11 W → WX B w W t X rb ac qu (X.A ++ X.Q) a7 N1 a8 N2) := fun W hb => ⟨_, s11.out.below hb, by have := hR1.out.1.wr (R := R2 ++ (R1 ++ [(sb, Obj.cells #[.int .i64 kd, .int .i64 y] 31)])) (fun p hp => List.mem_append_right _ (List.mem_append_left _ hp)); rw [HNN.out.1] at this; exact this, by have := hR1.out.2.wr (R := R2 ++ (R1 ++ [(sb, Obj.cells #[.int .i64 kd, .int .i64 y] 31)])) (fun p hp => List.mem_append_left _ hp); rw [HNN.out.2] at this; exact this⟩
        obtain ⟨v, c, hcell, hrd⟩ : ∃ v c, (∀ W, Below w11.heap.size w11 W → W.cell? ⟨rb, 2, none⟩ = some (.slice v (N1 + N2) c)) ∧ Rd w11 v (X.A ++ X.Q) c := by
          obtain ⟨vv, V, h1, h2, _⟩ := s11.out
          obtain ⟨ao, c, rfl, hr⟩ := h2.form
          refine ⟨ao, c, fun W hb => ?_, hr⟩
          have := (h2.below hb).c2
          rw [List.length_append, HNN.out.1, HNN.out.2] at this
          exact this
        have HCELL := hide_it hcell
        have hc1 := hrd.1
        rw [List.length_append, HNN.out.1, HNN.out.2] at hc1
        have hc2 : c ≤ 9223372036854775807 := by have := hrd.2.1; unfold maxLen at this; omega
        have cc1 := HCELL.out _ (Below.refl _ _)
        clear kA kW kS kR kP HCR s6 s7 s8 s9 s10 s11 hcell hR1 d1 d2 d3 d4
        have KSM : Hid (∀ (K : List Int) W a1 c1 a2 c2, K.length ≤ 201 → Rd W a1 K c1 → Rd W a2 K c2 → Below w11.heap.size w11 W → Calls Try.prog 21 #[.slice a1 K.length c1, .slice a2 K.length c2] W fun e w' => e = .returned (.bool true) ∧ Hid (Below w11.heap.size w11 w')) := fun K W a1 c1 a2 c2 hk h1 h2 hb => (same_any h1 h2 (by omega) (by omega)).mono (by
          rintro e w' ⟨rfl, s⟩
          exact ⟨by rw [decide_eq_true rfl], hb.trans (s.mono hb.size)⟩)
        rcases hrd.2.2 with ⟨hnil, rfl, rfl⟩ | ⟨b, ov, rfl, hbl, _⟩
        · have hA : X.A = [] := (List.append_eq_nil_iff.1 hnil).1
          have hQ : X.Q = [] := (List.append_eq_nil_iff.1 hnil).2
          obtain rfl : N1 = 0 := by rw [← HNN.out.1, hA]; rfl
          obtain rfl : N2 = 0 := by rw [← HNN.out.2, hQ]; rfl
          have RN : Hid (∀ W, Rd W none [] 0) := fun W => ⟨Nat.le_refl _, Nat.zero_le _, .inl ⟨rfl, rfl, rfl⟩⟩
          have k1 : Calls Try.prog 21 #[.slice a7 0 c7, .slice none 0 0] w11 fun e w' => e = .returned (.bool true) ∧ Hid (Below w11.heap.size w11 w') := KSM.out [] _ _ _ _ _ (Nat.zero_le _) (by have := (HRD.out _ (Below.refl _ _)).1; rw [hA] at this; exact this) (RN.out _) (Below.refl _ _)
          have k2 : ∀ W, Below w11.heap.size w11 W → Calls Try.prog 21 #[.slice a8 0 c8, .slice none 0 0] W fun e w' => e = .returned (.bool true) ∧ Hid (Below w11.heap.size w11 w') := fun W hb => KSM.out [] _ _ _ _ _ (Nat.zero_le _) (by have := (HRD.out _ hb).2; rw [hQ] at this; exact this) (RN.out _) hb
          clear hnil hA hQ RN
          go_wp2_with (go_at_call 21; refine k1.mono ?_; rintro e w12 ⟨rfl, s12⟩; have cc2 := HCELL.out _ s12.out; refine Hid.out ?_)
          refine hide_it ?_
          go_wp2_with (go_at_call 21; refine (k2 _ s12.out).mono ?_; rintro e w13 ⟨rfl, s13⟩)
          have s15 := hide_it (HWX.out _ s13.out)
          clear HWX HRD HCELL KSM k1 k2 s12 s13 hrd cc1 cc2
          go_loopw [28] (fun kv W => kv = .int .i64 0 ∧ Hid (WX B w W t X rb ac qu (X.A ++ X.Q) a7 0 a8 0)) (fun kv _ => 0)
          case atStart => exact ⟨rfl, s15⟩
          case round =>
            clear s15
            obtain ⟨rfl, s16⟩ := hrel
            go_wp2
            go_loopw [29] (fun kv W => kv = .int .i64 0 ∧ Hid (WX B w W t X rb ac qu (X.A ++ X.Q) a7 0 a8 0)) (fun kv _ => 0)
            case atStart => exact ⟨rfl, s16⟩
            case round =>
              clear s16
              obtain ⟨rfl, s17⟩ := hrel
              go_wp2
              go_roundw
              case rel => exact ⟨i + 1, X, by go_num, by omega, by omega, s17.out.px, HB⟩
              case measure => simp [intOf]; omega
        · obtain ⟨A2, hA2⟩ : ∃ A : Addr, (if c = N1 then some (⟨b, ov, none⟩ : Addr) else some ⟨b, ov + N1, none⟩) = some A := by split <;> exact ⟨_, rfl⟩
          have HW1 : Hid (∀ W, Below w11.heap.size w11 W → Rd W (some ⟨b, ov, none⟩) X.A c ∧ Rd W (some A2) X.Q (c - N1)) := fun W hb => by
            have hr := hrd.below hb
            have h2 := rd_drop hr
            rw [HNN.out.1, hA2] at h2
            exact ⟨(rd_take hr).2 (by simp), h2⟩
          have k1 : Calls Try.prog 21 #[.slice a7 N1 c7, .slice (some ⟨b, ov, none⟩) N1 c] w11 fun e w' => e = .returned (.bool true) ∧ Hid (Below w11.heap.size w11 w') := by
            have := KSM.out X.A _ _ _ _ _ (by rw [HNN.out.1]; omega) (HRD.out _ (Below.refl _ _)).1 (HW1.out _ (Below.refl _ _)).1 (Below.refl _ _)
            rw [HNN.out.1] at this
            exact this
          have k2 : ∀ W, Below w11.heap.size w11 W → Calls Try.prog 21 #[.slice a8 N2 c8, .slice (some A2) N2 (c - N1)] W fun e w' => e = .returned (.bool true) ∧ Hid (Below w11.heap.size w11 w') := fun W hb => by
            have := KSM.out X.Q _ _ _ _ _ (by rw [HNN.out.2]; omega) (HRD.out _ hb).2 (HW1.out _ hb).2 hb
            rw [HNN.out.2] at this
            exact this
          have b1 : N1 ≤ c := by omega
          have b2 : N1 ≤ N1 + N2 := by omega
          have b3 : N1 + N2 - N1 = N2 := by omega
          clear HW1 hbl
          go_wp2_with (go_at_call 21; refine k1.mono ?_; rintro e w12 ⟨rfl, s12⟩; have cc2 := HCELL.out _ s12.out; refine Hid.out ?_)
          refine hide_it ?_
          go_wp2_with (go_at_call 21; refine (k2 _ s12.out).mono ?_; rintro e w13 ⟨rfl, s13⟩)
          have s15 := hide_it (HWX.out _ s13.out)
          clear HWX HRD HCELL KSM k1 k2 s12 s13 hrd cc1 cc2
          go_loopw [28] (fun kv W => ∃ k : Nat, kv = .int .i64 k ∧ k ≤ N1 ∧ Hid (WX B w W t X rb ac qu (X.A ++ X.Q) a7 N1 a8 N2)) (fun kv _ => N1 - (intOf kv).toNat)
          case atStart => exact ⟨0, rfl, Nat.zero_le _, s15⟩
          case round =>
            clear s15
            obtain ⟨k, rfl, hk, s16⟩ := hrel
            by_cases hkn : k < N1
            · obtain ⟨b1, u, rfl, cz, fz, hz⟩ := s16.out.cell hkn
              have d7 : decide ((k : Int) < (N1 : Int)) = true := decide_eq_true (by omega)
              have d8 : decide (k < N1) = true := decide_eq_true hkn
              have HZ := hide_it hz
              clear hz
              go_wp2
              go_roundw
              case rel => exact ⟨k + 1, by go_num, by omega, HZ.out _⟩
              case measure => simp [intOf]; omega
            · have d7 : decide ((k : Int) < (N1 : Int)) = false := decide_eq_false (by omega)
              have d8 : decide (k < N1) = false := decide_eq_false hkn
              go_wp2
              go_loopw [29] (fun kv W => ∃ j : Nat, kv = .int .i64 j ∧ j ≤ N2 ∧ Hid (WX B w W t X rb ac qu (X.A ++ X.Q) a8 N2 a7 N1)) (fun kv _ => N2 - (intOf kv).toNat)
              case atStart => exact ⟨0, rfl, Nat.zero_le _, s16.out.swap⟩
              case round =>
                clear s16
                obtain ⟨j, rfl, hj, s17⟩ := hrel
                by_cases hjn : j < N2
                · obtain ⟨b1, u, rfl, cz, fz, hz⟩ := s17.out.cell hjn
                  have d9 : decide ((j : Int) < (N2 : Int)) = true := decide_eq_true (by omega)
                  have d10 : decide (j < N2) = true := decide_eq_true hjn
                  have HZ := hide_it hz
                  clear hz
                  go_wp2
                  go_roundw
                  case rel => exact ⟨j + 1, by go_num, by omega, HZ.out _⟩
                  case measure => simp [intOf]; omega
                · have d9 : decide ((j : Int) < (N2 : Int)) = false := decide_eq_false (by omega)
                  have d10 : decide (j < N2) = false := decide_eq_false hjn
                  go_wp2
                  go_roundw
                  case rel => exact ⟨i + 1, X, by go_num, by omega, by omega, s17.out.px, HB⟩
                  case measure => simp [intOf]; omega
    · by_cases hlt : i < m
      · have d1 : decide ((i : Int) < 200) = false := by simp; omega
        have d2 : decide (i < 200) = false := by simp; omega
        clear HI HB
        go_wp2
        go_ret
        exact ⟨rfl, s.out.bel⟩
      · have d1 : decide ((i : Int) < m) = false := by simp; omega
        have d2 : decide (i < m) = false := by simp; omega
        clear HI HB
        go_wp2
        go_ret
        exact ⟨rfl, s.out.bel⟩
end Go.Proofs.Ytjmdalpffhfdfaa
