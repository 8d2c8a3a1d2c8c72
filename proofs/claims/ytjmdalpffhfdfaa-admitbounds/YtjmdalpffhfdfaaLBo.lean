/- AdmitBounds, walked. -/
import Derived.Test.YtjmdalpffhfdfaaSho
import Derived.Test.YtjmdalpffhfdfaaArg
import Derived.Deep.RegionHeld3
import Derived.Deep.CutRange
import Derived.Deep.CutBlock
import Derived.BigQuiet
namespace Go.Proofs.Ytjmdalpffhfdfaa
open Go.RowKit
open M
set_option linter.unusedVariables false
set_option linter.unusedSimpArgs false

theorem nod_ne {L : List Int} (h : L.Nodup) {i j : Nat} {z : Int} (hi : L[i]? = some z) (hj : L[j]? = some z) : i = j := by
  obtain ⟨p1, p2⟩ := List.getElem?_eq_some_iff.1 hi
  exact (List.getElem?_inj p1 h).1 (hi.trans hj.symm)
/-- What a step tells, and whether its id is there. -/
theorem bo_end {x : Ad} (h : Inv x) (id : Int) : sB (ex x id) id = false := by
  have h1 := all_ex h id
  have h2 : ¬ id ∈ (x.A ++ x.Q).erase id := List.Nodup.not_mem_erase h.nd
  rw [← h1, List.mem_append] at h2
  unfold sB
  exact decide_eq_false h2
theorem bo_ee {x : Ad} {id : Int} : (sB x id = true ∧ ee x id = 0) ∨ (sB x id = false ∧ ee x id = 6) := by
  unfold sB ee
  by_cases h : id ∈ x.A ∨ id ∈ x.Q
  · left; exact ⟨decide_eq_true h, if_pos h⟩
  · right; exact ⟨decide_eq_false h, if_neg h⟩
theorem bo_te {x : Ad} (hi : Inv x) {id : Int} : (sB x id = true ∧ te x id = 8 ∧ sB (tx x id) id = true) ∨ (sB x id = false ∧ te x id = 0 ∧ sB (tx x id) id = true) ∨ (sB x id = false ∧ te x id = 4 ∧ sB (tx x id) id = false) := by
  have hall := all_tx hi id
  by_cases h : id ∈ x.A ∨ id ∈ x.Q
  · left
    have e : te x id = 8 := if_pos h
    have e2 := tx_ne (x := x) (id := id) (by rw [e]; omega)
    rw [e2]
    exact ⟨decide_eq_true h, e, decide_eq_true h⟩
  · right
    have h2 : te x id = 0 ∨ te x id = 4 := by
      unfold te
      rw [if_neg h]
      split
      · exact .inl rfl
      · split
        · exact .inl rfl
        · exact .inr rfl
    rcases h2 with e | e
    · left
      rw [if_pos e] at hall
      refine ⟨decide_eq_false h, e, decide_eq_true ?_⟩
      rw [← List.mem_append, hall]
      simp
    · right
      have e2 := tx_ne (x := x) (id := id) (by rw [e]; omega)
      rw [e2]
      exact ⟨decide_eq_false h, e, decide_eq_false h⟩

set_option maxRecDepth 1000000 in
set_option maxHeartbeats 8000000 in
theorem admitBounds_walk (ac qu : Int) (l : List (Int × Int)) (a : Option Addr) (cap : Nat) (w : World) (hac : -9223372036854775808 ≤ ac ∧ ac ≤ 9223372036854775807) (hqu : -9223372036854775808 ≤ qu ∧ qu ≤ 9223372036854775807) (hI : StepsIn w a l) (hl : l.length ≤ cap) (hc : cap ≤ maxLen) (hb : ∀ t ∈ l, i64B t.1 ∧ i64B t.2) :
    Calls Try.prog 5 #[.int .i64 ac, .int .i64 qu, .slice a l.length cap] w fun e w' => e = .returned (.bool true) ∧ Below w.heap.size w w' := by
  obtain ⟨B, hB⟩ : ∃ B, w.heap.size = B := ⟨_, rfl⟩
  have ks : Calls Try.prog 10 #[] w fun e w' => e = .returned (.bool true) ∧ Hid (Below B w w') := by
    have := shown_any w
    rw [hB] at this
    exact this
  have hlo : B ≤ w.heap.size := by omega
  obtain ⟨BA, hBA⟩ : ∃ N, max ac 1 = N := ⟨_, rfl⟩
  obtain ⟨BQ, hBQ⟩ : ∃ N, max qu 0 = N := ⟨_, rfl⟩
  have k0 : Hid (siz (mk0 ac qu) ≤ 0 ∧ (mk0 ac qu).a = BA ∧ (mk0 ac qu).q = BQ) := ⟨Nat.le_refl _, hBA, hBQ⟩
  have m1 : ∀ ts u W, (Builtin.max_ ts u #[.int .i64 ac, .int .i64 1]).run Try.prog W = .ok (.int .i64 BA) W := fun ts u W => by rw [← hBA]; exact max_num _ _ ts u W
  have m2 : ∀ ts u W, (Builtin.max_ ts u #[.int .i64 qu, .int .i64 0]).run Try.prog W = .ok (.int .i64 BQ) W := fun ts u W => by rw [← hBQ]; exact max_num _ _ ts u W
  have kn : ∀ W, Below B w W → Calls Try.prog 11 #[.int .i64 ac, .int .i64 qu] W fun e w' => ∃ t, e = .returned (ptr t) ∧ Hid (MX B w w' [(t, mk0 ac qu)] []) := fun W hb => (mx_start hb hlo).new ac qu hac.2 hqu.2
  have hcm : cap ≤ 9223372036854775807 := by unfold maxLen at hc; omega
  obtain ⟨m, hm⟩ : ∃ m, l.length = m := ⟨_, rfl⟩
  have HI : Hid (∀ (i : Nat), i < m → ∃ x y b o, a = some ⟨b, o, none⟩ ∧ ∀ W, Below B w W → W.cell? ⟨b, o + i * 2, none⟩ = some (.int .i64 x) ∧ W.cell? ⟨b, o + i * 2 + 1, none⟩ = some (.int .i64 y)) := fun i hi => by
    have := hI.get (i := i) (by omega)
    rw [hB] at this
    exact this
  rw [hm] at hl ⊢
  rw [hB]
  generalize mk0 ac qu = x0 at *
  clear hB hI hc hm hlo hb hac hqu hBA hBQ
  go_enter Try.func5, Try.ntmps5
  go_wp2_with (first | (go_at_call 10; refine ks.mono ?_; rintro e w1 ⟨rfl, s1⟩; clear ks) | (go_at_call 11; refine (kn _ s1.out).mono ?_; rintro e w2 ⟨t, rfl, s⟩; clear kn s1))
  go_loopw [9] (fun iv W => ∃ (i : Nat) (x : Ad), iv = .int .i64 i ∧ i ≤ m ∧ i ≤ 200 ∧ Hid (MX B w W [(t, x)] []) ∧ Hid (siz x ≤ i ∧ x.a = BA ∧ x.q = BQ)) (fun iv _ => m - (intOf iv).toNat)
  case atStart => exact ⟨0, _, rfl, Nat.zero_le _, by omega, s, k0⟩
  case round =>
    clear s k0
    obtain ⟨i, x, rfl, hi, hi2, s, HS⟩ := hrel
    by_cases hgo : i < m ∧ i < 200
    · obtain ⟨hlt, hlt2⟩ := hgo
      have h16 : decide ((i : Int) < 200) = true := decide_eq_true (by omega)
      have h16' : decide (i < 200) = true := decide_eq_true (by omega)
      obtain ⟨kd, y, c, o, rfl, HX⟩ := HI.out i hlt
      obtain ⟨c0, c1⟩ := HX _ s.out.bel
      have HX2 : Hid (∀ W X, MX B w W [(t, X)] [] → W.cell? ⟨c, o + i * 2, none⟩ = some (.int .i64 kd) ∧ W.cell? ⟨c, o + i * 2 + 1, none⟩ = some (.int .i64 y)) := fun W X h => HX _ h.bel
      have hsz : siz x ≤ 200 := by have := HS.out.1; omega
      have hin := s.out.inv 0 rfl
      have KS : Hid (∀ W X, siz X ≤ 201 → MX B w W [(t, X)] [] → Calls Try.prog 18 #[ptr t, .int .i64 y] W fun e w' => e = .returned (.tuple #[.int .i64 (sI X y), .bool (sB X y)]) ∧ Hid (MX B w w' [(t, X)] [])) := fun W X h1 h => h.sta 0 rfl (by omega) y
      have k0 := KS.out _ _ (by omega) s.out
      clear HX HI
      go_upto_if 56 with (go_at_call 18; refine k0.mono ?_; rintro e w3 ⟨rfl, s3⟩; obtain ⟨c2, c3⟩ := HX2.out _ _ s3.out)
      clear k0 s c0 c1
      go_cut [12, 13, 14, 15, 16, 17, 18, 19] from 56 to 171 (fun _ _ _ _ _ _ _ _ wx => ∃ X : Ad, Hid (MX B w wx [(t, X)] []) ∧ Hid (siz X ≤ i + 1 ∧ X.a = BA ∧ X.q = BQ))
      case first =>
        by_cases hk3 : kd = 3
        · have d3 : (kd == 3) = true := by simp [hk3]
          have k1 : Calls Try.prog 14 #[ptr t, .int .i64 y] w3 fun e w' => e = .returned (.tuple #[.int .i64 (es x y), .int .i64 (ee x y)]) ∧ Hid (MX B w w' [(t, ex x y)] []) := s3.out.end_ 0 rfl (by omega) y
          have HS2 : Hid (siz (ex x y) ≤ i + 1 ∧ (ex x y).a = BA ∧ (ex x y).q = BQ) := ⟨by have := siz_ex hin y; have := HS.out.1; omega, by rw [(ex_ab x y).1]; exact HS.out.2.1, by rw [(ex_ab x y).2]; exact HS.out.2.2⟩
          have k2 := fun W h => KS.out W (ex x y) (by have := HS2.out.1; omega) h
          rw [bo_end hin y] at k2
          have hcs := bo_ee (x := x) (id := y)
          generalize ex x y = X at *
          generalize sI X y = v2 at *
          generalize sI x y = v0 at *
          generalize es x y = V at *
          generalize ee x y = E at *
          generalize sB x y = was at *
          clear hk3 HS hin hsz KS
          rcases hcs with ⟨rfl, rfl⟩ | ⟨rfl, rfl⟩
          · go_wp2_with (first | (go_at_call 14; refine k1.mono ?_; rintro e w4 ⟨rfl, s4⟩; obtain ⟨c4, c5⟩ := HX2.out _ _ s4.out) | (go_at_call 18; refine (k2 _ s4.out).mono ?_; rintro e w5 ⟨rfl, s5⟩))
            all_goals
              go_meet
              exact ⟨X, s5, HS2⟩
          · go_wp2_with (first | (go_at_call 14; refine k1.mono ?_; rintro e w4 ⟨rfl, s4⟩; obtain ⟨c4, c5⟩ := HX2.out _ _ s4.out) | (go_at_call 18; refine (k2 _ s4.out).mono ?_; rintro e w5 ⟨rfl, s5⟩))
            all_goals
              go_meet
              exact ⟨X, s5, HS2⟩
        · have d3 : (kd == 3) = false := by simp [hk3]
          have k1 : Calls Try.prog 12 #[ptr t, .int .i64 y] w3 fun e w' => e = .returned (.tuple #[.int .i64 (ts x y), .int .i64 (te x y)]) ∧ Hid (MX B w w' [(t, tx x y)] []) := s3.out.add 0 rfl (by omega) y
          have HS2 : Hid (siz (tx x y) ≤ i + 1 ∧ (tx x y).a = BA ∧ (tx x y).q = BQ) := ⟨by have := siz_tx hin y; have := HS.out.1; omega, by rw [(tx_ab x y).1]; exact HS.out.2.1, by rw [(tx_ab x y).2]; exact HS.out.2.2⟩
          have k2 := fun W h => KS.out W (tx x y) (by have := HS2.out.1; omega) h
          have hcs := bo_te hin (id := y)
          generalize sB (tx x y) y = is at *
          generalize tx x y = X at *
          generalize sI X y = v2 at *
          generalize sI x y = v0 at *
          generalize ts x y = V at *
          generalize te x y = E at *
          generalize sB x y = was at *
          clear hk3 HS hin hsz KS
          rcases hcs with ⟨rfl, rfl, rfl⟩ | ⟨rfl, rfl, rfl⟩ | ⟨rfl, rfl, rfl⟩
          · go_wp2_with (first | (go_at_call 12; refine k1.mono ?_; rintro e w4 ⟨rfl, s4⟩; obtain ⟨c4, c5⟩ := HX2.out _ _ s4.out) | (go_at_call 18; refine (k2 _ s4.out).mono ?_; rintro e w5 ⟨rfl, s5⟩))
            all_goals
              go_meet
              exact ⟨X, s5, HS2⟩
          · go_wp2_with (first | (go_at_call 12; refine k1.mono ?_; rintro e w4 ⟨rfl, s4⟩; obtain ⟨c4, c5⟩ := HX2.out _ _ s4.out) | (go_at_call 18; refine (k2 _ s4.out).mono ?_; rintro e w5 ⟨rfl, s5⟩))
            all_goals
              go_meet
              exact ⟨X, s5, HS2⟩
          · go_wp2_with (first | (go_at_call 12; refine k1.mono ?_; rintro e w4 ⟨rfl, s4⟩; obtain ⟨c4, c5⟩ := HX2.out _ _ s4.out) | (go_at_call 18; refine (k2 _ s4.out).mono ?_; rintro e w5 ⟨rfl, s5⟩))
            all_goals
              go_meet
              exact ⟨X, s5, HS2⟩
      case rest =>
        obtain ⟨X, sX, HSX⟩ := hcut
        have hinX := sX.out.inv 0 rfl
        have hs1 := HSX.out.1
        unfold siz at hs1
        obtain ⟨N1, hN1⟩ : ∃ N, X.A.length = N := ⟨_, rfl⟩
        obtain ⟨N2, hN2⟩ : ∃ N, X.Q.length = N := ⟨_, rfl⟩
        have ha := hinX.la
        have hq := hinX.lq
        have hf : 0 < N2 → (N1 : Int) = BA := fun h => by
          rw [← HSX.out.2.1, ← hN1]
          exact hinX.full (fun e => by rw [e] at hN2; simp at hN2; omega)
        rw [HSX.out.2.1, hN1] at ha
        rw [HSX.out.2.2, hN2] at hq
        rw [hN1, hN2] at hs1
        have k3 : ∀ W, MX B w W [(t, X)] [] → Calls Try.prog 16 #[ptr t] W fun e w' => ∃ a c, e = .returned (.slice a N1 c) ∧ N1 ≤ c ∧ c ≤ 9223372036854775807 ∧ Hid (MX B w w' [(t, X)] [] ∧ Rd w' a X.A c) := fun W h => (h.act 0 rfl (by unfold siz; omega)).mono (by
          rintro e w' ⟨a, c, rfl, s⟩
          obtain ⟨q1, q2, q3⟩ := s.out
          have q4 := q2.1
          have q5 := q2.2.1
          rw [hN1] at q4
          exact ⟨a, c, by rw [hN1], q4, by unfold maxLen at q5; omega, q1, q2⟩)
        have k4 : ∀ W a c, MX B w W [(t, X)] [] ∧ Rd W a X.A c → Calls Try.prog 17 #[ptr t] W fun e w' => ∃ a2 c2, e = .returned (.slice a2 N2 c2) ∧ N2 ≤ c2 ∧ c2 ≤ 9223372036854775807 ∧ Hid (MX B w w' [(t, X)] [] ∧ Rd w' a X.A c ∧ Rd w' a2 X.Q c2) := fun W a c h => (h.1.wai 0 rfl (by unfold siz; omega)).mono (by
          rintro e w' ⟨a2, c2, rfl, s⟩
          obtain ⟨q1, q2, q3⟩ := s.out
          have q4 := q2.1
          have q5 := q2.2.1
          rw [hN2] at q4
          exact ⟨a2, c2, by rw [hN2], q4, by unfold maxLen at q5; omega, q1, h.2.below q3, q2⟩)
        have HNN := hide_it (And.intro hN1 hN2)
        have HND := hide_it hinX.nd
        have HLA : Hid (([] : List Int).length + X.A.length ≤ 1000000) := hide_it (by rw [hN1]; show 0 + N1 ≤ _; omega)
        have HLQ : Hid (([] ++ X.A : List Int).length + X.Q.length ≤ 1000000) := hide_it (by rw [List.nil_append, hN1, hN2]; omega)
        have HLB : Hid (([] ++ X.A ++ X.Q : List Int).length ≤ 201) := hide_it (by rw [List.nil_append, List.length_append, hN1, hN2]; omega)
        have e1 : decide (BA < (N1 : Int)) = false := decide_eq_false (by omega)
        have e2 : decide (BQ < (N2 : Int)) = false := decide_eq_false (by omega)
        clear hinX hN1 hN2 HS hin hsz KS s3 HX2
        by_cases h0 : N2 = 0
        · subst h0
          clear hf
          go_wp2_with (go_at_call 16; refine (k3 _ sX.out).mono ?_; rintro e w6 ⟨a6, n6, rfl, l6, g6, s6⟩; refine Hid.out ?_)
          refine hide_it ?_
          go_wp2_with (first | (go_at_call 17; refine (k4 _ _ _ s6.out).mono ?_; rintro e w7 ⟨a7, n7, rfl, l7, g7, s7⟩; have OW0 : Hid ((w7.alloc (.cells #[] 3)).ownsRow w7.heap.size 3 1 (.slice (some ⟨w7.heap.size, 0, none⟩) 0 0) ([] : List Int).length (ints [])) := World.ownsRow_lit w7 #[] 0 (Nat.le_refl _) (by simp [maxLen]) (by simp); have B0 : Hid (Below w7.heap.size w7 (w7.alloc (.cells #[] 3))) := (Below.refl _ _).alloc (Nat.le_refl _) _; have R0 : Hid (Rd (w7.alloc (.cells #[] 3)) a6 X.A n6) := s7.out.2.1.below B0.out) | (at_builtin; refine wpList_cat rfl (.tmp 149) (.tmp 150) rfl (v := .slice b8 m8 n8) (by rw [← H8.out.1]; exact H8.out.2.1) R1.out HLQ.out rfl (by simp only [HNN.out.2]; rfl) B1.out.size ?_; intro b9 n9 m9 w9 H9; have B2 := hide_it (B1.out.grown H9.out.2.2.1 B1.out.size (fun q hq => (H8.out.2.1.lt q hq).1))) | (at_builtin; refine wpList_cat rfl (.tmp 147) (.tmp 148) rfl OW0.out R0.out HLA.out rfl (by simp only [HNN.out.1]; rfl) B0.out.size ?_; intro b8 n8 m8 w8 H8; have B1 := hide_it (B0.out.grown H8.out.2.2.1 B0.out.size (fun q hq => (OW0.out.lt q hq).1)); have R1 : Hid (Rd w8 a7 X.Q n7) := s7.out.2.2.below B1.out))
          have hm9 : m9 ≤ 201 := by rw [H9.out.1]; exact HLB.out
          have s9 : Hid (MX B w w9 [(t, X)] [] ∧ Rd w9 b9 (X.A ++ X.Q) n9) := ⟨s7.out.1.below B2.out, by
            have q := H9.out.2.1
            have q2 := H9.out.1
            subst q2
            have q3 := own_rd q
            rw [List.nil_append] at q3
            exact q3⟩
          have hn9 : m9 ≤ n9 ∧ n9 ≤ 9223372036854775807 := by
            have q2 := H9.out.1
            obtain ⟨q4, q5, _⟩ := s9.out.2
            rw [List.nil_append] at q2
            rw [← q2] at q4
            unfold maxLen at q5
            omega
          obtain ⟨l9, g9⟩ := hn9
          have HM9 : Hid (m9 = (X.A ++ X.Q).length) := by have q2 := H9.out.1; rw [List.nil_append] at q2; exact q2
          clear k3 k4 s6 s7 sX OW0 B0 R0 H8 B1 R1 H9 B2 HLA HLQ HLB HNN
          go_loopw [23] (fun kv W => ∃ k : Nat, kv = .int .i64 k ∧ k ≤ m9 ∧ Hid (MX B w W [(t, X)] [] ∧ Rd W b9 (X.A ++ X.Q) n9)) (fun kv _ => m9 - (intOf kv).toNat)
          case atStart => exact ⟨0, rfl, Nat.zero_le _, s9⟩
          case round =>
            clear s9
            obtain ⟨k, rfl, hk, s10⟩ := hrel
            by_cases hkn : k < m9
            · have d5 : decide ((k : Int) < (m9 : Int)) = true := decide_eq_true (by omega)
              have d6 : decide (k < m9) = true := decide_eq_true hkn
              go_wp2
              go_loopw [24] (fun jv W => ∃ j : Nat, jv = .int .i64 j ∧ j ≤ k ∧ Hid (MX B w W [(t, X)] [] ∧ Rd W b9 (X.A ++ X.Q) n9)) (fun jv _ => k - (intOf jv).toNat)
              case atStart => exact ⟨0, rfl, Nat.zero_le _, s10⟩
              case round =>
                clear s10
                obtain ⟨j, rfl, hj, s11⟩ := hrel
                by_cases hjk : j < k
                · have d7 : decide ((j : Int) < (k : Int)) = true := decide_eq_true (by omega)
                  have d8 : decide (j < k) = true := decide_eq_true hjk
                  obtain ⟨bb, ob, z, rfl, ez, cz⟩ := s11.out.2.get (i := k) (by have := HM9.out; omega)
                  obtain ⟨bb2, ob2, z2, eb, ez2, cz2⟩ := s11.out.2.get (i := j) (by have := HM9.out; omega)
                  cases eb
                  have hne : (z == z2) = false := by
                    rw [beq_eq_false_iff_ne]
                    intro e
                    subst e
                    have := nod_ne HND.out ez ez2
                    omega
                  clear ez ez2
                  go_wp2
                  go_big_quiet (fail)
                  go_wp2
                  go_roundw
                  case rel => exact ⟨j + 1, by go_num, by omega, s11.out.1.below (Below.drewN (Below.refl _ _) _), s11.out.2.below (Below.drewN (Below.refl _ _) _)⟩
                  case measure => simp [intOf]; omega
                · have d7 : decide ((j : Int) < (k : Int)) = false := decide_eq_false (by omega)
                  have d8 : decide (j < k) = false := decide_eq_false hjk
                  go_wp2
                  go_roundw
                  case rel => exact ⟨k + 1, by go_num, by omega, s11⟩
                  case measure => simp [intOf]; omega
            · have d5 : decide ((k : Int) < (m9 : Int)) = false := decide_eq_false (by omega)
              have d6 : decide (k < m9) = false := decide_eq_false hkn
              go_wp2
              go_roundw
              case rel => exact ⟨i + 1, X, by go_num, by omega, by omega, s10.out.1, HSX⟩
              case measure => simp [intOf]; omega
        · have e3 : decide ((0 : Int) < (N2 : Int)) = true := decide_eq_true (by omega)
          have e4 : decide (0 < N2) = true := decide_eq_true (by omega)
          have e5 : ((N1 : Int) != BA) = false := by rw [hf (by omega)]; simp
          clear hf
          go_wp2_with (go_at_call 16; refine (k3 _ sX.out).mono ?_; rintro e w6 ⟨a6, n6, rfl, l6, g6, s6⟩; refine Hid.out ?_)
          refine hide_it ?_
          go_wp2_with (first | (go_at_call 17; refine (k4 _ _ _ s6.out).mono ?_; rintro e w7 ⟨a7, n7, rfl, l7, g7, s7⟩; have OW0 : Hid ((w7.alloc (.cells #[] 3)).ownsRow w7.heap.size 3 1 (.slice (some ⟨w7.heap.size, 0, none⟩) 0 0) ([] : List Int).length (ints [])) := World.ownsRow_lit w7 #[] 0 (Nat.le_refl _) (by simp [maxLen]) (by simp); have B0 : Hid (Below w7.heap.size w7 (w7.alloc (.cells #[] 3))) := (Below.refl _ _).alloc (Nat.le_refl _) _; have R0 : Hid (Rd (w7.alloc (.cells #[] 3)) a6 X.A n6) := s7.out.2.1.below B0.out) | (at_builtin; refine wpList_cat rfl (.tmp 149) (.tmp 150) rfl (v := .slice b8 m8 n8) (by rw [← H8.out.1]; exact H8.out.2.1) R1.out HLQ.out rfl (by simp only [HNN.out.2]; rfl) B1.out.size ?_; intro b9 n9 m9 w9 H9; have B2 := hide_it (B1.out.grown H9.out.2.2.1 B1.out.size (fun q hq => (H8.out.2.1.lt q hq).1))) | (at_builtin; refine wpList_cat rfl (.tmp 147) (.tmp 148) rfl OW0.out R0.out HLA.out rfl (by simp only [HNN.out.1]; rfl) B0.out.size ?_; intro b8 n8 m8 w8 H8; have B1 := hide_it (B0.out.grown H8.out.2.2.1 B0.out.size (fun q hq => (OW0.out.lt q hq).1)); have R1 : Hid (Rd w8 a7 X.Q n7) := s7.out.2.2.below B1.out))
          have hm9 : m9 ≤ 201 := by rw [H9.out.1]; exact HLB.out
          have s9 : Hid (MX B w w9 [(t, X)] [] ∧ Rd w9 b9 (X.A ++ X.Q) n9) := ⟨s7.out.1.below B2.out, by
            have q := H9.out.2.1
            have q2 := H9.out.1
            subst q2
            have q3 := own_rd q
            rw [List.nil_append] at q3
            exact q3⟩
          have hn9 : m9 ≤ n9 ∧ n9 ≤ 9223372036854775807 := by
            have q2 := H9.out.1
            obtain ⟨q4, q5, _⟩ := s9.out.2
            rw [List.nil_append] at q2
            rw [← q2] at q4
            unfold maxLen at q5
            omega
          obtain ⟨l9, g9⟩ := hn9
          have HM9 : Hid (m9 = (X.A ++ X.Q).length) := by have q2 := H9.out.1; rw [List.nil_append] at q2; exact q2
          clear k3 k4 s6 s7 sX OW0 B0 R0 H8 B1 R1 H9 B2 HLA HLQ HLB HNN
          go_loopw [23] (fun kv W => ∃ k : Nat, kv = .int .i64 k ∧ k ≤ m9 ∧ Hid (MX B w W [(t, X)] [] ∧ Rd W b9 (X.A ++ X.Q) n9)) (fun kv _ => m9 - (intOf kv).toNat)
          case atStart => exact ⟨0, rfl, Nat.zero_le _, s9⟩
          case round =>
            clear s9
            obtain ⟨k, rfl, hk, s10⟩ := hrel
            by_cases hkn : k < m9
            · have d5 : decide ((k : Int) < (m9 : Int)) = true := decide_eq_true (by omega)
              have d6 : decide (k < m9) = true := decide_eq_true hkn
              go_wp2
              go_loopw [24] (fun jv W => ∃ j : Nat, jv = .int .i64 j ∧ j ≤ k ∧ Hid (MX B w W [(t, X)] [] ∧ Rd W b9 (X.A ++ X.Q) n9)) (fun jv _ => k - (intOf jv).toNat)
              case atStart => exact ⟨0, rfl, Nat.zero_le _, s10⟩
              case round =>
                clear s10
                obtain ⟨j, rfl, hj, s11⟩ := hrel
                by_cases hjk : j < k
                · have d7 : decide ((j : Int) < (k : Int)) = true := decide_eq_true (by omega)
                  have d8 : decide (j < k) = true := decide_eq_true hjk
                  obtain ⟨bb, ob, z, rfl, ez, cz⟩ := s11.out.2.get (i := k) (by have := HM9.out; omega)
                  obtain ⟨bb2, ob2, z2, eb, ez2, cz2⟩ := s11.out.2.get (i := j) (by have := HM9.out; omega)
                  cases eb
                  have hne : (z == z2) = false := by
                    rw [beq_eq_false_iff_ne]
                    intro e
                    subst e
                    have := nod_ne HND.out ez ez2
                    omega
                  clear ez ez2
                  go_wp2
                  go_big_quiet (fail)
                  go_wp2
                  go_roundw
                  case rel => exact ⟨j + 1, by go_num, by omega, s11.out.1.below (Below.drewN (Below.refl _ _) _), s11.out.2.below (Below.drewN (Below.refl _ _) _)⟩
                  case measure => simp [intOf]; omega
                · have d7 : decide ((j : Int) < (k : Int)) = false := decide_eq_false (by omega)
                  have d8 : decide (j < k) = false := decide_eq_false hjk
                  go_wp2
                  go_roundw
                  case rel => exact ⟨k + 1, by go_num, by omega, s11⟩
                  case measure => simp [intOf]; omega
            · have d5 : decide ((k : Int) < (m9 : Int)) = false := decide_eq_false (by omega)
              have d6 : decide (k < m9) = false := decide_eq_false hkn
              go_wp2
              go_roundw
              case rel => exact ⟨i + 1, X, by go_num, by omega, by omega, s10.out.1, HSX⟩
              case measure => simp [intOf]; omega
    · by_cases hlt : i < m
      · have d1 : decide ((i : Int) < 200) = false := by simp; omega
        have d2 : decide (i < 200) = false := by simp; omega
        clear HI HS
        go_wp2
        go_ret
        exact ⟨rfl, s.out.bel⟩
      · have d1 : decide ((i : Int) < m) = false := by simp; omega
        have d2 : decide (i < m) = false := by simp; omega
        clear HI HS
        go_wp2
        go_ret
        exact ⟨rfl, s.out.bel⟩
end Go.Proofs.Ytjmdalpffhfdfaa
