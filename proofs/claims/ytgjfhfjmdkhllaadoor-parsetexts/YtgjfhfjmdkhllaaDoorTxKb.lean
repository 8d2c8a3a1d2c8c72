/- What line of the document's own Text answers. -/
import Derived.Test.YtgjfhfjmdkhllaaDoorTxL
namespace Go.Proofs.YtgjfhfjmdkhllaaDoor
open Go.RowKit
open M
set_option linter.unusedVariables false
set_option linter.unusedSimpArgs false

set_option maxRecDepth 100000 in
set_option maxHeartbeats 2000000 in
theorem line_k3 (o : Oz) (hk : o.kind = 3) (h : okN o.a = true ∧ okN o.b = true ∧ okN o.c = true ∧ okN o.d = true) (w : World) : Calls Tryd.prog 25 #[.agg #[.int .i64 o.kind, .int .i64 o.a, .int .i64 o.b, .int .i64 o.c, .int .i64 o.d]] w fun e w' => ∃ S b, e = .returned (.tuple #[.string S, .bool b]) ∧ LineIs o S.data.toList b ∧ Below w.heap.size w w' := by
  have HK := hide_it h
  obtain ⟨ha, hb, hc, hd⟩ := h
  have la := itoa_len ha
  have lb := itoa_len hb
  have lc := itoa_len hc
  have ld := itoa_len hd
  have tA := text_is o.a ha
  have tB := text_is o.b hb
  have tC := text_is o.c hc
  have tD := text_is o.d hd
  have za : (⟨(Lib.itoa o.a).toArray⟩ : ByteArray).data.toList = Lib.itoa o.a := by simp
  have zb : (⟨(Lib.itoa o.b).toArray⟩ : ByteArray).data.toList = Lib.itoa o.b := by simp
  have zc : (⟨(Lib.itoa o.c).toArray⟩ : ByteArray).data.toList = Lib.itoa o.c := by simp
  have zd : (⟨(Lib.itoa o.d).toArray⟩ : ByteArray).data.toList = Lib.itoa o.d := by simp
  have sa := ba_size za
  have sb := ba_size zb
  have sc := ba_size zc
  have sd := ba_size zd
  generalize (⟨(Lib.itoa o.a).toArray⟩ : ByteArray) = A at *
  generalize (⟨(Lib.itoa o.b).toArray⟩ : ByteArray) = B at *
  generalize (⟨(Lib.itoa o.c).toArray⟩ : ByteArray) = C at *
  generalize (⟨(Lib.itoa o.d).toArray⟩ : ByteArray) = D at *
  have sa7 : A.size ≤ 7 := by omega
  have sb7 : B.size ≤ 7 := by omega
  have sc7 : C.size ≤ 7 := by omega
  have sd7 : D.size ≤ 7 := by omega
  obtain ⟨mx, hmx, hm1, _⟩ := max4_is o.a o.b o.c o.d
  obtain ⟨a0, a1⟩ : 0 ≤ o.a ∧ o.a ≤ 1048576 := by simpa [okN] using ha
  obtain ⟨b0, b1⟩ : 0 ≤ o.b ∧ o.b ≤ 1048576 := by simpa [okN] using hb
  obtain ⟨c0, c1⟩ : 0 ≤ o.c ∧ o.c ≤ 1048576 := by simpa [okN] using hc
  obtain ⟨d0, d1⟩ : 0 ≤ o.d ∧ o.d ≤ 1048576 := by simpa [okN] using hd
  have hmx2 : ¬ (1048576 : Int) < mx := by omega
  have HZ := hide_it (And.intro za (And.intro zb (And.intro zc zd)))
  have HL := hide_it (And.intro la (And.intro lb (And.intro lc ld)))
  have HN := hide_it (Bx.new w o.kind o.a o.b o.c o.d)
  have kA : ∀ W, Bx w W o.kind o.a o.b o.c o.d → Calls Tryd.prog 17 #[.int .i64 o.a] W fun e w' => e = .returned (.string A) ∧ Hid (Bx w w' o.kind o.a o.b o.c o.d) := fun W hW => (tA W).mono (fun e w' hh => ⟨hh.1, hW.below hh.2⟩)
  have kB : ∀ W, Bx w W o.kind o.a o.b o.c o.d → Calls Tryd.prog 17 #[.int .i64 o.b] W fun e w' => e = .returned (.string B) ∧ Hid (Bx w w' o.kind o.a o.b o.c o.d) := fun W hW => (tB W).mono (fun e w' hh => ⟨hh.1, hW.below hh.2⟩)
  have kC : ∀ W, Bx w W o.kind o.a o.b o.c o.d → Calls Tryd.prog 17 #[.int .i64 o.c] W fun e w' => e = .returned (.string C) ∧ Hid (Bx w w' o.kind o.a o.b o.c o.d) := fun W hW => (tC W).mono (fun e w' hh => ⟨hh.1, hW.below hh.2⟩)
  have kD : ∀ W, Bx w W o.kind o.a o.b o.c o.d → Calls Tryd.prog 17 #[.int .i64 o.d] W fun e w' => e = .returned (.string D) ∧ Hid (Bx w w' o.kind o.a o.b o.c o.d) := fun W hW => (tD W).mono (fun e w' hh => ⟨hh.1, hW.below hh.2⟩)
  clear tA tB tC tD ha hb hc hd la lb lc ld za zb zc zd sa sb sc sd hm1
  obtain ⟨k, a, b, c, d⟩ := o
  simp only at *
  subst hk
  by_cases hbz : b = 0
  · subst hbz
    by_cases hcz : c = 0
    · subst hcz
      by_cases hdz : d = 0
      · subst hdz
        by_cases haz : a = 0
        · subst haz
          go_enter Tryd.func25, Tryd.ntmps25
          go_wp2_with (go_at_call 17; refine (kA _ HN.out).mono ?_; rintro e w1 ⟨rfl, hB1⟩; obtain ⟨q0, q1, q2, q3, q4⟩ := hB1.out.cells; refine Hid.out ?_)
          refine hide_it ?_
          go_wp2_with (go_at_call 17; refine (kB _ hB1.out).mono ?_; rintro e w2 ⟨rfl, hB2⟩; clear q0 q1 q2 q3 q4; obtain ⟨q0, q1, q2, q3, q4⟩ := hB2.out.cells; refine Hid.out ?_)
          refine hide_it ?_
          go_wp2
          go_quiet (fail)
          all_goals go_wp2
          all_goals (
            go_ret2
            obtain ⟨za, zb, zc, zd⟩ := HZ.out
            obtain ⟨la, lb, lc, ld⟩ := HL.out
            refine ⟨_, _, rfl, lineIs_iff HK.out _ (fo3 rfl) (by first | (simp [*]; done) | (simp_all; done) | omega) ?_ ?_, (by first | exact hB2.out.1 | exact hB2.out.1 | exact below_drewR hB2.out.1 _)⟩
            · rw [sp4]
              simp [za, zb, zc, zd, wTick]
            · first
                | (simp [za, zb, zc, zd]; done)
                | (simp [za, zb, zc, zd]; omega))
        · have han : ((a : Int) == 0) = false := beq_eq_false_iff_ne.2 haz
          go_enter Tryd.func25, Tryd.ntmps25
          go_wp2_with (go_at_call 17; refine (kA _ HN.out).mono ?_; rintro e w1 ⟨rfl, hB1⟩; obtain ⟨q0, q1, q2, q3, q4⟩ := hB1.out.cells; refine Hid.out ?_)
          refine hide_it ?_
          go_wp2_with (go_at_call 17; refine (kB _ hB1.out).mono ?_; rintro e w2 ⟨rfl, hB2⟩; clear q0 q1 q2 q3 q4; obtain ⟨q0, q1, q2, q3, q4⟩ := hB2.out.cells; refine Hid.out ?_)
          refine hide_it ?_
          go_wp2
          go_quiet (fail)
          all_goals go_wp2
          all_goals (
            go_ret2
            obtain ⟨za, zb, zc, zd⟩ := HZ.out
            obtain ⟨la, lb, lc, ld⟩ := HL.out
            refine ⟨_, _, rfl, lineIs_iff HK.out _ (fo3 rfl) (by first | (simp [*]; done) | (simp_all; done) | omega) ?_ ?_, (by first | exact hB2.out.1 | exact hB2.out.1 | exact below_drewR hB2.out.1 _)⟩
            · rw [sp4]
              simp [za, zb, zc, zd, wTick]
            · first
                | (simp [za, zb, zc, zd]; done)
                | (simp [za, zb, zc, zd]; omega))
      · have hdn : ((d : Int) == 0) = false := beq_eq_false_iff_ne.2 hdz
        go_enter Tryd.func25, Tryd.ntmps25
        go_wp2_with (go_at_call 17; refine (kA _ HN.out).mono ?_; rintro e w1 ⟨rfl, hB1⟩; obtain ⟨q0, q1, q2, q3, q4⟩ := hB1.out.cells; refine Hid.out ?_)
        refine hide_it ?_
        go_wp2_with (go_at_call 17; refine (kB _ hB1.out).mono ?_; rintro e w2 ⟨rfl, hB2⟩; clear q0 q1 q2 q3 q4; obtain ⟨q0, q1, q2, q3, q4⟩ := hB2.out.cells; refine Hid.out ?_)
        refine hide_it ?_
        go_wp2
        go_quiet (fail)
        all_goals go_wp2
        all_goals (
          go_ret2
          obtain ⟨za, zb, zc, zd⟩ := HZ.out
          obtain ⟨la, lb, lc, ld⟩ := HL.out
          refine ⟨_, _, rfl, lineIs_iff HK.out _ (fo3 rfl) (by first | (simp [*]; done) | (simp_all; done) | omega) ?_ ?_, (by first | exact hB2.out.1 | exact hB2.out.1 | exact below_drewR hB2.out.1 _)⟩
          · rw [sp4]
            simp [za, zb, zc, zd, wTick]
          · first
              | (simp [za, zb, zc, zd]; done)
              | (simp [za, zb, zc, zd]; omega))
    · have hcn : ((c : Int) == 0) = false := beq_eq_false_iff_ne.2 hcz
      go_enter Tryd.func25, Tryd.ntmps25
      go_wp2_with (go_at_call 17; refine (kA _ HN.out).mono ?_; rintro e w1 ⟨rfl, hB1⟩; obtain ⟨q0, q1, q2, q3, q4⟩ := hB1.out.cells; refine Hid.out ?_)
      refine hide_it ?_
      go_wp2_with (go_at_call 17; refine (kB _ hB1.out).mono ?_; rintro e w2 ⟨rfl, hB2⟩; clear q0 q1 q2 q3 q4; obtain ⟨q0, q1, q2, q3, q4⟩ := hB2.out.cells; refine Hid.out ?_)
      refine hide_it ?_
      go_wp2
      go_quiet (fail)
      all_goals go_wp2
      all_goals (
        go_ret2
        obtain ⟨za, zb, zc, zd⟩ := HZ.out
        obtain ⟨la, lb, lc, ld⟩ := HL.out
        refine ⟨_, _, rfl, lineIs_iff HK.out _ (fo3 rfl) (by first | (simp [*]; done) | (simp_all; done) | omega) ?_ ?_, (by first | exact hB2.out.1 | exact hB2.out.1 | exact below_drewR hB2.out.1 _)⟩
        · rw [sp4]
          simp [za, zb, zc, zd, wTick]
        · first
            | (simp [za, zb, zc, zd]; done)
            | (simp [za, zb, zc, zd]; omega))
  · have hbn : ((b : Int) == 0) = false := beq_eq_false_iff_ne.2 hbz
    go_enter Tryd.func25, Tryd.ntmps25
    go_wp2_with (go_at_call 17; refine (kA _ HN.out).mono ?_; rintro e w1 ⟨rfl, hB1⟩; obtain ⟨q0, q1, q2, q3, q4⟩ := hB1.out.cells; refine Hid.out ?_)
    refine hide_it ?_
    go_wp2_with (go_at_call 17; refine (kB _ hB1.out).mono ?_; rintro e w2 ⟨rfl, hB2⟩; clear q0 q1 q2 q3 q4; obtain ⟨q0, q1, q2, q3, q4⟩ := hB2.out.cells; refine Hid.out ?_)
    refine hide_it ?_
    go_wp2
    go_quiet (fail)
    all_goals go_wp2
    all_goals (
      go_ret2
      obtain ⟨za, zb, zc, zd⟩ := HZ.out
      obtain ⟨la, lb, lc, ld⟩ := HL.out
      refine ⟨_, _, rfl, lineIs_iff HK.out _ (fo3 rfl) (by first | (simp [*]; done) | (simp_all; done) | omega) ?_ ?_, (by first | exact hB2.out.1 | exact hB2.out.1 | exact below_drewR hB2.out.1 _)⟩
      · rw [sp4]
        simp [za, zb, zc, zd, wTick]
      · first
          | (simp [za, zb, zc, zd]; done)
          | (simp [za, zb, zc, zd]; omega))

end Go.Proofs.YtgjfhfjmdkhllaaDoor
namespace Go.Proofs.YtgjfhfjmdkhllaaDoor
open Go.RowKit
open M
set_option linter.unusedVariables false
set_option linter.unusedSimpArgs false

set_option maxRecDepth 100000 in
set_option maxHeartbeats 2000000 in
theorem line_k4 (o : Oz) (hk : o.kind = 4) (h : okN o.a = true ∧ okN o.b = true ∧ okN o.c = true ∧ okN o.d = true) (w : World) : Calls Tryd.prog 25 #[.agg #[.int .i64 o.kind, .int .i64 o.a, .int .i64 o.b, .int .i64 o.c, .int .i64 o.d]] w fun e w' => ∃ S b, e = .returned (.tuple #[.string S, .bool b]) ∧ LineIs o S.data.toList b ∧ Below w.heap.size w w' := by
  have HK := hide_it h
  obtain ⟨ha, hb, hc, hd⟩ := h
  have la := itoa_len ha
  have lb := itoa_len hb
  have lc := itoa_len hc
  have ld := itoa_len hd
  have tA := text_is o.a ha
  have tB := text_is o.b hb
  have tC := text_is o.c hc
  have tD := text_is o.d hd
  have za : (⟨(Lib.itoa o.a).toArray⟩ : ByteArray).data.toList = Lib.itoa o.a := by simp
  have zb : (⟨(Lib.itoa o.b).toArray⟩ : ByteArray).data.toList = Lib.itoa o.b := by simp
  have zc : (⟨(Lib.itoa o.c).toArray⟩ : ByteArray).data.toList = Lib.itoa o.c := by simp
  have zd : (⟨(Lib.itoa o.d).toArray⟩ : ByteArray).data.toList = Lib.itoa o.d := by simp
  have sa := ba_size za
  have sb := ba_size zb
  have sc := ba_size zc
  have sd := ba_size zd
  generalize (⟨(Lib.itoa o.a).toArray⟩ : ByteArray) = A at *
  generalize (⟨(Lib.itoa o.b).toArray⟩ : ByteArray) = B at *
  generalize (⟨(Lib.itoa o.c).toArray⟩ : ByteArray) = C at *
  generalize (⟨(Lib.itoa o.d).toArray⟩ : ByteArray) = D at *
  have sa7 : A.size ≤ 7 := by omega
  have sb7 : B.size ≤ 7 := by omega
  have sc7 : C.size ≤ 7 := by omega
  have sd7 : D.size ≤ 7 := by omega
  obtain ⟨mx, hmx, hm1, _⟩ := max4_is o.a o.b o.c o.d
  obtain ⟨a0, a1⟩ : 0 ≤ o.a ∧ o.a ≤ 1048576 := by simpa [okN] using ha
  obtain ⟨b0, b1⟩ : 0 ≤ o.b ∧ o.b ≤ 1048576 := by simpa [okN] using hb
  obtain ⟨c0, c1⟩ : 0 ≤ o.c ∧ o.c ≤ 1048576 := by simpa [okN] using hc
  obtain ⟨d0, d1⟩ : 0 ≤ o.d ∧ o.d ≤ 1048576 := by simpa [okN] using hd
  have hmx2 : ¬ (1048576 : Int) < mx := by omega
  have HZ := hide_it (And.intro za (And.intro zb (And.intro zc zd)))
  have HL := hide_it (And.intro la (And.intro lb (And.intro lc ld)))
  have HN := hide_it (Bx.new w o.kind o.a o.b o.c o.d)
  have kA : ∀ W, Bx w W o.kind o.a o.b o.c o.d → Calls Tryd.prog 17 #[.int .i64 o.a] W fun e w' => e = .returned (.string A) ∧ Hid (Bx w w' o.kind o.a o.b o.c o.d) := fun W hW => (tA W).mono (fun e w' hh => ⟨hh.1, hW.below hh.2⟩)
  have kB : ∀ W, Bx w W o.kind o.a o.b o.c o.d → Calls Tryd.prog 17 #[.int .i64 o.b] W fun e w' => e = .returned (.string B) ∧ Hid (Bx w w' o.kind o.a o.b o.c o.d) := fun W hW => (tB W).mono (fun e w' hh => ⟨hh.1, hW.below hh.2⟩)
  have kC : ∀ W, Bx w W o.kind o.a o.b o.c o.d → Calls Tryd.prog 17 #[.int .i64 o.c] W fun e w' => e = .returned (.string C) ∧ Hid (Bx w w' o.kind o.a o.b o.c o.d) := fun W hW => (tC W).mono (fun e w' hh => ⟨hh.1, hW.below hh.2⟩)
  have kD : ∀ W, Bx w W o.kind o.a o.b o.c o.d → Calls Tryd.prog 17 #[.int .i64 o.d] W fun e w' => e = .returned (.string D) ∧ Hid (Bx w w' o.kind o.a o.b o.c o.d) := fun W hW => (tD W).mono (fun e w' hh => ⟨hh.1, hW.below hh.2⟩)
  clear tA tB tC tD ha hb hc hd la lb lc ld za zb zc zd sa sb sc sd hm1
  obtain ⟨k, a, b, c, d⟩ := o
  simp only at *
  subst hk
  by_cases hbz : b = 0
  · subst hbz
    by_cases hcz : c = 0
    · subst hcz
      by_cases hdz : d = 0
      · subst hdz
        by_cases haz : a = 0
        · subst haz
          go_enter Tryd.func25, Tryd.ntmps25
          go_wp2_with (go_at_call 17; refine (kA _ HN.out).mono ?_; rintro e w1 ⟨rfl, hB1⟩; obtain ⟨q0, q1, q2, q3, q4⟩ := hB1.out.cells; refine Hid.out ?_)
          refine hide_it ?_
          go_wp2_with (go_at_call 17; refine (kB _ hB1.out).mono ?_; rintro e w2 ⟨rfl, hB2⟩; clear q0 q1 q2 q3 q4; obtain ⟨q0, q1, q2, q3, q4⟩ := hB2.out.cells; refine Hid.out ?_)
          refine hide_it ?_
          go_wp2
          go_quiet (fail)
          all_goals go_wp2
          all_goals (
            go_ret2
            obtain ⟨za, zb, zc, zd⟩ := HZ.out
            obtain ⟨la, lb, lc, ld⟩ := HL.out
            refine ⟨_, _, rfl, lineIs_iff HK.out _ (fo4 rfl) (by first | (simp [*]; done) | (simp_all; done) | omega) ?_ ?_, (by first | exact hB2.out.1 | exact hB2.out.1 | exact below_drewR hB2.out.1 _)⟩
            · rw [sp5]
              simp [za, zb, zc, zd, wDispatch]
            · first
                | (simp [za, zb, zc, zd]; done)
                | (simp [za, zb, zc, zd]; omega))
        · have han : ((a : Int) == 0) = false := beq_eq_false_iff_ne.2 haz
          go_enter Tryd.func25, Tryd.ntmps25
          go_wp2_with (go_at_call 17; refine (kA _ HN.out).mono ?_; rintro e w1 ⟨rfl, hB1⟩; obtain ⟨q0, q1, q2, q3, q4⟩ := hB1.out.cells; refine Hid.out ?_)
          refine hide_it ?_
          go_wp2_with (go_at_call 17; refine (kB _ hB1.out).mono ?_; rintro e w2 ⟨rfl, hB2⟩; clear q0 q1 q2 q3 q4; obtain ⟨q0, q1, q2, q3, q4⟩ := hB2.out.cells; refine Hid.out ?_)
          refine hide_it ?_
          go_wp2
          go_quiet (fail)
          all_goals go_wp2
          all_goals (
            go_ret2
            obtain ⟨za, zb, zc, zd⟩ := HZ.out
            obtain ⟨la, lb, lc, ld⟩ := HL.out
            refine ⟨_, _, rfl, lineIs_iff HK.out _ (fo4 rfl) (by first | (simp [*]; done) | (simp_all; done) | omega) ?_ ?_, (by first | exact hB2.out.1 | exact hB2.out.1 | exact below_drewR hB2.out.1 _)⟩
            · rw [sp5]
              simp [za, zb, zc, zd, wDispatch]
            · first
                | (simp [za, zb, zc, zd]; done)
                | (simp [za, zb, zc, zd]; omega))
      · have hdn : ((d : Int) == 0) = false := beq_eq_false_iff_ne.2 hdz
        go_enter Tryd.func25, Tryd.ntmps25
        go_wp2_with (go_at_call 17; refine (kA _ HN.out).mono ?_; rintro e w1 ⟨rfl, hB1⟩; obtain ⟨q0, q1, q2, q3, q4⟩ := hB1.out.cells; refine Hid.out ?_)
        refine hide_it ?_
        go_wp2_with (go_at_call 17; refine (kB _ hB1.out).mono ?_; rintro e w2 ⟨rfl, hB2⟩; clear q0 q1 q2 q3 q4; obtain ⟨q0, q1, q2, q3, q4⟩ := hB2.out.cells; refine Hid.out ?_)
        refine hide_it ?_
        go_wp2
        go_quiet (fail)
        all_goals go_wp2
        all_goals (
          go_ret2
          obtain ⟨za, zb, zc, zd⟩ := HZ.out
          obtain ⟨la, lb, lc, ld⟩ := HL.out
          refine ⟨_, _, rfl, lineIs_iff HK.out _ (fo4 rfl) (by first | (simp [*]; done) | (simp_all; done) | omega) ?_ ?_, (by first | exact hB2.out.1 | exact hB2.out.1 | exact below_drewR hB2.out.1 _)⟩
          · rw [sp5]
            simp [za, zb, zc, zd, wDispatch]
          · first
              | (simp [za, zb, zc, zd]; done)
              | (simp [za, zb, zc, zd]; omega))
    · have hcn : ((c : Int) == 0) = false := beq_eq_false_iff_ne.2 hcz
      go_enter Tryd.func25, Tryd.ntmps25
      go_wp2_with (go_at_call 17; refine (kA _ HN.out).mono ?_; rintro e w1 ⟨rfl, hB1⟩; obtain ⟨q0, q1, q2, q3, q4⟩ := hB1.out.cells; refine Hid.out ?_)
      refine hide_it ?_
      go_wp2_with (go_at_call 17; refine (kB _ hB1.out).mono ?_; rintro e w2 ⟨rfl, hB2⟩; clear q0 q1 q2 q3 q4; obtain ⟨q0, q1, q2, q3, q4⟩ := hB2.out.cells; refine Hid.out ?_)
      refine hide_it ?_
      go_wp2
      go_quiet (fail)
      all_goals go_wp2
      all_goals (
        go_ret2
        obtain ⟨za, zb, zc, zd⟩ := HZ.out
        obtain ⟨la, lb, lc, ld⟩ := HL.out
        refine ⟨_, _, rfl, lineIs_iff HK.out _ (fo4 rfl) (by first | (simp [*]; done) | (simp_all; done) | omega) ?_ ?_, (by first | exact hB2.out.1 | exact hB2.out.1 | exact below_drewR hB2.out.1 _)⟩
        · rw [sp5]
          simp [za, zb, zc, zd, wDispatch]
        · first
            | (simp [za, zb, zc, zd]; done)
            | (simp [za, zb, zc, zd]; omega))
  · have hbn : ((b : Int) == 0) = false := beq_eq_false_iff_ne.2 hbz
    go_enter Tryd.func25, Tryd.ntmps25
    go_wp2_with (go_at_call 17; refine (kA _ HN.out).mono ?_; rintro e w1 ⟨rfl, hB1⟩; obtain ⟨q0, q1, q2, q3, q4⟩ := hB1.out.cells; refine Hid.out ?_)
    refine hide_it ?_
    go_wp2_with (go_at_call 17; refine (kB _ hB1.out).mono ?_; rintro e w2 ⟨rfl, hB2⟩; clear q0 q1 q2 q3 q4; obtain ⟨q0, q1, q2, q3, q4⟩ := hB2.out.cells; refine Hid.out ?_)
    refine hide_it ?_
    go_wp2
    go_quiet (fail)
    all_goals go_wp2
    all_goals (
      go_ret2
      obtain ⟨za, zb, zc, zd⟩ := HZ.out
      obtain ⟨la, lb, lc, ld⟩ := HL.out
      refine ⟨_, _, rfl, lineIs_iff HK.out _ (fo4 rfl) (by first | (simp [*]; done) | (simp_all; done) | omega) ?_ ?_, (by first | exact hB2.out.1 | exact hB2.out.1 | exact below_drewR hB2.out.1 _)⟩
      · rw [sp5]
        simp [za, zb, zc, zd, wDispatch]
      · first
          | (simp [za, zb, zc, zd]; done)
          | (simp [za, zb, zc, zd]; omega))

end Go.Proofs.YtgjfhfjmdkhllaaDoor
namespace Go.Proofs.YtgjfhfjmdkhllaaDoor
open Go.RowKit
open M
set_option linter.unusedVariables false
set_option linter.unusedSimpArgs false

set_option maxRecDepth 100000 in
set_option maxHeartbeats 2000000 in
theorem line_k0 (o : Oz) (h1 : o.kind ≠ 1) (h2 : o.kind ≠ 2) (h3 : o.kind ≠ 3) (h4 : o.kind ≠ 4) (h5 : o.kind ≠ 5) (h6 : o.kind ≠ 6) (h : okN o.a = true ∧ okN o.b = true ∧ okN o.c = true ∧ okN o.d = true) (w : World) : Calls Tryd.prog 25 #[.agg #[.int .i64 o.kind, .int .i64 o.a, .int .i64 o.b, .int .i64 o.c, .int .i64 o.d]] w fun e w' => ∃ S b, e = .returned (.tuple #[.string S, .bool b]) ∧ LineIs o S.data.toList b ∧ Below w.heap.size w w' := by
  have HK := hide_it h
  obtain ⟨ha, hb, hc, hd⟩ := h
  have la := itoa_len ha
  have lb := itoa_len hb
  have lc := itoa_len hc
  have ld := itoa_len hd
  have tA := text_is o.a ha
  have tB := text_is o.b hb
  have tC := text_is o.c hc
  have tD := text_is o.d hd
  have za : (⟨(Lib.itoa o.a).toArray⟩ : ByteArray).data.toList = Lib.itoa o.a := by simp
  have zb : (⟨(Lib.itoa o.b).toArray⟩ : ByteArray).data.toList = Lib.itoa o.b := by simp
  have zc : (⟨(Lib.itoa o.c).toArray⟩ : ByteArray).data.toList = Lib.itoa o.c := by simp
  have zd : (⟨(Lib.itoa o.d).toArray⟩ : ByteArray).data.toList = Lib.itoa o.d := by simp
  have sa := ba_size za
  have sb := ba_size zb
  have sc := ba_size zc
  have sd := ba_size zd
  generalize (⟨(Lib.itoa o.a).toArray⟩ : ByteArray) = A at *
  generalize (⟨(Lib.itoa o.b).toArray⟩ : ByteArray) = B at *
  generalize (⟨(Lib.itoa o.c).toArray⟩ : ByteArray) = C at *
  generalize (⟨(Lib.itoa o.d).toArray⟩ : ByteArray) = D at *
  have sa7 : A.size ≤ 7 := by omega
  have sb7 : B.size ≤ 7 := by omega
  have sc7 : C.size ≤ 7 := by omega
  have sd7 : D.size ≤ 7 := by omega
  obtain ⟨mx, hmx, hm1, _⟩ := max4_is o.a o.b o.c o.d
  obtain ⟨a0, a1⟩ : 0 ≤ o.a ∧ o.a ≤ 1048576 := by simpa [okN] using ha
  obtain ⟨b0, b1⟩ : 0 ≤ o.b ∧ o.b ≤ 1048576 := by simpa [okN] using hb
  obtain ⟨c0, c1⟩ : 0 ≤ o.c ∧ o.c ≤ 1048576 := by simpa [okN] using hc
  obtain ⟨d0, d1⟩ : 0 ≤ o.d ∧ o.d ≤ 1048576 := by simpa [okN] using hd
  have hmx2 : ¬ (1048576 : Int) < mx := by omega
  have HZ := hide_it (And.intro za (And.intro zb (And.intro zc zd)))
  have HL := hide_it (And.intro la (And.intro lb (And.intro lc ld)))
  have HN := hide_it (Bx.new w o.kind o.a o.b o.c o.d)
  have kA : ∀ W, Bx w W o.kind o.a o.b o.c o.d → Calls Tryd.prog 17 #[.int .i64 o.a] W fun e w' => e = .returned (.string A) ∧ Hid (Bx w w' o.kind o.a o.b o.c o.d) := fun W hW => (tA W).mono (fun e w' hh => ⟨hh.1, hW.below hh.2⟩)
  have kB : ∀ W, Bx w W o.kind o.a o.b o.c o.d → Calls Tryd.prog 17 #[.int .i64 o.b] W fun e w' => e = .returned (.string B) ∧ Hid (Bx w w' o.kind o.a o.b o.c o.d) := fun W hW => (tB W).mono (fun e w' hh => ⟨hh.1, hW.below hh.2⟩)
  have kC : ∀ W, Bx w W o.kind o.a o.b o.c o.d → Calls Tryd.prog 17 #[.int .i64 o.c] W fun e w' => e = .returned (.string C) ∧ Hid (Bx w w' o.kind o.a o.b o.c o.d) := fun W hW => (tC W).mono (fun e w' hh => ⟨hh.1, hW.below hh.2⟩)
  have kD : ∀ W, Bx w W o.kind o.a o.b o.c o.d → Calls Tryd.prog 17 #[.int .i64 o.d] W fun e w' => e = .returned (.string D) ∧ Hid (Bx w w' o.kind o.a o.b o.c o.d) := fun W hW => (tD W).mono (fun e w' hh => ⟨hh.1, hW.below hh.2⟩)
  clear tA tB tC tD ha hb hc hd la lb lc ld za zb zc zd sa sb sc sd hm1
  obtain ⟨k, a, b, c, d⟩ := o
  simp only at *
  have kb1 : ((k : Int) == 1) = false := beq_eq_false_iff_ne.2 h1
  have kb2 : ((k : Int) == 2) = false := beq_eq_false_iff_ne.2 h2
  have kb3 : ((k : Int) == 3) = false := beq_eq_false_iff_ne.2 h3
  have kb4 : ((k : Int) == 4) = false := beq_eq_false_iff_ne.2 h4
  have kb6 : ((k : Int) == 6) = false := beq_eq_false_iff_ne.2 h6
  have kb5 : ((k : Int) == 5) = false := beq_eq_false_iff_ne.2 h5
  by_cases hbz : b = 0
  · subst hbz
    by_cases hcz : c = 0
    · subst hcz
      go_enter Tryd.func25, Tryd.ntmps25
      go_wp2_with (go_at_call 17; refine (kA _ HN.out).mono ?_; rintro e w1 ⟨rfl, hB1⟩; obtain ⟨q0, q1, q2, q3, q4⟩ := hB1.out.cells; refine Hid.out ?_)
      refine hide_it ?_
      go_wp2_with (go_at_call 17; refine (kB _ hB1.out).mono ?_; rintro e w2 ⟨rfl, hB2⟩; clear q0 q1 q2 q3 q4; obtain ⟨q0, q1, q2, q3, q4⟩ := hB2.out.cells; refine Hid.out ?_)
      refine hide_it ?_
      go_wp2
      all_goals (
        go_ret2
        exact ⟨_, _, rfl, lineIs_no (fo0 h1 h2 h3 h4 h5 h6) (by simp), hB2.out.1⟩)
    · have hcn : ((c : Int) == 0) = false := beq_eq_false_iff_ne.2 hcz
      go_enter Tryd.func25, Tryd.ntmps25
      go_wp2_with (go_at_call 17; refine (kA _ HN.out).mono ?_; rintro e w1 ⟨rfl, hB1⟩; obtain ⟨q0, q1, q2, q3, q4⟩ := hB1.out.cells; refine Hid.out ?_)
      refine hide_it ?_
      go_wp2_with (go_at_call 17; refine (kB _ hB1.out).mono ?_; rintro e w2 ⟨rfl, hB2⟩; clear q0 q1 q2 q3 q4; obtain ⟨q0, q1, q2, q3, q4⟩ := hB2.out.cells; refine Hid.out ?_)
      refine hide_it ?_
      go_wp2
      all_goals (
        go_ret2
        exact ⟨_, _, rfl, lineIs_no (fo0 h1 h2 h3 h4 h5 h6) (by simp), hB2.out.1⟩)
  · have hbn : ((b : Int) == 0) = false := beq_eq_false_iff_ne.2 hbz
    go_enter Tryd.func25, Tryd.ntmps25
    go_wp2_with (go_at_call 17; refine (kA _ HN.out).mono ?_; rintro e w1 ⟨rfl, hB1⟩; obtain ⟨q0, q1, q2, q3, q4⟩ := hB1.out.cells; refine Hid.out ?_)
    refine hide_it ?_
    go_wp2_with (go_at_call 17; refine (kB _ hB1.out).mono ?_; rintro e w2 ⟨rfl, hB2⟩; clear q0 q1 q2 q3 q4; obtain ⟨q0, q1, q2, q3, q4⟩ := hB2.out.cells; refine Hid.out ?_)
    refine hide_it ?_
    go_wp2
    all_goals (
      go_ret2
      exact ⟨_, _, rfl, lineIs_no (fo0 h1 h2 h3 h4 h5 h6) (by simp), hB2.out.1⟩)

end Go.Proofs.YtgjfhfjmdkhllaaDoor
