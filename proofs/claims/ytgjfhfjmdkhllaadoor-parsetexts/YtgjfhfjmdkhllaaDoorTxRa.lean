/- What the document's own Text answers. -/
import Derived.Test.YtgjfhfjmdkhllaaDoorTxR
namespace Go.Proofs.YtgjfhfjmdkhllaaDoor
open Go.RowKit
open M
set_option linter.unusedVariables false
set_option linter.unusedSimpArgs false


set_option maxRecDepth 1000000 in
set_option maxHeartbeats 3000000 in
theorem refT_fits (x0 x1 x2 x3 x4 x5 x6 x7 x8 x9 : Int) (f : Fl) (ta oa : Option Addr) (tc oc n1 n2 : Nat) (hn1 : f.tasks.length = n1) (hn2 : f.ops.length = n2) (w : World) (hcf : f.cfg = [x0, x1, x2, x3, x4, x5, x6, x7, x8, x9]) (hti : TasksIn w ta f.tasks) (hoi : OpsIn w oa f.ops) (hl1 : n1 ≤ 70) (hl2 : n2 ≤ 200) (hbc : ∀ n ∈ f.cfg, i64B n) (hbt : ∀ t ∈ f.tasks, i64B t.1 ∧ i64B t.2) (h64 : n1 ≤ 64) (RS : List UInt8) (RE : Int) (hR : (textF f = some RS ∧ RE = 0) ∨ (textF f = none ∧ RS = [] ∧ RE = 1)) :
    Calls Tryd.prog 15 #[.agg #[.int .i64 x0, .int .i64 x1, .int .i64 x2, .int .i64 x3, .int .i64 x4, .int .i64 x5, .int .i64 x6, .int .i64 x7, .int .i64 x8, .int .i64 x9, .slice ta n1 tc, .slice oa n2 oc]] w fun e w' => e = .returned (.tuple #[strV RS, .int .i64 RE]) ∧ Below w.heap.size w w' := by
  have hcl0 : f.cfg.length = 10 := by rw [hcf]; rfl
  have hcl := hide_it hcl0
  have HCF := hide_it hcf
  have HBC := hide_it hbc
  have HBT := hide_it hbt
  have HTI := hide_it hti
  have HOI := hide_it hoi
  have HRR := hide_it hR
  have HN1 := hide_it hn1
  have HN2 := hide_it hn2
  have h64I : (n1 : Int) ≤ 64 := by omega
  have h40I : (n2 : Int) ≤ 4096 := by omega
  have HI0 : Hid (CfgInv f 0 ⟨#[99, 111, 110, 102, 105, 103]⟩ true) := cfg_start f hcl0 _ (by unfold fits; rw [hn1, hn2]; simp; omega)
  have HR0 : Hid (RT w (((w.alloc (.cells #[.int .i64 x0, .int .i64 x1, .int .i64 x2, .int .i64 x3, .int .i64 x4, .int .i64 x5, .int .i64 x6, .int .i64 x7, .int .i64 x8, .int .i64 x9, .slice ta n1 tc, .slice oa n2 oc] 33)).alloc (.cells #[.int .i64 x0, .int .i64 x1, .int .i64 x2, .int .i64 x3, .int .i64 x4, .int .i64 x5, .int .i64 x6, .int .i64 x7, .int .i64 x8, .int .i64 x9] 25)).alloc (.cells #[.int .i64 x0, .int .i64 x1, .int .i64 x2, .int .i64 x3, .int .i64 x4, .int .i64 x5, .int .i64 x6, .int .i64 x7, .int .i64 x8, .int .i64 x9] 3)) #[.int .i64 x0, .int .i64 x1, .int .i64 x2, .int .i64 x3, .int .i64 x4, .int .i64 x5, .int .i64 x6, .int .i64 x7, .int .i64 x8, .int .i64 x9, .slice ta n1 tc, .slice oa n2 oc] #[.int .i64 x0, .int .i64 x1, .int .i64 x2, .int .i64 x3, .int .i64 x4, .int .i64 x5, .int .i64 x6, .int .i64 x7, .int .i64 x8, .int .i64 x9]) := by
    refine ⟨Joins.below_alloc3 w _ _ _, ?_, ?_⟩
    · rw [Below.heap_alloc _ _ _ (by first | (simp; done) | (simp; omega)), Below.heap_alloc _ _ _ (by simp)]; exact heap_alloc_new w _
    · have := heap_alloc_new ((w.alloc (.cells #[.int .i64 x0, .int .i64 x1, .int .i64 x2, .int .i64 x3, .int .i64 x4, .int .i64 x5, .int .i64 x6, .int .i64 x7, .int .i64 x8, .int .i64 x9, .slice ta n1 tc, .slice oa n2 oc] 33)).alloc (.cells #[.int .i64 x0, .int .i64 x1, .int .i64 x2, .int .i64 x3, .int .i64 x4, .int .i64 x5, .int .i64 x6, .int .i64 x7, .int .i64 x8, .int .i64 x9] 25)) (.cells #[.int .i64 x0, .int .i64 x1, .int .i64 x2, .int .i64 x3, .int .i64 x4, .int .i64 x5, .int .i64 x6, .int .i64 x7, .int .i64 x8, .int .i64 x9] 3)
      simpa using this
  clear hcf hbc hbt hti hoi hR hn1 hn2 hcl0
  go_enter Tryd.func15, Tryd.ntmps15
  go_wp2
  go_loopw [6, 7, 8] (fun okv sv iv wr => ∃ (k : Nat) (S : ByteArray) (ok : Bool), iv = .int .i64 k ∧ sv = .string S ∧ okv = .bool ok ∧ k ≤ 10 ∧ Hid (CfgInv f k S ok) ∧ Hid (RT w wr #[.int .i64 x0, .int .i64 x1, .int .i64 x2, .int .i64 x3, .int .i64 x4, .int .i64 x5, .int .i64 x6, .int .i64 x7, .int .i64 x8, .int .i64 x9, .slice ta n1 tc, .slice oa n2 oc] #[.int .i64 x0, .int .i64 x1, .int .i64 x2, .int .i64 x3, .int .i64 x4, .int .i64 x5, .int .i64 x6, .int .i64 x7, .int .i64 x8, .int .i64 x9])) (fun _ _ iv _ => 10 - (intOf iv).toNat)
  case atStart => exact ⟨0, _, true, rfl, rfl, rfl, by omega, HI0, HR0⟩
  case round =>
    obtain ⟨k, S, ok, rfl, rfl, rfl, hk, hI, hR⟩ := hrel
    clear HI0 HR0
    have hSz := hI.out.1
    by_cases hk' : k < 10
    · have hkc : k < f.cfg.length := by rw [hcl.out]; exact hk'
      have hkI0 : (0 : Int) ≤ (k : Int) := by omega
      have hkI : (k : Int) < 10 := by omega
      have hkn : k < names.length := hk'
      have kN0 := name_any k hk'
      have hnl := names_len k hkn
      have hNM : (⟨(names[k]'hkn).toArray⟩ : ByteArray).data.toList = names[k]'hkn := by simp
      have hNs := ba_size hNM
      have hRd : Hid (RT w wr.drew #[.int .i64 x0, .int .i64 x1, .int .i64 x2, .int .i64 x3, .int .i64 x4, .int .i64 x5, .int .i64 x6, .int .i64 x7, .int .i64 x8, .int .i64 x9, .slice ta n1 tc, .slice oa n2 oc] #[.int .i64 x0, .int .i64 x1, .int .i64 x2, .int .i64 x3, .int .i64 x4, .int .i64 x5, .int .i64 x6, .int .i64 x7, .int .i64 x8, .int .i64 x9]) := hR.out.drew
      have q0 := hR.out.cfg _ HCF.out k hkc
      obtain ⟨y, Y, hmax, hY, hYs, hYo⟩ := max0 f.cfg[k] (HBC.out _ (List.getElem_mem hkc))
      have kR0 := right_any f.cfg[k]
      have hstep : ∀ (S' : ByteArray) (ok : Bool), CfgInv f k S ok → okN f.cfg[k] = true → S'.size ≤ 100 + 100 * (k + 1) → S'.data.toList = S.data.toList ++ [32] ++ names[k]'hkn ++ [32] ++ Lib.itoa f.cfg[k] → CfgInv f (k + 1) S' ok := fun S' ok h1 h2 h3 h4 => cfg_step hcl.out hk' h1 h2 h3 h4
      have hbad : okN f.cfg[k] = false → textF f = none := fun h => cfg_bad hcl.out hkc h
      obtain ⟨x, hx⟩ : ∃ x, f.cfg[k] = x := ⟨_, rfl⟩
      have HXK : Hid (∀ W, RT w W #[.int .i64 x0, .int .i64 x1, .int .i64 x2, .int .i64 x3, .int .i64 x4, .int .i64 x5, .int .i64 x6, .int .i64 x7, .int .i64 x8, .int .i64 x9, .slice ta n1 tc, .slice oa n2 oc] #[.int .i64 x0, .int .i64 x1, .int .i64 x2, .int .i64 x3, .int .i64 x4, .int .i64 x5, .int .i64 x6, .int .i64 x7, .int .i64 x8, .int .i64 x9] → W.cell? ⟨w.heap.size + 2, k, none⟩ = some (.int .i64 x)) := fun W hW => by rw [← hx]; exact hW.cfg _ HCF.out k hkc
      rw [hx] at q0 hmax hYo kR0 hstep hbad
      have kN : ∀ W, RT w W #[.int .i64 x0, .int .i64 x1, .int .i64 x2, .int .i64 x3, .int .i64 x4, .int .i64 x5, .int .i64 x6, .int .i64 x7, .int .i64 x8, .int .i64 x9, .slice ta n1 tc, .slice oa n2 oc] #[.int .i64 x0, .int .i64 x1, .int .i64 x2, .int .i64 x3, .int .i64 x4, .int .i64 x5, .int .i64 x6, .int .i64 x7, .int .i64 x8, .int .i64 x9] → Calls Tryd.prog 24 #[.int .i64 (k : Int)] W fun e w' => e = .returned (.string ⟨(names[k]'hkn).toArray⟩) ∧ Hid (RT w w' #[.int .i64 x0, .int .i64 x1, .int .i64 x2, .int .i64 x3, .int .i64 x4, .int .i64 x5, .int .i64 x6, .int .i64 x7, .int .i64 x8, .int .i64 x9, .slice ta n1 tc, .slice oa n2 oc] #[.int .i64 x0, .int .i64 x1, .int .i64 x2, .int .i64 x3, .int .i64 x4, .int .i64 x5, .int .i64 x6, .int .i64 x7, .int .i64 x8, .int .i64 x9]) := fun W hW => (kN0 W).mono (fun e w' hh => ⟨hh.1, hW.below hh.2⟩)
      have kY : ∀ W, RT w W #[.int .i64 x0, .int .i64 x1, .int .i64 x2, .int .i64 x3, .int .i64 x4, .int .i64 x5, .int .i64 x6, .int .i64 x7, .int .i64 x8, .int .i64 x9, .slice ta n1 tc, .slice oa n2 oc] #[.int .i64 x0, .int .i64 x1, .int .i64 x2, .int .i64 x3, .int .i64 x4, .int .i64 x5, .int .i64 x6, .int .i64 x7, .int .i64 x8, .int .i64 x9] → Calls Tryd.prog 17 #[.int .i64 y] W fun e w' => e = .returned (.string Y) ∧ Hid (RT w w' #[.int .i64 x0, .int .i64 x1, .int .i64 x2, .int .i64 x3, .int .i64 x4, .int .i64 x5, .int .i64 x6, .int .i64 x7, .int .i64 x8, .int .i64 x9, .slice ta n1 tc, .slice oa n2 oc] #[.int .i64 x0, .int .i64 x1, .int .i64 x2, .int .i64 x3, .int .i64 x4, .int .i64 x5, .int .i64 x6, .int .i64 x7, .int .i64 x8, .int .i64 x9]) := fun W hW => (hY W).mono (fun e w' hh => ⟨hh.1, hW.below hh.2⟩)
      have HST := hide_it hstep
      have HBA := hide_it hbad
      have HYO := hide_it hYo
      have HNM := hide_it hNM
      clear kN0 hY hstep hbad hYo hx hkc
      generalize names[k]'hkn = nl at *
      generalize (⟨nl.toArray⟩ : ByteArray) = NM at *
      have hNs10 : NM.size ≤ 10 := by omega
      clear hNM hNs hnl
      have z1 : ¬ 9223372036854775807 < S.size + 1 := by omega
      have z2 : ¬ 9223372036854775807 < S.size + 1 + NM.size := by omega
      have z3 : ¬ 9223372036854775807 < S.size + 1 + NM.size + 1 := by omega
      have z4 : ¬ 9223372036854775807 < S.size + 1 + NM.size + 1 + Y.size := by omega
      cases ok with
      | false =>
        have HNO : Hid (textF f = none) := hI.out.2.2 rfl
        have kR : ∀ W, Calls Tryd.prog 23 #[.int .i64 x] W fun e w' => ∃ b, e = .returned (.bool b) ∧ w' = W := fun W => (kR0 W).mono (fun e w' hh => ⟨_, hh.1, hh.2⟩)
        clear kR0
        go_wp2_with (go_at_call 23; refine (kR _).mono ?_; rintro e W ⟨bb, rfl, hW⟩; rw [hW]; clear hW)
        go_region_held3 (fun W => W.cell? ⟨w.heap.size + 2, k, none⟩ = some (.int .i64 x)) (first | go_keep | exact q0) (first
          | (go_at_call 24; refine (kN _ hRd.out).mono ?_; rintro e w5 ⟨rfl, hR5⟩; clear q0; have q0 := HXK.out w5 hR5.out)
          | (go_at_call 17; refine (kY _ hR5.out).mono ?_; rintro e w6 ⟨rfl, hR6⟩; clear q0; have q0 := HXK.out w6 hR6.out))
        all_goals go_wp2
        all_goals go_roundw
        all_goals first
          | exact ⟨k + 1, _, false, by go_num, rfl, rfl, by omega, cfg_no (k := k) (S := S) HNO.out (by simp [sz32]; omega), hR6⟩
          | (simp [intOf]; omega)
      | true =>
        cases hxb : okN x with
        | false =>
          have HNO : Hid (textF f = none) := HBA.out hxb
          rw [hxb] at kR0
          have kR := kR0
          clear kR0 hxb
          go_wp2_with (go_at_call 23; refine (kR _).mono ?_; rintro e W ⟨rfl, hW⟩; rw [hW]; clear hW)
          go_region_held3 (fun W => W.cell? ⟨w.heap.size + 2, k, none⟩ = some (.int .i64 x)) (first | go_keep | exact q0) (first
            | (go_at_call 24; refine (kN _ hRd.out).mono ?_; rintro e w5 ⟨rfl, hR5⟩; clear q0; have q0 := HXK.out w5 hR5.out)
            | (go_at_call 17; refine (kY _ hR5.out).mono ?_; rintro e w6 ⟨rfl, hR6⟩; clear q0; have q0 := HXK.out w6 hR6.out))
          all_goals go_wp2
          all_goals go_roundw
          all_goals first
            | exact ⟨k + 1, _, false, by go_num, rfl, rfl, by omega, cfg_no (k := k) (S := S) HNO.out (by simp [sz32]; omega), hR6⟩
            | (simp [intOf]; omega)
        | true =>
          have hxt := hxb
          have HXT := hide_it hxt
          rw [hxb] at kR0
          have kR := kR0
          clear kR0 hxb hxt
          go_wp2_with (go_at_call 23; refine (kR _).mono ?_; rintro e W ⟨rfl, hW⟩; rw [hW]; clear hW)
          go_region_held3 (fun W => W.cell? ⟨w.heap.size + 2, k, none⟩ = some (.int .i64 x)) (first | go_keep | exact q0) (first
            | (go_at_call 24; refine (kN _ hRd.out).mono ?_; rintro e w5 ⟨rfl, hR5⟩; clear q0; have q0 := HXK.out w5 hR5.out)
            | (go_at_call 17; refine (kY _ hR5.out).mono ?_; rintro e w6 ⟨rfl, hR6⟩; clear q0; have q0 := HXK.out w6 hR6.out))
          all_goals go_wp2
          all_goals go_roundw
          all_goals first
            | exact ⟨k + 1, _, true, by go_num, rfl, rfl, by omega, HST.out _ _ hI.out HXT.out (by simp [sz32]; omega) (by simp [HYO.out HXT.out, HNM.out]), hR6⟩
            | (simp [intOf]; omega)
    · have hke : k = 10 := by omega
      have HK10 := hide_it hke
      have HTS : ∀ S' : ByteArray, S'.size = S.size + 1 → S'.data.toList = S.data.toList ++ [10] → TasInv f 0 S' ok := fun S' h1 h2 => cfg_end HCF.out (HK10.out ▸ hI.out) h1 h2
      have HTS0 : Hid (TasInv f 0 (S ++ ⟨#[10]⟩) ok) := HTS _ (by simp [sz10]) (by simp)
      have z1 : ¬ 9223372036854775807 < S.size + 1 := by omega
      obtain ⟨a0, a1, a2, a3, a4, a5, a6, a7, a8, a9, a10, a11, _⟩ := cells12 hR.out.fb
      clear HTS hke HK10
      go_wp2
      clear a0 a1 a2 a3 a4 a5 a6 a7 a8 a9 a10 a11
      clear hk' hI z1 hSz
      obtain ⟨wo, rfl⟩ : ∃ W : World, W = wr := ⟨_, rfl⟩
      go_loopw [6, 7, 10] (fun okv sv iv wr => ∃ (k : Nat) (S : ByteArray) (ok : Bool), iv = .int .i64 k ∧ sv = .string S ∧ okv = .bool ok ∧ k ≤ n1 ∧ k ≤ 65 ∧ Hid (TasInv f k S ok) ∧ Hid (RT w wr #[.int .i64 x0, .int .i64 x1, .int .i64 x2, .int .i64 x3, .int .i64 x4, .int .i64 x5, .int .i64 x6, .int .i64 x7, .int .i64 x8, .int .i64 x9, .slice ta n1 tc, .slice oa n2 oc] #[.int .i64 x0, .int .i64 x1, .int .i64 x2, .int .i64 x3, .int .i64 x4, .int .i64 x5, .int .i64 x6, .int .i64 x7, .int .i64 x8, .int .i64 x9])) (fun _ _ iv _ => n1 - (intOf iv).toNat)
      case atStart => exact ⟨0, _, ok, rfl, rfl, rfl, by omega, by omega, HTS0, hR⟩
      case round =>
        clear HTS0 hR hk
        obtain ⟨k, S, ok, rfl, rfl, rfl, hk, hk65, hI, hR⟩ := hrel
        have hSz := hI.out.1
        obtain ⟨a0, a1, a2, a3, a4, a5, a6, a7, a8, a9, a10, a11, _⟩ := cells12 hR.out.fb
        by_cases hlt : k < n1 ∧ k < 65
        · obtain ⟨hlt1, hlt2⟩ := hlt
          have hkI : (k : Int) < (n1 : Int) := by omega
          have hkI0 : (0 : Int) ≤ (k : Int) := by omega
          have hkI6 : (k : Int) < 65 := by omega
          have hkt : k < f.tasks.length := by rw [HN1.out]; exact hlt1
          obtain ⟨bx, by'⟩ := HBT.out _ (List.getElem_mem hkt)
          obtain ⟨u, U, hmu, hU, hUs, hUo⟩ := max0 f.tasks[k].1 bx
          obtain ⟨v, V, hmv, hV, hVs, hVo⟩ := max0 f.tasks[k].2 by'
          have kR1 := right_any f.tasks[k].1
          have kR2 := right_any f.tasks[k].2
          have hstep : ∀ (S' : ByteArray) (ok : Bool), TasInv f k S ok → okN f.tasks[k].1 = true → okN f.tasks[k].2 = true → S'.size ≤ 2000 + 100 * (k + 1) → S'.data.toList = S.data.toList ++ wTask ++ [32] ++ Lib.itoa f.tasks[k].1 ++ [32] ++ Lib.itoa f.tasks[k].2 ++ [10] → TasInv f (k + 1) S' ok := fun S' ok h1 h2 h3 h4 h5 => tas_step hkt h1 h2 h3 h4 h5
          have hbad : (okN f.tasks[k].1 = false ∨ okN f.tasks[k].2 = false) → textF f = none := fun h => tas_bad hcl.out hkt h
          obtain ⟨tb, tof, hta, -, -, -⟩ := HTI.out k hkt
          subst hta
          have HCL : Hid (∀ W, RT w W #[.int .i64 x0, .int .i64 x1, .int .i64 x2, .int .i64 x3, .int .i64 x4, .int .i64 x5, .int .i64 x6, .int .i64 x7, .int .i64 x8, .int .i64 x9, .slice (some ⟨tb, tof, none⟩) n1 tc, .slice oa n2 oc] #[.int .i64 x0, .int .i64 x1, .int .i64 x2, .int .i64 x3, .int .i64 x4, .int .i64 x5, .int .i64 x6, .int .i64 x7, .int .i64 x8, .int .i64 x9] → W.cell? ⟨tb, tof + k * 2, none⟩ = some (.int .i64 f.tasks[k].1) ∧ W.cell? ⟨tb, tof + k * 2 + 1, none⟩ = some (.int .i64 f.tasks[k].2) ∧ W.cell? ⟨w.heap.size, 10, none⟩ = some (.slice (some ⟨tb, tof, none⟩) n1 tc)) := fun W hW => by
            obtain ⟨b2, o2, hq, _, r1, r2⟩ := (HTI.out.below hW.bel (Nat.le_refl _)) k hkt
            cases hq
            exact ⟨r1, r2, by rw [Lib.cell_of_heap hW.fb]; rfl⟩
          obtain ⟨p0, hp0⟩ : ∃ x, f.tasks[k].1 = x := ⟨_, rfl⟩
          obtain ⟨p1, hp1⟩ : ∃ x, f.tasks[k].2 = x := ⟨_, rfl⟩
          rw [hp0, hp1] at HCL hstep hbad
          rw [hp0] at hmu hUo kR1
          rw [hp1] at hmv hVo kR2
          have kU : ∀ W, RT w W #[.int .i64 x0, .int .i64 x1, .int .i64 x2, .int .i64 x3, .int .i64 x4, .int .i64 x5, .int .i64 x6, .int .i64 x7, .int .i64 x8, .int .i64 x9, .slice (some ⟨tb, tof, none⟩) n1 tc, .slice oa n2 oc] #[.int .i64 x0, .int .i64 x1, .int .i64 x2, .int .i64 x3, .int .i64 x4, .int .i64 x5, .int .i64 x6, .int .i64 x7, .int .i64 x8, .int .i64 x9] → Calls Tryd.prog 17 #[.int .i64 u] W fun e w' => e = .returned (.string U) ∧ Hid (RT w w' #[.int .i64 x0, .int .i64 x1, .int .i64 x2, .int .i64 x3, .int .i64 x4, .int .i64 x5, .int .i64 x6, .int .i64 x7, .int .i64 x8, .int .i64 x9, .slice (some ⟨tb, tof, none⟩) n1 tc, .slice oa n2 oc] #[.int .i64 x0, .int .i64 x1, .int .i64 x2, .int .i64 x3, .int .i64 x4, .int .i64 x5, .int .i64 x6, .int .i64 x7, .int .i64 x8, .int .i64 x9]) := fun W hW => (hU W).mono (fun e w' hh => ⟨hh.1, hW.below hh.2⟩)
          have kV : ∀ W, RT w W #[.int .i64 x0, .int .i64 x1, .int .i64 x2, .int .i64 x3, .int .i64 x4, .int .i64 x5, .int .i64 x6, .int .i64 x7, .int .i64 x8, .int .i64 x9, .slice (some ⟨tb, tof, none⟩) n1 tc, .slice oa n2 oc] #[.int .i64 x0, .int .i64 x1, .int .i64 x2, .int .i64 x3, .int .i64 x4, .int .i64 x5, .int .i64 x6, .int .i64 x7, .int .i64 x8, .int .i64 x9] → Calls Tryd.prog 17 #[.int .i64 v] W fun e w' => e = .returned (.string V) ∧ Hid (RT w w' #[.int .i64 x0, .int .i64 x1, .int .i64 x2, .int .i64 x3, .int .i64 x4, .int .i64 x5, .int .i64 x6, .int .i64 x7, .int .i64 x8, .int .i64 x9, .slice (some ⟨tb, tof, none⟩) n1 tc, .slice oa n2 oc] #[.int .i64 x0, .int .i64 x1, .int .i64 x2, .int .i64 x3, .int .i64 x4, .int .i64 x5, .int .i64 x6, .int .i64 x7, .int .i64 x8, .int .i64 x9]) := fun W hW => (hV W).mono (fun e w' hh => ⟨hh.1, hW.below hh.2⟩)
          have HST := hide_it hstep
          have HBA := hide_it hbad
          have HUO := hide_it hUo
          have HVO := hide_it hVo
          have hRd : Hid (RT w wr.drew #[.int .i64 x0, .int .i64 x1, .int .i64 x2, .int .i64 x3, .int .i64 x4, .int .i64 x5, .int .i64 x6, .int .i64 x7, .int .i64 x8, .int .i64 x9, .slice (some ⟨tb, tof, none⟩) n1 tc, .slice oa n2 oc] #[.int .i64 x0, .int .i64 x1, .int .i64 x2, .int .i64 x3, .int .i64 x4, .int .i64 x5, .int .i64 x6, .int .i64 x7, .int .i64 x8, .int .i64 x9]) := hR.out.drew
          obtain ⟨q0, q1, q2⟩ := HCL.out wr hR.out
          clear hU hV hstep hbad hUo hVo hp0 hp1 bx by' hkt a0 a1 a2 a3 a4 a5 a6 a7 a8 a9 a10 a11
          have z1 : ¬ 9223372036854775807 < S.size + 5 := by omega
          have z2 : ¬ 9223372036854775807 < S.size + 5 + U.size := by omega
          have z3 : ¬ 9223372036854775807 < S.size + 5 + U.size + 1 := by omega
          have z4 : ¬ 9223372036854775807 < S.size + 5 + U.size + 1 + V.size := by omega
          have z5 : ¬ 9223372036854775807 < S.size + 5 + U.size + 1 + V.size + 1 := by omega
          cases ok with
          | false =>
            have HNO : Hid (textF f = none) := hI.out.2.2 rfl
            have k1 : ∀ W, Calls Tryd.prog 23 #[.int .i64 p0] W fun e w' => ∃ b, e = .returned (.bool b) ∧ w' = W := fun W => (kR1 W).mono (fun e w' hh => ⟨_, hh.1, hh.2⟩)
            have k2 : ∀ W, Calls Tryd.prog 23 #[.int .i64 p1] W fun e w' => ∃ b, e = .returned (.bool b) ∧ w' = W := fun W => (kR2 W).mono (fun e w' hh => ⟨_, hh.1, hh.2⟩)
            clear kR1 kR2
            go_wp2_with (first | (go_at_call_of 23 p0; refine (k1 _).mono ?_; rintro e W ⟨bb1, rfl, hW⟩; rw [hW]; clear hW) | (go_at_call_of 23 p1; refine (k2 _).mono ?_; rintro e W ⟨bb2, rfl, hW⟩; rw [hW]; clear hW))
            go_region_held3 (fun W => W.cell? ⟨tb, tof + k * 2, none⟩ = some (.int .i64 p0) ∧ W.cell? ⟨tb, tof + k * 2 + 1, none⟩ = some (.int .i64 p1) ∧ W.cell? ⟨w.heap.size, 10, none⟩ = some (.slice (some ⟨tb, tof, none⟩) n1 tc)) (first | go_keep | (go_split_ands; exact ⟨q0, q1, q2⟩)) (first
              | (go_at_call_of 17 u; refine (kU _ hRd.out).mono ?_; rintro e w5 ⟨rfl, hR5⟩; clear q0 q1 q2; obtain ⟨q0, q1, q2⟩ := HCL.out w5 hR5.out)
              | (go_at_call_of 17 v; refine (kV _ hR5.out).mono ?_; rintro e w6 ⟨rfl, hR6⟩; clear q0 q1 q2; obtain ⟨q0, q1, q2⟩ := HCL.out w6 hR6.out))
            all_goals go_wp2
            all_goals go_roundw
            all_goals first
              | exact ⟨k + 1, _, false, by go_num, rfl, rfl, by omega, by omega, tas_no HNO.out (by simp [sz32, sz10, szTask]; omega), hR6⟩
              | (simp [intOf]; omega)
          | true =>
            cases hx0 : okN p0 with
            | false =>
              have HNO : Hid (textF f = none) := HBA.out (.inl hx0)
              rw [hx0] at kR1
              have k1 := kR1
              have k2 : ∀ W, Calls Tryd.prog 23 #[.int .i64 p1] W fun e w' => ∃ b, e = .returned (.bool b) ∧ w' = W := fun W => (kR2 W).mono (fun e w' hh => ⟨_, hh.1, hh.2⟩)
              clear kR1 kR2 hx0
              go_wp2_with (first | (go_at_call_of 23 p0; refine (k1 _).mono ?_; rintro e W ⟨rfl, hW⟩; rw [hW]; clear hW) | (go_at_call_of 23 p1; refine (k2 _).mono ?_; rintro e W ⟨bb2, rfl, hW⟩; rw [hW]; clear hW))
              go_region_held3 (fun W => W.cell? ⟨tb, tof + k * 2, none⟩ = some (.int .i64 p0) ∧ W.cell? ⟨tb, tof + k * 2 + 1, none⟩ = some (.int .i64 p1) ∧ W.cell? ⟨w.heap.size, 10, none⟩ = some (.slice (some ⟨tb, tof, none⟩) n1 tc)) (first | go_keep | (go_split_ands; exact ⟨q0, q1, q2⟩)) (first
                | (go_at_call_of 17 u; refine (kU _ hRd.out).mono ?_; rintro e w5 ⟨rfl, hR5⟩; clear q0 q1 q2; obtain ⟨q0, q1, q2⟩ := HCL.out w5 hR5.out)
                | (go_at_call_of 17 v; refine (kV _ hR5.out).mono ?_; rintro e w6 ⟨rfl, hR6⟩; clear q0 q1 q2; obtain ⟨q0, q1, q2⟩ := HCL.out w6 hR6.out))
              all_goals go_wp2
              all_goals go_roundw
              all_goals first
                | exact ⟨k + 1, _, false, by go_num, rfl, rfl, by omega, by omega, tas_no HNO.out (by simp [sz32, sz10, szTask]; omega), hR6⟩
                | (simp [intOf]; omega)
            | true =>
              rw [hx0] at kR1
              have k1 := kR1
              have HX0 := hide_it hx0
              cases hx1 : okN p1 with
              | false =>
                have HNO : Hid (textF f = none) := HBA.out (.inr hx1)
                rw [hx1] at kR2
                have k2 := kR2
                clear kR1 kR2 hx0 hx1
                go_wp2_with (first | (go_at_call_of 23 p0; refine (k1 _).mono ?_; rintro e W ⟨rfl, hW⟩; rw [hW]; clear hW) | (go_at_call_of 23 p1; refine (k2 _).mono ?_; rintro e W ⟨rfl, hW⟩; rw [hW]; clear hW))
                go_region_held3 (fun W => W.cell? ⟨tb, tof + k * 2, none⟩ = some (.int .i64 p0) ∧ W.cell? ⟨tb, tof + k * 2 + 1, none⟩ = some (.int .i64 p1) ∧ W.cell? ⟨w.heap.size, 10, none⟩ = some (.slice (some ⟨tb, tof, none⟩) n1 tc)) (first | go_keep | (go_split_ands; exact ⟨q0, q1, q2⟩)) (first
                  | (go_at_call_of 17 u; refine (kU _ hRd.out).mono ?_; rintro e w5 ⟨rfl, hR5⟩; clear q0 q1 q2; obtain ⟨q0, q1, q2⟩ := HCL.out w5 hR5.out)
                  | (go_at_call_of 17 v; refine (kV _ hR5.out).mono ?_; rintro e w6 ⟨rfl, hR6⟩; clear q0 q1 q2; obtain ⟨q0, q1, q2⟩ := HCL.out w6 hR6.out))
                all_goals go_wp2
                all_goals go_roundw
                all_goals first
                  | exact ⟨k + 1, _, false, by go_num, rfl, rfl, by omega, by omega, tas_no HNO.out (by simp [sz32, sz10, szTask]; omega), hR6⟩
                  | (simp [intOf]; omega)
              | true =>
                rw [hx1] at kR2
                have k2 := kR2
                have HX1 := hide_it hx1
                clear kR1 kR2 hx0 hx1
                go_wp2_with (first | (go_at_call_of 23 p0; refine (k1 _).mono ?_; rintro e W ⟨rfl, hW⟩; rw [hW]; clear hW) | (go_at_call_of 23 p1; refine (k2 _).mono ?_; rintro e W ⟨rfl, hW⟩; rw [hW]; clear hW))
                go_region_held3 (fun W => W.cell? ⟨tb, tof + k * 2, none⟩ = some (.int .i64 p0) ∧ W.cell? ⟨tb, tof + k * 2 + 1, none⟩ = some (.int .i64 p1) ∧ W.cell? ⟨w.heap.size, 10, none⟩ = some (.slice (some ⟨tb, tof, none⟩) n1 tc)) (first | go_keep | (go_split_ands; exact ⟨q0, q1, q2⟩)) (first
                  | (go_at_call_of 17 u; refine (kU _ hRd.out).mono ?_; rintro e w5 ⟨rfl, hR5⟩; clear q0 q1 q2; obtain ⟨q0, q1, q2⟩ := HCL.out w5 hR5.out)
                  | (go_at_call_of 17 v; refine (kV _ hR5.out).mono ?_; rintro e w6 ⟨rfl, hR6⟩; clear q0 q1 q2; obtain ⟨q0, q1, q2⟩ := HCL.out w6 hR6.out))
                all_goals go_wp2
                all_goals go_roundw
                all_goals first
                  | exact ⟨k + 1, _, true, by go_num, rfl, rfl, by omega, by omega, HST.out _ _ hI.out HX0.out HX1.out (by simp [sz32, sz10, szTask]; omega) (by simp [HUO.out HX0.out, HVO.out HX1.out, wTask]), hR6⟩
                  | (simp [intOf]; omega)
        · have HO0 : Hid (OpsInv f 0 S ok) := by
            by_cases hke : k = n1
            · exact tas_end (by rw [HN1.out]; exact hke) (by rw [HN1.out]; omega) hI.out
            · have h65 : 64 < f.tasks.length := by rw [HN1.out]; omega
              have hof := tas_fits hI.out h65
              subst hof
              exact tas_stop h65 (by omega) hI.out
          have hk6 : (k : Int) < (n1 : Int) → ¬ ((k : Int) < 65) := fun h => by omega
          clear hI hlt
          by_cases hkn : (k : Int) < (n1 : Int)
          · exfalso; omega
          · have hknD : decide ((k : Int) < (n1 : Int)) = false := by simpa using hkn
            clear hk6
            go_wp2
            clear a0 a1 a2 a3 a4 a5 a6 a7 a8 a9 a10 a11
            obtain ⟨wo2, rfl⟩ : ∃ W : World, W = wr := ⟨_, rfl⟩
            go_loopw [6, 7, 13] (fun okv sv iv wr => ∃ (k : Nat) (S : ByteArray) (ok : Bool), iv = .int .i64 k ∧ sv = .string S ∧ okv = .bool ok ∧ k ≤ n2 ∧ Hid (OpsInv f k S ok) ∧ Hid (RT w wr #[.int .i64 x0, .int .i64 x1, .int .i64 x2, .int .i64 x3, .int .i64 x4, .int .i64 x5, .int .i64 x6, .int .i64 x7, .int .i64 x8, .int .i64 x9, .slice ta n1 tc, .slice oa n2 oc] #[.int .i64 x0, .int .i64 x1, .int .i64 x2, .int .i64 x3, .int .i64 x4, .int .i64 x5, .int .i64 x6, .int .i64 x7, .int .i64 x8, .int .i64 x9])) (fun _ _ iv _ => n2 - (intOf iv).toNat)
            case atStart => exact ⟨0, _, ok, rfl, rfl, rfl, by omega, HO0, hR⟩
            case round =>
              clear HO0 hR hk hk65
              obtain ⟨k, S, ok, rfl, rfl, rfl, hk, hI, hR⟩ := hrel
              have hSz := hI.out.1
              obtain ⟨a0, a1, a2, a3, a4, a5, a6, a7, a8, a9, a10, a11, _⟩ := cells12 hR.out.fb
              by_cases hlt : k < n2
              · have hkI : (k : Int) < (n2 : Int) := by omega
                have hkI0 : (0 : Int) ≤ (k : Int) := by omega
                have hkI6 : (k : Int) < 4097 := by omega
                have hko : k < f.ops.length := by rw [HN2.out]; exact hlt
                obtain ⟨ob, oof, hoa, -, c0, c1, c2, c3, c4⟩ := (HOI.out.below hR.out.bel (Nat.le_refl _)) k hko
                subst hoa
                have hstep : ∀ (S' T : ByteArray) (ok b : Bool), OpsInv f k S ok → LineIs f.ops[k] T.data.toList b → S'.size ≤ 20000 + 300 * (k + 1) → S'.data.toList = S.data.toList ++ T.data.toList → OpsInv f (k + 1) S' (ok && b) := fun S' T ok b h1 h2 h3 h4 => ops_step hcl.out hko h1 h2 h3 h4
                have kL0 := line_any f.ops[k]
                generalize f.ops[k] = oo at *
                have kL : ∀ W, RT w W #[.int .i64 x0, .int .i64 x1, .int .i64 x2, .int .i64 x3, .int .i64 x4, .int .i64 x5, .int .i64 x6, .int .i64 x7, .int .i64 x8, .int .i64 x9, .slice ta n1 tc, .slice (some ⟨ob, oof, none⟩) n2 oc] #[.int .i64 x0, .int .i64 x1, .int .i64 x2, .int .i64 x3, .int .i64 x4, .int .i64 x5, .int .i64 x6, .int .i64 x7, .int .i64 x8, .int .i64 x9] → Calls Tryd.prog 25 #[.agg #[.int .i64 oo.kind, .int .i64 oo.a, .int .i64 oo.b, .int .i64 oo.c, .int .i64 oo.d]] W fun e w' => ∃ T b, e = .returned (.tuple #[.string T, .bool b]) ∧ Hid (LineIs oo T.data.toList b) ∧ Hid (RT w w' #[.int .i64 x0, .int .i64 x1, .int .i64 x2, .int .i64 x3, .int .i64 x4, .int .i64 x5, .int .i64 x6, .int .i64 x7, .int .i64 x8, .int .i64 x9, .slice ta n1 tc, .slice (some ⟨ob, oof, none⟩) n2 oc] #[.int .i64 x0, .int .i64 x1, .int .i64 x2, .int .i64 x3, .int .i64 x4, .int .i64 x5, .int .i64 x6, .int .i64 x7, .int .i64 x8, .int .i64 x9]) ∧ T.size ≤ 200 ∧ ¬ 9223372036854775807 < S.size + T.size := fun W hW => (kL0 W).mono (fun e w' hh => by
                  obtain ⟨T, b, h1, h2, h3⟩ := hh
                  have hT := h2.1
                  have hT2 : T.size ≤ 200 := by rw [ba_size rfl]; exact hT
                  exact ⟨T, b, h1, h2, hW.below h3, hT2, by omega⟩)
                have HST := hide_it hstep
                clear kL0 hstep hko
                cases ok with
                | false =>
                  go_wp2_with (go_at_call 25; refine (kL _ hR.out).mono ?_; rintro e w5 ⟨T, bb, rfl, hL5, hR5, hT5, z5⟩)
                  go_roundw
                  case rel => exact ⟨k + 1, _, false, by go_num, rfl, rfl, by omega, HST.out _ T false bb hI.out hL5.out (by simp; omega) (by simp), hR5⟩
                  case measure => simp [intOf]; omega
                | true =>
                  go_wp2_with (go_at_call 25; refine (kL _ hR.out).mono ?_; rintro e w5 ⟨T, bb, rfl, hL5, hR5, hT5, z5⟩)
                  go_roundw
                  case rel => exact ⟨k + 1, _, bb, by go_num, rfl, rfl, by omega, HST.out _ T true bb hI.out hL5.out (by simp; omega) (by simp), hR5⟩
                  case measure => simp [intOf]; omega
              · have hkI : ¬ ((k : Int) < (n2 : Int)) := by omega
                have hend := ops_end hcl.out (by rw [HN2.out]; omega) hI.out
                cases ok with
                | false =>
                  rw [if_neg (by decide)] at hend
                  have HE : Hid (RS = [] ∧ RE = 1) := by
                    rcases HRR.out with ⟨h, _⟩ | ⟨_, h⟩
                    · rw [hend] at h; cases h
                    · exact h
                  clear hend
                  go_wp2
                  go_ret2
                  obtain ⟨e1, e2⟩ := HE.out
                  rw [e1, e2]
                  exact ⟨rfl, hR.out.bel⟩
                | true =>
                  rw [if_pos rfl] at hend
                  have HE : Hid (RS = S.data.toList ∧ RE = 0) := by
                    rcases HRR.out with ⟨h, h2⟩ | ⟨h, _⟩
                    · rw [hend] at h; exact ⟨(Option.some.inj h).symm, h2⟩
                    · rw [hend] at h; cases h
                  clear hend
                  go_wp2
                  go_ret2
                  obtain ⟨e1, e2⟩ := HE.out
                  rw [e1, e2]
                  refine ⟨?_, hR.out.bel⟩
                  show Ending.returned (.tuple #[.string S, .int .i64 0]) = .returned (.tuple #[.string ⟨S.data.toList.toArray⟩, .int .i64 0])
                  rw [← ba_list S]


end Go.Proofs.YtgjfhfjmdkhllaaDoor
