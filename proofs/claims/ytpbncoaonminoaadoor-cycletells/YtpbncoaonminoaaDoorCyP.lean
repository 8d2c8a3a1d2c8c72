/- Path: the path with the fewest tasks. -/
import Derived.Test.YtpbncoaonminoaaDoorCyQ
namespace Go.Proofs.YtpbncoaonminoaaDoor
open Go.RowKit
open M
set_option linter.unusedVariables false
set_option linter.unusedSimpArgs false

def pathG (es : List E) (n : Nat) (a b : Int) : List Nat := if (offB n a || offB n b) = true then [] else pathN es n a.toNat b.toNat

set_option maxRecDepth 1000000 in
set_option maxHeartbeats 2000000 in
theorem path_off {w : World} {g eb n : Nat} {v : Value} {es : List E} (h : GM w g eb n v es) (a b : Int) (ho : (offB n a || offB n b) = true) :
    Calls Tryd.prog 16 #[ptr g, .int .i64 a, .int .i64 b] w fun e w' => e = .returned (.slice none 0 0) ∧ w' = w := by
  have ka := isTask_any g eb n a w h.hn h.c1
  have kb := isTask_any g eb n b w h.hn h.c1
  clear h
  cases ha : offB n a with
  | true =>
    rw [ha] at ka
    clear ha ho kb
    go_enter Tryd.func16, Tryd.ntmps16
    go_wp2_with (go_at_call 32; refine ka.mono ?_; rintro e w' ⟨rfl, rfl⟩)
    go_ret
    exact ⟨rfl, rfl⟩
  | false =>
    have hb : offB n b = true := by rw [ha] at ho; simpa using ho
    rw [ha] at ka
    rw [hb] at kb
    clear ha ho hb
    go_enter Tryd.func16, Tryd.ntmps16
    go_wp2_with (go_at_call 32; refine ka.mono ?_; rintro e w' ⟨rfl, rfl⟩; refine Hid.out ?_)
    refine hide_it ?_
    go_wp2_with (go_at_call 32; refine kb.mono ?_; rintro e w' ⟨rfl, rfl⟩)
    go_ret
    exact ⟨rfl, rfl⟩

theorem pq_start (w : World) (n a : Nat) : PQ w (((w.alloc (.cells ((vRow (fun _ => .slice none 0 0) n).setIfInBounds a (.slice (some ⟨w.heap.size + 1, 0, none⟩) 1 1)) 33)).alloc (.cells #[.int .i64 a] 3)).alloc (.cells #[.int .i64 a] 3)) w.heap.size n (updV (fun _ => .slice none 0 0) a (.slice (some ⟨w.heap.size + 1, 0, none⟩) 1 1)) (updP (fun _ => []) a [a]) (w.heap.size + 1 + 1) 0 1 [a] [] := by
  generalize hVR : (vRow (fun _ => Value.slice none 0 0) n).setIfInBounds a (.slice (some ⟨w.heap.size + 1, 0, none⟩) 1 1) = VR
  have h1 : (w.alloc (.cells VR 33)).heap.size = w.heap.size + 1 := by simp
  have h2 : ((w.alloc (.cells VR 33)).alloc (.cells #[.int .i64 a] 3)).heap.size = w.heap.size + 1 + 1 := by simp
  have hown : OwnI (((w.alloc (.cells VR 33)).alloc (.cells #[.int .i64 a] 3)).alloc (.cells #[.int .i64 a] 3)) (w.heap.size + 1) (.slice (some ⟨w.heap.size + 1, 0, none⟩) 1 1) [a] := by
    refine ⟨rfl, .inr ⟨w.heap.size + 1, 1, #[.int .i64 a], rfl, Nat.le_refl _, ?_, Nat.le_refl _, by unfold maxLen; omega, rfl, rfl⟩⟩
    rw [Below.heap_alloc _ _ _ (by rw [h2]; omega)]
    exact heap_alloc_at h1 _
  refine ⟨((((Below.refl w.heap.size w).alloc (Nat.le_refl _) _).alloc (by simp) _).alloc (by rw [h2]; omega) _), Nat.le_refl _, ?_, fun i hi => ?_, fun i hi => ?_, ⟨⟨#[.int .i64 a], heap_alloc_at h2 _, by simp, fun i hi => ?_⟩, by simp, by unfold maxLen; omega⟩, by omega, fun i hi => ?_, fun p hp => by simp at hp⟩
  · rw [Below.heap_alloc _ _ _ (by rw [h2]; omega), Below.heap_alloc _ _ _ (by rw [h1]; omega), heap_alloc_new, ← hVR, vRow_set]
    rfl
  · unfold updV updP
    by_cases e : i = a
    · rw [if_pos e, if_pos e]; exact hown
    · rw [if_neg e, if_neg e]; exact owns_nil _ _
  · unfold updV updP
    by_cases e : i = a
    · rw [if_pos e, if_pos e]; intro q; simp at q
    · rw [if_neg e, if_neg e]; intro _; rfl
  · have : i = 0 := by simpa using hi
    subst this
    rfl
  · unfold updV
    by_cases e : i = a
    · rw [if_pos e]; simp [Value.ownBlock]
    · rw [if_neg e]; simp [Value.ownBlock]

section
variable {w W : World} {pb n : Nat} {pv : Nat → Value} {P : PM} {mb off cap : Nat} {met : List Nat} {X : List (Value × List Nat)}
theorem PQ.olds (h : PQ w W pb n pv P mb off cap met X) (o : Obj) : ∀ j u, (met.map fun x => Value.int .i64 (x : Nat))[j]? = some u → (W.alloc o).cell? ⟨mb, off + j, none⟩ = some u := by
  intro j u hu
  rw [List.getElem?_map] at hu
  rcases Nat.lt_or_ge j met.length with hj | hj
  · rw [List.getElem?_eq_getElem hj] at hu
    simp at hu
    rw [← hu]
    exact (h.below ((Below.refl W.heap.size W).alloc (Nat.le_refl _) o)).win.cell j hj
  · rw [List.getElem?_eq_none hj] at hu
    simp at hu
theorem PQ.spare (h : PQ w W pb n pv P mb off cap met X) (o : Obj) (x : Value) (k : Nat) (hk : met.length = k) : k + 1 ≤ cap → ∀ j, j < [x].length → ((W.alloc o).cell? ⟨mb, off + k * 1 + j, none⟩).isSome = true ∧ (W.alloc o).frozen? ⟨mb, off + k * 1 + j, none⟩ = false := by
  intro hc j hj
  have hw := (h.below ((Below.refl W.heap.size W).alloc (Nat.le_refl _) o)).win
  have : j = 0 := by simpa using hj
  subst this
  rw [Nat.mul_one, Nat.add_zero]
  exact ⟨hw.some k (by omega), hw.fro _⟩
end

set_option maxRecDepth 1000000 in
set_option maxHeartbeats 8000000 in
theorem path_in {w : World} {g eb n : Nat} {v : Value} {es : List E} (h : GM w g eb n v es) (hle : es.length ≤ 1000000) (a b : Nat) (ha : a < n) (hb : b < n) :
    Calls Tryd.prog 16 #[ptr g, .int .i64 a, .int .i64 b] w fun e w' => ∃ u, e = .returned u ∧ OwnI w' w.heap.size u (pathN es n a b) ∧ Below w.heap.size w w' := by
  have hn := h.hn
  have HG := hide_it h
  have hg := h.good
  obtain ⟨i0, hi, hz0, hz1, hz2⟩ := info_parts info3
  have ka := isTask_any g eb n a w hn h.c1
  have kb := isTask_any g eb n b w hn h.c1
  rw [show offB n (a : Int) = false by simp [offB]; omega] at ka
  rw [show offB n (b : Int) = false by simp [offB]; omega] at kb
  have kn := n_any g eb n w hn h.c1
  have hk : ∀ W : World, (Instr.makeSlice 59 (.int .i64 n) (.int .i64 n)).run Tryd.prog W = .ok (.slice (some ⟨W.heap.size, 0, none⟩) n n) (W.alloc (.cells (madeCells #[.slice none 0 0] n) 33)) := fun W =>
    run_make_row' 59 33 (.slice none 0 0) 24 Tryd.underlying59 info33 rfl .i64 .i64 n (by omega) (by omega) W
  simp only [vRow_new] at hk
  have qS : ∀ (W : World) (ao : Option Addr) (l c : Nat), (binOp .eql 33 (.slice ao l c) (.slice none 0 0)).run Tryd.prog W = .ok (.bool ao.isNone) W := fun W ao l c => Lib.run_eql_slice_nil W 33 3 ao l c 0 0 Tryd.underlying33
  have HS := hide_it (pq_start w n a)
  have HB0 := hide_it (BI.start (t := b) hg ha)
  have HF := hide_it hg
  have HU : Hid (unv n (updP (fun _ => []) a [a]) + 1 ≤ n) := by have := (BI.start (t := b) hg ha).len a; simp [updP] at this; unfold Hid; simp [updP]; omega
  have c0 : ((w.alloc (.cells (vRow (fun _ => .slice none 0 0) n) 33)).alloc (.cells #[.int .i64 a] 3)).cell? ⟨w.heap.size, a, none⟩ = some (.slice none 0 0) := by
    have q : ((w.alloc (.cells (vRow (fun _ => .slice none 0 0) n) 33)).alloc (.cells #[.int .i64 a] 3)).heap[w.heap.size]? = some (.cells (vRow (fun _ => .slice none 0 0) n) 33) := by
      rw [Below.heap_alloc _ _ _ (by simp)]
      exact heap_alloc_new _ _
    rw [cell_of_row _ w.heap.size a _ _ _ q]
    exact vRow_at _ n a ha
  have f0 : ((w.alloc (.cells (vRow (fun _ => .slice none 0 0) n) 33)).alloc (.cells #[.int .i64 a] 3)).frozen? ⟨w.heap.size, a, none⟩ = false := by
    have q : ((w.alloc (.cells (vRow (fun _ => .slice none 0 0) n) 33)).alloc (.cells #[.int .i64 a] 3)).heap[w.heap.size]? = some (.cells (vRow (fun _ => .slice none 0 0) n) 33) := by
      rw [Below.heap_alloc _ _ _ (by simp)]
      exact heap_alloc_new _ _
    simp [World.frozen?, q]
  clear h hg
  generalize vRow (fun _ => Value.slice none 0 0) n = VR at *
  go_enter Tryd.func16, Tryd.ntmps16
  go_wp2_with (go_at_call 32; refine ka.mono ?_; rintro e w' ⟨rfl, rfl⟩; refine Hid.out ?_)
  refine hide_it ?_
  go_wp2_with (first | (go_at_call 32; refine kb.mono ?_; rintro e w' ⟨rfl, rfl⟩) | (go_at_call 23; refine kn.mono ?_; rintro e w' ⟨rfl, rfl⟩))
  go_loopg [8] (unv n (updP (fun _ => []) a [a]) + 1) (fun k mv W => ∃ pv P mb off cap met, mv = .slice (some ⟨mb, off, none⟩) met.length cap ∧ Hid (PQ w' W w'.heap.size n pv P mb off cap met []) ∧ Hid (BI es n a b P met) ∧ Hid (k = unv n P + met.length ∧ k ≤ n))
  case atStart => exact ⟨_, _, _, 0, 1, [a], rfl, HS, HB0, rfl, HU.out⟩
  case round =>
    obtain ⟨pv, P, mb, off, cap, met, rfl, HQ, HB, HK⟩ := hrel
    clear HS HB0 c0 f0 hk kn ka kb
    cases met with
    | nil =>
      have hcb := HQ.out.cell b hb
      have HOB := hide_it (HQ.out.own b hb)
      have HP := hide_it (HB.out.fin HF.out ha)
      simp only [List.length_nil]
      generalize pv b = u at *
      go_wp2
      go_ret
      refine ⟨_, rfl, ?_, HQ.out.bel⟩
      rw [← HP.out]
      exact owns_base HOB.out (fun k hk => by have := (HOB.out.lt k hk).1; omega)
    | cons m q =>
      have hm : P m ≠ [] := HB.out.mem m (by simp)
      have hmn : m < n := (HB.out.val m hm).2
      have HM := hide_it hm
      have cm := HQ.out.win.cell 0 (by simp)
      simp only [Nat.add_zero, List.getElem_cons_zero] at cm
      have ko := out_any (HG.out.below HQ.out.bel) (m : Int) hle
      have hol := outs_len es (m : Int)
      have HLN : Hid (∀ x ∈ outs es (m : Int), x < n) := fun x hx => (HF.out _ (mem_outs.1 hx)).2
      have HR := hide_it (HB.out.round HF.out)
      have HLS := hide_it (len_scan (n := n) (P m))
      have HBL := hide_it (HB.out.len)
      have hwl := HQ.out.win.le
      have hwc := HQ.out.win.cm
      unfold maxLen at hwc
      simp only [List.length_cons] at hwl ⊢
      have hpm : (P m).length ≤ n := by have := HB.out.len m; omega
      clear hm
      obtain ⟨L, hL⟩ : ∃ L, outs es (m : Int) = L := ⟨_, rfl⟩
      rw [hL] at ko hol HLN HR
      clear hL
      go_wp2_with (go_at_call 24; refine ko.mono ?_; rintro e w5 ⟨u5, rfl, ho5, hb5⟩; have H5 := hide_it ((HQ.out.below hb5).cons (W0 := wr) ho5 HQ.out.win.lt HQ.out.lt); obtain ⟨ao5, cap5, rfl, _⟩ := own_iat ho5; clear ho5)
      go_loopw [8, 42] (fun mv i W => ∃ j : Nat, j ≤ L.length ∧ i = .int .i64 j ∧ ∃ pv mb off cap r, mv = .slice (some ⟨mb, off, none⟩) (r.length + 1) cap ∧ Hid (PQ w' W w'.heap.size n pv (scanP (P m) (L.take j) (P, m :: q)).1 mb off cap (m :: r) [(.slice ao5 L.length cap5, L)]) ∧ Hid ((scanP (P m) (L.take j) (P, m :: q)).2 = m :: r)) (fun _ i _ => L.length - (intOf i).toNat)
      case atStart => exact ⟨0, Nat.zero_le _, rfl, _, _, _, _, _, rfl, H5, rfl⟩
      case round =>
        obtain ⟨j, hj, rfl, pv2, mb2, off2, cap2, r, rfl, HQ2, HQE⟩ := hrel
        clear H5 cm ko hwl hwc
        have hwl := HQ2.out.win.le
        have hwc := HQ2.out.win.cm
        unfold maxLen at hwc
        simp only [List.length_cons] at hwl
        have cm := HQ2.out.win.cell 0 (by simp)
        simp only [Nat.add_zero, List.getElem_cons_zero] at cm
        by_cases hjl : j < L.length
        · obtain ⟨r5, rfl, hr5, c5⟩ := (own_at (HQ2.out.ext (.slice ao5 L.length cap5, L) (by simp)).1).2 j hjl
          have hx : L[j] < n := HLN.out _ (List.getElem_mem hjl)
          have HSC := hide_it (scanP_take (P m) L (P, m :: q) j hjl)
          have HOLD := hide_it (scanP_old (P m) (L.take j) (P, m :: q) m HM.out)
          have cx := HQ2.out.cell L[j] hx
          have hrl : r.length ≤ n := by
            have k3 := (HLS.out (L.take j) (fun x hx => HLN.out x (List.mem_of_mem_take hx)) (P, m :: q) (HBL.out m) HBL.out).2.2
            rw [HQE.out] at k3
            have := HK.out
            simp at k3 this
            omega
          generalize L[j] = x at *
          by_cases hnil : (scanP (P m) (L.take j) (P, m :: q)).1 x = []
          · have hpx := HQ2.out.nil x hx hnil
            rw [hpx] at cx
            have HE : Hid (scanP (P m) (L.take (j + 1)) (P, m :: q) = (updP (scanP (P m) (L.take j) (P, m :: q)).1 x (P m ++ [x]), (scanP (P m) (L.take j) (P, m :: q)).2 ++ [x])) := by
              unfold Hid
              rw [HSC.out]
              unfold stepP
              rw [if_pos hnil]
            obtain ⟨rm, cmm, hpm2, hcl⟩ := HQ2.out.full m hmn (by rw [HOLD.out]; exact HM.out)
            have cpm := HQ2.out.cell m hmn
            rw [hpm2] at cpm
            simp only [HOLD.out] at cpm hcl
            have hlt := HQ2.out.lt
            have lrm : rm < wr.heap.size := World.block_lt_of_cell? wr _ (hcl 0 (List.length_pos_iff.2 HM.out))
            obtain ⟨la, hla⟩ : ∃ la, (P m).length = la := ⟨_, rfl⟩
            have hla0 : 0 < la := by rw [← hla]; exact List.length_pos_iff.2 HM.out
            rw [hla] at cpm hpm
            have kc : Calls Tryd.prog 33 #[.slice (some ⟨wr.heap.size + 1, 0, none⟩) 2 2] ((wr.alloc (.cells #[.int .i64 x] 3)).alloc (.cells #[.slice (some ⟨rm, 0, none⟩) la cmm, .slice (some ⟨wr.heap.size, 0, none⟩) 1 1] 33)) fun e w6 => ∃ ua ul uc, e = .returned (.slice ua ul uc) ∧ Hid (PQ w' (w6.setCell ⟨w'.heap.size, x, none⟩ (.slice ua ul uc)) w'.heap.size n (updV pv2 x (.slice ua ul uc)) (updP (scanP (P m) (L.take j) (P, m :: q)).1 x (P m ++ [x])) mb2 off2 cap2 (m :: r) [(.slice (some ⟨r5, 0, none⟩) L.length cap5, L)]) ∧ w6.cell? ⟨w'.heap.size, x, none⟩ = some (.slice none 0 0) ∧ w6.frozen? ⟨w'.heap.size, x, none⟩ = false := by
              have b1 : Below wr.heap.size wr (wr.alloc (.cells #[.int .i64 x] 3)) := (Below.refl _ _).alloc (Nat.le_refl _) _
              have b2 : Below wr.heap.size wr ((wr.alloc (.cells #[.int .i64 x] 3)).alloc (.cells #[.slice (some ⟨rm, 0, none⟩) la cmm, .slice (some ⟨wr.heap.size, 0, none⟩) 1 1] 33)) := b1.alloc (by simp) _
              have s1 : (wr.alloc (.cells #[.int .i64 x] 3)).heap.size = wr.heap.size + 1 := by simp
              have hblk := heap_alloc_at (w := wr.alloc (.cells #[.int .i64 x] 3)) s1 (.cells #[.slice (some ⟨rm, 0, none⟩) la cmm, .slice (some ⟨wr.heap.size, 0, none⟩) 1 1] 33)
              have hbx : ((wr.alloc (.cells #[.int .i64 x] 3)).alloc (.cells #[.slice (some ⟨rm, 0, none⟩) la cmm, .slice (some ⟨wr.heap.size, 0, none⟩) 1 1] 33)).heap[wr.heap.size]? = some (.cells #[.int .i64 x] 3) := by
                rw [Below.heap_alloc _ _ _ (by rw [s1]; omega)]
                exact heap_alloc_new _ _
              refine (concat_any (wr.heap.size + 1) rm la cmm wr.heap.size (P m) x _ hla hla0 (by omega) (by rw [cell_of_row _ _ 0 _ _ _ hblk]; rfl) (by rw [cell_of_row _ _ 1 _ _ _ hblk]; rfl) (fun i hi => by rw [b2.cell (p := ⟨rm, i, none⟩) lrm]; exact hcl i hi) (by rw [cell_of_row _ _ 0 _ _ _ hbx]; rfl)).mono ?_
              rintro e w6 ⟨u, rfl, ho, hb6⟩
              have b6 : Below wr.heap.size wr w6 := b2.trans (hb6.mono b2.size)
              have q6 := (HQ2.out.below b6).cell x hx
              rw [hpx] at q6
              have hput := HQ2.out.put b6 (owns_base ho (fun k hk => by have := (ho.lt k hk).1; have := b2.size; omega)) (by simp) x
              obtain ⟨ua, uc, rfl, _⟩ := own_iat ho
              exact ⟨ua, _, uc, rfl, hput, q6, (HQ2.out.below b6).fro x⟩
            clear hcl hpm2 hpx hnil
            by_cases hroom : r.length + 1 + 1 ≤ cap2
            · go_wp2_with (first | (go_at_call 33; refine kc.mono ?_; rintro e w6 ⟨ua6, ul6, uc6, rfl, H6, c6, f6⟩) | (at_builtin; (refine wpList_append_arg _ rfl (.tmp 64) (.tmp 66) 33 rfl 3 i0 _ 1 8 Tryd.underlying33 hi hz0 hz1 hz2 rfl (by decide) mb2 off2 (r.length + 1) cap2 ((m :: r).map fun x => Value.int .i64 (x : Nat)) rfl (by simp) (H6.out.olds _) ⟨_, 0, none⟩ 1 1 [.int .i64 x] rfl rfl (World.news_of_block (heap_alloc_at (by simp) _)) (by simp [Value.oneCell']) (H6.out.spare _ _ _ rfl) (by unfold maxLen; omega) (by omega) (fun _ => ?_) (fun hc => absurd hc (by omega)))))
              go_roundw
              case rel =>
                refine ⟨j + 1, by omega, by go_num, updV pv2 x (.slice ua6 ul6 uc6), mb2, off2, cap2, r ++ [x], by simp, ?_, ?_⟩
                · unfold Hid
                  rw [HE.out]
                  have hpr := H6.out.room (.cells #[.int .i64 x] 3) x (by simp; omega)
                  simp only [List.length_cons, Nat.mul_one] at hpr ⊢
                  exact hpr
                · unfold Hid
                  rw [HE.out, HQE.out]
                  simp
              case measure => simp [intOf]; omega
            · go_wp2_with (first | (go_at_call 33; refine kc.mono ?_; rintro e w6 ⟨ua6, ul6, uc6, rfl, H6, c6, f6⟩) | (at_builtin; (refine wpList_append_grows _ rfl (.tmp 64) (.tmp 66) 33 rfl 3 i0 _ 1 8 Tryd.underlying33 hi hz0 hz1 hz2 rfl (by decide) (some ⟨mb2, off2, none⟩) (r.length + 1) cap2 ((m :: r).map fun x => Value.int .i64 (x : Nat)) rfl (by simp) (by simp) (fun b hb j u hj => by injection hb with hb; subst hb; rw [Addr.add_lit]; exact H6.out.olds _ j u hj) ⟨_, 0, none⟩ 1 1 [.int .i64 x] rfl rfl (World.news_of_block (heap_alloc_at (by simp) _)) (by simp [Value.oneCell']) (by omega) (by unfold maxLen; omega) (by omega) ?_; intro v8 w8 hown8 hg8; obtain ⟨mb8, cap8, rfl, H8⟩ := H6.out.grow _ x hown8 hg8; have H8 := hide_it H8; clear hown8 hg8)))
              go_roundw
              case rel =>
                refine ⟨j + 1, by omega, by go_num, updV pv2 x (.slice ua6 ul6 uc6), mb8, 0, cap8, r ++ [x], by simp, ?_, ?_⟩
                · unfold Hid
                  rw [HE.out]
                  exact H8.out
                · unfold Hid
                  rw [HE.out, HQE.out]
                  simp
              case measure => simp [intOf]; omega
          · obtain ⟨rx, cxx, hpx, hdum⟩ := HQ2.out.full x hx hnil
            clear hdum
            rw [hpx] at cx
            have HE : Hid (scanP (P m) (L.take (j + 1)) (P, m :: q) = scanP (P m) (L.take j) (P, m :: q)) := by
              unfold Hid
              rw [HSC.out]
              unfold stepP
              rw [if_neg hnil]
            clear hpx hnil
            generalize ((scanP (P m) (L.take j) (P, m :: q)).1 x).length = lx at *
            go_wp2
            go_roundw
            case rel =>
              refine ⟨j + 1, by omega, by go_num, pv2, mb2, off2, cap2, r, rfl, ?_, ?_⟩
              · unfold Hid
                rw [HE.out]
                exact HQ2.out
              · unfold Hid
                rw [HE.out]
                exact HQE.out
            case measure => simp [intOf]; omega
        · have HEL : Hid (L.take j = L) := List.take_of_length_le (by omega)
          have HW := hide_it HQ2.out.win
          by_cases hc1 : cap2 = 1
          · subst hc1
            go_wp2
            go_roundg (unv n (scanP (P m) L (P, m :: q)).1 + r.length)
            case measure =>
              have q1 := HR.out.2
              have q2 := HQE.out
              have q3 := HK.out
              rw [HEL.out] at q2
              rw [q2] at q1
              simp at q1 q3
              omega
            case rel =>
              have q1 := HR.out.1
              have q2 := HQE.out
              rw [HEL.out] at q2
              rw [q2] at q1
              have q4 := HR.out.2
              rw [q2] at q4
              have q5 := HQ2.out
              rw [HEL.out] at q5
              refine ⟨pv2, _, mb2, off2, 0, r, by simp [HW.out.tail1.2], (q5.win1 HW.out.tail1.1).fewer (by simp), q1, rfl, ?_⟩
              have q3 := HK.out
              simp at q3 q4
              omega
          · go_wp2
            go_roundg (unv n (scanP (P m) L (P, m :: q)).1 + r.length)
            case measure =>
              have q1 := HR.out.2
              have q2 := HQE.out
              have q3 := HK.out
              rw [HEL.out] at q2
              rw [q2] at q1
              simp at q1 q3
              omega
            case rel =>
              have q1 := HR.out.1
              have q2 := HQE.out
              rw [HEL.out] at q2
              rw [q2] at q1
              have q4 := HR.out.2
              rw [q2] at q4
              have q5 := HQ2.out
              rw [HEL.out] at q5
              refine ⟨pv2, _, mb2, off2 + 1, cap2 - 1, r, by simp, (q5.win1 HW.out.tail).fewer (by simp), q1, rfl, ?_⟩
              have q3 := HK.out
              simp at q3 q4
              omega
theorem path_any {w : World} {g eb n : Nat} {v : Value} {es : List E} (h : GM w g eb n v es) (hle : es.length ≤ 1000000) (a b : Int) :
    Calls Tryd.prog 16 #[ptr g, .int .i64 a, .int .i64 b] w fun e w' => ∃ u, e = .returned u ∧ OwnI w' w.heap.size u (pathG es n a b) ∧ Below w.heap.size w w' := by
  unfold pathG
  cases ho : (offB n a || offB n b) with
  | true =>
    refine (path_off h a b ho).mono ?_
    rintro e w' ⟨rfl, rfl⟩
    exact ⟨_, rfl, owns_nil _ _, Below.refl _ _⟩
  | false =>
    simp [offB] at ho
    obtain ⟨x, rfl⟩ : ∃ x : Nat, a = x := ⟨a.toNat, by omega⟩
    obtain ⟨y, rfl⟩ : ∃ y : Nat, b = y := ⟨b.toNat, by omega⟩
    exact path_in h hle x y (by omega) (by omega)
set_option maxRecDepth 1000000 in
set_option maxHeartbeats 2000000 in
theorem closes_any {w : World} {g eb n : Nat} {v : Value} {es : List E} (h : GM w g eb n v es) (hle : es.length ≤ 1000000) (a b : Int) :
    Calls Tryd.prog 18 #[ptr g, .int .i64 a, .int .i64 b] w fun e w' => ∃ u, e = .returned u ∧ OwnI w' w.heap.size u (pathG es n b a) ∧ Below w.heap.size w w' := by
  have k := path_any h hle b a
  generalize pathG es n b a = L at *
  clear h
  go_enter Tryd.func18, Tryd.ntmps18
  go_wp2_with (go_at_call 16; refine k.mono ?_; rintro e w' ⟨u, rfl, ho, hb⟩)
  go_ret
  exact ⟨_, rfl, ho, hb⟩
end Go.Proofs.YtpbncoaonminoaaDoor
