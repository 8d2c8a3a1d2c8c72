/- Choose. -/
import Derived.Test.YtebielckdloncaaVic
namespace Go.Proofs.Ytebielckdloncaa
open Go.RowKit
open M
set_option linter.unusedVariables false
set_option linter.unusedSimpArgs false

/-- The answer in memory: a row of one's own, nil or not. -/
structure Ans (B : Nat) (w w' : World) (v : Value) (L : List Int) : Prop where
  bel : Below B w w'
  own : w'.ownsRow B 3 1 v L.length (ints L)

/-- What is left to take, on the way. -/
theorem tk_cons (need free : Int) (x : R) (V : List R) : tk need free (x :: V) = if need ≤ free + bnd x.m then some [x.t] else (tk need (free + bnd x.m) V).map (x.t :: ·) := rfl
def onto (T : List Int) (o : Option (List Int)) : Option (List Int) := o.map (T ++ ·)
theorem onto_nil (o : Option (List Int)) : onto [] o = o := by cases o <;> rfl
theorem onto_go {need free : Int} {x : R} {V : List R} {T : List Int} (h : ¬ need ≤ free + bnd x.m) : onto T (tk need free (x :: V)) = onto (T ++ [x.t]) (tk need (free + bnd x.m) V) := by
  rw [tk_cons, if_neg h]
  cases tk need (free + bnd x.m) V <;> simp [onto]
theorem onto_stop {need free : Int} {x : R} {V : List R} {T : List Int} (h : need ≤ free + bnd x.m) : onto T (tk need free (x :: V)) = some (T ++ [x.t]) := by
  rw [tk_cons, if_pos h]; rfl
theorem onto_end (need free : Int) (T : List Int) : onto T (tk need free []) = none := rfl

theorem row_cell {w : World} {base m c : Nat} {ao : Option Addr} {L : List Int} (h : w.ownsRow base 3 1 (.slice ao m c) m (ints L)) {k : Nat} (hk : k < m) : ∃ g, ao = some ⟨g, 0, none⟩ ∧ base ≤ g ∧ g < w.heap.size ∧ ∃ x, L[k]? = some x ∧ w.cell? ⟨g, k, none⟩ = some (.int .i64 x) := by
  have hl : L.length = m := by have := h.1; simpa using this
  rcases h.2 with ⟨e, q⟩ | ⟨g, cc, cur, e, hb, hg, h1, h2, h3, h4⟩
  · cases e; omega
  · cases e
    refine ⟨g, rfl, hb, block_lt hg, L[k], List.getElem?_eq_getElem (by omega), ?_⟩
    rw [cell_of_row w g k _ _ _ hg, ← Array.getElem?_toList, ← ints_at L (by omega), ← h4, List.getElem?_take_of_lt (by omega)]

set_option maxRecDepth 1000000 in
set_option maxHeartbeats 8000000 in
theorem choose_vic (l : List R) (la : Option Addr) (n cap : Nat) (prio mem free slots most : Int) (w : World) (hl : l.length = n) (hn : n ≤ 1000000) (hR : RunsIn w la l) (h49 : (vics l prio most).length < 50) :
    Calls Try.prog 10 #[.slice la n cap, .int .i64 prio, .int .i64 mem, .int .i64 free, .int .i64 slots, .int .i64 most] w fun e w' => ∃ ao m c, e = .returned (.tuple #[.slice ao m c, .bool (ansB l prio mem free slots most)]) ∧ Hid (m = (ansL l prio mem free slots most).length ∧ Ans w.heap.size w w' (.slice ao m c) (ansL l prio mem free slots most)) := by
  obtain ⟨i0, hi, hz0, hz1, hz2⟩ := info_parts info3
  have k1 := fun W => bounded_any mem W
  have k2 := fun W => bounded_any free W
  have b1 := bnd_lo mem
  have b2 := bnd_hi mem
  have b3 := bnd_lo free
  have b4 := bnd_hi free
  have HL : Hid (l.length = n) := hl
  have HV : Hid ((vics l prio most).length < 50) := h49
  have HR : Hid (RunsIn w la l) := hR
  obtain ⟨A, hA⟩ : ∃ A, A = ans l prio mem free slots most := ⟨_, rfl⟩
  have HAL : Hid (ansL l prio mem free slots most = A.getD []) := by rw [hA]; exact rfl
  have hAB : ansB l prio mem free slots most = A.isSome := by rw [hA]; rfl
  rw [hAB]
  clear hAB
  unfold ans at hA
  have HA : Hid (A = if 1 ≤ slots ∧ bnd mem ≤ bnd free then some [] else tk (bnd mem) (bnd free) (vrun l prio most)) := hA
  clear hA hl h49 hR
  generalize bnd mem = need at *
  generalize bnd free = fr0 at *
  have hRm : RoomAt (w.alloc (.cells #[.int .i64 need, .int .i64 fr0, .bool (decide (1 ≤ slots))] 40)) w.heap.size need fr0 (decide (1 ≤ slots)) := heap_alloc_new w _
  have kE := enough_any w.heap.size need fr0 (decide (1 ≤ slots)) _ hRm
  have HE : Hid (RoomAt (w.alloc (.cells #[.int .i64 need, .int .i64 fr0, .bool (decide (1 ≤ slots))] 40)) w.heap.size need fr0 (decide (1 ≤ slots))) := hRm
  have HB0 : Hid (Below w.heap.size w (w.alloc (.cells #[.int .i64 need, .int .i64 fr0, .bool (decide (1 ≤ slots))] 40))) := (Below.refl _ _).alloc (Nat.le_refl _) _
  clear hRm
  cases hs : (decide (1 ≤ slots) && decide (need ≤ fr0)) with
  | true =>
    rw [hs] at kE
    have hA2 : A = some [] := by rw [HA.out, if_pos (by simpa using hs)]
    subst hA2
    clear hs
    go_enter Try.func10, Try.ntmps10
    go_wp2_with (first | (go_at_call_of 13 mem; refine (k1 _).mono ?_; rintro e w8 ⟨rfl, rfl⟩) | (go_at_call_of 13 free; refine (k2 _).mono ?_; rintro e w9 ⟨rfl, rfl⟩) | (go_at_call 14; refine kE.mono ?_; rintro e w5 ⟨rfl, hb⟩; have HB := hide_it hb; clear hb))
    go_ret2
    refine ⟨none, 0, 0, rfl, (by rw [HAL.out]; rfl), ?_⟩
    rw [HAL.out]
    exact ⟨HB0.out.trans (HB.out.mono HB0.out.size), World.ownsRow_nil _ _ _ _⟩
  | false =>
    rw [hs] at kE
    have hA2 : A = onto [] (tk need fr0 (vrun l prio most)) := by
      rw [onto_nil, HA.out, if_neg (by intro q; rw [decide_eq_true q.1, decide_eq_true q.2] at hs; cases hs)]
    have HA2 : Hid (A = onto [] (tk need fr0 (vrun l prio most))) := hA2
    clear hA2 HA hs
    have kV : ∀ W, Below w.heap.size w W → Calls Try.prog 15 #[.agg #[.slice la n cap, .int .i64 prio, .int .i64 most]] W fun e w' => ∃ ao c m, e = .returned (.slice ao m c) ∧ Hid (m = (vics l prio most).length ∧ Below W.heap.size W w' ∧ w'.ownsRow W.heap.size 3 1 (.slice ao m c) m (ints ((vics l prio most).map Int.ofNat))) := fun W hW => victims_any l la n cap prio most W HL.out hn (HR.out.below hW) HV.out
    have KV : Hid _ := kV
    clear kV
    go_enter Try.func10, Try.ntmps10
    go_wp2_with (first | (go_at_call_of 13 mem; refine (k1 _).mono ?_; rintro e w8 ⟨rfl, rfl⟩) | (go_at_call_of 13 free; refine (k2 _).mono ?_; rintro e w9 ⟨rfl, rfl⟩) | (go_at_call 14; refine kE.mono ?_; rintro e w5 ⟨rfl, hb⟩; have HB := hide_it hb; clear hb) | (go_at_call 15; refine (KV.out _ (HB0.out.trans (HB.out.mono HB0.out.size))).mono ?_; rintro e w6 ⟨pa, pc, pm, rfl, HP⟩))
    obtain ⟨hm, hbv, hov⟩ := HP.out
    have hb6 : Below w9.heap.size w9 w6 := (HB0.out.trans (HB.out.mono HB0.out.size)).trans (hbv.mono (HB0.out.trans (HB.out.mono HB0.out.size)).size)
    have hrl : w9.heap.size < w6.heap.size := by have := HB.out.size; have := hbv.size; simp at *; omega
    have hr6 : RoomAt w6 w9.heap.size need fr0 (decide (1 ≤ slots)) := by
      have h1 := HB.out.block w9.heap.size (by simp)
      have h2 := hbv.block w9.heap.size (by have := HB.out.size; simp at *; omega)
      exact (h2.trans h1).trans HE.out
    have HB6 : Hid (Below w9.heap.size w9 w6) := hb6
    have HR6 : Hid (RoomAt w6 w9.heap.size need fr0 (decide (1 ≤ slots))) := hr6
    have HOV : Hid (w6.ownsRow (w9.heap.size + 1) 3 1 (.slice pa pm pc) pm (ints ((vics l prio most).map Int.ofNat))) := owns_base hov (fun q hq => by
      have := (hov.lt q hq).1; have := HB.out.size; simp at *; omega)
    have HM : Hid (pm = (vics l prio most).length) := hm
    have HRL : Hid (w9.heap.size < w6.heap.size) := hrl
    clear hm hbv hov hb6 hrl hr6 HP HB HB0 HE kE KV
    have HVR : Hid (RunsIn w9 la l) := HR.out
    have HRB : Hid (∀ b o, la = some ⟨b, o, none⟩ → 0 < n → b < w9.heap.size) := fun b o e h0 => by
      obtain ⟨b', o', e', hb', _⟩ := HR.out 0 (by have := HL.out; omega)
      rw [e] at e'; cases e'; exact hb'
    generalize hrb : w9.heap.size = rb at *
    have HW0 : Hid (w9.heap.size = rb) := hrb
    clear hrb
    obtain ⟨V, hV⟩ : ∃ V, V = vics l prio most := ⟨_, rfl⟩
    have HVS : Hid (∀ p ∈ V, p < n) := fun p hp => by rw [hV] at hp; have := ((vics_vic l prio most).mem p).1 hp; have h2 := HL.out; omega
    have HVR2 : Hid (vrun l prio most = V.map (at' l)) := by rw [hV]; exact rfl
    rw [← hV] at HOV HM HV
    clear hV
    have hp49 : pm < 50 := by have := HV.out; have := HM.out; omega
    go_loopw [15, 32] (fun p i W => ∃ (k m c : Nat) (ao : Option Addr) (T : List Int) (fr : Int) (sl : Bool), k ≤ pm ∧ i = .int .i64 k ∧ p = .slice ao m c ∧ Hid (Turn (fun q => q = rb) w6 W ∧ RoomAt W rb need fr sl) ∧ Hid (m = T.length ∧ T.length = k ∧ W.ownsRow w6.heap.size 3 1 (.slice ao m c) m (ints T)) ∧ Hid (0 ≤ fr ∧ fr ≤ 1048576 * ((k : Int) + 1)) ∧ Hid (A = onto T (tk need fr ((V.drop k).map (at' l))))) (fun _ i _ => pm - (intOf i).toNat)
    case atStart => exact ⟨0, 0, 0, none, [], fr0, _, Nat.zero_le _, rfl, rfl, ⟨Turn.refl _ _, HR6.out⟩, ⟨rfl, rfl, World.ownsRow_nil _ _ _ _⟩, ⟨b3, by omega⟩, by rw [HA2.out, HVR2.out]; exact rfl⟩
    case round =>
      clear HA2 HVR2
      obtain ⟨k, m, c, ao, T, fr, sl, hk, rfl, rfl, HT, HO, HF, HQ⟩ := hrel
      by_cases hlt : k < pm
      · have hkV : k < V.length := by have := HM.out; omega
        obtain ⟨g, hpa, hg1, hg2, x, hx, hcx⟩ := row_cell HOV.out hlt
        obtain rfl : x = ((V[k] : Nat) : Int) := by
          rw [List.getElem?_map, List.getElem?_eq_getElem hkV] at hx
          exact (Option.some.inj hx).symm
        have hpn := HVS.out V[k] (List.getElem_mem hkV)
        have HD : Hid (V.drop k = V[k] :: V.drop (k + 1)) := List.drop_eq_getElem_cons hkV
        generalize V[k] = p at *
        have hpl : p < l.length := by have := HL.out; omega
        have cx : wr.cell? ⟨g, k, none⟩ = some (.int .i64 (p : Int)) := by
          have := HT.out.1.block g hg2 (by omega)
          unfold World.cell?; simp only [this]; exact hcx
        have hrn : RunsIn wr la l := by
          have h6 : RunsIn w6 la l := HVR.out.below (by rw [HW0.out]; exact HB6.out)
          exact h6.keep HT.out.1.size (fun b o e => HT.out.1.block b (by have := HRB.out b o e (by omega); have := HRL.out; omega) (by have := HRB.out b o e (by omega); omega))
        obtain ⟨lb, lo, hla, hlb, c0, c1, c2, c3, c4⟩ := hrn p hpl
        rw [← at_get hpl] at c0 c1 c2 c3 c4
        have HX : Hid (A = onto T (tk need fr (at' l p :: (V.drop (k + 1)).map (at' l)))) := by rw [HQ.out, HD.out]; exact rfl
        generalize at' l p = x at *
        obtain ⟨xt, xp, xm, xq, xs⟩ := x
        have kG := fun W (hW : RoomAt W rb need fr sl) => give_any rb need fr sl ⟨xt, xp, xm, xq, xs⟩ W hW HF.out.1 (by have := HF.out.2; omega)
        unfold rV at kG
        simp only [] at kG c0 c1 c2 c3 c4
        have KG : Hid _ := kG
        have hbm := bnd_lo xm
        have hbm2 := bnd_hi xm
        have HLB : Hid (lb < wr.heap.size ∧ lb ≠ rb ∧ lb < w6.heap.size) := ⟨hlb, by have := HRB.out lb lo hla (by omega); omega, by have := HRB.out lb lo hla (by omega); have := HRL.out; omega⟩
        have hO := HO.out
        have HGR : Hid (∀ ao' c' m' w3, Hid (m' = (T ++ [xt]).length ∧ w3.ownsRow w6.heap.size 3 1 (.slice ao' m' c') m' (ints (T ++ [xt])) ∧ (wr.alloc (.cells #[.int .i64 xt] 3)).grownBy w3 (Value.slice ao m c).ownBlock ∧ Fresh (wr.alloc (.cells #[.int .i64 xt] 3)) (.slice ao m c) (.slice ao' m' c')) → Turn (fun q => q = rb) w6 w3 ∧ RoomAt w3 rb need fr sl ∧ ∀ k, w3.cell? ⟨lb, k, none⟩ = wr.cell? ⟨lb, k, none⟩) := fun ao' c' m' w3 h => by
          obtain ⟨e1, e2, e3, e4⟩ := h.out
          have hne : ∀ q, (Value.slice ao m c).ownBlock = some q → w6.heap.size ≤ q ∧ q < wr.heap.size := fun q hq => hO.2.2.lt q hq
          have hs := HT.out.1.size
          have hkeep : ∀ b, b < wr.heap.size → (∀ q, (Value.slice ao m c).ownBlock = some q → q ≠ b) → w3.heap[b]? = wr.heap[b]? := fun b hb hq => by
            rw [e3.block b (by simp; omega) (fun e => hq b e.symm rfl), Below.heap_alloc _ _ _ hb]
          refine ⟨(HT.out.1.alloc _).grown e3 (fun q hq => .inr (hne q hq).1), ?_, fun k => ?_⟩
          · exact (hkeep rb (by have := HRL.out; omega) (fun q hq => by have := (hne q hq).1; have := HRL.out; omega)).trans HT.out.2
          · have := hkeep lb HLB.out.1 (fun q hq => by have := (hne q hq).1; have := HLB.out.2.2; omega)
            unfold World.cell?; simp only [this]
        have kE2 : ∀ W, RoomAt W rb need (fr + bnd xm) true → Calls Try.prog 14 #[ptr rb] W fun e w' => e = .returned (.bool (true && decide (need ≤ fr + bnd xm))) ∧ Below W.heap.size W w' := fun W hW => enough_any rb need (fr + bnd xm) true W hW
        have KE : Hid _ := kE2
        have HB2 : Hid (0 ≤ fr + bnd xm ∧ fr + bnd xm ≤ 1048576 * ((k : Int) + 2)) := ⟨by have := HF.out.1; omega, by have := HF.out.2; omega⟩
        have HST := hide_it (fun h => onto_stop (T := T) (need := need) (free := fr) (x := ⟨xt, xp, xm, xq, xs⟩) (V := (V.drop (k + 1)).map (at' l)) h)
        have HGO := hide_it (fun h => onto_go (T := T) (need := need) (free := fr) (x := ⟨xt, xp, xm, xq, xs⟩) (V := (V.drop (k + 1)).map (at' l)) h)
        simp only [] at HST HGO
        have hmT : Hid (T.length + 1 ≤ 1000000) := by have := hO.2.1; have := HM.out; exact (show T.length + 1 ≤ 1000000 from by omega)
        have HSZ := hide_it HT.out.1.size
        subst hpa hla
        clear kG kE2 HQ HD hO hkV hpl hx hg1
        generalize bnd xm = B at *
        cases hq : decide (need ≤ fr + B) with
        | true =>
          have hA3 : A = some (T ++ [xt]) := by rw [HX.out]; exact HST.out (of_decide_eq_true hq)
          subst hA3
          rw [hq] at KE
          clear HX HST HGO hq
          go_wp2_with (first | (at_builtin; refine wpList_cat rfl (.tmp 36) (.tmp 42) rfl (L := T) (by rw [← HO.out.1]; exact owns_below HO.out.2.2 ((Below.refl _ _).alloc (Nat.le_refl _) _)) (rd_one rfl xt) (by have := hmT.out; simp; omega) rfl rfl (by have := HSZ.out; simp; omega) ?_; intro ao' c' m' w3 HA; have G3 := hide_it (HGR.out ao' c' m' w3 HA); have d0 := (G3.out.2.2 _).trans c0; have d1 := (G3.out.2.2 _).trans c1; have d2 := (G3.out.2.2 _).trans c2; have d3 := (G3.out.2.2 _).trans c3; have d4 := (G3.out.2.2 _).trans c4) | (go_at_call 16; refine (KG.out _ G3.out.2.1).mono ?_; rintro e w4 ⟨rfl, hr4, ht4⟩; have G4 := hide_it (And.intro hr4 ht4); clear hr4 ht4) | (go_at_call 14; refine (KE.out _ G4.out.1).mono ?_; rintro e w5 ⟨rfl, hb5⟩; have G5 := hide_it hb5; clear hb5))
          have T5 : Turn (fun q => q = rb) w6 w5 := (G3.out.1.trans G4.out.2).trans (Turn.of_below G5.out)
          have o4 : w4.ownsRow w6.heap.size 3 1 (.slice ao' m' c') m' (ints (T ++ [xt])) := owns_keep HA.out.2.1 (fun q hq => G4.out.2.block q (HA.out.2.1.lt q hq).2 (by have := (HA.out.2.1.lt q hq).1; have := HRL.out; omega))
          have o5 := owns_below o4 G5.out
          go_ret2
          try rw [HW0.out]
          refine ⟨ao', m', c', rfl, ?_⟩
          rw [HAL.out]
          have e : m' = (T ++ [xt]).length := HA.out.1
          refine ⟨e, HB6.out.trans (T5.below (by have := HRL.out; omega) (fun q hq => by subst hq; exact Nat.le_refl _)), ?_⟩
          rw [e] at o5
          have h6 := owns_base (base' := rb) o5 (fun q hq => by have := (o5.lt q hq).1; have := HRL.out; omega)
          rw [e]; exact h6
        | false =>
          have hA3 : A = onto (T ++ [xt]) (tk need (fr + B) ((V.drop (k + 1)).map (at' l))) := by rw [HX.out]; exact HGO.out (of_decide_eq_false hq)
          have HA3 := hide_it hA3
          rw [hq] at KE
          clear HX HST HGO hq hA3
          go_wp2_with (first | (at_builtin; refine wpList_cat rfl (.tmp 36) (.tmp 42) rfl (L := T) (by rw [← HO.out.1]; exact owns_below HO.out.2.2 ((Below.refl _ _).alloc (Nat.le_refl _) _)) (rd_one rfl xt) (by have := hmT.out; simp; omega) rfl rfl (by have := HSZ.out; simp; omega) ?_; intro ao' c' m' w3 HA; have G3 := hide_it (HGR.out ao' c' m' w3 HA); have d0 := (G3.out.2.2 _).trans c0; have d1 := (G3.out.2.2 _).trans c1; have d2 := (G3.out.2.2 _).trans c2; have d3 := (G3.out.2.2 _).trans c3; have d4 := (G3.out.2.2 _).trans c4) | (go_at_call 16; refine (KG.out _ G3.out.2.1).mono ?_; rintro e w4 ⟨rfl, hr4, ht4⟩; have G4 := hide_it (And.intro hr4 ht4); clear hr4 ht4) | (go_at_call 14; refine (KE.out _ G4.out.1).mono ?_; rintro e w5 ⟨rfl, hb5⟩; have G5 := hide_it hb5; clear hb5))
          have T5 : Turn (fun q => q = rb) w6 w5 := (G3.out.1.trans G4.out.2).trans (Turn.of_below G5.out)
          have o4 : w4.ownsRow w6.heap.size 3 1 (.slice ao' m' c') m' (ints (T ++ [xt])) := owns_keep HA.out.2.1 (fun q hq => G4.out.2.block q (HA.out.2.1.lt q hq).2 (by have := (HA.out.2.1.lt q hq).1; have := HRL.out; omega))
          have o5 := owns_below o4 G5.out
          go_roundw
          case rel => exact ⟨k + 1, m', c', ao', T ++ [xt], fr + B, true, by omega, by go_num, rfl, ⟨T5, (G5.out.block rb (block_lt G4.out.1)).trans G4.out.1⟩, ⟨HA.out.1, by have := HO.out.2.1; simp; omega, o5⟩, ⟨HB2.out.1, by have := HB2.out.2; omega⟩, HA3.out⟩
          case measure => simp [intOf]; omega
      · obtain rfl : k = pm := by omega
        have hA3 : A = none := by rw [HQ.out, List.drop_eq_nil_of_le (by have := HM.out; omega)]; rfl
        subst hA3
        clear HQ
        go_wp2
        go_ret2
        try rw [HW0.out]
        refine ⟨none, 0, 0, rfl, ?_⟩
        rw [HAL.out]
        exact ⟨rfl, HB6.out.trans (HT.out.1.below (by have := HRL.out; omega) (fun q hq => by subst hq; exact Nat.le_refl _)), World.ownsRow_nil _ _ _ _⟩
end Go.Proofs.Ytebielckdloncaa
