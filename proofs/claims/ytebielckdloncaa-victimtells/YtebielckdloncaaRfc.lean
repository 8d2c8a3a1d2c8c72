/- The document's own choosing. -/
import Derived.Test.YtebielckdloncaaRfm
import Derived.Test.YtebielckdloncaaCho
import Derived.Shelf.SlSortCmp.QuietGrown
import Derived.Deep.CutRange
import Derived.Deep.CutBlock
namespace Go.Proofs.Ytebielckdloncaa
open Go.Shelf Go.RowKit Go.Lib Go.Sort
open M
set_option linter.unusedVariables false
set_option linter.unusedSimpArgs false

theorem below_grown (w : World) (n : Nat) (os : Array Obj) : Below w.heap.size w (grow (w.drewN n) os) := ⟨rfl, rfl, rfl, by rw [Go.Sort.size_grow]; simp, fun k hk => by rw [Go.Sort.heap_grow_old _ _ (by simpa using hk)]; rfl⟩
/-- A slice's length. -/
def lenV : Value → Nat
  | .slice _ n _ => n
  | _ => 0
theorem gone_none {W : World} {gb n : Nat} (h : W.heap.size = gb) : GoneAt (W.alloc (.cells (madeCells #[.bool false] n) 4)) gb n [] := by
  unfold GoneAt
  rw [heap_alloc_at h]
  congr 2
  apply Array.ext_getElem?
  intro j
  by_cases hj : j < n
  · simp [madeCells, hj, Nat.mod_one]
  · simp [madeCells, hj]
theorem not_may_p {r : R} {prio most : Int} (h : prio ≤ r.p) : mayB prio most r = false := by simp [mayB]; omega
theorem not_may_q {r : R} {prio most : Int} (h : most ≤ r.q) : mayB prio most r = false := by simp [mayB]; omega
theorem is_may {r : R} {prio most : Int} (h : ¬ prio ≤ r.p) (k : ¬ most ≤ r.q) : mayB prio most r = true := by simp [mayB]; omega

set_option maxRecDepth 1000000 in
set_option maxHeartbeats 16000000 in
theorem refchoose_any (l : List R) (la : Option Addr) (n cap : Nat) (prio mem free slots most : Int) (w : World) (hl : l.length = n) (hn : n ≤ 1000) (hR : RunsIn w la l) :
    Calls Try.prog 11 #[.slice la n cap, .int .i64 prio, .int .i64 mem, .int .i64 free, .int .i64 slots, .int .i64 most] w fun e w' => ∃ ao m c, e = .returned (.tuple #[.slice ao m c, .bool (ansB l prio mem free slots most)]) ∧ Hid (m = (ansL l prio mem free slots most).length ∧ Ans w.heap.size w w' (.slice ao m c) (ansL l prio mem free slots most)) := by
  have mx := mixedT
  have k1 := fun W => memory_any mem W
  have k2 := fun W => memory_any free W
  have b3 := bnd_lo free
  have b4 := bnd_hi free
  have HL : Hid (l.length = n) := hl
  have HR : Hid (RunsIn w la l) := hR
  obtain ⟨A, hA⟩ : ∃ A, A = ans l prio mem free slots most := ⟨_, rfl⟩
  have HAL : Hid (ansL l prio mem free slots most = A.getD []) := by rw [hA]; exact rfl
  have hAB : ansB l prio mem free slots most = A.isSome := by rw [hA]; rfl
  rw [hAB]
  clear hAB
  obtain ⟨V, hV⟩ : ∃ V, V = vics l prio most := ⟨_, rfl⟩
  unfold ans vrun at hA
  rw [← hV] at hA
  have HA : Hid (A = if 1 ≤ slots ∧ bnd mem ≤ bnd free then some [] else tk (bnd mem) (bnd free) (V.map (at' l))) := hA
  have HV : Hid (V = vics l prio most) := hV
  have HVn : Hid (V.length ≤ n) := by have := vics_len l prio most; rw [← hV] at this; exact (show V.length ≤ n from by omega)
  clear hA hl hR hV
  generalize bnd mem = need at *
  generalize bnd free = fr0 at *
  have hmk : ∀ W : World, (Instr.makeSlice 45 (.int .i64 (n : Int)) (.int .i64 (n : Int))).run Try.prog W = .ok (.slice (some ⟨W.heap.size, 0, none⟩) n n) (W.alloc (.cells (madeCells #[.bool false] n) 4)) := fun W => by
    have hi : (Try.prog.info? 4).map (fun i => (i.zero, i.size, i.bytes)) = some (some (.bool false), 1, 1) := by kernel_rfl
    exact run_make_row' 45 4 (.bool false) 1 Try.underlying45 hi rfl .i64 .i64 n (by omega) (by omega) W
  have HW : ∀ b g, b = w.heap.size → g = w.heap.size + 1 → Below w.heap.size w ((w.alloc (.cells #[] 3)).alloc (.cells (madeCells #[.bool false] n) 4)) ∧ GoneAt ((w.alloc (.cells #[] 3)).alloc (.cells (madeCells #[.bool false] n) 4)) g n [] ∧ ((w.alloc (.cells #[] 3)).alloc (.cells (madeCells #[.bool false] n) 4)).ownsRow w.heap.size 3 1 (.slice (some ⟨b, 0, none⟩) 0 0) 0 (ints []) ∧ w.heap.size ≤ g ∧ b ≠ g := by
    rintro _ _ rfl rfl
    refine ⟨((Below.refl _ _).alloc (Nat.le_refl _) _).alloc (by simp) _, gone_none (by simp), ?_, by omega, by omega⟩
    exact owns_below ⟨rfl, .inr ⟨w.heap.size, 0, #[], rfl, Nat.le_refl _, heap_alloc_new w _, Nat.le_refl _, Nat.zero_le _, rfl, rfl⟩⟩ ((Below.refl _ _).alloc (Nat.le_refl _) _)
  have HW' := hide_it (HW _ _ rfl rfl)
  clear HW
  go_enter Try.func11, Try.ntmps11
  go_upto_block 0 with (first | (go_at_call_of 17 free; refine (k2 _).mono ?_; rintro e w8 ⟨rfl, rfl⟩))
  generalize hob : w.heap.size = ob at *
  try rw [Nat.add_comm 1 ob] at *
  generalize hw2 : (w.alloc (.cells #[] 3)).alloc (.cells (madeCells #[.bool false] n) 4) = w2 at *
  generalize hgb : ob + 1 = gb at *
  have HOB : Hid (w.heap.size = ob) := hob
  have HGB : Hid (ob + 1 = gb) := hgb
  clear hob hw2 hgb hmk k2
  go_wp2_with fail
  go_loopw [14, 15, 16] (fun out rm sm W => ∃ (k m c : Nat) (ao : Option Addr) (T : List Int) (fr : Int) (sb : Bool), k ≤ V.length ∧ out = .slice ao m c ∧ rm = .int .i64 fr ∧ sm = .bool sb ∧ Hid (Below ob w W ∧ GoneAt W gb n (V.take k)) ∧ Hid (m = T.length ∧ T.length = k ∧ W.ownsRow ob 3 1 (.slice ao m c) m (ints T) ∧ ∀ q, (Value.slice ao m c).ownBlock = some q → q ≠ gb) ∧ Hid (0 ≤ fr ∧ fr ≤ 1048576 * ((k : Int) + 1)) ∧ Hid ((sb = true ∧ need ≤ fr → A = some T) ∧ (¬ (sb = true ∧ need ≤ fr) → A = onto T (tk need fr ((V.drop k).map (at' l)))))) (fun out _ _ _ => V.length - lenV out)
  case atStart =>
    refine ⟨0, 0, 0, _, [], fr0, _, Nat.zero_le _, rfl, rfl, rfl, ⟨HW'.out.1, HW'.out.2.1⟩, ⟨rfl, rfl, HW'.out.2.2.1, fun q hq => ?_⟩, ⟨b3, by omega⟩, fun h => ?_, fun h => ?_⟩
    · simp [Value.ownBlock] at hq; have := HW'.out.2.2.2.2; omega
    · rw [HA.out, if_pos (by simpa using h)]
    · rw [HA.out, if_neg (by simpa using h), onto_nil]; rfl
  case round =>
    have HGO : Hid (ob ≤ gb) := HW'.out.2.2.2.1
    clear HA HW'
    obtain ⟨k, m, c, ao, T, fr, sb, hk, rfl, rfl, rfl, HT, HO, HF, HQ⟩ := hrel
    have hf1 := HF.out.1
    have hf2 := HF.out.2
    have hk1000 : k ≤ 1000 := by have := HVn.out; omega
    by_cases hcond : sb = true ∧ need ≤ fr
    · have hA3 := HQ.out.1 hcond
      subst hA3
      obtain ⟨rfl, hnf⟩ := hcond
      go_wp2_with (go_at_call_of 17 mem; refine (k1 _).mono ?_; rintro e w8 ⟨rfl, rfl⟩)
      go_ret2
      refine ⟨ao, m, c, rfl, ?_⟩
      rw [HAL.out]
      have h1 := HO.out.1
      have h2 := HO.out.2.2.1
      rw [h1] at h2 ⊢
      refine ⟨rfl, by rw [HOB.out]; exact HT.out.1, ?_⟩
      rw [HOB.out]
      exact h2
    · have HC : Hid (A = onto T (tk need fr ((V.drop k).map (at' l)))) := HQ.out.2 hcond
      have HNC : Hid (¬ (sb = true ∧ need ≤ fr)) := hcond
      clear HQ
      obtain ⟨G, hG⟩ : ∃ G, G = V.take k := ⟨_, rfl⟩
      obtain ⟨P, hP⟩ : ∃ P, P = leftB l prio most k := ⟨_, rfl⟩
      have HPI : Hid (∀ i, P i = (mayB prio most (at' l i) && !decide (i ∈ G))) := fun i => by rw [hP, hG, HV.out]; rfl
      have HGE : Hid (G = V.take k) := hG
      have HPE : Hid (P = leftB l prio most k) := hP
      have HG : Hid (GoneAt wr gb n G) := by rw [hG]; exact HT.out.2
      have HB : Hid (Below ob w wr) := HT.out.1
      have HBS : Hid (ob ≤ wr.heap.size) := by have h := HB.out.size; rw [HOB.out] at h; exact h
      clear hG hP HT
      generalize wr = wo at *
      have hsb : sb = false ∨ (sb = true ∧ ¬ need ≤ fr) := by
        cases sb with
        | false => exact .inl rfl
        | true => exact .inr ⟨rfl, fun h => hcond ⟨rfl, h⟩⟩
      clear hcond
      rcases hsb with rfl | ⟨rfl, hnf⟩
      · go_wp2_with fail
        go_loopw [18, 19] (fun bv iv W => ∃ (i : Nat) (b : Int), i ≤ n ∧ iv = .int .i64 i ∧ bv = .int .i64 b ∧ Hid (BestP l P i b) ∧ Hid (Below wo.heap.size wo W)) (fun _ iv _ => n - (intOf iv).toNat)
        case atStart => exact ⟨0, -1, Nat.zero_le _, rfl, rfl, bp_start, Below.refl _ _⟩
        case round =>
          obtain ⟨i, b, hi, rfl, rfl, HE, HBi⟩ := hrel
          by_cases hlt : i < n
          · have hil : i < l.length := by have := HL.out; omega
            have HBW : Hid (Below ob w wr) := HB.out.trans (HBi.out.mono HBS.out)
            have hrn : RunsIn wr la l := HR.out.below (by rw [HOB.out]; exact HBW.out)
            have cg : wr.cell? ⟨gb, i, none⟩ = some (.bool (decide (i ∈ G))) := (HBi.out.cell (p := ⟨gb, i, none⟩) (block_lt HG.out)).trans (HG.out.cell hlt)
            obtain ⟨lb, lo, hla, hlb, c0, c1, c2, c3, c4⟩ := hrn i hil
            rw [← at_get hil] at c0 c1 c2 c3 c4
            have HRN := hide_it hrn
            have HLB := hide_it hlb
            have HPX := hide_it (HPI.out i)
            obtain ⟨x, hx⟩ : ∃ x, x = at' l i := ⟨_, rfl⟩
            have HX := hide_it hx
            rw [← hx] at c0 c1 c2 c3 c4 HPX
            clear hx hrn hlb
            have hxx : x.p = x.p := rfl
            cases gg : decide (i ∈ G) with
            | true =>
              have HS : Hid (P i = false) := by rw [HPX.out, gg]; exact Bool.and_false _
              rw [gg] at cg
              clear gg HPX HX HRN
              obtain ⟨xt, xp, xm, xq, xs⟩ := x
              simp only [] at c0 c1 c2 c3 c4 hxx
              subst hla
              go_wp2
              go_roundw
              case rel => exact ⟨i + 1, b, by omega, by go_num, rfl, bp_skip HE.out HS.out, HBi.out⟩
              case measure => dsimp only [intOf]; omega
            | false =>
              rw [gg] at cg
              by_cases hp : prio ≤ x.p
              · have HS : Hid (P i = false) := by rw [HPX.out, not_may_p hp]; rfl
                clear gg HPX HX HRN
                obtain ⟨xt, xp, xm, xq, xs⟩ := x
                simp only [] at c0 c1 c2 c3 c4 hp hxx
                subst hla
                go_wp2
                go_roundw
                case rel => exact ⟨i + 1, b, by omega, by go_num, rfl, bp_skip HE.out HS.out, HBi.out⟩
                case measure => dsimp only [intOf]; omega
              · by_cases hq : most ≤ x.q
                · have HS : Hid (P i = false) := by rw [HPX.out, not_may_q hq]; rfl
                  clear gg HPX HX HRN
                  obtain ⟨xt, xp, xm, xq, xs⟩ := x
                  simp only [] at c0 c1 c2 c3 c4 hp hq hxx
                  subst hla
                  go_wp2
                  go_roundw
                  case rel => exact ⟨i + 1, b, by omega, by go_num, rfl, bp_skip HE.out HS.out, HBi.out⟩
                  case measure => dsimp only [intOf]; omega
                · have HS : Hid (P i = true) := by rw [HPX.out, is_may hp hq, gg]; rfl
                  clear gg HPX hxx
                  by_cases hb : b < 0
                  · obtain rfl : b = -1 := bp_neg HE.out hb
                    obtain ⟨xt, xp, xm, xq, xs⟩ := x
                    simp only [] at c0 c1 c2 c3 c4 hp hq
                    subst hla
                    go_wp2
                    go_roundw
                    case rel => exact ⟨i + 1, i, by omega, by go_num, rfl, bp_first HE.out HS.out, HBi.out⟩
                    case measure => dsimp only [intOf]; omega
                  · obtain ⟨p, rfl, hpi⟩ := bp_get HE.out hb
                    obtain ⟨lb', lo', hla', _, d0, d1, d2, d3, d4⟩ := HRN.out p (by omega)
                    rw [← at_get (show p < l.length by omega)] at d0 d1 d2 d3 d4
                    obtain ⟨rfl, rfl⟩ : lb = lb' ∧ lo = lo' := by rw [hla] at hla'; injection hla' with q; injection q with q1 q2; exact ⟨q1, q2⟩
                    clear hla'
                    obtain ⟨y, hy⟩ : ∃ y, y = at' l p := ⟨_, rfl⟩
                    have HTK := hide_it (fun h h' => bp_take (l := l) (P := P) (k := i) (p := p) h h')
                    have HKE := hide_it (fun h' => bp_keep (l := l) (P := P) (k := i) (p := p) HE.out h')
                    have HTA := hide_it (fun h' => bp_take (l := l) (P := P) (k := i) (p := p) HE.out HS.out h')
                    rw [← HX.out, ← hy] at HKE HTA
                    rw [← hy] at d0 d1 d2 d3 d4
                    clear HTK hy HX HRN
                    obtain ⟨xt, xp, xm, xq, xs⟩ := x
                    obtain ⟨yt, yp, ym, yq, ys⟩ := y
                    simp only [] at c0 c1 c2 c3 c4 d0 d1 d2 d3 d4 hp hq
                    have hpn : p < n := by omega
                    have la0 := cell_grown HLB.out c0
                    have la1 := cell_grown HLB.out c1
                    have la2 := cell_grown HLB.out c2
                    have la3 := cell_grown HLB.out c3
                    have la4 := cell_grown HLB.out c4
                    have lb0 := cell_grown HLB.out d0
                    have lb1 := cell_grown HLB.out d1
                    have lb2 := cell_grown HLB.out d2
                    have lb3 := cell_grown HLB.out d3
                    have lb4 := cell_grown HLB.out d4
                    subst hla
                    by_cases hr : rlt ⟨xt, xp, xm, xq, xs⟩ ⟨yt, yp, ym, yq, ys⟩
                    · have hc : ∀ n os, Calls Try.prog 18 #[.agg #[.int .i64 xt, .int .i64 xp, .int .i64 xm, .int .i64 xq, .int .i64 xs], .agg #[.int .i64 yt, .int .i64 yp, .int .i64 ym, .int .i64 yq, .int .i64 ys]] (grow (wr.drewN n) os) fun e w'' => e = .returned (.bool true) ∧ ∃ p : GrownBy, w'' = grow (wr.drewN p.n) p.os := fun n os => by
                        have h := ahead_any ⟨xt, xp, xm, xq, xs⟩ ⟨yt, yp, ym, yq, ys⟩ (grow (wr.drewN n) os)
                        rw [decide_eq_true hr] at h
                        exact Calls.grown_of h
                      go_wp2_with fail
                      go_quiet_grown ((go_at_call 18; exact hc _ _))
                      have HB9 : Hid (Below wr.heap.size wr (grow (wr.drewN nq) osq)) := below_grown wr nq osq
                      clear la0 la1 la2 la3 la4 lb0 lb1 lb2 lb3 lb4 hc
                      generalize grow (wr.drewN nq) osq = w9 at *
                      go_wp2
                      go_roundw
                      case rel => exact ⟨i + 1, i, by omega, by go_num, rfl, HTA.out hr, HBi.out.trans (HB9.out.mono HBi.out.size)⟩
                      case measure => dsimp only [intOf]; omega
                    · have hc : ∀ n os, Calls Try.prog 18 #[.agg #[.int .i64 xt, .int .i64 xp, .int .i64 xm, .int .i64 xq, .int .i64 xs], .agg #[.int .i64 yt, .int .i64 yp, .int .i64 ym, .int .i64 yq, .int .i64 ys]] (grow (wr.drewN n) os) fun e w'' => e = .returned (.bool false) ∧ ∃ p : GrownBy, w'' = grow (wr.drewN p.n) p.os := fun n os => by
                        have h := ahead_any ⟨xt, xp, xm, xq, xs⟩ ⟨yt, yp, ym, yq, ys⟩ (grow (wr.drewN n) os)
                        rw [decide_eq_false hr] at h
                        exact Calls.grown_of h
                      go_wp2_with fail
                      go_quiet_grown ((go_at_call 18; exact hc _ _))
                      have HB9 : Hid (Below wr.heap.size wr (grow (wr.drewN nq) osq)) := below_grown wr nq osq
                      clear la0 la1 la2 la3 la4 lb0 lb1 lb2 lb3 lb4 hc
                      generalize grow (wr.drewN nq) osq = w9 at *
                      go_wp2
                      go_roundw
                      case rel => exact ⟨i + 1, p, by omega, by go_num, rfl, HKE.out hr, HBi.out.trans (HB9.out.mono HBi.out.size)⟩
                      case measure => dsimp only [intOf]; omega
          · obtain rfl : i = n := by omega
            have HBW : Hid (Below ob w wr) := HB.out.trans (HBi.out.mono HBS.out)
            have hE : BestP l (leftB l prio most k) l.length b := by rw [HL.out, ← HPE.out]; exact HE.out
            by_cases hb : b < 0
            · have hA3 : A = none := by rw [HC.out, show V.drop k = [] from by rw [HV.out]; exact best_none hE hb]; rfl
              subst hA3
              clear HC hE HE HPE HPI
              go_wp2
              go_ret2
              refine ⟨none, 0, 0, rfl, ?_⟩
              rw [HAL.out]
              exact ⟨rfl, by rw [HOB.out]; exact HBW.out, World.ownsRow_nil _ _ _ _⟩
            · obtain ⟨p, rfl, hpn⟩ := bp_get HE.out hb
              have HV2 : Hid (k < V.length ∧ V.drop k = p :: V.drop (k + 1) ∧ V.take (k + 1) = G ++ [p]) := by
                obtain ⟨hkV, hVp⟩ := best_some hE
                rw [HGE.out, HV.out]
                refine ⟨hkV, ?_, ?_⟩
                · rw [List.drop_eq_getElem_cons hkV, hVp]
                · rw [left_next hkV, hVp]
              obtain ⟨lb, lo, hla, hlb, d0, d1, d2, d3, d4⟩ := HR.out p (by have := HL.out; omega)
              have hlo : lb < ob := by rw [← HOB.out]; exact hlb
              rw [← at_get (show p < l.length by have := HL.out; omega)] at d0 d1 d2 d3 d4
              have hck : ∀ j, wr.cell? ⟨lb, j, none⟩ = w.cell? ⟨lb, j, none⟩ := fun j => HBW.out.cell (p := ⟨lb, j, none⟩) hlo
              have c0 := (hck _).trans d0
              have c1 := (hck _).trans d1
              have c2 := (hck _).trans d2
              have c3 := (hck _).trans d3
              have c4 := (hck _).trans d4
              clear hck d0 d1 d2 d3 d4
              obtain ⟨x, hx⟩ : ∃ x, x = at' l p := ⟨_, rfl⟩
              rw [← hx] at c0 c1 c2 c3 c4
              have HX3 : Hid (A = onto T (tk need fr (x :: (V.drop (k + 1)).map (at' l)))) := by rw [HC.out, HV2.out.2.1, hx]; rfl
              clear hx
              have HGW : Hid (GoneAt wr gb i G) := (HBi.out.block gb (block_lt HG.out)).trans HG.out
              have cg : wr.cell? ⟨gb, p, none⟩ = some (.bool (decide (p ∈ G))) := HGW.out.cell hpn
              generalize decide (p ∈ G) = gq at cg
              have fz : ∀ j, wr.frozen? ⟨gb, j, none⟩ = false := fun j => by
                have h : wr.heap[gb]? = some (.cells _ 4) := HGW.out
                simp [World.frozen?, h]
              have hne : lb ≠ gb := by have := HGO.out; omega
              have hne' : gb ≠ lb := fun e => hne e.symm
              have HSZ : Hid (ob ≤ wr.heap.size ∧ gb < wr.heap.size) := ⟨by have h := HBW.out.size; rw [HOB.out] at h; exact h, block_lt HGW.out⟩
              have HOW : Hid ((wr.setCell ⟨gb, p, none⟩ (.bool true)).ownsRow ob 3 1 (.slice ao m c) T.length (ints T)) := by
                rw [← HO.out.1]
                exact owns_keep (owns_below HO.out.2.2.1 HBi.out) (fun q hq => Below.heap_setCell _ _ _ _ (HO.out.2.2.2 q hq))
              obtain ⟨xt, xp, xm, xq, xs⟩ := x
              simp only [] at c0 c1 c2 c3 c4
              have HNX : Hid (∀ ao' c' m' w3, Hid (m' = (T ++ [xt]).length ∧ w3.ownsRow ob 3 1 (.slice ao' m' c') m' (ints (T ++ [xt])) ∧ ((wr.setCell ⟨gb, p, none⟩ (.bool true)).alloc (.cells #[.int .i64 xt] 3)).grownBy w3 (Value.slice ao m c).ownBlock ∧ Fresh ((wr.setCell ⟨gb, p, none⟩ (.bool true)).alloc (.cells #[.int .i64 xt] 3)) (.slice ao m c) (.slice ao' m' c')) → (Below ob w w3 ∧ GoneAt w3 gb i (V.take (k + 1))) ∧ ∀ q, (Value.slice ao' m' c').ownBlock = some q → q ≠ gb) := fun ao' c' m' w3 h => by
                obtain ⟨e1, e2, e3, e4⟩ := h.out
                have hs : (wr.setCell ⟨gb, p, none⟩ (.bool true)).heap.size = wr.heap.size := by simp [World.setCell]
                have hs2 : ((wr.setCell ⟨gb, p, none⟩ (.bool true)).alloc (.cells #[.int .i64 xt] 3)).heap.size = wr.heap.size + 1 := by simp [World.setCell]
                obtain ⟨z1, z2⟩ := HSZ.out
                refine ⟨⟨?_, ?_⟩, fun q hq => ?_⟩
                · exact ((HBW.out.setCell (p := ⟨gb, p, none⟩) HGO.out _).alloc (by rw [hs]; exact z1) _).grown e3 (by rw [hs2]; omega) (fun q hq => (HOW.out.lt q hq).1)
                · rw [HV2.out.2.2]
                  have hp := HGW.out.put hpn
                  unfold GoneAt at hp ⊢
                  exact ((e3.block gb (by rw [hs2]; omega) (fun e => HO.out.2.2.2 gb e.symm rfl)).trans (Below.heap_alloc _ _ _ (by rw [hs]; exact z2))).trans hp
                · rcases e4 with e4 | ⟨z, e4, hz⟩
                  · rw [e4] at hq; exact HO.out.2.2.2 q hq
                  · rw [e4] at hq; cases hq; rw [hs2] at hz; omega
              have kM := fun W => memory_any xm W
              have hB1 := bnd_lo xm
              have hB2 := bnd_hi xm
              have HS1 := hide_it (fun h => onto_stop (T := T) (need := need) (free := fr) (x := ⟨xt, xp, xm, xq, xs⟩) (V := (V.drop (k + 1)).map (at' l)) h)
              have HS2 := hide_it (fun h => onto_go (T := T) (need := need) (free := fr) (x := ⟨xt, xp, xm, xq, xs⟩) (V := (V.drop (k + 1)).map (at' l)) h)
              simp only [] at HS1 HS2
              rw [← HX3.out] at HS1 HS2
              generalize bnd xm = B at *
              subst hla
              clear HX3 HC hE HE HPE HPI HGE HNC k1
              go_wp2_with (first | ((go_at_call_of 17 xm); refine (kM _).mono ?_; rintro e w8 ⟨rfl, hw8⟩; rw [hw8]; clear hw8 w8) | (at_builtin; refine wpList_cat rfl (.tmp 92) (.tmp 98) rfl (L := T) (owns_below HOW.out ((Below.refl _ _).alloc (Nat.le_refl _) _)) (rd_one (by simp [World.setCell]) xt) (by have := HO.out.2.1; simp; omega) rfl rfl (by have := HSZ.out.1; simp [World.setCell]; omega) ?_; intro ao' c' m' w3 HA; have HN := hide_it (HNX.out ao' c' m' w3 HA)))
              go_roundw
              case rel => exact ⟨k + 1, m', c', ao', T ++ [xt], fr + B, true, by have := HV2.out.1; omega, rfl, rfl, rfl, HN.out.1, ⟨HA.out.1, by have := HO.out.2.1; simp; omega, HA.out.2.1, HN.out.2⟩, ⟨by omega, by omega⟩, ⟨fun h => HS1.out h.2, fun h => HS2.out (Int.not_le.1 (fun h2 => h ⟨rfl, h2⟩))⟩⟩
              case measure => have h1 := HA.out.1; have h2 := HO.out.1; have h3 := HV2.out.1; have h4 := HO.out.2.1; simp at h1; simp only [lenV]; omega
      · go_wp2_with ((go_at_call_of 17 mem); refine (k1 _).mono ?_; rintro e w8 ⟨rfl, hw8⟩; rw [hw8]; clear hw8 w8)
        go_loopw [18, 19] (fun bv iv W => ∃ (i : Nat) (b : Int), i ≤ n ∧ iv = .int .i64 i ∧ bv = .int .i64 b ∧ Hid (BestP l P i b) ∧ Hid (Below wo.heap.size wo W)) (fun _ iv _ => n - (intOf iv).toNat)
        case atStart => exact ⟨0, -1, Nat.zero_le _, rfl, rfl, bp_start, Below.refl _ _⟩
        case round =>
          obtain ⟨i, b, hi, rfl, rfl, HE, HBi⟩ := hrel
          by_cases hlt : i < n
          · have hil : i < l.length := by have := HL.out; omega
            have HBW : Hid (Below ob w wr) := HB.out.trans (HBi.out.mono HBS.out)
            have hrn : RunsIn wr la l := HR.out.below (by rw [HOB.out]; exact HBW.out)
            have cg : wr.cell? ⟨gb, i, none⟩ = some (.bool (decide (i ∈ G))) := (HBi.out.cell (p := ⟨gb, i, none⟩) (block_lt HG.out)).trans (HG.out.cell hlt)
            obtain ⟨lb, lo, hla, hlb, c0, c1, c2, c3, c4⟩ := hrn i hil
            rw [← at_get hil] at c0 c1 c2 c3 c4
            have HRN := hide_it hrn
            have HLB := hide_it hlb
            have HPX := hide_it (HPI.out i)
            obtain ⟨x, hx⟩ : ∃ x, x = at' l i := ⟨_, rfl⟩
            have HX := hide_it hx
            rw [← hx] at c0 c1 c2 c3 c4 HPX
            clear hx hrn hlb
            have hxx : x.p = x.p := rfl
            cases gg : decide (i ∈ G) with
            | true =>
              have HS : Hid (P i = false) := by rw [HPX.out, gg]; exact Bool.and_false _
              rw [gg] at cg
              clear gg HPX HX HRN
              obtain ⟨xt, xp, xm, xq, xs⟩ := x
              simp only [] at c0 c1 c2 c3 c4 hxx
              subst hla
              go_wp2
              go_roundw
              case rel => exact ⟨i + 1, b, by omega, by go_num, rfl, bp_skip HE.out HS.out, HBi.out⟩
              case measure => dsimp only [intOf]; omega
            | false =>
              rw [gg] at cg
              by_cases hp : prio ≤ x.p
              · have HS : Hid (P i = false) := by rw [HPX.out, not_may_p hp]; rfl
                clear gg HPX HX HRN
                obtain ⟨xt, xp, xm, xq, xs⟩ := x
                simp only [] at c0 c1 c2 c3 c4 hp hxx
                subst hla
                go_wp2
                go_roundw
                case rel => exact ⟨i + 1, b, by omega, by go_num, rfl, bp_skip HE.out HS.out, HBi.out⟩
                case measure => dsimp only [intOf]; omega
              · by_cases hq : most ≤ x.q
                · have HS : Hid (P i = false) := by rw [HPX.out, not_may_q hq]; rfl
                  clear gg HPX HX HRN
                  obtain ⟨xt, xp, xm, xq, xs⟩ := x
                  simp only [] at c0 c1 c2 c3 c4 hp hq hxx
                  subst hla
                  go_wp2
                  go_roundw
                  case rel => exact ⟨i + 1, b, by omega, by go_num, rfl, bp_skip HE.out HS.out, HBi.out⟩
                  case measure => dsimp only [intOf]; omega
                · have HS : Hid (P i = true) := by rw [HPX.out, is_may hp hq, gg]; rfl
                  clear gg HPX hxx
                  by_cases hb : b < 0
                  · obtain rfl : b = -1 := bp_neg HE.out hb
                    obtain ⟨xt, xp, xm, xq, xs⟩ := x
                    simp only [] at c0 c1 c2 c3 c4 hp hq
                    subst hla
                    go_wp2
                    go_roundw
                    case rel => exact ⟨i + 1, i, by omega, by go_num, rfl, bp_first HE.out HS.out, HBi.out⟩
                    case measure => dsimp only [intOf]; omega
                  · obtain ⟨p, rfl, hpi⟩ := bp_get HE.out hb
                    obtain ⟨lb', lo', hla', _, d0, d1, d2, d3, d4⟩ := HRN.out p (by omega)
                    rw [← at_get (show p < l.length by omega)] at d0 d1 d2 d3 d4
                    obtain ⟨rfl, rfl⟩ : lb = lb' ∧ lo = lo' := by rw [hla] at hla'; injection hla' with q; injection q with q1 q2; exact ⟨q1, q2⟩
                    clear hla'
                    obtain ⟨y, hy⟩ : ∃ y, y = at' l p := ⟨_, rfl⟩
                    have HTK := hide_it (fun h h' => bp_take (l := l) (P := P) (k := i) (p := p) h h')
                    have HKE := hide_it (fun h' => bp_keep (l := l) (P := P) (k := i) (p := p) HE.out h')
                    have HTA := hide_it (fun h' => bp_take (l := l) (P := P) (k := i) (p := p) HE.out HS.out h')
                    rw [← HX.out, ← hy] at HKE HTA
                    rw [← hy] at d0 d1 d2 d3 d4
                    clear HTK hy HX HRN
                    obtain ⟨xt, xp, xm, xq, xs⟩ := x
                    obtain ⟨yt, yp, ym, yq, ys⟩ := y
                    simp only [] at c0 c1 c2 c3 c4 d0 d1 d2 d3 d4 hp hq
                    have hpn : p < n := by omega
                    have la0 := cell_grown HLB.out c0
                    have la1 := cell_grown HLB.out c1
                    have la2 := cell_grown HLB.out c2
                    have la3 := cell_grown HLB.out c3
                    have la4 := cell_grown HLB.out c4
                    have lb0 := cell_grown HLB.out d0
                    have lb1 := cell_grown HLB.out d1
                    have lb2 := cell_grown HLB.out d2
                    have lb3 := cell_grown HLB.out d3
                    have lb4 := cell_grown HLB.out d4
                    subst hla
                    by_cases hr : rlt ⟨xt, xp, xm, xq, xs⟩ ⟨yt, yp, ym, yq, ys⟩
                    · have hc : ∀ n os, Calls Try.prog 18 #[.agg #[.int .i64 xt, .int .i64 xp, .int .i64 xm, .int .i64 xq, .int .i64 xs], .agg #[.int .i64 yt, .int .i64 yp, .int .i64 ym, .int .i64 yq, .int .i64 ys]] (grow (wr.drewN n) os) fun e w'' => e = .returned (.bool true) ∧ ∃ p : GrownBy, w'' = grow (wr.drewN p.n) p.os := fun n os => by
                        have h := ahead_any ⟨xt, xp, xm, xq, xs⟩ ⟨yt, yp, ym, yq, ys⟩ (grow (wr.drewN n) os)
                        rw [decide_eq_true hr] at h
                        exact Calls.grown_of h
                      go_wp2_with fail
                      go_quiet_grown ((go_at_call 18; exact hc _ _))
                      have HB9 : Hid (Below wr.heap.size wr (grow (wr.drewN nq) osq)) := below_grown wr nq osq
                      clear la0 la1 la2 la3 la4 lb0 lb1 lb2 lb3 lb4 hc
                      generalize grow (wr.drewN nq) osq = w9 at *
                      go_wp2
                      go_roundw
                      case rel => exact ⟨i + 1, i, by omega, by go_num, rfl, HTA.out hr, HBi.out.trans (HB9.out.mono HBi.out.size)⟩
                      case measure => dsimp only [intOf]; omega
                    · have hc : ∀ n os, Calls Try.prog 18 #[.agg #[.int .i64 xt, .int .i64 xp, .int .i64 xm, .int .i64 xq, .int .i64 xs], .agg #[.int .i64 yt, .int .i64 yp, .int .i64 ym, .int .i64 yq, .int .i64 ys]] (grow (wr.drewN n) os) fun e w'' => e = .returned (.bool false) ∧ ∃ p : GrownBy, w'' = grow (wr.drewN p.n) p.os := fun n os => by
                        have h := ahead_any ⟨xt, xp, xm, xq, xs⟩ ⟨yt, yp, ym, yq, ys⟩ (grow (wr.drewN n) os)
                        rw [decide_eq_false hr] at h
                        exact Calls.grown_of h
                      go_wp2_with fail
                      go_quiet_grown ((go_at_call 18; exact hc _ _))
                      have HB9 : Hid (Below wr.heap.size wr (grow (wr.drewN nq) osq)) := below_grown wr nq osq
                      clear la0 la1 la2 la3 la4 lb0 lb1 lb2 lb3 lb4 hc
                      generalize grow (wr.drewN nq) osq = w9 at *
                      go_wp2
                      go_roundw
                      case rel => exact ⟨i + 1, p, by omega, by go_num, rfl, HKE.out hr, HBi.out.trans (HB9.out.mono HBi.out.size)⟩
                      case measure => dsimp only [intOf]; omega
          · obtain rfl : i = n := by omega
            have HBW : Hid (Below ob w wr) := HB.out.trans (HBi.out.mono HBS.out)
            have hE : BestP l (leftB l prio most k) l.length b := by rw [HL.out, ← HPE.out]; exact HE.out
            by_cases hb : b < 0
            · have hA3 : A = none := by rw [HC.out, show V.drop k = [] from by rw [HV.out]; exact best_none hE hb]; rfl
              subst hA3
              clear HC hE HE HPE HPI
              go_wp2
              go_ret2
              refine ⟨none, 0, 0, rfl, ?_⟩
              rw [HAL.out]
              exact ⟨rfl, by rw [HOB.out]; exact HBW.out, World.ownsRow_nil _ _ _ _⟩
            · obtain ⟨p, rfl, hpn⟩ := bp_get HE.out hb
              have HV2 : Hid (k < V.length ∧ V.drop k = p :: V.drop (k + 1) ∧ V.take (k + 1) = G ++ [p]) := by
                obtain ⟨hkV, hVp⟩ := best_some hE
                rw [HGE.out, HV.out]
                refine ⟨hkV, ?_, ?_⟩
                · rw [List.drop_eq_getElem_cons hkV, hVp]
                · rw [left_next hkV, hVp]
              obtain ⟨lb, lo, hla, hlb, d0, d1, d2, d3, d4⟩ := HR.out p (by have := HL.out; omega)
              have hlo : lb < ob := by rw [← HOB.out]; exact hlb
              rw [← at_get (show p < l.length by have := HL.out; omega)] at d0 d1 d2 d3 d4
              have hck : ∀ j, wr.cell? ⟨lb, j, none⟩ = w.cell? ⟨lb, j, none⟩ := fun j => HBW.out.cell (p := ⟨lb, j, none⟩) hlo
              have c0 := (hck _).trans d0
              have c1 := (hck _).trans d1
              have c2 := (hck _).trans d2
              have c3 := (hck _).trans d3
              have c4 := (hck _).trans d4
              clear hck d0 d1 d2 d3 d4
              obtain ⟨x, hx⟩ : ∃ x, x = at' l p := ⟨_, rfl⟩
              rw [← hx] at c0 c1 c2 c3 c4
              have HX3 : Hid (A = onto T (tk need fr (x :: (V.drop (k + 1)).map (at' l)))) := by rw [HC.out, HV2.out.2.1, hx]; rfl
              clear hx
              have HGW : Hid (GoneAt wr gb i G) := (HBi.out.block gb (block_lt HG.out)).trans HG.out
              have cg : wr.cell? ⟨gb, p, none⟩ = some (.bool (decide (p ∈ G))) := HGW.out.cell hpn
              generalize decide (p ∈ G) = gq at cg
              have fz : ∀ j, wr.frozen? ⟨gb, j, none⟩ = false := fun j => by
                have h : wr.heap[gb]? = some (.cells _ 4) := HGW.out
                simp [World.frozen?, h]
              have hne : lb ≠ gb := by have := HGO.out; omega
              have hne' : gb ≠ lb := fun e => hne e.symm
              have HSZ : Hid (ob ≤ wr.heap.size ∧ gb < wr.heap.size) := ⟨by have h := HBW.out.size; rw [HOB.out] at h; exact h, block_lt HGW.out⟩
              have HOW : Hid ((wr.setCell ⟨gb, p, none⟩ (.bool true)).ownsRow ob 3 1 (.slice ao m c) T.length (ints T)) := by
                rw [← HO.out.1]
                exact owns_keep (owns_below HO.out.2.2.1 HBi.out) (fun q hq => Below.heap_setCell _ _ _ _ (HO.out.2.2.2 q hq))
              obtain ⟨xt, xp, xm, xq, xs⟩ := x
              simp only [] at c0 c1 c2 c3 c4
              have HNX : Hid (∀ ao' c' m' w3, Hid (m' = (T ++ [xt]).length ∧ w3.ownsRow ob 3 1 (.slice ao' m' c') m' (ints (T ++ [xt])) ∧ ((wr.setCell ⟨gb, p, none⟩ (.bool true)).alloc (.cells #[.int .i64 xt] 3)).grownBy w3 (Value.slice ao m c).ownBlock ∧ Fresh ((wr.setCell ⟨gb, p, none⟩ (.bool true)).alloc (.cells #[.int .i64 xt] 3)) (.slice ao m c) (.slice ao' m' c')) → (Below ob w w3 ∧ GoneAt w3 gb i (V.take (k + 1))) ∧ ∀ q, (Value.slice ao' m' c').ownBlock = some q → q ≠ gb) := fun ao' c' m' w3 h => by
                obtain ⟨e1, e2, e3, e4⟩ := h.out
                have hs : (wr.setCell ⟨gb, p, none⟩ (.bool true)).heap.size = wr.heap.size := by simp [World.setCell]
                have hs2 : ((wr.setCell ⟨gb, p, none⟩ (.bool true)).alloc (.cells #[.int .i64 xt] 3)).heap.size = wr.heap.size + 1 := by simp [World.setCell]
                obtain ⟨z1, z2⟩ := HSZ.out
                refine ⟨⟨?_, ?_⟩, fun q hq => ?_⟩
                · exact ((HBW.out.setCell (p := ⟨gb, p, none⟩) HGO.out _).alloc (by rw [hs]; exact z1) _).grown e3 (by rw [hs2]; omega) (fun q hq => (HOW.out.lt q hq).1)
                · rw [HV2.out.2.2]
                  have hp := HGW.out.put hpn
                  unfold GoneAt at hp ⊢
                  exact ((e3.block gb (by rw [hs2]; omega) (fun e => HO.out.2.2.2 gb e.symm rfl)).trans (Below.heap_alloc _ _ _ (by rw [hs]; exact z2))).trans hp
                · rcases e4 with e4 | ⟨z, e4, hz⟩
                  · rw [e4] at hq; exact HO.out.2.2.2 q hq
                  · rw [e4] at hq; cases hq; rw [hs2] at hz; omega
              have kM := fun W => memory_any xm W
              have hB1 := bnd_lo xm
              have hB2 := bnd_hi xm
              have HS1 := hide_it (fun h => onto_stop (T := T) (need := need) (free := fr) (x := ⟨xt, xp, xm, xq, xs⟩) (V := (V.drop (k + 1)).map (at' l)) h)
              have HS2 := hide_it (fun h => onto_go (T := T) (need := need) (free := fr) (x := ⟨xt, xp, xm, xq, xs⟩) (V := (V.drop (k + 1)).map (at' l)) h)
              simp only [] at HS1 HS2
              rw [← HX3.out] at HS1 HS2
              generalize bnd xm = B at *
              subst hla
              clear HX3 HC hE HE HPE HPI HGE HNC k1
              go_wp2_with (first | ((go_at_call_of 17 xm); refine (kM _).mono ?_; rintro e w8 ⟨rfl, hw8⟩; rw [hw8]; clear hw8 w8) | (at_builtin; refine wpList_cat rfl (.tmp 92) (.tmp 98) rfl (L := T) (owns_below HOW.out ((Below.refl _ _).alloc (Nat.le_refl _) _)) (rd_one (by simp [World.setCell]) xt) (by have := HO.out.2.1; simp; omega) rfl rfl (by have := HSZ.out.1; simp [World.setCell]; omega) ?_; intro ao' c' m' w3 HA; have HN := hide_it (HNX.out ao' c' m' w3 HA)))
              go_roundw
              case rel => exact ⟨k + 1, m', c', ao', T ++ [xt], fr + B, true, by have := HV2.out.1; omega, rfl, rfl, rfl, HN.out.1, ⟨HA.out.1, by have := HO.out.2.1; simp; omega, HA.out.2.1, HN.out.2⟩, ⟨by omega, by omega⟩, ⟨fun h => HS1.out h.2, fun h => HS2.out (Int.not_le.1 (fun h2 => h ⟨rfl, h2⟩))⟩⟩
              case measure => have h1 := HA.out.1; have h2 := HO.out.1; have h3 := HV2.out.1; have h4 := HO.out.2.1; simp at h1; simp only [lenV]; omega
end Go.Proofs.Ytebielckdloncaa
