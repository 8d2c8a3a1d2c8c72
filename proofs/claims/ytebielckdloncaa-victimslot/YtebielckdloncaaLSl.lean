/- VictimSlot, walked. -/
import Derived.Test.YtebielckdloncaaLMo
import Derived.Deep.CutRange
import Derived.Deep.CutBlock
namespace Go.Proofs.Ytebielckdloncaa
open Go.RowKit
open M
set_option linter.unusedVariables false
set_option linter.unusedSimpArgs false

/-- The best so far. -/
def Best (l : List R) (pr mo : Int) (k : Nat) (sb : Bool) (r : R) : Prop :=
  (sb = false ∧ ∀ j, j < k → mayB pr mo (at' l j) = false) ∨ (sb = true ∧ ∃ i, i < k ∧ mayB pr mo (at' l i) = true ∧ r = at' l i ∧ ∀ j, j < k → mayB pr mo (at' l j) = true → j ≠ i → plt l i j)
section
variable {l : List R} {pr mo : Int} {k : Nat} {sb : Bool} {r : R}
theorem best_start : Best l pr mo 0 false r := .inl ⟨rfl, fun j hj => by omega⟩
theorem best_skip (h : Best l pr mo k sb r) (hm : mayB pr mo (at' l k) = false) : Best l pr mo (k + 1) sb r := by
  rcases h with ⟨h1, h2⟩ | ⟨h1, i, h2, h3, h4, h5⟩
  · refine .inl ⟨h1, fun j hj => ?_⟩
    by_cases e : j = k
    · subst e; exact hm
    · exact h2 j (by omega)
  · refine .inr ⟨h1, i, by omega, h3, h4, fun j hj hj2 hj3 => ?_⟩
    by_cases e : j = k
    · subst e; rw [hm] at hj2; cases hj2
    · exact h5 j (by omega) hj2 hj3
theorem best_first (h : Best l pr mo k false r) (hm : mayB pr mo (at' l k) = true) : Best l pr mo (k + 1) true (at' l k) := by
  rcases h with ⟨_, h2⟩ | ⟨h1, _⟩
  · refine .inr ⟨rfl, k, by omega, hm, rfl, fun j hj hj2 hj3 => ?_⟩
    rw [h2 j (by omega)] at hj2; cases hj2
  · cases h1
theorem best_take (h : Best l pr mo k true r) (hm : mayB pr mo (at' l k) = true) (hr : rlt (at' l k) r) : Best l pr mo (k + 1) true (at' l k) := by
  rcases h with ⟨h1, _⟩ | ⟨_, i, h2, h3, h4, h5⟩
  · cases h1
  · have hk : plt l k i := .inl (by rw [← h4]; exact hr)
    refine .inr ⟨rfl, k, by omega, hm, rfl, fun j hj hj2 hj3 => ?_⟩
    by_cases e : j = i
    · subst e; exact hk
    · exact plt_trans hk (h5 j (by omega) hj2 e)
theorem best_keep (h : Best l pr mo k true r) (hr : ¬ rlt (at' l k) r) : Best l pr mo (k + 1) true r := by
  rcases h with ⟨h1, _⟩ | ⟨_, i, h2, h3, h4, h5⟩
  · cases h1
  · refine .inr ⟨rfl, i, by omega, h3, h4, fun j hj hj2 hj3 => ?_⟩
    by_cases e : j = k
    · subst e
      exact .inr ⟨by rw [← h4]; exact hr, h2⟩
    · exact h5 j (by omega) hj2 hj3
theorem best_end (h : Best l pr mo l.length sb r) (free : Int) : ansB l pr 0 free 0 mo = sb ∧ ansL l pr 0 free 0 mo = if sb = true then [r.t] else [] := by
  have hz : bnd 0 = 0 := by decide
  have hf := bnd_lo free
  unfold ansB ansL ans
  rw [if_neg (by omega), hz]
  rcases h with ⟨h1, h2⟩ | ⟨h1, i, h2, h3, h4, h5⟩
  · have hv : vrun l pr mo = [] := by unfold vrun; rw [vics_none h2]; rfl
    rw [hv, h1]; exact ⟨rfl, rfl⟩
  · obtain ⟨S, hS⟩ := vics_first h2 h3 h5
    have hv : vrun l pr mo = r :: S.map (at' l) := by unfold vrun; rw [hS, h4]; rfl
    have hb := bnd_lo r.m
    rw [hv, tk_cons, if_pos (by omega), h1]
    exact ⟨rfl, rfl⟩
end

theorem slot_room (l : List R) (pr free mo : Int) : ans l pr 0 free 1 mo = some [] := by
  have hf := bnd_lo free
  have hz : bnd 0 = 0 := by decide
  unfold ans
  rw [if_pos ⟨by omega, by omega⟩]
theorem best_put {w3 W : World} {bb : Nat} {v0 v1 v2 v3 v4 : Value} {a b c d e : Int} {X : Obj} (h : Turn (fun q => q = bb) w3 W) (hc : W.heap[bb]? = some (.cells #[v0, v1, v2, v3, v4] 27)) :
    Turn (fun q => q = bb) w3 ((((((W.setCell ⟨bb, 0, none⟩ (.int .i64 a)).setCell ⟨bb, 1, none⟩ (.int .i64 b)).setCell ⟨bb, 2, none⟩ (.int .i64 c)).setCell ⟨bb, 3, none⟩ (.int .i64 d)).setCell ⟨bb, 4, none⟩ (.int .i64 e)).alloc X) ∧ ((((((W.setCell ⟨bb, 0, none⟩ (.int .i64 a)).setCell ⟨bb, 1, none⟩ (.int .i64 b)).setCell ⟨bb, 2, none⟩ (.int .i64 c)).setCell ⟨bb, 3, none⟩ (.int .i64 d)).setCell ⟨bb, 4, none⟩ (.int .i64 e)).alloc X).heap[bb]? = some (.cells #[.int .i64 a, .int .i64 b, .int .i64 c, .int .i64 d, .int .i64 e] 27) := by
  refine ⟨(((((h.setCell (p := ⟨bb, 0, none⟩) (.inl rfl) _).setCell (p := ⟨bb, 1, none⟩) (.inl rfl) _).setCell (p := ⟨bb, 2, none⟩) (.inl rfl) _).setCell (p := ⟨bb, 3, none⟩) (.inl rfl) _).setCell (p := ⟨bb, 4, none⟩) (.inl rfl) _).alloc _, ?_⟩
  have h4 := heap_setCell_at (o := 4) (heap_setCell_at (o := 3) (heap_setCell_at (o := 2) (heap_setCell_at (o := 1) (heap_setCell_at (o := 0) hc (.int .i64 a)) (.int .i64 b)) (.int .i64 c)) (.int .i64 d)) (.int .i64 e)
  exact (Below.heap_alloc _ _ _ (block_lt h4)).trans h4

set_option maxRecDepth 1000000 in
set_option maxHeartbeats 8000000 in
theorem victimSlot_walk (l : List R) (la : Option Addr) (cap : Nat) (prio free most : Int) (w : World) (hR : RunsIn w la l) (hc : l.length ≤ cap) (hm : cap ≤ maxLen) (hn : la = none → l.length = 0 ∧ cap = 0)
    (b1 : -9223372036854775808 ≤ prio ∧ prio ≤ 9223372036854775807) (b3 : -9223372036854775808 ≤ free ∧ free ≤ 9223372036854775807) (b5 : -9223372036854775808 ≤ most ∧ most ≤ 9223372036854775807) :
    Calls Try.prog 7 #[.slice la l.length cap, .int .i64 prio, .int .i64 free, .int .i64 most] w fun e w' => e = .returned (.bool true) ∧ Below w.heap.size w w' := by
  have kS := shown_any w
  have kF := fun W (h : Below w.heap.size w W) => few_any l la l.length cap W rfl hc hm (hR.below h) hn
  have KF := hide_it kF
  clear kF hR hc hm hn
  obtain ⟨n0, hn0⟩ : ∃ n, l.length = n := ⟨_, rfl⟩
  rw [hn0] at KF ⊢
  go_enter Try.func7, Try.ntmps7
  go_wp2_with (first | (go_at_call 8; refine kS.mono ?_; rintro e w1 ⟨rfl, hb⟩; have H1 := hide_it hb; clear hb) | (go_at_call 9; refine (KF.out _ H1.out).mono ?_; rintro e w2 ⟨fa, fc, fm, rfl, HF⟩; refine Hid.out ?_))
  have hl30 : (l.take 30).length ≤ 30 := by rw [List.length_take]; omega
  obtain ⟨l', hl'⟩ : ∃ l', l' = l.take 30 := ⟨_, rfl⟩
  rw [← hl'] at hl30 HF
  have HL : Hid (l'.length = fm) := HF.out.1.symm
  have HR : Hid (RunsIn w2 fa l') := runs_own HF.out.2.2 HF.out.1
  have HB : Hid (Below w.heap.size w w2) := H1.out.trans (HF.out.2.1.mono H1.out.size)
  have hm30 : fm ≤ 30 := by have := HF.out.1; omega
  have HFB : Hid (∀ b o, fa = some ⟨b, o, none⟩ → 0 < fm → b < w2.heap.size) := fun b o e h0 => by
    obtain ⟨b', o', e', hb', _⟩ := HR.out 0 (by have := HL.out; omega)
    rw [e] at e'; cases e'; exact hb'
  have HQ : ∀ bb, bb = w2.heap.size → Below w2.heap.size w2 (w2.alloc (.cells #[.int .i64 0, .int .i64 0, .int .i64 0, .int .i64 0, .int .i64 0] 27)) ∧ (w2.alloc (.cells #[.int .i64 0, .int .i64 0, .int .i64 0, .int .i64 0, .int .i64 0] 27)).heap[bb]? = some (.cells #[.int .i64 0, .int .i64 0, .int .i64 0, .int .i64 0, .int .i64 0] 27) ∧ bb = w2.heap.size := by
    rintro _ rfl; exact ⟨(Below.refl _ _).alloc (Nat.le_refl _) _, heap_alloc_new w2 _, rfl⟩
  have HQ' := hide_it (HQ _ rfl)
  clear HQ HF KF hl30 hl' kS H1
  refine hide_it ?_
  go_upto_block 0 with fail
  generalize hbb : w2.heap.size = bb at *
  generalize hw3 : w2.alloc (.cells #[.int .i64 0, .int .i64 0, .int .i64 0, .int .i64 0, .int .i64 0] 27) = w3 at *
  have HBB : Hid (w2.heap.size = bb) := hbb
  have H3 : Hid (Below bb w2 w3) := HQ'.out.1
  have HB3 : Hid (w3.heap[bb]? = some (.cells #[.int .i64 0, .int .i64 0, .int .i64 0, .int .i64 0, .int .i64 0] 27)) := HQ'.out.2.1
  clear HQ' hw3 hbb
  go_wp2_with fail
  go_loopw [10, 12] (fun sm iv W => ∃ (k : Nat) (sb : Bool) (r : R), k ≤ fm ∧ iv = .int .i64 k ∧ sm = .bool sb ∧ Hid (Turn (fun q => q = bb) w3 W) ∧ Hid (W.heap[bb]? = some (.cells #[.int .i64 r.t, .int .i64 r.p, .int .i64 r.m, .int .i64 r.q, .int .i64 r.s] 27)) ∧ Hid (Best l' prio most k sb r)) (fun _ iv _ => fm - (intOf iv).toNat)
  case atStart => exact ⟨0, false, ⟨0, 0, 0, 0, 0⟩, Nat.zero_le _, rfl, rfl, Turn.refl _ _, HB3.out, best_start⟩
  case round =>
    obtain ⟨k, sb, r, hk, rfl, rfl, HT, HC, HE⟩ := hrel
    by_cases hlt : k < fm
    · have hlx : k < l'.length := by have := HL.out; omega
      have hrn : RunsIn wr fa l' := by
        have h3 : RunsIn w3 fa l' := HR.out.below (by rw [HBB.out]; exact H3.out)
        exact h3.keep HT.out.size (fun b o e => HT.out.block b (by have := HFB.out b o e (by omega); have := H3.out.size; have := HBB.out; omega) (by have := HFB.out b o e (by omega); omega))
      obtain ⟨lb, lo, hla, hlb, c0, c1, c2, c3, c4⟩ := hrn k hlx
      rw [← at_get hlx] at c0 c1 c2 c3 c4
      have HSK := hide_it (fun h => best_skip HE.out h)
      have HFI := hide_it (fun h h' => best_first (l := l') (pr := prio) (mo := most) (k := k) (r := r) h h')
      have HTA := hide_it (fun h h' h'' => best_take (l := l') (pr := prio) (mo := most) (k := k) (r := r) h h' h'')
      have HKE := hide_it (fun h h'' => best_keep (l := l') (pr := prio) (mo := most) (k := k) (r := r) h h'')
      have HMB := hide_it (mayB_iff (prio := prio) (most := most) (r := at' l' k))
      generalize at' l' k = x at *
      obtain ⟨xt, xp, xm, xq, xs⟩ := x
      obtain ⟨rt, rp, rm, rq, rs⟩ := r
      simp only [] at c0 c1 c2 c3 c4 HC HMB
      have HN : Hid (bb < wr.heap.size) := block_lt HC.out
      have d0 : wr.cell? ⟨bb, 0, none⟩ = some (.int .i64 rt) := by rw [cell_of_row wr bb 0 _ _ _ HC.out]; rfl
      have d1 : wr.cell? ⟨bb, 1, none⟩ = some (.int .i64 rp) := by rw [cell_of_row wr bb 1 _ _ _ HC.out]; rfl
      have d2 : wr.cell? ⟨bb, 2, none⟩ = some (.int .i64 rm) := by rw [cell_of_row wr bb 2 _ _ _ HC.out]; rfl
      have d3 : wr.cell? ⟨bb, 3, none⟩ = some (.int .i64 rq) := by rw [cell_of_row wr bb 3 _ _ _ HC.out]; rfl
      have d4 : wr.cell? ⟨bb, 4, none⟩ = some (.int .i64 rs) := by rw [cell_of_row wr bb 4 _ _ _ HC.out]; rfl
      have df : ∀ i, wr.frozen? ⟨bb, i, none⟩ = false := fun i => by simp [World.frozen?, HC.out]
      have hbn : bb ≠ wr.heap.size := by have := HN.out; omega
      have hbl : bb < wr.heap.size := HN.out
      subst hla
      have e0 : ∀ X : Obj, (wr.alloc X).heap[bb]? = some (.cells #[.int .i64 rt, .int .i64 rp, .int .i64 rm, .int .i64 rq, .int .i64 rs] 27) := fun X => (Below.heap_alloc _ _ _ hbl).trans HC.out
      have HE0 := hide_it e0
      have HPUT := hide_it (fun a b c d e X => best_put (X := X) (a := a) (b := b) (c := c) (d := d) (e := e) HT.out HC.out)
      clear e0
      by_cases h1 : xp < prio ∧ xq < most
      · obtain ⟨h1, h2⟩ := h1
        have h1' : ¬ prio ≤ xp := by omega
        have h2' : ¬ most ≤ xq := by omega
        have HM1 : Hid (mayB prio most ⟨xt, xp, xm, xq, xs⟩ = true) := HMB.out.2 ⟨h1, h2⟩
        cases sb with
        | false =>
          go_wp2
          go_roundw
          case rel =>
            obtain ⟨p1, p2⟩ := HPUT.out xt xp xm xq xs (.cells #[.int .i64 xt, .int .i64 xp, .int .i64 xm, .int .i64 xq, .int .i64 xs] 27)
            exact ⟨k + 1, true, ⟨xt, xp, xm, xq, xs⟩, by omega, by go_num, rfl, p1, p2, HFI.out HE.out HM1.out⟩
          case measure => simp [intOf]; omega
        | true =>
          by_cases g1 : xp < rp
          · have g1' : ¬ xp = rp := by omega
            have hr : rlt ⟨xt, xp, xm, xq, xs⟩ ⟨rt, rp, rm, rq, rs⟩ := .inl g1
            have HRL := hide_it (HTA.out HE.out HM1.out hr)
            clear hr
            go_wp2
            go_roundw
            case rel =>
              obtain ⟨p1, p2⟩ := HPUT.out xt xp xm xq xs (.cells #[.int .i64 xt, .int .i64 xp, .int .i64 xm, .int .i64 xq, .int .i64 xs] 27)
              exact ⟨k + 1, true, ⟨xt, xp, xm, xq, xs⟩, by omega, by go_num, rfl, p1, p2, HRL.out⟩
            case measure => simp [intOf]; omega
          · by_cases g2 : xp = rp
            · subst g2
              by_cases g3 : rs < xs
              · have hr : rlt ⟨xt, xp, xm, xq, xs⟩ ⟨rt, xp, rm, rq, rs⟩ := .inr ⟨rfl, .inl g3⟩
                have HRL := hide_it (HTA.out HE.out HM1.out hr)
                clear hr
                go_wp2
                go_roundw
                case rel =>
                  obtain ⟨p1, p2⟩ := HPUT.out xt xp xm xq xs (.cells #[.int .i64 xt, .int .i64 xp, .int .i64 xm, .int .i64 xq, .int .i64 xs] 27)
                  exact ⟨k + 1, true, ⟨xt, xp, xm, xq, xs⟩, by omega, by go_num, rfl, p1, p2, HRL.out⟩
                case measure => simp [intOf]; omega
              · by_cases g4 : xs = rs
                · subst g4
                  by_cases g5 : rt < xt
                  · have hr : rlt ⟨xt, xp, xm, xq, xs⟩ ⟨rt, xp, rm, rq, xs⟩ := .inr ⟨rfl, .inr ⟨rfl, g5⟩⟩
                    have HRL := hide_it (HTA.out HE.out HM1.out hr)
                    clear hr
                    go_wp2
                    go_roundw
                    case rel =>
                      obtain ⟨p1, p2⟩ := HPUT.out xt xp xm xq xs (.cells #[.int .i64 xt, .int .i64 xp, .int .i64 xm, .int .i64 xq, .int .i64 xs] 27)
                      exact ⟨k + 1, true, ⟨xt, xp, xm, xq, xs⟩, by omega, by go_num, rfl, p1, p2, HRL.out⟩
                    case measure => simp [intOf]; omega
                  · have hr : ¬ rlt ⟨xt, xp, xm, xq, xs⟩ ⟨rt, xp, rm, rq, xs⟩ := by unfold rlt; simp only []; omega
                    have HRL := hide_it (HKE.out HE.out hr)
                    clear hr
                    go_wp2
                    go_roundw
                    case rel => exact ⟨k + 1, true, ⟨rt, xp, rm, rq, xs⟩, by omega, by go_num, rfl, HT.out.alloc _, HE0.out _, HRL.out⟩
                    case measure => simp [intOf]; omega
                · have hr : ¬ rlt ⟨xt, xp, xm, xq, xs⟩ ⟨rt, xp, rm, rq, rs⟩ := by unfold rlt; simp only []; omega
                  have HRL := hide_it (HKE.out HE.out hr)
                  clear hr
                  go_wp2
                  go_roundw
                  case rel => exact ⟨k + 1, true, ⟨rt, xp, rm, rq, rs⟩, by omega, by go_num, rfl, HT.out.alloc _, HE0.out _, HRL.out⟩
                  case measure => simp [intOf]; omega
            · have hr : ¬ rlt ⟨xt, xp, xm, xq, xs⟩ ⟨rt, rp, rm, rq, rs⟩ := by unfold rlt; simp only []; omega
              have HRL := hide_it (HKE.out HE.out hr)
              clear hr
              go_wp2
              go_roundw
              case rel => exact ⟨k + 1, true, ⟨rt, rp, rm, rq, rs⟩, by omega, by go_num, rfl, HT.out.alloc _, HE0.out _, HRL.out⟩
              case measure => simp [intOf]; omega
      · have HM0 : Hid (mayB prio most ⟨xt, xp, xm, xq, xs⟩ = false) := by
          cases q : mayB prio most ⟨xt, xp, xm, xq, xs⟩ with
          | false => exact rfl
          | true => exact absurd (HMB.out.1 q) h1
        have HRL := hide_it (HSK.out HM0.out)
        by_cases h2 : prio ≤ xp
        · clear h1
          go_wp2
          go_roundw
          case rel => exact ⟨k + 1, sb, ⟨rt, rp, rm, rq, rs⟩, by omega, by go_num, rfl, HT.out.alloc _, HE0.out _, HRL.out⟩
          case measure => simp [intOf]; omega
        · have h3 : most ≤ xq := by
            rcases Int.lt_or_le xq most with q | q
            · exact absurd ⟨by omega, q⟩ h1
            · exact q
          clear h1
          go_wp2
          go_roundw
          case rel => exact ⟨k + 1, sb, ⟨rt, rp, rm, rq, rs⟩, by omega, by go_num, rfl, HT.out.alloc _, HE0.out _, HRL.out⟩
          case measure => simp [intOf]; omega
    · obtain rfl : k = fm := by omega
      obtain ⟨z1, z2⟩ := best_end (l := l') (pr := prio) (mo := most) (sb := sb) (r := r) (by rw [HL.out]; exact HE.out) free
      have hrn : RunsIn wr fa l' := by
        have h3 : RunsIn w3 fa l' := HR.out.below (by rw [HBB.out]; exact H3.out)
        intro i hi
        exact (h3.keep HT.out.size (fun b o e => HT.out.block b (by have := HFB.out b o e (by have := HL.out; omega); have := H3.out.size; have := HBB.out; omega) (by have := HFB.out b o e (by have := HL.out; omega); omega))) i hi
      have kA : Calls Try.prog 10 #[.slice fa k fc, .int .i64 prio, .int .i64 0, .int .i64 free, .int .i64 1, .int .i64 most] wr fun e w' => ∃ ao c, e = .returned (.tuple #[.slice ao 0 c, .bool true]) ∧ Hid (Below wr.heap.size wr w' ∧ Rd w' ao [] c) := choose_at HL.out (by omega) hrn (by have := vics_len l' prio most; have := HL.out; omega) (by unfold ansL; rw [slot_room]; rfl) (by unfold ansB; rw [slot_room]; rfl) rfl
      have HRN := hide_it hrn
      have HWB : Hid (Below w.heap.size w wr) := by
        have h2 : Below w2.heap.size w2 w3 := by rw [HBB.out]; exact H3.out
        have h3 : Below w2.heap.size w3 wr := HT.out.below h2.size (fun q hq => by subst hq; rw [HBB.out]; exact Nat.le_refl _)
        exact HB.out.trans ((h2.trans h3).mono HB.out.size)
      have HN : Hid (bb < wr.heap.size) := block_lt HC.out
      cases sb with
      | false =>
        rw [if_neg (by decide)] at z2
        have kB : ∀ W, RunsIn W fa l' → Calls Try.prog 10 #[.slice fa k fc, .int .i64 prio, .int .i64 0, .int .i64 free, .int .i64 0, .int .i64 most] W fun e w' => ∃ ao c, e = .returned (.tuple #[.slice ao 0 c, .bool false]) ∧ Hid (Below W.heap.size W w' ∧ Rd w' ao [] c) := fun W h => choose_at HL.out (by omega) h (by have := vics_len l' prio most; have := HL.out; omega) z2 z1 rfl
        have KB := hide_it kB
        clear kB hrn z1 z2 HE
        go_wp2_with (go_at_call 10; refine kA.mono ?_; rintro e w5 ⟨a5, c5, rfl, h5⟩; refine Hid.out ?_)
        refine hide_it ?_
        go_wp2_with (go_at_call 10; refine (KB.out _ (HRN.out.below h5.out.1)).mono ?_; rintro e w6 ⟨a6, c6, rfl, h6⟩)
        go_ret
        exact ⟨rfl, HWB.out.trans ((h5.out.1.trans (h6.out.1.mono h5.out.1.size)).mono HWB.out.size)⟩
      | true =>
        rw [if_pos rfl] at z2
        have kB : ∀ W, RunsIn W fa l' → Calls Try.prog 10 #[.slice fa k fc, .int .i64 prio, .int .i64 0, .int .i64 free, .int .i64 0, .int .i64 most] W fun e w' => ∃ ao c, e = .returned (.tuple #[.slice ao 1 c, .bool true]) ∧ Hid (Below W.heap.size W w' ∧ Rd w' ao [r.t] c) := fun W h => choose_at HL.out (by omega) h (by have := vics_len l' prio most; have := HL.out; omega) z2 z1 rfl
        have KB := hide_it kB
        obtain ⟨rt, rp, rm, rq, rs⟩ := r
        simp only [] at KB HC
        clear kB hrn z1 z2 HE
        go_wp2_with (go_at_call 10; refine kA.mono ?_; rintro e w5 ⟨a5, c5, rfl, h5⟩; refine Hid.out ?_)
        refine hide_it ?_
        go_wp2_with (go_at_call 10; refine (KB.out _ (HRN.out.below h5.out.1)).mono ?_; rintro e w6 ⟨a6, c6, rfl, h6⟩; refine Hid.out ?_)
        have H6 : Hid (Below wr.heap.size wr w6) := h5.out.1.trans (h6.out.1.mono h5.out.1.size)
        have d0 : w6.cell? ⟨bb, 0, none⟩ = some (.int .i64 rt) := by
          rw [H6.out.cell (p := ⟨bb, 0, none⟩) HN.out, cell_of_row wr bb 0 _ _ _ HC.out]; rfl
        refine hide_it ?_
        go_wp2_with (go_at_call 12; refine (same_true (h6.out.2.below ((Below.refl _ _).alloc (Nat.le_refl _) _)) (rd_one rfl rt) (by simp) rfl).mono ?_; rintro e w7 ⟨rfl, hb7⟩; have H7 := hide_it hb7; clear hb7)
        go_ret
        have h1 := HWB.out.trans (H6.out.mono HWB.out.size)
        have h2 := h1.alloc h1.size (.cells #[.int .i64 rt] 3)
        exact ⟨rfl, h2.trans (H7.out.mono h2.size)⟩
end Go.Proofs.Ytebielckdloncaa
