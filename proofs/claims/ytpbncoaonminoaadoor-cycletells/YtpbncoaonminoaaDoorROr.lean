/- The document's Order. -/
import Derived.Test.YtpbncoaonminoaaDoorRPa
import Derived.Test.YtpbncoaonminoaaDoorOrM
namespace Go.Proofs.YtpbncoaonminoaaDoor
open Go.RowKit
open M
set_option linter.unusedVariables false
set_option linter.unusedSimpArgs false

theorem T3.set {w W : World} {n : Nat} {p p' : Nat → Bool} {u : Value} {L : List Nat} (h : T3 w W n p u L) (j : Nat) (hj : j < n) (hp : markB p j = p') : T3 w (W.setCell ⟨w.heap.size + 1, j, none⟩ (.bool true)) n p' u L := by
  subst hp
  refine ⟨h.bel.setCell (by show w.heap.size ≤ w.heap.size + 1; omega) _, ?_, owns_keep h.own (fun k hk => Below.heap_setCell _ _ _ _ ?_), h.ne⟩
  · rw [heap_setCell_at h.blk, sRow_set n p j hj]
  · show k ≠ w.heap.size + 1
    exact fun e => h.ne (by rw [hk, e])
theorem T3.cell {w W : World} {n : Nat} {p : Nat → Bool} {u : Value} {L : List Nat} (h : T3 w W n p u L) (i : Nat) (hi : i < n) : W.cell? ⟨w.heap.size + 1, i, none⟩ = some (.bool (p i)) := by
  rw [cell_of_row W _ i _ _ _ h.blk]; exact sRow_at n p i hi
theorem T3.fro {w W : World} {n : Nat} {p : Nat → Bool} {u : Value} {L : List Nat} (h : T3 w W n p u L) (i : Nat) : W.frozen? ⟨w.heap.size + 1, i, none⟩ = false := by simp [World.frozen?, h.blk]
def inB (S : List Nat) (t : Nat) : Bool := decide (t ∈ S)
theorem inB_mark (S : List Nat) (k : Nat) : markB (inB S) k = inB (S ++ [k]) := by
  funext t
  unfold markB inB
  rw [Bool.eq_iff_iff]
  simp
/-- May a task stand, as far as edges were looked at? -/
def mayK (es : List E) (S : List Nat) (a k : Nat) : Bool := !inB S a && (es.take k).all (fun e => !decide (e.1 = a) || inB S e.2)
theorem mayK_step {es : List E} {S : List Nat} {a k : Nat} (h : k < es.length) : mayK es S a (k + 1) = (mayK es S a k && (!decide (es[k].1 = a) || inB S es[k].2)) := by
  unfold mayK
  rw [List.take_succ_eq_append_getElem h, List.all_append, Bool.and_assoc]
  simp
theorem mayK_all {es : List E} {S : List Nat} {a k : Nat} (h : es.length ≤ k) : mayK es S a k = nextP es S a := by
  unfold mayK
  rw [List.take_of_length_le h, Bool.eq_iff_iff, nextP_iff, Bool.and_eq_true, List.all_eq_true]
  constructor
  · rintro ⟨h1, h2⟩
    refine ⟨by simpa [inB] using h1, fun x hx => ?_⟩
    have := h2 (a, x) hx
    simpa [inB] using this
  · rintro ⟨h1, h2⟩
    refine ⟨by simpa [inB] using h1, fun e he => ?_⟩
    obtain ⟨x, y⟩ := e
    by_cases hxa : x = a
    · subst hxa
      have := h2 y he
      simp [inB, this]
    · simp [hxa]
/-- The least task that may stand, of the first ones. -/
def nO (es : List E) (S : List Nat) (a : Nat) : Int := match (List.range a).find? (nextP es S) with
  | some t => (t : Int)
  | none => -1
theorem nO_step (es : List E) (S : List Nat) (a : Nat) : nO es S (a + 1) = if nextP es S a = true ∧ nO es S a < 0 then (a : Int) else nO es S a := by
  unfold nO
  rw [List.range_succ, List.find?_append]
  cases h : (List.range a).find? (nextP es S) with
  | some t =>
    have : ¬ ((t : Int) < 0) := by omega
    simp [this]
  | none =>
    by_cases hp : nextP es S a = true
    · simp [hp]
    · simp [hp]

set_option maxRecDepth 1000000 in
set_option maxHeartbeats 8000000 in
theorem rorder_any {w : World} {r n : Nat} {v : Value} {es : List E} (h : RM w r n v es) (hn : n ≤ 64) (hg : ∀ e ∈ es, e.1 < n ∧ e.2 < n) (hle : es.length ≤ 1000000) :
    Calls Tryd.prog 14 #[ptr r] w fun e w' => ∃ u, e = .returned (.tuple #[u, .bool (orderB es n)]) ∧ OwnI w' w.heap.size u (orderL es n) ∧ Below w.heap.size w w' := by
  obtain ⟨i0, hi, hz0, hz1, hz2⟩ := info_parts info3
  have HG := hide_it hg
  have HR := hide_it h
  have hk : ∀ W : World, (Instr.makeSlice 57 (.int .i64 n) (.int .i64 n)).run Tryd.prog W = .ok (.slice (some ⟨W.heap.size, 0, none⟩) n n) (W.alloc (.cells (madeCells #[.bool false] n) 4)) := fun W =>
    run_make_row' 57 4 (.bool false) 1 Tryd.underlying57 info4 rfl .i64 .i64 n (by omega) (by omega) W
  simp only [sRow_new] at hk
  have hb : Below w.heap.size w (w.alloc (.cells #[] 3)) := (Below.refl _ _).alloc (Nat.le_refl _) _
  have e0 := (h.below hb).c0
  have hT3 : Hid (T3 w ((w.alloc (.cells #[] 3)).alloc (.cells (sRow n (fun _ => false)) 4)) n (inB []) (.slice (some ⟨w.heap.size, 0, none⟩) 0 0) []) := by
    refine ⟨hb.alloc (by simp) _, ?_, (own_new w).alloc _, by simp [Value.ownBlock]⟩
    have e : inB [] = fun _ => false := by funext t; simp [inB]
    rw [e]
    exact heap_alloc_at (by simp) _
  obtain ⟨ao, cap, rfl, hE⟩ := h.eat
  have HE := hide_it hE
  obtain ⟨m, hm⟩ : ∃ m, es.length = m := ⟨_, rfl⟩
  have HM := hide_it hm
  rw [hm] at hle
  clear h hg hE hm hb
  go_enter Tryd.func14, Tryd.ntmps14
  go_wp2
  go_loopg [4] n (fun gk u W => ∃ ao4 cap4 S, u = .slice ao4 S.length cap4 ∧ gk = n - S.length ∧ Hid (OI es n S) ∧ Hid (T3 w W n (inB S) (.slice ao4 S.length cap4) S))
  case atStart => exact ⟨_, _, [], rfl, by simp, OI.start es n, hT3⟩
  case round =>
    obtain ⟨ao4, cap4, S, rfl, rfl, HI, H3⟩ := hrel
    clear hT3 e0 hk
    have c0 := (HR.out.below H3.out.bel).c0
    have c1 := (HR.out.below H3.out.bel).c1
    rw [HM.out] at c1
    have hSl := HI.out.len
    by_cases hlt : S.length < n
    · go_wp2
      go_loop [6, 7] (fun nx i => ∃ a : Nat, a ≤ n ∧ i = .int .i64 a ∧ nx = .int .i64 (nO es S a)) (fun _ i => n - (intOf i).toNat)
      case atStart => exact ⟨0, Nat.zero_le _, rfl, rfl⟩
      case round =>
        obtain ⟨a, ha, rfl, rfl⟩ := hrel
        by_cases han : a < n
        · have ca := H3.out.cell a han
          have HST := hide_it (nO_step es S a)
          have HMA : Hid (mayK es S a m = nextP es S a) := mayK_all (by rw [HM.out]; exact Nat.le_refl _)
          obtain ⟨nv, hnv⟩ : ∃ nv, nO es S a = nv := ⟨_, rfl⟩
          rw [hnv] at HST ⊢
          clear hnv
          have hm0 : Hid (mayK es S a 0 = !inB S a) := by unfold Hid mayK; simp
          go_wp2
          go_loop [8, 9] (fun mv i => ∃ k : Nat, k ≤ m ∧ i = .int .i64 k ∧ mv = .bool (mayK es S a k)) (fun _ i => m - (intOf i).toNat)
          case atStart => exact ⟨0, Nat.zero_le _, rfl, by rw [hm0.out]⟩
          case round =>
            obtain ⟨k, hk, rfl, rfl⟩ := hrel
            clear ca hm0
            by_cases hkm : k < m
            · have hlx : k < es.length := by rw [HM.out]; exact hkm
              obtain ⟨rb, rfl, hrw, e1, e2⟩ := (HE.out.below H3.out.bel) k hlx
              obtain ⟨hx, hy⟩ := HG.out _ (List.getElem_mem hlx)
              have HKS := hide_it (mayK_step (S := S) (a := a) hlx)
              generalize es[k] = ed at *
              obtain ⟨x, y⟩ := ed
              simp only at e1 e2 hx hy HKS
              have cy := H3.out.cell y hy
              generalize mayK es S a k = mk at *
              by_cases hxa : x = a
              · subst hxa
                cases hyS : inB S y with
                | true =>
                  rw [hyS] at cy HKS
                  clear hyS
                  go_wp2
                  go_round
                  case rel => exact ⟨k + 1, by omega, by go_num, by rw [HKS.out]; simp⟩
                  case measure => simp [intOf]; omega
                | false =>
                  rw [hyS] at cy HKS
                  clear hyS
                  go_wp2
                  go_round
                  case rel => exact ⟨k + 1, by omega, by go_num, by rw [HKS.out]; simp⟩
                  case measure => simp [intOf]; omega
              · have hxa1 : ((x : Int) == (a : Int)) = false := by rw [beq_eq_false_iff_ne]; omega
                have hxa2 : ¬ ((x : Int) = (a : Int)) := by omega
                generalize inB S y = by1 at *
                go_wp2
                go_round
                case rel => exact ⟨k + 1, by omega, by go_num, by rw [HKS.out]; simp [hxa]⟩
                case measure => simp [intOf]; omega
            · have ek : mayK es S a k = nextP es S a := mayK_all (by rw [HM.out]; omega)
              rw [ek]
              clear ek
              cases hp : nextP es S a with
              | true =>
                rw [hp] at HST
                by_cases hneg : nv < 0
                · rw [if_pos ⟨rfl, hneg⟩] at HST
                  have hneg1 : decide (nv < 0) = true := by simpa using hneg
                  clear hp HMA
                  go_wp2
                  go_round
                  case rel => exact ⟨a + 1, by omega, by go_num, by rw [HST.out]⟩
                  case measure => simp [intOf]; omega
                · rw [if_neg (fun z => hneg z.2)] at HST
                  have hneg1 : decide (nv < 0) = false := by simpa using hneg
                  clear hp HMA
                  go_wp2
                  go_round
                  case rel => exact ⟨a + 1, by omega, by go_num, by rw [HST.out]⟩
                  case measure => simp [intOf]; omega
              | false =>
                rw [hp] at HST
                rw [if_neg (fun z => by cases z.1)] at HST
                clear hp HMA
                go_wp2
                go_round
                case rel => exact ⟨a + 1, by omega, by go_num, by rw [HST.out]⟩
                case measure => simp [intOf]; omega
        · have ean : a = n := by omega
          have hnx : nO es S a = (match nextO es n S with | some t => (t : Int) | none => -1) := by rw [ean]; rfl
          rw [hnx]
          clear hnx ean
          cases hq : nextO es n S with
          | none =>
            have HF : Hid (S = ordS es n) := HI.out.fin (fun i hi => by
              have := List.find?_eq_none.1 hq i (List.mem_range.2 hi)
              simpa using this)
            clear hq
            go_wp2
            go_ret2
            have e := HF.out
            have hlt2 := hlt
            rw [e] at hlt2
            refine ⟨.slice none 0 0, ?_, ?_, H3.out.bel⟩
            · have eb : orderB es n = false := decide_eq_false (by omega)
              rw [eb]
              rfl
            · unfold orderL; rw [if_pos hlt2]; exact owns_nil _ _
          | some t =>
            have hp : nextP es S t = true := by simpa using List.find?_some hq
            have htn : t < n := by simpa using List.mem_of_find?_eq_some hq
            have HI2 := hide_it (HI.out.snoc htn hp (fun i hi => by
              have h1 := (List.find?_range_eq_some.1 hq).2.2 i hi
              simpa using h1))
            have ct := H3.out.cell t htn
            have ft := H3.out.fro t
            have H4 := hide_it (H3.out.set t htn (inB_mark S t))
            have hs4 := H4.out.bel.size
            clear hq hp
            generalize inB S t = bt at *
            go_wp2_with (at_builtin; (refine wpList_append_tell _ rfl (.tmp 80) (.tmp 82) 33 rfl w.heap.size 3 i0 _ 1 8 Tryd.underlying33 hi hz0 hz1 hz2 rfl (by decide) _ S.length (S.map fun x => Value.int .i64 (x : Nat)) rfl (H4.out.own.alloc _) ⟨_, 0, none⟩ 1 1 [.int .i64 t] rfl rfl (World.news_of_block (heap_alloc_at (by simp) _)) (by simp [Value.oneCell']) (by unfold maxLen; omega) (by omega) (by simp at hs4 ⊢; omega) ?_; intro v' w2 hown' hgrow hfr; have H5 := hide_it (H4.out.app hown' hgrow hfr); obtain ⟨ao5, cap5, rfl, _⟩ := own_iat H5.out.own; clear hown' hgrow hfr))
            go_roundg (n - (S.length + 1))
            case measure => omega
            case rel =>
              have e : (S ++ [t]).length = S.length + 1 := by simp
              exact ⟨ao5, cap5, S ++ [t], by rw [e], by rw [e], HI2, H5⟩
    · have ho := H3.out.own
      go_wp2
      go_ret2
      have e : S = ordS es n := by
        have := HI.out.go
        rw [show n - S.length = 0 by omega] at this
        exact this
      have hl2 : ¬ (ordS es n).length < n := by rw [← e]; exact hlt
      refine ⟨.slice ao4 S.length cap4, ?_, ?_, H3.out.bel⟩
      · have eb : orderB es n = true := decide_eq_true (by omega)
        rw [eb]
        rfl
      · unfold orderL; rw [if_neg hl2, ← e]; exact ho
end Go.Proofs.YtpbncoaonminoaaDoor
