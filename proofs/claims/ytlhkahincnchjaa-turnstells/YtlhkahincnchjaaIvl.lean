/- What a Join and a Leave keep; at most ten wants, of small costs. -/
import Derived.Test.YtlhkahincnchjaaSho
import Derived.Test.YtlhkahincnchjaaArg
import Derived.RegionTactic
import Derived.Deep.CutRange
import Derived.Deep.CutBlock
namespace Go.Proofs.Ytlhkahincnchjaa
open Go.RowKit
open M
set_option linter.unusedVariables false
set_option linter.unusedSimpArgs false

theorem joinX_no {x : Tn} {id wt : Int} (h : joinE x id wt ≠ 0) : joinX x id wt = x := by unfold joinX; rw [if_neg h]
theorem joinX_yes {x : Tn} {id wt : Int} (h : joinE x id wt = 0) : joinX x id wt = { x with n := x.n + 1, I := upd x.I x.n id, W := upd x.W x.n wt, C := upd x.C x.n 0 } ∧ (1 ≤ wt ∧ wt ≤ 100) ∧ ∀ j, j < x.n → x.I j ≠ id := by
  unfold joinE at h
  split at h
  · omega
  · rename_i h1
    split at h
    · omega
    · rename_i h2
      refine ⟨by unfold joinX joinE; rw [if_neg h1, if_neg h2]; rfl, by omega, fun j hj e => ?_⟩
      rcases plc_cases x id with ⟨k, _, _, _, h4⟩ | ⟨h3, _⟩
      · omega
      · exact h3 j hj e
theorem gd_join {M : Int} {N : Nat} {x : Tn} (h : Gd M N x) (hM : 1 ≤ M) (hN : N ≤ 1000000) {id : Int} (hid : i64B id) (wt : Int) : Gd M (N + 1) (joinX x id wt) := by
  by_cases he : joinE x id wt = 0
  · obtain ⟨e, hw, hne⟩ := joinX_yes he
    have hl := h.len
    rw [e]
    refine ⟨⟨h.iv.q1, h.iv.q2, fun j hj => ?_, fun j hj => ?_, fun j hj hk => ?_, fun hk => ?_, fun hk => ?_, fun e => by simp at e⟩, by show x.n + 1 ≤ N + 1; omega, fun j hj => ?_⟩
    · show 1 ≤ upd x.W x.n wt j ∧ upd x.W x.n wt j ≤ 100
      by_cases q : j = x.n
      · rw [q, upd_same]; exact hw
      · rw [upd_other _ _ q]; exact h.iv.w j (by have : j < x.n + 1 := hj; omega)
    · show 0 ≤ upd x.C x.n 0 j
      by_cases q : j = x.n
      · rw [q, upd_same]; omega
      · rw [upd_other _ _ q]; exact h.iv.c0 j (by have : j < x.n + 1 := hj; omega)
    · show upd x.C x.n 0 j < M
      by_cases q : j = x.n
      · rw [q, upd_same]; omega
      · rw [upd_other _ _ q]; exact h.iv.cM j (by have : j < x.n + 1 := hj; omega) hk
    · show upd x.C x.n 0 x.k < M + x.q * upd x.W x.n wt x.k
      by_cases q : x.k = x.n
      · rw [q, upd_same, upd_same]
        have := gain_bnd h.iv.q1 h.iv.q2 hw.1 hw.2
        omega
      · rw [upd_other _ _ q, upd_other _ _ q]
        have hk2 : x.k < x.n + 1 := hk
        exact h.iv.ck (by omega)
    · show x.k < x.n + 1
      by_cases q : x.n = 0
      · rw [h.iv.k0 q]; omega
      · have := h.iv.kn (by omega); omega
    · show i64B (upd x.I x.n id j)
      by_cases q : j = x.n
      · rw [q, upd_same]; exact hid
      · rw [upd_other _ _ q]; exact h.ids j (by have : j < x.n + 1 := hj; omega)
  · rw [joinX_no he]
    exact ⟨h.iv, by have := h.len; omega, h.ids⟩
theorem leaveX_no {x : Tn} {id : Int} (h : ¬ 0 ≤ plc x id) : leaveX x id = x := by unfold leaveX; rw [if_neg h]
theorem leaveX_yes {x : Tn} {id : Int} {i : Nat} (h : plc x id = (i : Int)) : leaveX x id = { lessX x i with k := if (if i < x.k then x.k - 1 else x.k) = x.n - 1 then 0 else (if i < x.k then x.k - 1 else x.k) } := by
  unfold leaveX
  rw [h, if_pos (Int.natCast_nonneg i), Int.toNat_natCast]
theorem gd_leave {M : Int} {N : Nat} {x : Tn} (h : Gd M N x) (hM : 1 ≤ M) (id : Int) : Gd M N (leaveX x id) := by
  rcases plc_cases x id with ⟨i, hi, _, _, e⟩ | ⟨_, e⟩
  · rw [leaveX_yes e]
    have hk := h.iv.kn (by omega)
    have hl := h.len
    -- where a place came from
    have ho : ∀ (f : Nat → Int) (j : Nat), del f i j = f (if j < i then j else j + 1) := fun f j => by
      unfold del
      split <;> rfl
    obtain ⟨k', ek⟩ : ∃ k', (if (if i < x.k then x.k - 1 else x.k) = x.n - 1 then 0 else (if i < x.k then x.k - 1 else x.k)) = k' := ⟨_, rfl⟩
    have hk1 : x.n - 1 = 0 → k' = 0 := fun q => by
      rw [← ek]
      by_cases c : i < x.k
      · rw [if_pos c]; split <;> omega
      · rw [if_neg c]; split <;> omega
    have hk2 : 0 < x.n - 1 → k' < x.n - 1 := fun q => by
      rw [← ek]
      by_cases c : i < x.k
      · rw [if_pos c]; split <;> omega
      · rw [if_neg c]; split <;> omega
    have hk3 : ∀ j, j < x.n - 1 → j ≠ k' → (if j < i then j else j + 1) ≠ x.k := fun j hj hne => by
      rw [← ek] at hne
      by_cases c : i < x.k
      · rw [if_pos c] at hne
        split at hne <;> split <;> omega
      · rw [if_neg c] at hne
        split at hne <;> split <;> omega
    rw [ek]
    refine ⟨⟨h.iv.q1, h.iv.q2, fun j hj => ?_, fun j hj => ?_, fun j hj hne => ?_, fun hj => ?_, hk2, hk1⟩, by show x.n - 1 ≤ N; omega, fun j hj => ?_⟩
    · have hj : j < x.n - 1 := hj
      show 1 ≤ del x.W i j ∧ del x.W i j ≤ 100
      rw [ho]; exact h.iv.w _ (by split <;> omega)
    · have hj : j < x.n - 1 := hj
      show 0 ≤ del x.C i j
      rw [ho]; exact h.iv.c0 _ (by split <;> omega)
    · have hj : j < x.n - 1 := hj
      show del x.C i j < M
      rw [ho]; exact h.iv.cM _ (by split <;> omega) (hk3 j hj hne)
    · have hj : k' < x.n - 1 := hj
      show del x.C i k' < M + x.q * del x.W i k'
      rw [ho, ho]; exact h.iv.lt (by split <;> omega)
    · have hj : j < x.n - 1 := hj
      show i64B (del x.I i j)
      rw [ho]; exact h.ids _ (by split <;> omega)
  · rw [leaveX_no (by omega)]
    exact h

def fewC (c : Int) : Int := if 1024 < c ∧ c ≤ 1048576 then 1 + c % 1024 else c
def fewP (l : List Wn) (k : Nat) : List Wn := (l.take k).map fun p => (p.1, fewC p.2)
theorem fewP_len (l : List Wn) {k : Nat} (h : k ≤ l.length) : (fewP l k).length = k := by simp [fewP]; omega
theorem fewP_succ (l : List Wn) {k : Nat} (h : k < l.length) : fewP l (k + 1) = fewP l k ++ [(l[k].1, fewC l[k].2)] := by
  unfold fewP
  rw [List.take_succ_eq_append_getElem h, List.map_append]
  rfl
def fewL (l : List Wn) : List Wn := fewP l (min l.length 10)
theorem fewL_len (l : List Wn) : (fewL l).length = min l.length 10 := fewP_len l (by omega)
theorem fewL_max (l : List Wn) (id : Int) : costOf (fewL l) id ≤ 1024 := by
  refine costOf_max (by omega) (fun p hp h1 h2 => ?_) id
  unfold fewL fewP at hp
  obtain ⟨q, _, rfl⟩ := List.mem_map.1 hp
  unfold fewC at h1 h2 ⊢
  simp only at h1 h2 ⊢
  split <;> rename_i c
  · omega
  · rw [if_neg c] at h1 h2; omega
theorem fewL_ids (l : List Wn) (h : ∀ p ∈ l, i64B p.1) : ∀ p ∈ fewL l, i64B p.1 := by
  intro p hp
  unfold fewL fewP at hp
  obtain ⟨q, hq, rfl⟩ := List.mem_map.1 hp
  exact h q (List.mem_of_mem_take hq)

set_option maxRecDepth 1000000 in
set_option maxHeartbeats 4000000 in
theorem few_any {w : World} {la : Option Addr} {l : List Wn} {lc : Nat} (hl : Ws w la l) (hlen : l.length ≤ lc) (hlm : lc ≤ maxLen) (hb : ∀ p ∈ l, i64B p.2) :
    Calls Try.prog 17 #[.slice la l.length lc] w fun e w' => ∃ ao cap, e = .returned (.slice ao (fewL l).length cap) ∧ Hid (Below w.heap.size w w' ∧ Ws w' ao (fewL l)) := by
  unfold maxLen at hlm
  have HL := hide_it hl
  have HB := hide_it hb
  obtain ⟨T, hT⟩ : ∃ T, min l.length 10 = T := ⟨_, rfl⟩
  have H0 : Hid (MX w.heap.size w w [obW 37 (.slice none 0 0) (fewP l 0)] []) :=
    (mx_start (Below.refl w.heap.size w) (Nat.le_refl _)).add (G := fun _ => False) (o := obW 37 (.slice none 0 0) (fewP l 0)) (Below.refl _ _) ⟨World.ownsRow_nil _ _ _ _, fun k hk => by simp [Value.ownBlock] at hk⟩ (fun k hk => hk.elim)
  rw [fewL_len, hT]
  have HFL : Hid (fewL l = fewP l T) := by unfold fewL; rw [hT]; exact rfl
  clear hl hb
  obtain ⟨m, hm⟩ : ∃ m, l.length = m := ⟨_, rfl⟩
  rw [hm] at hT hlen ⊢
  go_enter Try.func17, Try.ntmps17
  go_wp2
  go_loopw [3, 4] (fun v i W => ∃ (k : Nat) (ao : Option Addr) (cap : Nat), k ≤ T ∧ i = .int .i64 k ∧ v = .slice ao k cap ∧ Hid (MX w.heap.size w W [obW 37 (.slice ao k cap) (fewP l k)] [])) (fun _ i _ => T - (intOf i).toNat)
  case atStart => exact ⟨0, none, 0, by omega, rfl, rfl, H0⟩
  case round =>
    obtain ⟨k, ao, cap, hk, rfl, rfl, HX⟩ := hrel
    by_cases hlt : k < T
    · have hkl : k < l.length := by omega
      have d1 : k < m := by omega
      have d2 : k < 10 := by omega
      obtain ⟨b, o, rfl, hbl, c0, c1⟩ := (HL.out.below HX.out.bel) k hkl
      have hfl := hide_it (fewP_len l (show k ≤ l.length by omega))
      have hfs := hide_it (fewP_succ l hkl)
      have hcb := HB.out _ (List.getElem_mem hkl)
      unfold i64B at hcb
      clear H0
      by_cases hc : 1024 < l[k].2 ∧ l[k].2 ≤ 1048576
      · obtain ⟨A, hA⟩ : ∃ A, bits .and .i64 l[k].2 1023 = A := ⟨_, rfl⟩
        have eA : l[k].2 % 1024 = A := by rw [← hA, i64_and10]
        have hAb : 0 ≤ A ∧ A < 1024 := by omega
        obtain ⟨eC, eC'⟩ : IntKind.i64.wrap (1 + A) = 1 + A ∧ wrap64 (1 + A) = 1 + A := ⟨by rw [IntKind.wrap_i64]; omega, by unfold wrap64; omega⟩
        have hfc : fewC l[k].2 = 1 + A := by unfold fewC; rw [if_pos hc, eA]
        rw [hfc] at hfs
        obtain ⟨hc1, hc2⟩ := hc
        have hc1d : decide (1024 < l[k].2) = true := by simpa using hc1
        have hc2d : decide (l[k].2 ≤ 1048576) = true := by simpa using hc2
        clear eA hAb hfc hc1 hc2 hcb
        generalize l[k].1 = id at *
        generalize l[k].2 = c at *
        go_wp2_with (at_builtin; refine wpList_wadd 28 37 Try.underlying28 info37 rfl (.tmp 30) (.tmp 38) rfl HX.out 0 rfl hfl.out (by omega) id (1 + A) rfl rfl ?_; intro ao' cap' w4 s4)
        clear eC eC' hA
        go_roundw
        case rel => exact ⟨k + 1, ao', cap', by omega, by go_num, rfl, by rw [hfs.out]; exact s4.out⟩
        case measure => simp [intOf]; omega
      · have hfc : fewC l[k].2 = l[k].2 := by unfold fewC; rw [if_neg hc]
        rw [hfc] at hfs
        by_cases hc1 : 1024 < l[k].2
        · have hc1d : decide (1024 < l[k].2) = true := by simpa using hc1
          have hc2d : decide (l[k].2 ≤ 1048576) = false := by simp; omega
          clear hfc hc hcb hc1
          generalize l[k].1 = id at *
          generalize l[k].2 = c at *
          go_wp2_with (at_builtin; refine wpList_wadd 28 37 Try.underlying28 info37 rfl (.tmp 30) (.tmp 38) rfl HX.out 0 rfl hfl.out (by omega) id c rfl rfl ?_; intro ao' cap' w4 s4)
          go_roundw
          case rel => exact ⟨k + 1, ao', cap', by omega, by go_num, rfl, by rw [hfs.out]; exact s4.out⟩
          case measure => simp [intOf]; omega
        · have hc1d : decide (1024 < l[k].2) = false := by simpa using hc1
          clear hfc hc hcb hc1
          generalize l[k].1 = id at *
          generalize l[k].2 = c at *
          go_wp2_with (at_builtin; refine wpList_wadd 28 37 Try.underlying28 info37 rfl (.tmp 30) (.tmp 38) rfl HX.out 0 rfl hfl.out (by omega) id c rfl rfl ?_; intro ao' cap' w4 s4)
          go_roundw
          case rel => exact ⟨k + 1, ao', cap', by omega, by go_num, rfl, by rw [hfs.out]; exact s4.out⟩
          case measure => simp [intOf]; omega
    · have : k = T := by omega
      subst this
      have HZ : Hid (Below w.heap.size w wr ∧ Ws wr ao (fewL l)) := by
        obtain ⟨ao2, cap2, e2, _, _, hws⟩ := HX.out.wants 0 rfl
        rw [fewP_len l (by omega)] at e2
        cases e2
        exact ⟨HX.out.bel, by rw [HFL.out]; exact hws⟩
      clear HX H0 HFL
      by_cases d1 : k < m
      · have d2 : decide (k < 10) = false := by simp; omega
        have d3 : decide ((k : Int) < 10) = false := by simp; omega
        clear hT hlt hk
        go_wp2
        go_ret
        exact ⟨ao, cap, rfl, HZ⟩
      · have d2 : decide (k < m) = false := by simp; omega
        have d3 : decide ((k : Int) < (m : Int)) = false := by simp; omega
        clear hT hlt d1 hk
        go_wp2
        go_ret
        exact ⟨ao, cap, rfl, HZ⟩
end Go.Proofs.Ytlhkahincnchjaa
