/- slices.DeleteFunc of a row of tasks: the walk; the function that Raised hands it. -/
import Derived.Test.YtipkgoghodkbfaaDoorDlf
import Derived.BigQuiet
import Derived.Deep.DeepCutAuto
import Derived.Deep.QuietTactic
namespace Go.Proofs.YtipkgoghodkbfaaDoor
open Go.RowKit
open M
set_option linter.unusedVariables false
set_option linter.unusedSimpArgs false

set_option maxRecDepth 1000000 in
set_option maxHeartbeats 4000000 in
theorem delf_any {w : World} {base r cap m c1 c2 : Nat} {xs : List Int} (p : Int → Bool) (hm : xs.length = m) (hm6 : m ≤ 1000000)
    (h : OwnZ w base (.slice (some ⟨r, 0, none⟩) m cap) xs)
    (kf : ∀ (W : World) (x : Int), x ∈ xs → Turn (fun k => k = r) w W → Calls Tryd.prog 28 #[.int .i64 x, ptr c1, ptr c2] W fun e w' => e = .returned (.bool (p x)) ∧ ∃ q, w' = W.drewN q) :
    Calls Tryd.prog 26 #[.slice (some ⟨r, 0, none⟩) m cap, .func (.func 28) #[] #[ptr c1, ptr c2]] w fun e w' => ∃ u, e = .returned u ∧ Hid (OwnZ w' base u (keepL p xs xs.length) ∧ Turn (fun k => k = r) w w') := by
  obtain ⟨cur, hg, hbr, hnc, hcm, hcs, htake⟩ : ∃ cur, w.heap[r]? = some (.cells cur 3) ∧ base ≤ r ∧ m ≤ cap ∧ cap ≤ maxLen ∧ cur.size = cap ∧ cur.toList.take m = xs.map fun x => Value.int .i64 x := by
    rcases h.2 with ⟨e, q⟩ | ⟨g', c, cur, e, hb, hg, h1, h2, h3, h4⟩
    · cases e
    · cases e
      rw [hm] at h1 h4
      exact ⟨cur, hg, hb, h1, h2, by simpa using h3, by simpa using h4⟩
  have hat : ∀ k, k < m → cur[k]? = (xs.map fun x => Value.int .i64 x)[k]? := fun k hk => by
    rw [← Array.getElem?_toList, ← htake, List.getElem?_take_of_lt hk]
  have hx : ∀ i (h : i < xs.length), w.cell? ⟨r, i, none⟩ = some (.int .i64 xs[i]) := fun i hi => by
    rw [cell_of_row w r i _ _ _ hg, hat i (by omega)]
    simp [hi]
  have ki := idxf_any (c1 := c1) (c2 := c2) (cap := cap) p hm hm6 (ao := some ⟨r, 0, none⟩) (fun i hi => ⟨r, 0, rfl, block_lt hg, by rw [Nat.zero_add]; exact hx i hi⟩) (fun k x hxm => by
    refine (kf (w.drewN k) x hxm ((Turn.refl _ w).drewN k)).mono ?_
    rintro e w' ⟨rfl, q, rfl⟩
    exact ⟨rfl, k + q, by rw [World.drewN_drewN]⟩)
  have HX := hide_it hm
  have HO := hide_it h
  have HS : Hid (∀ (q k : Nat) (h : k < xs.length), p xs[k] = true → keepL p xs k = xs.take k → DS w (w.drewN q) r cap xs p k (k + 1)) := by
    intro q k hk hp he
    have hs : keepL p xs (k + 1) = xs.take k := by rw [keepL_step p xs k hk, if_pos hp, List.append_nil, he]
    refine ⟨(Turn.refl _ w).drewN q, block_lt hg, ⟨cur, hg, hcs, fun x hxx => ?_, fun x hxx hxn => hat x (by omega)⟩, by rw [hs, List.length_take]; omega, by omega, hk, by omega⟩
    rw [hs, hat x (by omega), List.getElem?_map, List.getElem?_map, List.getElem?_take_of_lt hxx]
  have HBR := hide_it hbr
  have HCM := hide_it hcm
  have hcm2 : cap ≤ 9223372036854775807 := by unfold maxLen at hcm; omega
  clear h hg hcs htake hat hx hm hbr hcm
  go_enter Tryd.func26, Tryd.ntmps26
  go_upto_region 2 with (go_at_call 33; refine ki.mono ?_; rintro e w2 ⟨⟨z, rfl, HZ⟩, q, rfl⟩)
  rcases HZ.out with ⟨rfl, hK⟩ | ⟨k, rfl, hk, hp, he⟩
  · have HK := hide_it hK
    clear hK HZ
    go_wp2
    go_ret
    exact ⟨_, rfl, by rw [HK.out]; exact owns_keep HO.out (fun k hk => rfl), (Turn.refl _ w).drewN q⟩
  · have s := hide_it (HS.out q k hk hp he)
    have hkm : k < m := by rw [← HX.out]; exact hk
    have hz : ((k : Int) == -1) = false := by rw [beq_eq_false_iff_ne]; omega
    have hz2 : ¬ ((k : Int) = -1) := by omega
    clear hp he hk HZ HS ki
    go_wp2
    go_loopw [5, 6] (fun a b W => ∃ i j : Nat, i ≤ m ∧ j ≤ m ∧ a = .int .i64 i ∧ b = .int .i64 j ∧ Hid (DS w W r cap xs p i j)) (fun _ b _ => m - (intOf b).toNat)
    case atStart => exact ⟨k, k + 1, by omega, by omega, rfl, by go_num, s⟩
    case round =>
      obtain ⟨i, j, hi, hj, rfl, rfl, s⟩ := hrel
      obtain ⟨w5, rfl⟩ : ∃ W, W = wr := ⟨_, rfl⟩
      have hij := s.out.hij
      by_cases hjm : j < m
      · have hjx : j < xs.length := by rw [HX.out]; exact hjm
        have cx := s.out.cell hjx
        have kk := kf w5 xs[j] (List.getElem_mem hjx) s.out.turn
        obtain ⟨old, co⟩ := s.out.old
        have fi := s.out.fro i
        cases hp : p xs[j] with
        | true =>
          rw [hp] at kk
          have s2 := hide_it (s.out.drop hjx hp)
          clear s hp co fi kf
          generalize xs[j] = x at *
          go_wp2_with (go_at_call 28; refine kk.mono ?_; rintro e w' ⟨rfl, q2, rfl⟩)
          go_roundw
          case rel => exact ⟨i, j + 1, by omega, by omega, rfl, by go_num, s2.out.drewN q2⟩
          case measure => simp [intOf]; omega
        | false =>
          rw [hp] at kk
          have s2 : Hid (∀ q, DS w ((w5.drewN q).setCell ⟨r, i, none⟩ (.int .i64 xs[j])) r cap xs p (i + 1) (j + 1)) := fun q => (s.out.drewN q).keep hjx hp
          clear s hp kf
          generalize xs[j] = x at *
          go_wp2_with (go_at_call 28; refine kk.mono ?_; rintro e w' ⟨rfl, q2, rfl⟩)
          go_roundw
          case rel => exact ⟨i + 1, j + 1, by omega, by omega, by go_num, by go_num, s2.out q2⟩
          case measure => simp [intOf]; omega
      · obtain rfl : j = m := by omega
        have hcell : ∀ y, y < cap → (w5.cell? ⟨r, y, none⟩).isSome = true := fun y hy => by
          obtain ⟨cur, h1, h2, _⟩ := s.out.ex
          rw [cell_of_row w5 r y _ _ _ h1, Array.getElem?_eq_getElem (by omega)]
          rfl
        have hcl : ∀ ty c, (Builtin.clear_ #[22] ty #[.slice (some ⟨r, i, none⟩) (j - i) c]).run Tryd.prog w5 = .ok (.tuple #[]) (w5.setCells r i (List.replicate (j - i) (.int .i64 0))) := fun ty c =>
          Lib.run_clear_slice w5 22 3 ty (.int .i64 0) Tryd.underlying22 zero3 rfl rfl r i (j - i) c (by omega) (fun y hy => hcell _ (by omega)) (fun y hy => s.out.fro _)
        have HEND : Hid (OwnZ (w5.setCells r i (List.replicate (j - i) (.int .i64 0))) base (.slice (some ⟨r, 0, none⟩) i cap) (keepL p xs xs.length) ∧ Turn (fun k => k = r) w (w5.setCells r i (List.replicate (j - i) (.int .i64 0)))) := by
          have h1 := s.out
          have e : j = xs.length := HX.out.symm
          rw [e] at h1 ⊢
          exact h1.clear HBR.out HCM.out
        have hci : ¬ (cap = i) := by omega
        have hij2 : (i : Int) ≤ j := by omega
        have hic : i ≤ cap := by omega
        clear hcell kf s
        go_wp2
        go_ret
        exact ⟨_, rfl, HEND.out⟩

end Go.Proofs.YtipkgoghodkbfaaDoor
