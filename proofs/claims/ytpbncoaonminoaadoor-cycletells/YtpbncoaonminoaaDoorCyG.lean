/- slices.Grow of nil, slices.Concat of two rows. -/
import Derived.Test.YtpbncoaonminoaaDoorCyR
import Derived.Lib.AppendZerosOnto
namespace Go.Proofs.YtpbncoaonminoaaDoor
open Go.RowKit
open M
set_option linter.unusedVariables false
set_option linter.unusedSimpArgs false

theorem below_drew_alloc {w : World} {o : Obj} : Below w.heap.size w (w.drew.alloc o) := ((Below.refl _ _).drew).alloc (Nat.le_refl _) _

set_option maxRecDepth 1000000 in
set_option maxHeartbeats 4000000 in
theorem grow_any (k : Nat) (w : World) (hk0 : 0 < k) (hk : k ≤ 1000000) :
    Calls Tryd.prog 43 #[.slice none 0 0, .int .i64 k] w fun e w' => ∃ u, e = .returned u ∧ OwnI w' w.heap.size u [] ∧ Below w.heap.size w w' := by
  obtain ⟨i0, hi, hz0, hz1, hz2⟩ := info_parts info3
  have hold : (Builtin.firstCells i0.size 0 (.slice none 0 0)).run Tryd.prog w.drew = .ok (#[] : Array Value) w.drew := run_firstCells_none w.drew i0.size 0 0 0
  have hr : ∀ ty, (Builtin.append_ #[33, 3] ty #[.slice none 0 0, .int .i64 k]).run Tryd.prog w = _ := fun ty =>
    Lib.run_append_grow_zeros w 33 3 ty 3 i0 (.int .i64 0) .i64 .i64 Tryd.underlying33 Tryd.underlying3 hi hz0 none 0 0 [] hold k hk0 (by rw [hz1]; decide) (by omega) (by omega) (by rw [hz2]; omega) (growslice_fits (by omega) (by rw [hz2]; omega))
  simp only [Nat.zero_add] at hr
  have hG := grownCap_ge w k 0 3
  have hGm := grownCap_le_maxLen w k 0 3 (by unfold maxLen; omega)
  have hc : (.int .i64 0 : Value).cells = #[.int .i64 0] := rfl
  rw [hc] at hr
  have HO : Hid (OwnI (w.drew.alloc (.cells ((([] : List Value).toArray ++ Builtin.zeroCells #[.int .i64 0] k) ++ Builtin.zeroCells #[.int .i64 0] (grownCap w k 0 3 - k)) 3)) w.heap.size (.slice (some ⟨w.heap.size, 0, none⟩) 0 (grownCap w k 0 3)) []) := by
    refine World.ownsRow_made (e := 3) (size := 1) w.drew _ _ (Nat.le_refl _) hGm ?_
    simp [size_zeroCells]
    omega
  generalize ((([] : List Value).toArray ++ Builtin.zeroCells #[.int .i64 0] k) ++ Builtin.zeroCells #[.int .i64 0] (grownCap w k 0 3 - k)) = CS at *
  unfold maxLen at hGm
  generalize grownCap w k 0 3 = G at *
  clear hold hc
  have h1 : ¬ ((k : Int) < 0) := by omega
  have h4 : ¬ ((k : Int) ≤ 0) := by omega
  go_enter Tryd.func43, Tryd.ntmps43
  go_wp2_with (at_builtin; refine Lib.wpList_append_run _ rfl _ _ _ _ rfl _ _ rfl rfl _ _ (hr _) ?_)
  go_ret
  exact ⟨_, rfl, HO.out, below_drew_alloc⟩

set_option maxRecDepth 1000000 in
set_option maxHeartbeats 4000000 in
theorem concat_any (cb ra la ca rb : Nat) (xs : List Nat) (x : Nat) (w : World) (hl : xs.length = la) (hl0 : 0 < la) (hl1 : la ≤ 1000)
    (h0 : w.cell? ⟨cb, 0, none⟩ = some (.slice (some ⟨ra, 0, none⟩) la ca)) (h1 : w.cell? ⟨cb, 1, none⟩ = some (.slice (some ⟨rb, 0, none⟩) 1 1))
    (ha : ∀ i (h : i < xs.length), w.cell? ⟨ra, i, none⟩ = some (.int .i64 (xs[i] : Nat))) (hb : w.cell? ⟨rb, 0, none⟩ = some (.int .i64 x)) :
    Calls Tryd.prog 33 #[.slice (some ⟨cb, 0, none⟩) 2 2] w fun e w' => ∃ u, e = .returned u ∧ OwnI w' w.heap.size u (xs ++ [x]) ∧ Below w.heap.size w w' := by
  obtain ⟨i0, hi, hz0, hz1, hz2⟩ := info_parts info3
  have kg := grow_any (la + 1) w (by omega) (by omega)
  have HA := hide_it ha
  have HL := hide_it hl
  have HBX := hide_it hb
  have lcb := World.block_lt_of_cell? w _ h0
  have lrb := World.block_lt_of_cell? w _ hb
  have lra : ra < w.heap.size := World.block_lt_of_cell? w _ (ha 0 (by omega))
  clear ha hl hb
  go_enter Tryd.func33, Tryd.ntmps33
  go_wp2
  go_loop [3, 11] (fun s i => (s = .int .i64 0 ∧ i = .int .i64 0) ∨ (s = .int .i64 la ∧ i = .int .i64 1) ∨ (s = .int .i64 ((la + 1 : Nat) : Int) ∧ i = .int .i64 2)) (fun _ i => 2 - (intOf i).toNat)
  case atStart => exact .inl ⟨rfl, rfl⟩
  case round =>
    rcases hrel with ⟨rfl, rfl⟩ | ⟨rfl, rfl⟩ | ⟨rfl, rfl⟩
    · go_wp2
      go_round
      case rel => exact .inr (.inl ⟨by go_num, by go_num⟩)
      case measure => simp [intOf]
    · have hla : ¬ ((la : Int) + 1 < 0) := by omega
      go_wp2
      go_round
      case rel => exact .inr (.inr ⟨by go_num, by go_num⟩)
      case measure => simp [intOf]
    · have hla : ¬ (((la + 1 : Nat) : Int) < 0) := by omega
      go_wp2_with (go_at_call 43; refine kg.mono ?_; rintro e w5 ⟨u5, rfl, ho5, hb5⟩)
      have HO5 := hide_it ho5
      clear ho5 kg
      go_loopw [6, 27] (fun u i W => Hid (Below w.heap.size w W) ∧ ((i = .int .i64 0 ∧ Hid (OwnI W w.heap.size u [])) ∨ (i = .int .i64 1 ∧ Hid (OwnI W w.heap.size u xs)) ∨ (i = .int .i64 2 ∧ Hid (OwnI W w.heap.size u (xs ++ [x]))))) (fun _ i _ => 2 - (intOf i).toNat)
      case atStart => exact ⟨hb5, .inl ⟨rfl, HO5⟩⟩
      case round =>
        obtain ⟨hBr, hrel⟩ := hrel
        have hsz : w.heap.size ≤ wr.heap.size := hBr.out.size
        have d0 : wr.cell? ⟨cb, 0, none⟩ = some (.slice (some ⟨ra, 0, none⟩) la ca) := by rw [hBr.out.cell (p := ⟨cb, 0, none⟩) lcb]; exact h0
        have d1 : wr.cell? ⟨cb, 1, none⟩ = some (.slice (some ⟨rb, 0, none⟩) 1 1) := by rw [hBr.out.cell (p := ⟨cb, 1, none⟩) lcb]; exact h1
        have DA : Hid (∀ j u, (xs.map fun x => Value.int .i64 (x : Nat))[j]? = some u → wr.cell? ((⟨ra, 0, none⟩ : Addr).add j) = some u) := by
          intro j u hu
          rw [List.getElem?_map] at hu
          rcases Nat.lt_or_ge j xs.length with hj | hj
          · rw [List.getElem?_eq_getElem hj] at hu
            simp at hu
            rw [Addr.add_lit, hBr.out.cell (p := ⟨ra, 0 + j, none⟩) lra, ← hu, Nat.zero_add]
            exact HA.out j hj
          · rw [List.getElem?_eq_none hj] at hu
            simp at hu
        have DB : Hid (∀ j u, [Value.int .i64 (x : Nat)][j]? = some u → wr.cell? ((⟨rb, 0, none⟩ : Addr).add j) = some u) := by
          intro j u hu
          cases j with
          | zero =>
            simp at hu
            rw [Addr.add_lit, hBr.out.cell (p := ⟨rb, 0 + 0, none⟩) lrb, ← hu]
            exact HBX.out
          | succ j => simp at hu
        clear h0 h1
        rcases hrel with ⟨rfl, HO⟩ | ⟨rfl, HO⟩ | ⟨rfl, HO⟩
        · go_wp2_with (at_builtin; (refine wpList_append_tell _ rfl (.tmp 31) (.tmp 32) 33 rfl w.heap.size 3 i0 _ 1 8 Tryd.underlying33 hi hz0 hz1 hz2 rfl (by decide) _ 0 [] rfl HO.out ⟨ra, 0, none⟩ la ca (xs.map fun x => Value.int .i64 (x : Nat)) rfl (by simp [HL.out]) DA.out (by intro u hu; obtain ⟨y, _, rfl⟩ := List.mem_map.1 hu; rfl) (by unfold maxLen; omega) (by omega) hsz ?_; intro v' w2 hown' hgrow hfr))
          go_roundw
          case rel =>
            refine ⟨hBr.out.grown hgrow hsz (fun k hk => (HO.out.lt k hk).1), .inr (.inl ⟨by go_num, ?_⟩)⟩
            unfold Hid OwnI
            rw [HL.out]
            simpa using hown'
          case measure => simp [intOf]
        · go_wp2_with (at_builtin; (refine wpList_append_tell _ rfl (.tmp 31) (.tmp 32) 33 rfl w.heap.size 3 i0 _ 1 8 Tryd.underlying33 hi hz0 hz1 hz2 rfl (by decide) _ xs.length (xs.map fun x => Value.int .i64 (x : Nat)) rfl HO.out ⟨rb, 0, none⟩ 1 1 [.int .i64 x] rfl rfl DB.out (by simp [Value.oneCell']) (by have := HL.out; unfold maxLen; omega) (by have := HL.out; omega) hsz ?_; intro v' w2 hown' hgrow hfr))
          go_roundw
          case rel =>
            refine ⟨hBr.out.grown hgrow hsz (fun k hk => (HO.out.lt k hk).1), .inr (.inr ⟨by go_num, own_snoc hown'⟩)⟩
          case measure => simp [intOf]
        · go_wp2
          go_ret
          exact ⟨_, rfl, HO.out, hBr.out⟩
end Go.Proofs.YtpbncoaonminoaaDoor
