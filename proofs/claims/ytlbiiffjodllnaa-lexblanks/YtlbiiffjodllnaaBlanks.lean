/- LexBlanks: how many blanks part tokens does not matter. -/
import Derived.Test.YtlbiiffjodllnaaRowsB
namespace Go.Proofs.Ytlbiiffjodllnaa
open Go.RowKit
open M

theorem below_app {W w w' : World} {B : Nat} {o : Obj} {vo : Value} {e : TypeId} {size n : Nat} {xs : List Value} (hb : Below B W w) (hB : B ≤ W.heap.size) (hown : w.ownsRow B e size vo n xs) (hg : (w.alloc o).grownBy w' vo.ownBlock) : Below B W w' :=
  (hb.alloc (Nat.le_trans hB hb.size) o).grown hg (by have := hb.size; simp; omega) (fun k hk => (hown.lt k hk).1)

theorem blank_of {c : UInt8} (h : cls c = 3) : c.toNat = 32 ∨ c.toNat = 9 ∨ c.toNat = 13 := by
  unfold cls at h
  repeat' split at h
  all_goals first | omega | assumption
theorem blank_is {c : UInt8} (h : c.toNat = 32 ∨ c.toNat = 9 ∨ c.toNat = 13) : cls c = 3 := by
  unfold cls
  rw [if_neg (by omega), if_neg (by omega), if_pos h]

set_option maxRecDepth 1000000 in
set_option maxHeartbeats 4000000 in
theorem lexBlanks_walk (a0 : Option Addr) (b0 : List UInt8) (cap0 : Nat) (a1 : Option Addr) (b1 : List UInt8) (cap1 : Nat) (w : World)
    (hl0 : b0.length ≤ cap0) (hm0 : cap0 ≤ maxLen) (hb0 : Bytes w a0 b0) (hl1 : b1.length ≤ cap1) (hm1 : cap1 ≤ maxLen) (hbm : Bytes w a1 b1) :
    Calls Try.prog 8 #[.slice a0 b0.length cap0, .slice a1 b1.length cap1] w fun e w' => e = .returned (.bool true) ∧ Below w.heap.size w w' := by
  have hmin : ∀ ts t W, (Builtin.min_ ts t #[.int .i64 (b0.length : Int), .int .i64 1000]).run Try.prog W = .ok (.int .i64 ((min 1000 b0.length : Nat) : Int)) W := min_is b0.length 1000
  obtain ⟨bs, hbs⟩ : ∃ bs, bs = b0.take 1000 := ⟨_, rfl⟩
  have hlen : bs.length = min 1000 b0.length := by rw [hbs]; simp
  have hbb : Bytes w a0 bs := by rw [hbs]; exact hb0.take 1000
  have hlc : bs.length ≤ cap0 := by omega
  have hle : bs.length ≤ 1000 := by omega
  rw [← hlen] at hmin
  have kx : ∀ W, Below w.heap.size w W → Calls Try.prog 11 #[.slice a0 bs.length cap0] W fun e w' => ∃ v', e = .returned (.tuple #[v', .int .i64 (lexF bs).2.1, .int .i64 (lexF bs).2.2]) ∧ Own w' W.heap.size v' (lexF bs).1 ∧ Below W.heap.size W w' := fun W hW => lex_any a0 cap0 bs W hlc hm0 (hbb.below hW)
  unfold maxLen at hm0 hm1
  obtain ⟨i0, hi, hz0, hz1, hz2⟩ := info_parts Try.info5b
  generalize hL : lexF bs = L at *
  obtain ⟨ts, n1, e1⟩ := L
  simp only at kx
  have HL : Hid (lexF bs = (ts, n1, e1)) := hL
  clear hL hlen hbs hb0
  by_cases he : e1 = 0
  · subst he
    go_enter Try.func8, Try.ntmps8
    go_wp2_with (first | (go_at_call 10; refine (shown_any _).mono ?_; rintro e w1 ⟨rfl, hb1⟩) | (go_at_call 11; refine (kx _ hb1).mono ?_; rintro e w2 ⟨v, rfl, ho, hb2⟩))
    have hW2 : Below w.heap.size w w2 := hb1.trans (hb2.mono hb1.size)
    have hsz := hW2.size
    have HBB : Hid (Bytes w2 a0 bs) := hbb.below hW2
    have HBM : Hid (Bytes w2 a1 b1) := hbm.below hW2
    have HO : Hid (Own w2 w1.heap.size v ts) := ho
    have HW : Hid (Below w.heap.size w w2) := hW2
    clear hbb hbm ho hb1 hb2 kx hW2 hmin
    go_loopw [9, 10, 11] (fun vo nv iv wr => ∃ (k n : Nat) (o : List UInt8), k ≤ bs.length ∧ iv = .int .i64 k ∧ nv = .int .i64 n ∧ n ≤ k ∧ OwnB wr w2.heap.size vo o ∧ o.length ≤ 5 * k ∧ run init o = run init (bs.take k) ∧ Below w2.heap.size w2 wr) (fun _ _ iv _ => bs.length - (intOf iv).toNat)
    case atStart => exact ⟨0, 0, [], Nat.zero_le _, rfl, rfl, Nat.le_refl _, ownB_new w2 _ (Nat.le_refl _), Nat.zero_le _, rfl, (Below.refl _ _).alloc (Nat.le_refl _) _⟩
    case round =>
      obtain ⟨k, n, o, hk, rfl, rfl, hnk, hown, hol, hrun, hbel⟩ := hrel
      have HR : Hid (run init o = run init (bs.take k)) := hrun
      have HE : Hid (Below w2.heap.size w2 wr) := hbel
      have HOB : Hid (OwnB wr w2.heap.size _ o) := hown
      have hsr := hbel.size
      clear hrun hbel hown
      by_cases hlt : k < bs.length
      · obtain ⟨b, of, rfl, hcw⟩ := HBB.out k hlt
        have hblt := World.block_lt_of_cell? w2 _ hcw
        have hc : wr.cell? ⟨b, of + k, none⟩ = some (.int .u8 ((bs[k].toNat : Nat) : Int)) := (HE.out.cell (p := ⟨b, of + k, none⟩) hblt).trans hcw
        have HS : Hid (run init (o ++ [bs[k]]) = run init (bs.take (k + 1))) := run_snoc hlt HR.out
        have HCW : Hid (w2.cell? ⟨b, of + k, none⟩ = some (.int .u8 ((bs[k].toNat : Nat) : Int))) := hcw
        clear hcw
        by_cases hbl : cls bs[k] = 3
        · have hcase := blank_of hbl
          have H3 : Hid (cls bs[k] = 3) := hbl
          clear hbl
          by_cases hnm : n < b1.length
          · obtain ⟨b', of', rfl, hcm⟩ := HBM.out n hnm
            have hblt' := World.block_lt_of_cell? w2 _ hcm
            have HCM : Hid (w2.cell? ⟨b', of' + n, none⟩ = some (.int .u8 ((b1[n].toNat : Nat) : Int))) := hcm
            clear hcm
            obtain ⟨N, hM⟩ : ∃ N : Nat, (((b1[n].toNat : Nat) : Int) % 5) = (N : Int) := ⟨b1[n].toNat % 5, by omega⟩
            have hM4 : N ≤ 4 := by omega
            have hnm' : ((n : Int) < b1.length) := by omega
            rcases hcase with hcase | hcase | hcase
            · have d32 : (((bs[k].toNat : Nat) : Int) != 32) = false := bne_eq_false_iff_eq.2 (by omega)
              clear hcase
              go_wp2_with (at_builtin; refine wpList_append_own _ rfl (.tmp 39) (.tmp 44) 22 rfl w2.heap.size 5 i0 _ 1 1 Try.underlying22 hi hz0 hz1 hz2 rfl (by decide) _ o.length (bcells o) rfl (HOB.out.alloc _) ⟨wr.heap.size, 0, none⟩ 1 1 (bcells [bs[k]]) rfl rfl (World.news_of_block (heap_alloc_new wr _)) (bcells_one _) (by unfold maxLen; omega) (by omega) (by simp; omega) ?_; intro v3 w3 hown3 hgrow hjunk; clear hjunk; have hbel3 : Below w2.heap.size w2 w3 := below_app HE.out (Nat.le_refl _) HOB.out hgrow; have hc3 : w3.cell? ⟨b, of + k, none⟩ = some (.int .u8 ((bs[k].toNat : Nat) : Int)) := (hbel3.cell (p := ⟨b, of + k, none⟩) hblt).trans HCW.out)
              have HS3 : Hid (OwnB w3 w2.heap.size v3 (o ++ [bs[k]])) := ownB_app hown3
              have HE3 : Hid (Below w2.heap.size w2 w3) := hbel3
              clear hown3 hbel3 hgrow hc hc3
              go_hide hQ
              go_loopw [9, 12] (fun vo jv wx => ∃ (j : Nat) (o' : List UInt8), jv = .int .i64 j ∧ j ≤ N ∧ OwnB wx w2.heap.size vo o' ∧ o'.length ≤ 5 * k + 1 + j ∧ run init o' = run init (bs.take (k + 1)) ∧ Below w2.heap.size w2 wx) (fun _ jv _ => N - (intOf jv).toNat)
              case atStart => exact ⟨0, _, rfl, Nat.zero_le _, HS3.out, by simp; omega, HS.out, HE3.out⟩
              case round =>
                obtain ⟨j, o', rfl, hj, hown', hol', hrun', hbel'⟩ := hrel
                have hcm : wr.cell? ⟨b', of' + n, none⟩ = some (.int .u8 ((b1[n].toNat : Nat) : Int)) := (hbel'.cell (p := ⟨b', of' + n, none⟩) hblt').trans HCM.out
                have hsx := hbel'.size
                have HR' : Hid (run init o' = run init (bs.take (k + 1))) := hrun'
                have HE' : Hid (Below w2.heap.size w2 wr) := hbel'
                have HO' : Hid (OwnB wr w2.heap.size _ o') := hown'
                clear hrun' hbel' hown'
                by_cases hjn : j < N
                · have hj4 : j = 0 ∨ j = 1 ∨ j = 2 ∨ j = 3 := by omega
                  rcases hj4 with rfl | rfl | rfl | rfl
                  · go_wp2_with (at_builtin; refine wpList_append_own _ rfl (.tmp 79) (.tmp 83) 22 rfl w2.heap.size 5 i0 _ 1 1 Try.underlying22 hi hz0 hz1 hz2 rfl (by decide) _ o'.length (bcells o') rfl (HO'.out.alloc _) ⟨wr.heap.size, 0, none⟩ 1 1 (bcells [32]) rfl rfl (World.news_of_block (heap_alloc_new wr _)) (bcells_one _) (by unfold maxLen; omega) (by omega) (by simp; omega) ?_; intro v4 w4 hown4 hgrow4 hjunk; clear hjunk; have hbel4 : Below w2.heap.size w2 w4 := below_app HE'.out (Nat.le_refl _) HO'.out hgrow4)
                    go_roundw
                    case rel => exact ⟨0 + 1, o' ++ [32], by go_num, by omega, ownB_app hown4, by simp; omega, run_blank hlt H3.out (by decide) HR'.out, hbel4⟩
                    case measure => simp [intOf]; omega
                  · go_wp2_with (at_builtin; refine wpList_append_own _ rfl (.tmp 79) (.tmp 83) 22 rfl w2.heap.size 5 i0 _ 1 1 Try.underlying22 hi hz0 hz1 hz2 rfl (by decide) _ o'.length (bcells o') rfl (HO'.out.alloc _) ⟨wr.heap.size, 0, none⟩ 1 1 (bcells [9]) rfl rfl (World.news_of_block (heap_alloc_new wr _)) (bcells_one _) (by unfold maxLen; omega) (by omega) (by simp; omega) ?_; intro v4 w4 hown4 hgrow4 hjunk; clear hjunk; have hbel4 : Below w2.heap.size w2 w4 := below_app HE'.out (Nat.le_refl _) HO'.out hgrow4)
                    go_roundw
                    case rel => exact ⟨1 + 1, o' ++ [9], by go_num, by omega, ownB_app hown4, by simp; omega, run_blank hlt H3.out (by decide) HR'.out, hbel4⟩
                    case measure => simp [intOf]; omega
                  · go_wp2_with (at_builtin; refine wpList_append_own _ rfl (.tmp 79) (.tmp 83) 22 rfl w2.heap.size 5 i0 _ 1 1 Try.underlying22 hi hz0 hz1 hz2 rfl (by decide) _ o'.length (bcells o') rfl (HO'.out.alloc _) ⟨wr.heap.size, 0, none⟩ 1 1 (bcells [13]) rfl rfl (World.news_of_block (heap_alloc_new wr _)) (bcells_one _) (by unfold maxLen; omega) (by omega) (by simp; omega) ?_; intro v4 w4 hown4 hgrow4 hjunk; clear hjunk; have hbel4 : Below w2.heap.size w2 w4 := below_app HE'.out (Nat.le_refl _) HO'.out hgrow4)
                    go_roundw
                    case rel => exact ⟨2 + 1, o' ++ [13], by go_num, by omega, ownB_app hown4, by simp; omega, run_blank hlt H3.out (by decide) HR'.out, hbel4⟩
                    case measure => simp [intOf]; omega
                  · go_wp2_with (at_builtin; refine wpList_append_own _ rfl (.tmp 79) (.tmp 83) 22 rfl w2.heap.size 5 i0 _ 1 1 Try.underlying22 hi hz0 hz1 hz2 rfl (by decide) _ o'.length (bcells o') rfl (HO'.out.alloc _) ⟨wr.heap.size, 0, none⟩ 1 1 (bcells [32]) rfl rfl (World.news_of_block (heap_alloc_new wr _)) (bcells_one _) (by unfold maxLen; omega) (by omega) (by simp; omega) ?_; intro v4 w4 hown4 hgrow4 hjunk; clear hjunk; have hbel4 : Below w2.heap.size w2 w4 := below_app HE'.out (Nat.le_refl _) HO'.out hgrow4)
                    go_roundw
                    case rel => exact ⟨3 + 1, o' ++ [32], by go_num, by omega, ownB_app hown4, by simp; omega, run_blank hlt H3.out (by decide) HR'.out, hbel4⟩
                    case measure => simp [intOf]; omega
                · have hjn' : ¬ ((j : Int) < N) := by omega
                  go_wp2_with fail
                  subst hQ
                  go_wp2_with fail
                  go_roundw
                  case rel => exact ⟨k + 1, n + 1, o', by omega, by go_num, by go_num, by omega, HO'.out, by omega, HR'.out, HE'.out⟩
                  case measure => simp [intOf]; omega
            · have d32 : (((bs[k].toNat : Nat) : Int) != 32) = true := bne_iff_ne.2 (by omega)
              have d9 : (((bs[k].toNat : Nat) : Int) != 9) = false := bne_eq_false_iff_eq.2 (by omega)
              clear hcase
              go_wp2_with (at_builtin; refine wpList_append_own _ rfl (.tmp 39) (.tmp 44) 22 rfl w2.heap.size 5 i0 _ 1 1 Try.underlying22 hi hz0 hz1 hz2 rfl (by decide) _ o.length (bcells o) rfl (HOB.out.alloc _) ⟨wr.heap.size, 0, none⟩ 1 1 (bcells [bs[k]]) rfl rfl (World.news_of_block (heap_alloc_new wr _)) (bcells_one _) (by unfold maxLen; omega) (by omega) (by simp; omega) ?_; intro v3 w3 hown3 hgrow hjunk; clear hjunk; have hbel3 : Below w2.heap.size w2 w3 := below_app HE.out (Nat.le_refl _) HOB.out hgrow; have hc3 : w3.cell? ⟨b, of + k, none⟩ = some (.int .u8 ((bs[k].toNat : Nat) : Int)) := (hbel3.cell (p := ⟨b, of + k, none⟩) hblt).trans HCW.out)
              have HS3 : Hid (OwnB w3 w2.heap.size v3 (o ++ [bs[k]])) := ownB_app hown3
              have HE3 : Hid (Below w2.heap.size w2 w3) := hbel3
              clear hown3 hbel3 hgrow hc hc3
              go_hide hQ
              go_loopw [9, 12] (fun vo jv wx => ∃ (j : Nat) (o' : List UInt8), jv = .int .i64 j ∧ j ≤ N ∧ OwnB wx w2.heap.size vo o' ∧ o'.length ≤ 5 * k + 1 + j ∧ run init o' = run init (bs.take (k + 1)) ∧ Below w2.heap.size w2 wx) (fun _ jv _ => N - (intOf jv).toNat)
              case atStart => exact ⟨0, _, rfl, Nat.zero_le _, HS3.out, by simp; omega, HS.out, HE3.out⟩
              case round =>
                obtain ⟨j, o', rfl, hj, hown', hol', hrun', hbel'⟩ := hrel
                have hcm : wr.cell? ⟨b', of' + n, none⟩ = some (.int .u8 ((b1[n].toNat : Nat) : Int)) := (hbel'.cell (p := ⟨b', of' + n, none⟩) hblt').trans HCM.out
                have hsx := hbel'.size
                have HR' : Hid (run init o' = run init (bs.take (k + 1))) := hrun'
                have HE' : Hid (Below w2.heap.size w2 wr) := hbel'
                have HO' : Hid (OwnB wr w2.heap.size _ o') := hown'
                clear hrun' hbel' hown'
                by_cases hjn : j < N
                · have hj4 : j = 0 ∨ j = 1 ∨ j = 2 ∨ j = 3 := by omega
                  rcases hj4 with rfl | rfl | rfl | rfl
                  · go_wp2_with (at_builtin; refine wpList_append_own _ rfl (.tmp 79) (.tmp 83) 22 rfl w2.heap.size 5 i0 _ 1 1 Try.underlying22 hi hz0 hz1 hz2 rfl (by decide) _ o'.length (bcells o') rfl (HO'.out.alloc _) ⟨wr.heap.size, 0, none⟩ 1 1 (bcells [32]) rfl rfl (World.news_of_block (heap_alloc_new wr _)) (bcells_one _) (by unfold maxLen; omega) (by omega) (by simp; omega) ?_; intro v4 w4 hown4 hgrow4 hjunk; clear hjunk; have hbel4 : Below w2.heap.size w2 w4 := below_app HE'.out (Nat.le_refl _) HO'.out hgrow4)
                    go_roundw
                    case rel => exact ⟨0 + 1, o' ++ [32], by go_num, by omega, ownB_app hown4, by simp; omega, run_blank hlt H3.out (by decide) HR'.out, hbel4⟩
                    case measure => simp [intOf]; omega
                  · go_wp2_with (at_builtin; refine wpList_append_own _ rfl (.tmp 79) (.tmp 83) 22 rfl w2.heap.size 5 i0 _ 1 1 Try.underlying22 hi hz0 hz1 hz2 rfl (by decide) _ o'.length (bcells o') rfl (HO'.out.alloc _) ⟨wr.heap.size, 0, none⟩ 1 1 (bcells [9]) rfl rfl (World.news_of_block (heap_alloc_new wr _)) (bcells_one _) (by unfold maxLen; omega) (by omega) (by simp; omega) ?_; intro v4 w4 hown4 hgrow4 hjunk; clear hjunk; have hbel4 : Below w2.heap.size w2 w4 := below_app HE'.out (Nat.le_refl _) HO'.out hgrow4)
                    go_roundw
                    case rel => exact ⟨1 + 1, o' ++ [9], by go_num, by omega, ownB_app hown4, by simp; omega, run_blank hlt H3.out (by decide) HR'.out, hbel4⟩
                    case measure => simp [intOf]; omega
                  · go_wp2_with (at_builtin; refine wpList_append_own _ rfl (.tmp 79) (.tmp 83) 22 rfl w2.heap.size 5 i0 _ 1 1 Try.underlying22 hi hz0 hz1 hz2 rfl (by decide) _ o'.length (bcells o') rfl (HO'.out.alloc _) ⟨wr.heap.size, 0, none⟩ 1 1 (bcells [13]) rfl rfl (World.news_of_block (heap_alloc_new wr _)) (bcells_one _) (by unfold maxLen; omega) (by omega) (by simp; omega) ?_; intro v4 w4 hown4 hgrow4 hjunk; clear hjunk; have hbel4 : Below w2.heap.size w2 w4 := below_app HE'.out (Nat.le_refl _) HO'.out hgrow4)
                    go_roundw
                    case rel => exact ⟨2 + 1, o' ++ [13], by go_num, by omega, ownB_app hown4, by simp; omega, run_blank hlt H3.out (by decide) HR'.out, hbel4⟩
                    case measure => simp [intOf]; omega
                  · go_wp2_with (at_builtin; refine wpList_append_own _ rfl (.tmp 79) (.tmp 83) 22 rfl w2.heap.size 5 i0 _ 1 1 Try.underlying22 hi hz0 hz1 hz2 rfl (by decide) _ o'.length (bcells o') rfl (HO'.out.alloc _) ⟨wr.heap.size, 0, none⟩ 1 1 (bcells [32]) rfl rfl (World.news_of_block (heap_alloc_new wr _)) (bcells_one _) (by unfold maxLen; omega) (by omega) (by simp; omega) ?_; intro v4 w4 hown4 hgrow4 hjunk; clear hjunk; have hbel4 : Below w2.heap.size w2 w4 := below_app HE'.out (Nat.le_refl _) HO'.out hgrow4)
                    go_roundw
                    case rel => exact ⟨3 + 1, o' ++ [32], by go_num, by omega, ownB_app hown4, by simp; omega, run_blank hlt H3.out (by decide) HR'.out, hbel4⟩
                    case measure => simp [intOf]; omega
                · have hjn' : ¬ ((j : Int) < N) := by omega
                  go_wp2_with fail
                  subst hQ
                  go_wp2_with fail
                  go_roundw
                  case rel => exact ⟨k + 1, n + 1, o', by omega, by go_num, by go_num, by omega, HO'.out, by omega, HR'.out, HE'.out⟩
                  case measure => simp [intOf]; omega
            · have d32 : (((bs[k].toNat : Nat) : Int) != 32) = true := bne_iff_ne.2 (by omega)
              have d9 : (((bs[k].toNat : Nat) : Int) != 9) = true := bne_iff_ne.2 (by omega)
              have d13 : (((bs[k].toNat : Nat) : Int) != 13) = false := bne_eq_false_iff_eq.2 (by omega)
              clear hcase
              go_wp2_with (at_builtin; refine wpList_append_own _ rfl (.tmp 39) (.tmp 44) 22 rfl w2.heap.size 5 i0 _ 1 1 Try.underlying22 hi hz0 hz1 hz2 rfl (by decide) _ o.length (bcells o) rfl (HOB.out.alloc _) ⟨wr.heap.size, 0, none⟩ 1 1 (bcells [bs[k]]) rfl rfl (World.news_of_block (heap_alloc_new wr _)) (bcells_one _) (by unfold maxLen; omega) (by omega) (by simp; omega) ?_; intro v3 w3 hown3 hgrow hjunk; clear hjunk; have hbel3 : Below w2.heap.size w2 w3 := below_app HE.out (Nat.le_refl _) HOB.out hgrow; have hc3 : w3.cell? ⟨b, of + k, none⟩ = some (.int .u8 ((bs[k].toNat : Nat) : Int)) := (hbel3.cell (p := ⟨b, of + k, none⟩) hblt).trans HCW.out)
              have HS3 : Hid (OwnB w3 w2.heap.size v3 (o ++ [bs[k]])) := ownB_app hown3
              have HE3 : Hid (Below w2.heap.size w2 w3) := hbel3
              clear hown3 hbel3 hgrow hc hc3
              go_hide hQ
              go_loopw [9, 12] (fun vo jv wx => ∃ (j : Nat) (o' : List UInt8), jv = .int .i64 j ∧ j ≤ N ∧ OwnB wx w2.heap.size vo o' ∧ o'.length ≤ 5 * k + 1 + j ∧ run init o' = run init (bs.take (k + 1)) ∧ Below w2.heap.size w2 wx) (fun _ jv _ => N - (intOf jv).toNat)
              case atStart => exact ⟨0, _, rfl, Nat.zero_le _, HS3.out, by simp; omega, HS.out, HE3.out⟩
              case round =>
                obtain ⟨j, o', rfl, hj, hown', hol', hrun', hbel'⟩ := hrel
                have hcm : wr.cell? ⟨b', of' + n, none⟩ = some (.int .u8 ((b1[n].toNat : Nat) : Int)) := (hbel'.cell (p := ⟨b', of' + n, none⟩) hblt').trans HCM.out
                have hsx := hbel'.size
                have HR' : Hid (run init o' = run init (bs.take (k + 1))) := hrun'
                have HE' : Hid (Below w2.heap.size w2 wr) := hbel'
                have HO' : Hid (OwnB wr w2.heap.size _ o') := hown'
                clear hrun' hbel' hown'
                by_cases hjn : j < N
                · have hj4 : j = 0 ∨ j = 1 ∨ j = 2 ∨ j = 3 := by omega
                  rcases hj4 with rfl | rfl | rfl | rfl
                  · go_wp2_with (at_builtin; refine wpList_append_own _ rfl (.tmp 79) (.tmp 83) 22 rfl w2.heap.size 5 i0 _ 1 1 Try.underlying22 hi hz0 hz1 hz2 rfl (by decide) _ o'.length (bcells o') rfl (HO'.out.alloc _) ⟨wr.heap.size, 0, none⟩ 1 1 (bcells [32]) rfl rfl (World.news_of_block (heap_alloc_new wr _)) (bcells_one _) (by unfold maxLen; omega) (by omega) (by simp; omega) ?_; intro v4 w4 hown4 hgrow4 hjunk; clear hjunk; have hbel4 : Below w2.heap.size w2 w4 := below_app HE'.out (Nat.le_refl _) HO'.out hgrow4)
                    go_roundw
                    case rel => exact ⟨0 + 1, o' ++ [32], by go_num, by omega, ownB_app hown4, by simp; omega, run_blank hlt H3.out (by decide) HR'.out, hbel4⟩
                    case measure => simp [intOf]; omega
                  · go_wp2_with (at_builtin; refine wpList_append_own _ rfl (.tmp 79) (.tmp 83) 22 rfl w2.heap.size 5 i0 _ 1 1 Try.underlying22 hi hz0 hz1 hz2 rfl (by decide) _ o'.length (bcells o') rfl (HO'.out.alloc _) ⟨wr.heap.size, 0, none⟩ 1 1 (bcells [9]) rfl rfl (World.news_of_block (heap_alloc_new wr _)) (bcells_one _) (by unfold maxLen; omega) (by omega) (by simp; omega) ?_; intro v4 w4 hown4 hgrow4 hjunk; clear hjunk; have hbel4 : Below w2.heap.size w2 w4 := below_app HE'.out (Nat.le_refl _) HO'.out hgrow4)
                    go_roundw
                    case rel => exact ⟨1 + 1, o' ++ [9], by go_num, by omega, ownB_app hown4, by simp; omega, run_blank hlt H3.out (by decide) HR'.out, hbel4⟩
                    case measure => simp [intOf]; omega
                  · go_wp2_with (at_builtin; refine wpList_append_own _ rfl (.tmp 79) (.tmp 83) 22 rfl w2.heap.size 5 i0 _ 1 1 Try.underlying22 hi hz0 hz1 hz2 rfl (by decide) _ o'.length (bcells o') rfl (HO'.out.alloc _) ⟨wr.heap.size, 0, none⟩ 1 1 (bcells [13]) rfl rfl (World.news_of_block (heap_alloc_new wr _)) (bcells_one _) (by unfold maxLen; omega) (by omega) (by simp; omega) ?_; intro v4 w4 hown4 hgrow4 hjunk; clear hjunk; have hbel4 : Below w2.heap.size w2 w4 := below_app HE'.out (Nat.le_refl _) HO'.out hgrow4)
                    go_roundw
                    case rel => exact ⟨2 + 1, o' ++ [13], by go_num, by omega, ownB_app hown4, by simp; omega, run_blank hlt H3.out (by decide) HR'.out, hbel4⟩
                    case measure => simp [intOf]; omega
                  · go_wp2_with (at_builtin; refine wpList_append_own _ rfl (.tmp 79) (.tmp 83) 22 rfl w2.heap.size 5 i0 _ 1 1 Try.underlying22 hi hz0 hz1 hz2 rfl (by decide) _ o'.length (bcells o') rfl (HO'.out.alloc _) ⟨wr.heap.size, 0, none⟩ 1 1 (bcells [32]) rfl rfl (World.news_of_block (heap_alloc_new wr _)) (bcells_one _) (by unfold maxLen; omega) (by omega) (by simp; omega) ?_; intro v4 w4 hown4 hgrow4 hjunk; clear hjunk; have hbel4 : Below w2.heap.size w2 w4 := below_app HE'.out (Nat.le_refl _) HO'.out hgrow4)
                    go_roundw
                    case rel => exact ⟨3 + 1, o' ++ [32], by go_num, by omega, ownB_app hown4, by simp; omega, run_blank hlt H3.out (by decide) HR'.out, hbel4⟩
                    case measure => simp [intOf]; omega
                · have hjn' : ¬ ((j : Int) < N) := by omega
                  go_wp2_with fail
                  subst hQ
                  go_wp2_with fail
                  go_roundw
                  case rel => exact ⟨k + 1, n + 1, o', by omega, by go_num, by go_num, by omega, HO'.out, by omega, HR'.out, HE'.out⟩
                  case measure => simp [intOf]; omega
          · have hnm' : ¬ ((n : Int) < b1.length) := by omega
            rcases hcase with hcase | hcase | hcase
            · have d32 : (((bs[k].toNat : Nat) : Int) != 32) = false := bne_eq_false_iff_eq.2 (by omega)
              clear hcase
              go_wp2_with (at_builtin; refine wpList_append_own _ rfl (.tmp 39) (.tmp 44) 22 rfl w2.heap.size 5 i0 _ 1 1 Try.underlying22 hi hz0 hz1 hz2 rfl (by decide) _ o.length (bcells o) rfl (HOB.out.alloc _) ⟨wr.heap.size, 0, none⟩ 1 1 (bcells [bs[k]]) rfl rfl (World.news_of_block (heap_alloc_new wr _)) (bcells_one _) (by unfold maxLen; omega) (by omega) (by simp; omega) ?_; intro v3 w3 hown3 hgrow hjunk; clear hjunk; have hbel3 : Below w2.heap.size w2 w3 := below_app HE.out (Nat.le_refl _) HOB.out hgrow; have hc3 : w3.cell? ⟨b, of + k, none⟩ = some (.int .u8 ((bs[k].toNat : Nat) : Int)) := (hbel3.cell (p := ⟨b, of + k, none⟩) hblt).trans HCW.out)
              go_roundw
              case rel => exact ⟨k + 1, n + 1, o ++ [bs[k]], by omega, by go_num, by go_num, by omega, ownB_app hown3, by simp; omega, HS.out, hbel3⟩
              case measure => simp [intOf]; omega
            · have d32 : (((bs[k].toNat : Nat) : Int) != 32) = true := bne_iff_ne.2 (by omega)
              have d9 : (((bs[k].toNat : Nat) : Int) != 9) = false := bne_eq_false_iff_eq.2 (by omega)
              clear hcase
              go_wp2_with (at_builtin; refine wpList_append_own _ rfl (.tmp 39) (.tmp 44) 22 rfl w2.heap.size 5 i0 _ 1 1 Try.underlying22 hi hz0 hz1 hz2 rfl (by decide) _ o.length (bcells o) rfl (HOB.out.alloc _) ⟨wr.heap.size, 0, none⟩ 1 1 (bcells [bs[k]]) rfl rfl (World.news_of_block (heap_alloc_new wr _)) (bcells_one _) (by unfold maxLen; omega) (by omega) (by simp; omega) ?_; intro v3 w3 hown3 hgrow hjunk; clear hjunk; have hbel3 : Below w2.heap.size w2 w3 := below_app HE.out (Nat.le_refl _) HOB.out hgrow; have hc3 : w3.cell? ⟨b, of + k, none⟩ = some (.int .u8 ((bs[k].toNat : Nat) : Int)) := (hbel3.cell (p := ⟨b, of + k, none⟩) hblt).trans HCW.out)
              go_roundw
              case rel => exact ⟨k + 1, n + 1, o ++ [bs[k]], by omega, by go_num, by go_num, by omega, ownB_app hown3, by simp; omega, HS.out, hbel3⟩
              case measure => simp [intOf]; omega
            · have d32 : (((bs[k].toNat : Nat) : Int) != 32) = true := bne_iff_ne.2 (by omega)
              have d9 : (((bs[k].toNat : Nat) : Int) != 9) = true := bne_iff_ne.2 (by omega)
              have d13 : (((bs[k].toNat : Nat) : Int) != 13) = false := bne_eq_false_iff_eq.2 (by omega)
              clear hcase
              go_wp2_with (at_builtin; refine wpList_append_own _ rfl (.tmp 39) (.tmp 44) 22 rfl w2.heap.size 5 i0 _ 1 1 Try.underlying22 hi hz0 hz1 hz2 rfl (by decide) _ o.length (bcells o) rfl (HOB.out.alloc _) ⟨wr.heap.size, 0, none⟩ 1 1 (bcells [bs[k]]) rfl rfl (World.news_of_block (heap_alloc_new wr _)) (bcells_one _) (by unfold maxLen; omega) (by omega) (by simp; omega) ?_; intro v3 w3 hown3 hgrow hjunk; clear hjunk; have hbel3 : Below w2.heap.size w2 w3 := below_app HE.out (Nat.le_refl _) HOB.out hgrow; have hc3 : w3.cell? ⟨b, of + k, none⟩ = some (.int .u8 ((bs[k].toNat : Nat) : Int)) := (hbel3.cell (p := ⟨b, of + k, none⟩) hblt).trans HCW.out)
              go_roundw
              case rel => exact ⟨k + 1, n + 1, o ++ [bs[k]], by omega, by go_num, by go_num, by omega, ownB_app hown3, by simp; omega, HS.out, hbel3⟩
              case measure => simp [intOf]; omega
          
        · have d32 : (((bs[k].toNat : Nat) : Int) != 32) = true := bne_iff_ne.2 (fun e => hbl (blank_is (by omega)))
          have d9 : (((bs[k].toNat : Nat) : Int) != 9) = true := bne_iff_ne.2 (fun e => hbl (blank_is (by omega)))
          have d13 : (((bs[k].toNat : Nat) : Int) != 13) = true := bne_iff_ne.2 (fun e => hbl (blank_is (by omega)))
          clear hbl
          go_wp2_with (at_builtin; refine wpList_append_own _ rfl (.tmp 39) (.tmp 44) 22 rfl w2.heap.size 5 i0 _ 1 1 Try.underlying22 hi hz0 hz1 hz2 rfl (by decide) _ o.length (bcells o) rfl (HOB.out.alloc _) ⟨wr.heap.size, 0, none⟩ 1 1 (bcells [bs[k]]) rfl rfl (World.news_of_block (heap_alloc_new wr _)) (bcells_one _) (by unfold maxLen; omega) (by omega) (by simp; omega) ?_; intro v3 w3 hown3 hgrow hjunk; clear hjunk; have hbel3 : Below w2.heap.size w2 w3 := below_app HE.out (Nat.le_refl _) HOB.out hgrow; have hc3 : w3.cell? ⟨b, of + k, none⟩ = some (.int .u8 ((bs[k].toNat : Nat) : Int)) := (hbel3.cell (p := ⟨b, of + k, none⟩) hblt).trans HCW.out)
          go_roundw
          case rel => exact ⟨k + 1, n, o ++ [bs[k]], by omega, by go_num, rfl, by omega, ownB_app hown3, by simp; omega, HS.out, hbel3⟩
          case measure => simp [intOf]; omega
      · obtain rfl : k = bs.length := by omega
        have kl := lex_own HOB.out
        have HT : lexF o = (ts, n1, 0) := by
          rw [← HL.out]
          exact lex_same (by rw [HR.out, List.take_length]) (by omega) (by omega)
        rw [HT] at kl
        have kl' : Calls Try.prog 11 #[_] wr fun e w' => ∃ v', e = .returned (.tuple #[v', .int .i64 n1, .int .i64 0]) ∧ Own w' wr.heap.size v' ts ∧ Below wr.heap.size wr w' := kl
        clear HT kl
        obtain ⟨av, cv, rfl, hv1, hv2⟩ := own_slice HO.out
        unfold maxLen at hv2
        go_wp2_with (go_at_call 11; refine kl'.mono ?_; rintro e w4 ⟨v4, rfl, ho4, hb4⟩; obtain ⟨a4, c4, rfl, hv3, hv4⟩ := own_slice ho4)
        have HO4 : Hid (Own w4 0 (.slice a4 ts.length c4) ts) := Own.low ho4
        have HV : Hid (Own w4 0 (.slice av ts.length cv) ts) := Own.low (ownsRow_later (ownsRow_later HO.out HE.out) hb4)
        have HW4 : Hid (Below w.heap.size w w4) := HW.out.trans ((HE.out.mono hsz).trans (hb4.mono (by omega)))
        clear ho4 hb4 kl'
        unfold maxLen at hv4
        go_loopw [16] (fun iv wx => ∃ i : Nat, i ≤ ts.length ∧ iv = .int .i64 i ∧ Own wx 0 (.slice a4 ts.length c4) ts ∧ Own wx 0 (.slice av ts.length cv) ts ∧ Below w.heap.size w wx) (fun iv _ => ts.length - (intOf iv).toNat)
        case atStart => exact ⟨0, Nat.zero_le _, rfl, HO4.out, HV.out, HW4.out⟩
        case round =>
          obtain ⟨i, hin, rfl, h4, h1, hbw⟩ := hrel
          by_cases hit : i < ts.length
          · obtain ⟨g4, x4, e4, _, _⟩ := h4.form (by omega)
            obtain ⟨g1, x1, e1, _, _⟩ := h1.form (by omega)
            cases e4
            cases e1
            obtain ⟨p0, p1, p2⟩ := Own.cellsAt h4 i hit
            obtain ⟨q0, q1, q2⟩ := Own.cellsAt h1 i hit
            have H4 : Hid (Own wr 0 (.slice (some ⟨g4, 0, none⟩) ts.length c4) ts) := h4
            have H1 : Hid (Own wr 0 (.slice (some ⟨g1, 0, none⟩) ts.length cv) ts) := h1
            clear h4 h1
            go_wp2_with fail
            go_region
            go_wp2
            go_roundw
            case rel => exact ⟨i + 1, by omega, by go_num, H4.out, H1.out, hbw.drew⟩
            case measure => simp [intOf]; omega
          · go_wp2
            go_ret
            exact ⟨rfl, hbw⟩
  · have hne : ((e1 : Int) != 0) = true := bne_iff_ne.2 (by omega)
    go_enter Try.func8, Try.ntmps8
    go_wp2_with (first | (go_at_call 10; refine (shown_any _).mono ?_; rintro e w1 ⟨rfl, hb1⟩) | (go_at_call 11; refine (kx _ hb1).mono ?_; rintro e w2 ⟨v, rfl, ho, hb2⟩))
    go_ret
    exact ⟨rfl, hb1.trans (hb2.mono hb1.size)⟩

end Go.Proofs.Ytlbiiffjodllnaa
