/-
  What Parse of package num, and the document's, answer: for every text of at most a million bytes.
-/
import Derived.Test.YtgjfhfjmdkhllaaDoorProg
import Derived.WalkKit
import Derived.WalkSpells
import Derived.WalkLawsBesides
import Derived.Lib.OthersKept
import Derived.Laws.RangeAny
import Derived.Test.YtgjfhfjmdkhllaaDoorNumM
namespace Go.Proofs.YtgjfhfjmdkhllaaDoor
open Go.RowKit

theorem ret_two {a b c d : Int} (h1 : c = a) (h2 : d = b) : Ending.returned (.tuple #[.int .i64 a, .int .i64 b]) = .returned (.tuple #[.int .i64 c, .int .i64 d]) := by rw [h1, h2]

set_option maxRecDepth 1000000 in
set_option maxHeartbeats 2000000 in
theorem parse_any (s : ByteArray) (hs : s.size ≤ 1000000) (w : World) :
    Calls Tryd.prog 65 #[.string s] w fun e w' => e = .returned (.tuple #[.int .i64 (pV s.data.toList), .int .i64 (pE s.data.toList)]) ∧ Below w.heap.size w w' := by
  generalize hV : pV s.data.toList = V
  generalize hE : pE s.data.toList = E
  by_cases h0 : s.size = 0
  · obtain ⟨e1, e2⟩ := pE_two (l := s.data.toList) (.inl ((nil_iff s).2 h0))
    have hl : s.toList = [] := by rw [ByteArray.toList_eq]; exact (nil_iff s).2 h0
    rw [hE] at e1; rw [hV] at e2
    subst e1; subst e2
    clear hV hE
    go_enter Tryd.func65, Tryd.ntmps65
    go_wp2
    go_ret2
    exact ⟨rfl, Below.refl _ _⟩
  have hp0 : 0 < s.size := by omega
  have hl : ¬ s.toList = [] := by rw [ByteArray.toList_eq, nil_iff]; exact h0
  have hle : s.toList.isEmpty = false := by simpa using hl
  have hne : s.data.toList ≠ [] := by rw [Ne, nil_iff]; exact h0
  by_cases hld : lead s.data.toList = true
  · obtain ⟨e1, e2⟩ := pE_two (l := s.data.toList) (.inr (.inl hld))
    obtain ⟨k1, k2⟩ := (lead_iff s hp0).1 hld
    have k3 : (s[0].toNat : Int) = 48 := by omega
    have k4 : (1 : Int) < (s.size : Int) := by omega
    rw [hE] at e1; rw [hV] at e2
    subst e1; subst e2
    clear hV hE hld hne k1
    go_enter Tryd.func65, Tryd.ntmps65
    go_wp2
    go_ret2
    exact ⟨rfl, Below.refl _ _⟩
  have hld1 : lead s.data.toList = false := by simpa using hld
  have hld2 : ¬ (s[0].toNat = 48 ∧ 1 < s.size) := fun h => hld ((lead_iff s hp0).2 h)
  have HV : Hid (pV s.data.toList = V) := hV
  have HE : Hid (pE s.data.toList = E) := hE
  have HL : Hid (lead s.data.toList = false) := hld1
  have HN : Hid (s.data.toList ≠ []) := hne
  clear hV hE hld hld1 hne
  by_cases k3 : (s[0].toNat : Int) = 48
  · have k4 : ¬ (1 : Int) < (s.size : Int) := by omega
    clear hld2
    go_enter Tryd.func65, Tryd.ntmps65
    go_wp2
    go_loopw [4] (fun v wr => ∃ pos : Nat, wr.heap[w.heap.size]? = some (.stringIter s pos) ∧ pos ≤ s.size ∧ Below w.heap.size w wr ∧ v = .int .i64 (valN (s.data.toList.take pos)) ∧ Hid (allD (s.data.toList.take pos) = true)) (fun _ wr => s.size - wr.iterPos w.heap.size)
    case atStart => exact ⟨0, World.iter_heap w s 0, by omega, (Below.refl _ _).alloc (Nat.le_refl _) _, rfl, rfl⟩
    case round =>
      obtain ⟨pos, hit, hpos, hbw, rfl, had⟩ := hrel
      have hpos0 := iterPos_of hit
      have hvb := valN_bounds _ had.out
      by_cases hp : pos < s.size
      · by_cases ha : (s[pos]'hp).toNat < 128
        · have hnx : ∀ ty, (Instr.next (.pointer (some ⟨w.heap.size, 0, none⟩)) true ty).run Tryd.prog wr = _ := fun ty => Lib.run_next_ascii_at wr w.heap.size s pos ty hit hp ha
          have hit2 := Lib.iterAt_heap wr w.heap.size s pos (pos + 1) hit
          have hbw2 := Lib.below_iterAt hbw (k := w.heap.size) (Nat.le_refl _) s (pos + 1)
          obtain ⟨W1, hW1⟩ : ∃ W1, W1 = wr.iterAt w.heap.size s (pos + 1) := ⟨_, rfl⟩
          rw [← hW1] at hnx hit2 hbw2
          clear hW1 hit hbw
          by_cases hd : 48 ≤ (s[pos]'hp).toNat ∧ (s[pos]'hp).toNat ≤ 57
          · obtain ⟨d1, d2⟩ := hd
            have had2 : Hid (allD (s.data.toList.take (pos + 1)) = true) := by
              show _ = _
              rw [take_snoc s pos hp, allD_snoc, had.out, (isD_iff _).2 ⟨d1, d2⟩]; rfl
            have hst : Hid (valN (s.data.toList.take (pos + 1)) = stepN (valN (s.data.toList.take pos)) (s[pos]'hp)) := by
              show _ = _
              rw [take_snoc s pos hp, valN_snoc]
            have i1 : (48 : Int) ≤ ((s[pos]'hp).toNat : Int) := by omega
            have i2 : ((s[pos]'hp).toNat : Int) ≤ 57 := by omega
            generalize hx : valN (s.data.toList.take pos) = x at *
            by_cases hn : x ≤ 1048576
            · have hst2 : Hid (valN (s.data.toList.take (pos + 1)) = x * 10 + (((s[pos]'hp).toNat : Int) - 48)) := by
                show _ = _
                rw [hst.out, stepN_le _ hn]
              clear hst
              go_wp2
              go_roundw
              case rel => exact ⟨pos + 1, hit2, by omega, hbw2, by rw [hst2.out], had2⟩
              case measure => rw [iterPos_of hit2, hpos0]; omega
            · have hst2 : Hid (valN (s.data.toList.take (pos + 1)) = x) := by
                show _ = _
                rw [hst.out, stepN_gt _ (by omega)]
              clear hst
              go_wp2
              go_roundw
              case rel => exact ⟨pos + 1, hit2, by omega, hbw2, by rw [hst2.out], had2⟩
              case measure => rw [iterPos_of hit2, hpos0]; omega
          · have hall := allD_take s pos hp ((isD_no _).2 hd)
            obtain ⟨e1, e2⟩ := pE_two (l := s.data.toList) (.inr (.inr hall))
            rw [HE.out] at e1; rw [HV.out] at e2
            subst e1; subst e2
            clear hall HE HV HL HN had hvb
            by_cases d1 : ((s[pos]'hp).toNat : Int) < 48
            · go_wp2
              go_ret2
              exact ⟨rfl, hbw2⟩
            · have d2 : (57 : Int) < ((s[pos]'hp).toNat : Int) := by omega
              go_wp2
              go_ret2
              exact ⟨rfl, hbw2⟩
        · have hnx : ∀ ty, (Instr.next (.pointer (some ⟨w.heap.size, 0, none⟩)) true ty).run Tryd.prog wr = _ := fun ty => Lib.run_next_any_at wr w.heap.size s pos ty hit hp
          have hh := decode_high s pos hp (by omega)
          have hbw2 := Lib.below_iterAt hbw (k := w.heap.size) (Nat.le_refl _) s (pos + (Utf8.decode s pos).2)
          obtain ⟨W1, hW1⟩ : ∃ W1, W1 = wr.iterAt w.heap.size s (pos + (Utf8.decode s pos).2) := ⟨_, rfl⟩
          rw [← hW1] at hnx hbw2
          clear hW1 hit hbw
          have hall := allD_take s pos hp ((isD_no _).2 (by omega))
          obtain ⟨e1, e2⟩ := pE_two (l := s.data.toList) (.inr (.inr hall))
          rw [HE.out] at e1; rw [HV.out] at e2
          subst e1; subst e2
          clear hall HE HV HL HN had hvb
          have d0 : ¬ (((Utf8.decode s pos).1 : Nat) : Int) < 48 := by omega
          have d2 : (57 : Int) < (((Utf8.decode s pos).1 : Nat) : Int) := by omega
          go_wp2
          go_ret2
          exact ⟨rfl, hbw2⟩
      · have hnx : ∀ ty, (Instr.next (.pointer (some ⟨w.heap.size, 0, none⟩)) true ty).run Tryd.prog wr = _ := fun ty => Lib.run_next_end_at wr w.heap.size s pos ty hit hp
        rw [take_all s pos hp] at had hvb ⊢
        by_cases hn : valN s.data.toList ≤ 1048576
        · obtain ⟨e1, e2⟩ := pE_ok HN.out HL.out had.out hn
          have e3 : Hid (V = valN s.data.toList) := by rw [← HV.out]; exact e2
          rw [HE.out] at e1
          subst e1
          clear HE HV HL HN had e2
          generalize valN s.data.toList = x at *
          go_wp2
          go_ret2
          exact ⟨ret_two e3.out rfl, hbw⟩
        · obtain ⟨e1, e2⟩ := pE_three HN.out HL.out had.out (by omega)
          rw [HE.out] at e1; rw [HV.out] at e2
          subst e1; subst e2
          clear HE HV HL HN had
          generalize valN s.data.toList = x at *
          go_wp2
          go_ret2
          exact ⟨rfl, hbw⟩
  · clear hld2
    go_enter Tryd.func65, Tryd.ntmps65
    go_wp2
    go_loopw [4] (fun v wr => ∃ pos : Nat, wr.heap[w.heap.size]? = some (.stringIter s pos) ∧ pos ≤ s.size ∧ Below w.heap.size w wr ∧ v = .int .i64 (valN (s.data.toList.take pos)) ∧ Hid (allD (s.data.toList.take pos) = true)) (fun _ wr => s.size - wr.iterPos w.heap.size)
    case atStart => exact ⟨0, World.iter_heap w s 0, by omega, (Below.refl _ _).alloc (Nat.le_refl _) _, rfl, rfl⟩
    case round =>
      obtain ⟨pos, hit, hpos, hbw, rfl, had⟩ := hrel
      have hpos0 := iterPos_of hit
      have hvb := valN_bounds _ had.out
      by_cases hp : pos < s.size
      · by_cases ha : (s[pos]'hp).toNat < 128
        · have hnx : ∀ ty, (Instr.next (.pointer (some ⟨w.heap.size, 0, none⟩)) true ty).run Tryd.prog wr = _ := fun ty => Lib.run_next_ascii_at wr w.heap.size s pos ty hit hp ha
          have hit2 := Lib.iterAt_heap wr w.heap.size s pos (pos + 1) hit
          have hbw2 := Lib.below_iterAt hbw (k := w.heap.size) (Nat.le_refl _) s (pos + 1)
          obtain ⟨W1, hW1⟩ : ∃ W1, W1 = wr.iterAt w.heap.size s (pos + 1) := ⟨_, rfl⟩
          rw [← hW1] at hnx hit2 hbw2
          clear hW1 hit hbw
          by_cases hd : 48 ≤ (s[pos]'hp).toNat ∧ (s[pos]'hp).toNat ≤ 57
          · obtain ⟨d1, d2⟩ := hd
            have had2 : Hid (allD (s.data.toList.take (pos + 1)) = true) := by
              show _ = _
              rw [take_snoc s pos hp, allD_snoc, had.out, (isD_iff _).2 ⟨d1, d2⟩]; rfl
            have hst : Hid (valN (s.data.toList.take (pos + 1)) = stepN (valN (s.data.toList.take pos)) (s[pos]'hp)) := by
              show _ = _
              rw [take_snoc s pos hp, valN_snoc]
            have i1 : (48 : Int) ≤ ((s[pos]'hp).toNat : Int) := by omega
            have i2 : ((s[pos]'hp).toNat : Int) ≤ 57 := by omega
            generalize hx : valN (s.data.toList.take pos) = x at *
            by_cases hn : x ≤ 1048576
            · have hst2 : Hid (valN (s.data.toList.take (pos + 1)) = x * 10 + (((s[pos]'hp).toNat : Int) - 48)) := by
                show _ = _
                rw [hst.out, stepN_le _ hn]
              clear hst
              go_wp2
              go_roundw
              case rel => exact ⟨pos + 1, hit2, by omega, hbw2, by rw [hst2.out], had2⟩
              case measure => rw [iterPos_of hit2, hpos0]; omega
            · have hst2 : Hid (valN (s.data.toList.take (pos + 1)) = x) := by
                show _ = _
                rw [hst.out, stepN_gt _ (by omega)]
              clear hst
              go_wp2
              go_roundw
              case rel => exact ⟨pos + 1, hit2, by omega, hbw2, by rw [hst2.out], had2⟩
              case measure => rw [iterPos_of hit2, hpos0]; omega
          · have hall := allD_take s pos hp ((isD_no _).2 hd)
            obtain ⟨e1, e2⟩ := pE_two (l := s.data.toList) (.inr (.inr hall))
            rw [HE.out] at e1; rw [HV.out] at e2
            subst e1; subst e2
            clear hall HE HV HL HN had hvb
            by_cases d1 : ((s[pos]'hp).toNat : Int) < 48
            · go_wp2
              go_ret2
              exact ⟨rfl, hbw2⟩
            · have d2 : (57 : Int) < ((s[pos]'hp).toNat : Int) := by omega
              go_wp2
              go_ret2
              exact ⟨rfl, hbw2⟩
        · have hnx : ∀ ty, (Instr.next (.pointer (some ⟨w.heap.size, 0, none⟩)) true ty).run Tryd.prog wr = _ := fun ty => Lib.run_next_any_at wr w.heap.size s pos ty hit hp
          have hh := decode_high s pos hp (by omega)
          have hbw2 := Lib.below_iterAt hbw (k := w.heap.size) (Nat.le_refl _) s (pos + (Utf8.decode s pos).2)
          obtain ⟨W1, hW1⟩ : ∃ W1, W1 = wr.iterAt w.heap.size s (pos + (Utf8.decode s pos).2) := ⟨_, rfl⟩
          rw [← hW1] at hnx hbw2
          clear hW1 hit hbw
          have hall := allD_take s pos hp ((isD_no _).2 (by omega))
          obtain ⟨e1, e2⟩ := pE_two (l := s.data.toList) (.inr (.inr hall))
          rw [HE.out] at e1; rw [HV.out] at e2
          subst e1; subst e2
          clear hall HE HV HL HN had hvb
          have d0 : ¬ (((Utf8.decode s pos).1 : Nat) : Int) < 48 := by omega
          have d2 : (57 : Int) < (((Utf8.decode s pos).1 : Nat) : Int) := by omega
          go_wp2
          go_ret2
          exact ⟨rfl, hbw2⟩
      · have hnx : ∀ ty, (Instr.next (.pointer (some ⟨w.heap.size, 0, none⟩)) true ty).run Tryd.prog wr = _ := fun ty => Lib.run_next_end_at wr w.heap.size s pos ty hit hp
        rw [take_all s pos hp] at had hvb ⊢
        by_cases hn : valN s.data.toList ≤ 1048576
        · obtain ⟨e1, e2⟩ := pE_ok HN.out HL.out had.out hn
          have e3 : Hid (V = valN s.data.toList) := by rw [← HV.out]; exact e2
          rw [HE.out] at e1
          subst e1
          clear HE HV HL HN had e2
          generalize valN s.data.toList = x at *
          go_wp2
          go_ret2
          exact ⟨ret_two e3.out rfl, hbw⟩
        · obtain ⟨e1, e2⟩ := pE_three HN.out HL.out had.out (by omega)
          rw [HE.out] at e1; rw [HV.out] at e2
          subst e1; subst e2
          clear HE HV HL HN had
          generalize valN s.data.toList = x at *
          go_wp2
          go_ret2
          exact ⟨rfl, hbw⟩

set_option maxRecDepth 1000000 in
set_option maxHeartbeats 2000000 in
theorem refParse_any (s : ByteArray) (hs : s.size ≤ 1000000) (w : World) :
    Calls Tryd.prog 51 #[.string s] w fun e w' => e = .returned (.tuple #[.int .i64 (pV s.data.toList), .int .i64 (pE s.data.toList)]) ∧ w' = w := by
  generalize hV : pV s.data.toList = V
  generalize hE : pE s.data.toList = E
  by_cases h0 : s.size = 0
  · obtain ⟨e1, e2⟩ := pE_two (l := s.data.toList) (.inl ((nil_iff s).2 h0))
    have hle : s.toList.isEmpty = true := by rw [ByteArray.toList_eq, (nil_iff s).2 h0]; rfl
    rw [hE] at e1; rw [hV] at e2
    subst e1; subst e2
    clear hV hE
    go_enter Tryd.func51, Tryd.ntmps51
    go_wp2
    go_ret2
    exact ⟨rfl, rfl⟩
  have hp0 : 0 < s.size := by omega
  have hl : ¬ s.toList = [] := by rw [ByteArray.toList_eq, nil_iff]; exact h0
  have hle : s.toList.isEmpty = false := by simpa using hl
  have HN : Hid (s.data.toList ≠ []) := by show _ ≠ _; rw [Ne, nil_iff]; exact h0
  have HV : Hid (pV s.data.toList = V) := hV
  have HE : Hid (pE s.data.toList = E) := hE
  have HL := lead_iff s hp0
  clear hV hE hl
  have HL2 : Hid (lead s.data.toList = true ↔ s[0].toNat = 48 ∧ 1 < s.size) := HL
  clear HL
  go_enter Tryd.func51, Tryd.ntmps51
  go_wp2
  go_loop [4, 5, 6] (fun v g i => ∃ k : Nat, k ≤ s.size ∧ i = .int .i64 k ∧ v = .int .i64 (valN (s.data.toList.take k)) ∧ g = .bool (decide (1048576 < valN (s.data.toList.take k))) ∧ Hid (allD (s.data.toList.take k) = true)) (fun _ _ i => s.size - (intOf i).toNat)
  case atStart => exact ⟨0, by omega, rfl, rfl, rfl, rfl⟩
  case round =>
    obtain ⟨k, hk, rfl, rfl, rfl, had⟩ := hrel
    have hvb := valN_bounds _ had.out
    by_cases hp : k < s.size
    · by_cases hd : 48 ≤ (s[k]'hp).toNat ∧ (s[k]'hp).toNat ≤ 57
      · obtain ⟨d1, d2⟩ := hd
        have had2 : Hid (allD (s.data.toList.take (k + 1)) = true) := by
          show _ = _
          rw [take_snoc s k hp, allD_snoc, had.out, (isD_iff _).2 ⟨d1, d2⟩]; rfl
        have hst : Hid (valN (s.data.toList.take (k + 1)) = stepN (valN (s.data.toList.take k)) (s[k]'hp)) := by
          show _ = _
          rw [take_snoc s k hp, valN_snoc]
        have i1 : (48 : Int) ≤ ((s[k]'hp).toNat : Int) := by omega
        have i2 : ((s[k]'hp).toNat : Int) ≤ 57 := by omega
        generalize hx : valN (s.data.toList.take k) = x at *
        by_cases hn : x ≤ 1048576
        · have hst2 : Hid (valN (s.data.toList.take (k + 1)) = x * 10 + ((s[k]'hp).toNat : Int) - 48) := by
            show _ = _
            rw [hst.out, stepN_le _ hn]; omega
          have hg : decide (1048576 < x) = false := by simp; omega
          rw [hg]
          clear hst hx
          go_wp2
          go_round
          case rel => exact ⟨k + 1, by omega, by go_num, by rw [hst2.out], by rw [hst2.out], had2⟩
          case measure => simp [intOf]; omega
        · have hst2 : Hid (valN (s.data.toList.take (k + 1)) = x) := by
            show _ = _
            rw [hst.out, stepN_gt _ (by omega)]
          have hg : decide (1048576 < x) = true := by simp; omega
          rw [hg]
          clear hst hx
          go_wp2
          go_round
          case rel => exact ⟨k + 1, by omega, by go_num, by rw [hst2.out], by rw [hst2.out, hg], had2⟩
          case measure => simp [intOf]; omega
      · have hall := allD_take s k hp ((isD_no _).2 hd)
        obtain ⟨e1, e2⟩ := pE_two (l := s.data.toList) (.inr (.inr hall))
        rw [HE.out] at e1; rw [HV.out] at e2
        subst e1; subst e2
        clear hall HE HV HL2 HN had hvb
        by_cases d1 : ((s[k]'hp).toNat : Int) < 48
        · go_wp2
          go_ret2
          exact ⟨rfl, rfl⟩
        · have d2 : (57 : Int) < ((s[k]'hp).toNat : Int) := by omega
          go_wp2
          go_ret2
          exact ⟨rfl, rfl⟩
    · rw [take_all s k hp] at had hvb ⊢
      by_cases hld : s[0].toNat = 48 ∧ 1 < s.size
      · obtain ⟨e1, e2⟩ := pE_two (l := s.data.toList) (.inr (.inl (HL2.out.2 hld)))
        obtain ⟨k1, k2⟩ := hld
        have k3 : (s[0].toNat : Int) = 48 := by omega
        have k4 : (1 : Int) < (s.size : Int) := by omega
        rw [HE.out] at e1; rw [HV.out] at e2
        subst e1; subst e2
        clear HE HV HL2 HN had k1
        generalize valN s.data.toList = x at *
        go_wp2
        go_ret2
        exact ⟨rfl, rfl⟩
      have hl0 : lead s.data.toList = false := by
        cases h : lead s.data.toList with
        | false => rfl
        | true => exact absurd (HL2.out.1 h) hld
      by_cases hn : valN s.data.toList ≤ 1048576
      · obtain ⟨e1, e2⟩ := pE_ok HN.out hl0 had.out hn
        have e3 : Hid (V = valN s.data.toList) := by rw [← HV.out]; exact e2
        have hg : decide (1048576 < valN s.data.toList) = false := by simp; omega
        rw [hg]
        rw [HE.out] at e1
        subst e1
        clear HE HV HL2 HN had e2 hg hl0
        generalize valN s.data.toList = x at *
        by_cases k3 : (s[0].toNat : Int) = 48
        · have k4 : ¬ (1 : Int) < (s.size : Int) := by omega
          clear hld
          go_wp2
          go_ret2
          exact ⟨ret_two e3.out rfl, rfl⟩
        · clear hld
          go_wp2
          go_ret2
          exact ⟨ret_two e3.out rfl, rfl⟩
      · obtain ⟨e1, e2⟩ := pE_three HN.out hl0 had.out (by omega)
        have hg : decide (1048576 < valN s.data.toList) = true := by simp; omega
        rw [hg]
        rw [HE.out] at e1; rw [HV.out] at e2
        subst e1; subst e2
        clear HE HV HL2 HN had hg hl0
        generalize valN s.data.toList = x at *
        by_cases k3 : (s[0].toNat : Int) = 48
        · have k4 : ¬ (1 : Int) < (s.size : Int) := by omega
          clear hld
          go_wp2
          go_ret2
          exact ⟨rfl, rfl⟩
        · clear hld
          go_wp2
          go_ret2
          exact ⟨rfl, rfl⟩

end Go.Proofs.YtgjfhfjmdkhllaaDoor
