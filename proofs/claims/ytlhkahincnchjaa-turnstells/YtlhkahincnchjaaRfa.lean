/- The document's own turns: Find, cost, Join. -/
import Derived.Test.YtlhkahincnchjaaMul
import Derived.Deep.RegionHeld3
import Derived.Deep.CutRange
import Derived.Deep.CutBlock
import Derived.BigQuiet
namespace Go.Proofs.Ytlhkahincnchjaa
open Go.RowKit
open M
set_option linter.unusedVariables false
set_option linter.unusedSimpArgs false

set_option maxRecDepth 1000000 in
set_option maxHeartbeats 2000000 in
theorem rfind_any {w : World} {F : Nat → Prop} {t : Nat} {x : Tn} (h : MO 50 48 w F t x) (hn : x.n ≤ 1000000) (id : Int) :
    Calls Try.prog 21 #[ptr t, .int .i64 id] w fun e w' => e = .returned (.int .i64 (plc x id)) ∧ w' = w := by
  obtain ⟨v, h1, _⟩ := h
  have c1 := h1.c1
  obtain ⟨ao, cap, rfl, hcap, hm, hmb⟩ := h1.mbs
  have HM := hide_it hmb
  have HP := hide_it (plc_cases x id)
  clear hmb h1
  generalize plc x id = z at *
  generalize x.n = n at *
  go_enter Try.func21, Try.ntmps21
  go_wp2
  go_loop [5] (fun i => ∃ k : Nat, k ≤ n ∧ i = .int .i64 k ∧ Hid (∀ j, j < k → x.I j ≠ id)) (fun i => n - (intOf i).toNat)
  case atStart => exact ⟨0, Nat.zero_le _, rfl, fun j hj => by omega⟩
  case round =>
    obtain ⟨k, hk, rfl, HN⟩ := hrel
    by_cases hlt : k < n
    · obtain ⟨g, rfl, hg, m0, m1, m2⟩ := HM.out k hlt
      clear hg m1 m2
      by_cases he : x.I k = id
      · have HZ : Hid (z = k) := by
          rcases HP.out with ⟨k', h1, h2, h3, h4⟩ | ⟨h1, _⟩
          · rw [h4]
            have : k' = k := by
              rcases Nat.lt_trichotomy k' k with q | q | q
              · exact absurd h2 (HN.out k' q)
              · exact q
              · exact absurd he (h3 k q)
            show (k' : Int) = k; rw [this]
          · exact absurd he (h1 k hlt)
        have hd : (x.I k == id) = true := by simpa using he
        clear he HN HP HM
        generalize x.I k = i0 at *
        go_wp2
        go_ret
        exact ⟨ret_int HZ.out.symm, rfl⟩
      · have HN2 : Hid (∀ j, j < k + 1 → x.I j ≠ id) := fun j hj => by
          by_cases q : j = k
          · subst q; exact he
          · exact HN.out j (by omega)
        have hd : (x.I k == id) = false := by simpa using he
        clear he HN HP HM
        generalize x.I k = i0 at *
        go_wp2
        go_round
        case rel => exact ⟨k + 1, by omega, by go_num, HN2⟩
        case measure => simp [intOf]; omega
    · have HZ : Hid (z = -1) := by
        rcases HP.out with ⟨k', h1, h2, h3, h4⟩ | ⟨_, h⟩
        · exact absurd h2 (HN.out k' (by omega))
        · exact h
      clear HN HP HM
      go_wp2
      go_ret
      exact ⟨ret_int HZ.out.symm, rfl⟩

set_option maxRecDepth 1000000 in
set_option maxHeartbeats 2000000 in
theorem rcost_any {w : World} {la : Option Addr} {l : List Wn} {m lc : Nat} (hl : Ws w la l) (hm : l.length = m) (hm2 : m ≤ 1000000) (id : Int) :
    Calls Try.prog 32 #[.slice la m lc, .int .i64 id] w fun e w' => e = .returned (.int .i64 (costOf l id)) ∧ w' = w := by
  have HL := hide_it hl
  have HM := hide_it hm
  clear hl hm
  go_enter Try.func32, Try.ntmps32
  go_wp2
  go_loop [5] (fun i => ∃ k : Nat, k ≤ m ∧ i = .int .i64 k ∧ Hid (costOf l id = costOf (l.drop k) id)) (fun i => m - (intOf i).toNat)
  case atStart => exact ⟨0, Nat.zero_le _, rfl, rfl⟩
  case round =>
    obtain ⟨k, hk, rfl, HN⟩ := hrel
    by_cases hlt : k < m
    · have hkl : k < l.length := by have := HM.out; omega
      obtain ⟨b, o, rfl, hb, c0, c1⟩ := HL.out k hkl
      have hd := HN.out
      rw [List.drop_eq_getElem_cons hkl, costOf_cons] at hd
      clear hb HL HM
      by_cases e1 : l[k].1 = id
      · have k1 : (l[k].1 == id) = true := by simpa using e1
        by_cases e2 : 1 ≤ l[k].2
        · by_cases e3 : l[k].2 ≤ 1048576
          · rw [if_pos ⟨e1, e2, e3⟩] at hd
            have HZ : Hid (costOf l id = l[k].2) := hd
            have k2 : decide (1 ≤ l[k].2) = true := decide_eq_true e2
            have k3 : decide (l[k].2 ≤ 1048576) = true := decide_eq_true e3
            clear e1 e2 e3 hd HN
            generalize l[k].1 = i0 at *
            generalize l[k].2 = c at *
            go_wp2
            go_ret
            exact ⟨ret_int HZ.out.symm, rfl⟩
          · rw [if_neg (fun q => e3 q.2.2)] at hd
            have HZ := hide_it hd
            have k2 : decide (1 ≤ l[k].2) = true := decide_eq_true e2
            have k3 : decide (l[k].2 ≤ 1048576) = false := decide_eq_false e3
            clear e1 e2 e3 hd HN
            generalize l[k].1 = i0 at *
            generalize l[k].2 = c at *
            go_wp2
            go_round
            case rel => exact ⟨k + 1, by omega, by go_num, HZ⟩
            case measure => simp [intOf]; omega
        · rw [if_neg (fun q => e2 q.2.1)] at hd
          have HZ := hide_it hd
          have k2 : decide (1 ≤ l[k].2) = false := decide_eq_false e2
          clear e1 e2 hd HN
          generalize l[k].1 = i0 at *
          generalize l[k].2 = c at *
          go_wp2
          go_round
          case rel => exact ⟨k + 1, by omega, by go_num, HZ⟩
          case measure => simp [intOf]; omega
      · rw [if_neg (fun q => e1 q.1)] at hd
        have HZ := hide_it hd
        have k1 : (l[k].1 == id) = false := by simpa using e1
        clear e1 hd HN
        generalize l[k].1 = i0 at *
        generalize l[k].2 = c at *
        go_wp2
        go_round
        case rel => exact ⟨k + 1, by omega, by go_num, HZ⟩
        case measure => simp [intOf]; omega
    · have HZ : Hid (costOf l id = 0) := by
        have := HN.out
        rw [List.drop_of_length_le (by have := HM.out; omega)] at this
        exact this
      clear HN HL HM
      go_wp2
      go_ret
      exact ⟨ret_int HZ.out.symm, rfl⟩

theorem owns_empty {w : World} (e : TypeId) (n : Nat) (h : w.heap.size = n) (I W C : Nat → Int) : (w.alloc (.cells #[] e)).ownsRow n e 3 (.slice (some ⟨n, 0, none⟩) 0 0) 0 (mrow 0 I W C) := by
  subst h
  exact ⟨rfl, .inr ⟨w.heap.size, 0, #[], rfl, Nat.le_refl _, heap_alloc_new w _, Nat.le_refl _, Nat.zero_le _, rfl, rfl⟩⟩

set_option maxRecDepth 1000000 in
set_option maxHeartbeats 4000000 in
theorem rjoin_any {w : World} {F : Nat → Prop} {t : Nat} {x : Tn} (h : MO 50 48 w F t x) (hs : x.n < 1000000) (id wt : Int) : Calls Try.prog 14 #[ptr t, .int .i64 id, .int .i64 wt] w fun e w' => e = .returned (.int .i64 (joinE x id wt)) ∧ Hid (St 50 48 F w w' t (joinX x id wt)) := by
  have s0 := hide_it (St.refl h)
  by_cases h1 : wt < 1
  · have e : joinE x id wt = 1 := by unfold joinE; rw [if_pos (.inl h1)]
    have e2 : joinX x id wt = x := by unfold joinX; rw [e]; rfl
    rw [e, e2]
    have hd : decide (wt < 1) = true := by simpa using h1
    clear e e2 h h1 hs
    go_enter Try.func14, Try.ntmps14
    go_wp2
    go_ret
    exact ⟨rfl, s0⟩
  · have hd : decide (wt < 1) = false := by simpa using h1
    by_cases h2 : 100 < wt
    · have e : joinE x id wt = 1 := by unfold joinE; rw [if_pos (.inr h2)]
      have e2 : joinX x id wt = x := by unfold joinX; rw [e]; rfl
      rw [e, e2]
      have hd2 : decide (100 < wt) = true := by simpa using h2
      clear e e2 h h1 hs h2
      go_enter Try.func14, Try.ntmps14
      go_wp2
      go_ret
      exact ⟨rfl, s0⟩
    · have hd2 : decide (100 < wt) = false := by simpa using h2
      have k1 := rfind_any h (by omega) id
      by_cases hp : 0 ≤ plc x id
      · have e : joinE x id wt = 8 := by unfold joinE; rw [if_neg (by omega), if_pos hp]
        have e2 : joinX x id wt = x := by unfold joinX; rw [e]; rfl
        rw [e, e2]
        have hd3 : decide (0 ≤ plc x id) = true := by simpa using hp
        clear e e2 h h1 hs h2 hp
        generalize plc x id = z at *
        go_enter Try.func14, Try.ntmps14
        go_wp2_with (go_at_call 21; refine k1.mono ?_; rintro e w1 ⟨rfl, e9⟩; have e8 := e9.symm; clear e9; subst e8)
        go_ret
        exact ⟨rfl, s0⟩
      · have e : joinE x id wt = 0 := by unfold joinE; rw [if_neg (by omega), if_neg hp]
        have e2 : joinX x id wt = { x with n := x.n + 1, I := upd x.I x.n id, W := upd x.W x.n wt, C := upd x.C x.n 0 } := by unfold joinX; rw [e]; rfl
        rw [e, e2]
        have hd3 : decide (0 ≤ plc x id) = false := by simpa using hp
        obtain ⟨v, sv⟩ := SV.start h
        have q1 := sv.tm.c1
        have HSV := hide_it sv
        have HS := hide_it hs
        obtain ⟨ao, cap, rfl, hcap, hcm, hmb⟩ := sv.tm.mbs
        have hno : ao = none → x.n = 0 ∧ cap = 0 := fun q => by
          subst q
          rcases sv.tm.row.2 with ⟨e, _⟩ | ⟨g, c, cur, e, _⟩
          · have := (Value.slice.inj e); exact ⟨this.2.1, this.2.2⟩
          · cases e
        have HNO := hide_it hno
        have HT : Hid (∀ W, Below w.heap.size w W → W.cell? ⟨t, 1, none⟩ = some (.slice ao x.n cap) ∧ W.frozen? ⟨t, 1, none⟩ = false) := fun W hW => by
          have h2 := sv.below hW
          exact ⟨h2.tm.c1, h2.tm.fr 1⟩
        have BA : Hid (Below w.heap.size w (w.alloc (.cells #[] 50))) := (Below.refl _ _).alloc (Nat.le_refl _) _
        have OA : Hid ((w.alloc (.cells #[] 50)).ownsRow w.heap.size 50 3 (.slice (some ⟨w.heap.size, 0, none⟩) 0 0) 0 (mrow 0 x.I x.W x.C)) := owns_empty 50 _ rfl _ _ _
        have MA : Hid (MbO (w.alloc (.cells #[] 50)) ao x.n x.I x.W x.C) := hmb.mbo.below BA.out
        obtain ⟨q2, _⟩ := HT.out _ BA.out
        clear e e2 h h1 hs h2 hp sv hmb hno
        generalize plc x id = z at *
        go_enter Try.func14, Try.ntmps14
        go_wp2_with (first | (go_at_call 21; refine k1.mono ?_; rintro e w1 ⟨rfl, e9⟩; have e8 := e9.symm; clear e9; subst e8) | (at_builtin; refine wpList_mcat 46 50 Try.underlying46 info50 rfl (.tmp 18) (.tmp 22) rfl OA.out MA.out HNO.out (by have := HS.out; omega) rfl rfl BA.out.size ?_; intro ao' cap' m w2 HO; have TW := hide_it (BA.out.grown HO.out.2.2.1 BA.out.size (fun q hq => (OA.out.lt q hq).1)); refine Hid.out ?_))
        refine hide_it ?_
        have HO2 : Hid (m = x.n ∧ w2.ownsRow w.heap.size 50 3 (.slice ao' m cap') m (mrow m x.I x.W x.C)) := by
          obtain ⟨em, ho, _⟩ := HO.out
          rw [Nat.zero_add] at em
          subst em
          refine ⟨rfl, ?_⟩
          rw [mrow_congr (I' := x.I) (W' := x.W) (C' := x.C) (fun j hj => by unfold cat; rw [if_neg (by omega), Nat.sub_zero]) (fun j hj => by unfold cat; rw [if_neg (by omega), Nat.sub_zero]) (fun j hj => by unfold cat; rw [if_neg (by omega), Nat.sub_zero])] at ho
          exact ho
        have BA2 : Hid (Below w2.heap.size w2 (w2.alloc (.cells #[.int .i64 id, .int .i64 wt, .int .i64 0] 50))) := (Below.refl _ _).alloc (Nat.le_refl _) _
        have OA2 : Hid ((w2.alloc (.cells #[.int .i64 id, .int .i64 wt, .int .i64 0] 50)).ownsRow w.heap.size 50 3 (.slice ao' m cap') m (mrow m x.I x.W x.C)) := owns_below HO2.out.2 BA2.out
        have B12 : Hid (Below w.heap.size w (w2.alloc (.cells #[.int .i64 id, .int .i64 wt, .int .i64 0] 50))) := TW.out.trans (BA2.out.mono TW.out.size)
        clear HO OA MA
        go_wp2_with (at_builtin; refine wpList_mcat 46 50 Try.underlying46 info50 rfl (.tmp 23) (.tmp 27) rfl OA2.out (mbo_one 50 rfl id wt 0) (fun q => by cases q) (by have := HS.out; have := HO2.out.1; omega) rfl rfl B12.out.size ?_; intro ao3 cap3 m3 w3 HO3; have TW3 := hide_it (B12.out.grown HO3.out.2.2.1 B12.out.size (fun q hq => (OA2.out.lt q hq).1)); obtain ⟨x1, x2⟩ := HT.out _ TW3.out)
        go_ret
        refine ⟨rfl, ?_⟩
        obtain ⟨em, ho, _⟩ := HO3.out
        have em1 := HO2.out.1
        subst em1
        subst em
        rw [mrow_congr (I' := upd x.I x.n id) (W' := upd x.W x.n wt) (C' := upd x.C x.n 0)
          (fun j hj => by
            unfold cat upd
            by_cases e : j = x.n
            · rw [if_neg (by omega), if_pos e]
            · rw [if_pos (by omega), if_neg e])
          (fun j hj => by
            unfold cat upd
            by_cases e : j = x.n
            · rw [if_neg (by omega), if_pos e]
            · rw [if_pos (by omega), if_neg e])
          (fun j hj => by
            unfold cat upd
            by_cases e : j = x.n
            · rw [if_neg (by omega), if_pos e]
            · rw [if_pos (by omega), if_neg e])] at ho
        have hf : Fresh w (.slice ao x.n cap) (.slice ao3 (x.n + 1) cap3) := by
          cases hb : (Value.slice ao3 (x.n + 1) cap3).ownBlock with
          | none =>
            rcases ho.2 with ⟨e, q⟩ | ⟨g, c, cur, e, _⟩
            · omega
            · rw [e] at hb; simp [Value.ownBlock] at hb
          | some k => exact .inr ⟨k, hb, (ho.lt k hb).1⟩
        obtain ⟨a1, a2, a3⟩ := HSV.out.tm.putV HSV.out.ft ((Turn.of_below (F := fun k => (Value.slice ao x.n cap).ownBlock = some k) TW3.out)) (owns_base ho (fun k hk => Nat.zero_le k)) hf
        exact HSV.out.st.trans ⟨⟨_, a1, a2⟩, a3⟩
end Go.Proofs.Ytlhkahincnchjaa
