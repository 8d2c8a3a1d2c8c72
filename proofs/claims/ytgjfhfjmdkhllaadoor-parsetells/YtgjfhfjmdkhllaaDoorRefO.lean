/- What numbers and op of the document's own Parse answer. -/
import Derived.Test.YtgjfhfjmdkhllaaDoorRefN
namespace Go.Proofs.YtgjfhfjmdkhllaaDoor
open Go.RowKit
open M
set_option linter.unusedVariables false
set_option linter.unusedSimpArgs false

theorem below_drewN {B : Nat} {a w : World} (h : Below B a w) (q : Nat) : Below B a (w.drewN q) := ⟨h.os, h.tape, h.output, h.size, h.block⟩

theorem refParse_tok (l : List UInt8) (hl : l.length ≤ 65536) (w : World) (E V : Int) (hE : pE l = E) (hV : pV l = V) : Calls Tryd.prog 51 #[strV l] w fun e w' => e = .returned (.tuple #[.int .i64 V, .int .i64 E]) ∧ w' = w := by
  subst hE; subst hV
  have := refParse_any ⟨l.toArray⟩ (by show l.toArray.size ≤ _; simp; omega) w
  have e1 : (⟨l.toArray⟩ : ByteArray).data.toList = l := by simp
  rw [e1] at this
  exact this

set_option maxRecDepth 1000000 in
set_option maxHeartbeats 4000000 in
theorem numbers_any (b o cap base gx cx : Nat) (l : List Tok) (ws : List (List UInt8)) (w : World) (hcap : l.length ≤ cap) (hn : l.length ≤ 1000000) (ht : TAt w b o l) (hbw : b < w.heap.size)
    (hx : w.ownsRow base 9 1 (.slice (some ⟨gx, 0, none⟩) ws.length cx) ws.length (ws.map strV)) (hgx : gx < w.heap.size) (hwl : ws.length ≤ 100) (htx : ∀ t ∈ l, t.text.length ≤ 65536) (R : List Int × Int) (hR : numF ws l [] = R) :
    Calls Tryd.prog 34 #[.slice (some ⟨b, o, none⟩) l.length cap, .slice (some ⟨gx, 0, none⟩) ws.length cx] w fun e w' => ∃ v, e = .returned (.tuple #[v, .int .i64 R.2]) ∧ w'.ownsRow w.heap.size 3 1 v R.1.length (R.1.map intV) ∧ Below w.heap.size w w' := by
  obtain ⟨i3, hi3, hz0, hz1, hz2⟩ := info_parts info3
  have hcx : ws.length ≤ cx := by
    rcases hx.2 with ⟨hv, _⟩ | ⟨g', c', cur, hv, _, _, h1, _⟩
    · cases hv
    · cases hv; exact h1
  have hwc : ∀ k (h : k < ws.length), w.cell? ⟨gx, k, none⟩ = some (strV ws[k]) := fun k h => by
    have := own_cell hx k (by simpa using h)
    rw [List.getElem_map] at this
    exact this
  have HWC : Hid (∀ k (h : k < ws.length), w.cell? ⟨gx, k, none⟩ = some (strV ws[k])) := hwc
  have HTA : Hid (TAt w b o l) := ht
  have HTX : Hid (∀ t ∈ l, t.text.length ≤ 65536) := htx
  have HR : Hid (numF ws l [] = R) := hR
  obtain ⟨n1, hn1⟩ : ∃ n1, l.length = n1 := ⟨_, rfl⟩
  obtain ⟨n2, hn2⟩ : ∃ n2, ws.length = n2 := ⟨_, rfl⟩
  have HN1 : Hid (l.length = n1) := hn1
  have HN2 : Hid (ws.length = n2) := hn2
  rw [hn1] at hcap hn
  rw [hn2] at hcx hwl
  rw [hn1, hn2]
  have HBS : Hid (Below w.heap.size w (w.alloc (.cells #[] 3))) := (Below.refl _ _).alloc (Nat.le_refl _) _
  have HOS : Hid ((w.alloc (.cells #[] 3)).ownsRow w.heap.size 3 1 (.slice (some ⟨w.heap.size, 0, none⟩) 0 0) 0 []) := World.ownsRow_lit w #[] 0 (Nat.le_refl _) (Nat.zero_le _) rfl
  clear hx hwc ht htx hR hn1 hn2
  go_enter Tryd.func34, Tryd.ntmps34
  go_wp2
  go_loopw [6, 7] (fun v i wr => ∃ (k : Nat) (ns : List Int), i = .int .i64 k ∧ k ≤ n1 ∧ k ≤ n2 ∧ ns.length ≤ k ∧ Hid (wr.ownsRow w.heap.size 3 1 v ns.length (ns.map intV)) ∧ Below w.heap.size w wr ∧ Hid (numF (ws.drop k) (l.drop k) ns = R)) (fun _ i _ => n1 + n2 + 1 - (intOf i).toNat)
  case atStart => exact ⟨0, [], rfl, by omega, by omega, by simp, HOS, HBS.out, HR⟩
  case round =>
    obtain ⟨k, ns, rfl, hk1, hk2, hnk, hon, hbr, hnum⟩ := hrel
    clear HOS HBS HR
    have hsz := hbr.size
    by_cases hkl : k < n1
    · have hkl' : k < l.length := by rw [HN1.out]; exact hkl
      have dl : decide ((k : Int) < (n1 : Int)) = true := decide_eq_true (by omega)
      have dl2 : decide ((k : Int) ≥ (n1 : Int)) = false := decide_eq_false (by omega)
      by_cases hkw : k < n2
      · have hkw' : k < ws.length := by rw [HN2.out]; exact hkw
        have dw : decide ((k : Int) < (n2 : Int)) = true := decide_eq_true (by omega)
        have dw2 : decide ((k : Int) ≥ (n2 : Int)) = false := decide_eq_false (by omega)
        obtain ⟨c0, c1, c2⟩ := (HTA.out.below hbr hbw) k hkl'
        have cw0 : wr.cell? ⟨gx, k, none⟩ = some (strV ws[k]) := by rw [hbr.cell (p := ⟨gx, k, none⟩) hgx]; exact HWC.out k hkw'
        have hf := hnum.out
        rw [List.drop_eq_getElem_cons hkw', List.drop_eq_getElem_cons hkl'] at hf
        unfold numF at hf
        have hTx := HTX.out l[k] (List.getElem_mem hkl')
        have HF0 := hide_it hf
        clear hf hnum
        generalize ws[k] = x at *
        generalize l[k] = t at *
        have hf := HF0.out
        clear HF0
        by_cases hx : x = [78]
        · subst hx
          rw [if_pos rfl] at hf
          have dx : (([78] : List UInt8) == [78]) = true := by decide
          by_cases h2 : t.kind = 2
          · rw [if_pos h2] at hf
            have d2 : (((t.kind : Nat) : Int) != 2) = false := by rw [h2]; rfl
            obtain ⟨E, hE⟩ : ∃ E, pE t.text = E := ⟨_, rfl⟩
            obtain ⟨V, hV⟩ : ∃ V, pV t.text = V := ⟨_, rfl⟩
            have kP := refParse_tok t.text hTx wr E V hE hV
            rw [hE, hV] at hf
            clear hE hV hTx h2
            by_cases h0 : E = 0
            · subst h0
              rw [if_pos rfl] at hf
              have HF := hide_it hf
              clear hf
              go_wp2_with (first | (go_at_call 51; refine kP.mono ?_; rintro e w5 ⟨rfl, rfl⟩) | (at_builtin; refine wpList_append_own _ rfl (.tmp 74) (.tmp 76) 64 rfl w.heap.size 3 i3 _ 1 8 Tryd.underlying64 hi3 hz0 hz1 hz2 rfl (by decide) _ _ _ rfl (hon.out.alloc _) ⟨w5.heap.size, 0, none⟩ 1 1 [intV V] rfl rfl (World.news_of_block (heap_alloc_new w5 _)) (by intro u hu; simp at hu; subst hu; rfl) (by unfold maxLen; omega) (by omega) (by simp; omega) ?_; intro v6 w6 ho6 hg6 _))
              go_roundw
              case rel => exact ⟨k + 1, ns ++ [V], by go_num, by omega, by omega, by simp; omega, ints_snoc ho6, (hbr.alloc (by omega) _).grown hg6 (by simp; omega) (fun q hq => (hon.out.lt q hq).1), HF⟩
              case measure => simp [intOf]; omega
            · have h0' : (E != 0) = true := bne_iff_ne.2 h0
              rw [if_neg h0] at hf
              subst hf
              go_wp2_with (go_at_call 51; refine kP.mono ?_; rintro e w5 ⟨rfl, rfl⟩)
              go_ret2
              exact ⟨_, rfl, World.ownsRow_nil _ _ _ _, hbr⟩
          · rw [if_neg h2] at hf
            subst hf
            have d2 : (((t.kind : Nat) : Int) != 2) = true := bne_iff_ne.2 (by omega)
            clear h2
            go_wp2
            go_ret2
            exact ⟨_, rfl, World.ownsRow_nil _ _ _ _, hbr⟩
        · rw [if_neg hx] at hf
          have dx : (x == [78]) = false := beq_eq_false_iff_ne.2 hx
          clear hx
          by_cases h1 : t.kind = 1
          · have d1 : (((t.kind : Nat) : Int) != 1) = false := by rw [h1]; rfl
            by_cases he : t.text = x
            · have de : (t.text == x) = true := beq_iff_eq.2 he
              rw [if_pos ⟨h1, he⟩] at hf
              have HF := hide_it hf
              clear hf h1 he
              go_wp2
              go_quiet (fail)
              all_goals go_wp2
              go_roundw
              case rel => exact ⟨k + 1, ns, by go_num, by omega, by omega, by omega, hon, below_drewN hbr _, HF⟩
              case measure => simp [intOf]; omega
            · have de : (t.text == x) = false := beq_eq_false_iff_ne.2 he
              rw [if_neg (fun h => he h.2)] at hf
              subst hf
              clear h1 he
              go_wp2
              go_quiet (fail)
              all_goals go_wp2
              go_ret2
              exact ⟨_, rfl, World.ownsRow_nil _ _ _ _, below_drewN hbr _⟩
          · have d1 : (((t.kind : Nat) : Int) != 1) = true := bne_iff_ne.2 (by omega)
            rw [if_neg (fun h => h1 h.1)] at hf
            subst hf
            clear h1
            go_wp2
            go_quiet (fail)
            all_goals go_wp2
            go_ret2
            exact ⟨_, rfl, World.ownsRow_nil _ _ _ _, below_drewN hbr _⟩
      · have hke : k = n2 := by omega
        have dw : decide ((k : Int) < (n2 : Int)) = false := decide_eq_false (by omega)
        have dw2 : decide ((k : Int) ≥ (n2 : Int)) = true := decide_eq_true (by omega)
        have hf := hnum.out
        rw [List.drop_eq_getElem_cons hkl', show ws.drop k = [] from List.drop_eq_nil_of_le (by rw [HN2.out]; omega)] at hf
        unfold numF at hf
        subst hf
        clear hnum
        go_wp2
        go_ret2
        exact ⟨_, rfl, World.ownsRow_nil _ _ _ _, hbr⟩
    · have hke : k = n1 := by omega
      have dl : decide ((k : Int) < (n1 : Int)) = false := decide_eq_false (by omega)
      have dl2 : decide ((k : Int) ≥ (n1 : Int)) = true := decide_eq_true (by omega)
      by_cases hkw : k < n2
      · have hkw' : k < ws.length := by rw [HN2.out]; exact hkw
        have dw : decide ((k : Int) < (n2 : Int)) = true := decide_eq_true (by omega)
        have dw2 : decide ((k : Int) ≥ (n2 : Int)) = false := decide_eq_false (by omega)
        have hf := hnum.out
        rw [List.drop_eq_getElem_cons hkw', show l.drop k = [] from List.drop_eq_nil_of_le (by rw [HN1.out]; omega)] at hf
        unfold numF at hf
        subst hf
        clear hnum
        go_wp2
        go_ret2
        exact ⟨_, rfl, World.ownsRow_nil _ _ _ _, hbr⟩
      · have dw : decide ((k : Int) < (n2 : Int)) = false := decide_eq_false (by omega)
        have hf := hnum.out
        rw [show ws.drop k = [] from List.drop_eq_nil_of_le (by rw [HN2.out]; omega), show l.drop k = [] from List.drop_eq_nil_of_le (by rw [HN1.out]; omega)] at hf
        unfold numF at hf
        subst hf
        clear hnum
        go_wp2
        go_ret2
        exact ⟨_, rfl, hon.out, hbr⟩

end Go.Proofs.YtgjfhfjmdkhllaaDoor
