/- The document's own timer: Due. -/
import Derived.Test.YtlpbjafdmhcmgaaRfB
namespace Go.Proofs.Ytlpbjafdmhcmgaa
open Go.RowKit
open M
set_option linter.unusedVariables false
set_option linter.unusedSimpArgs false

/-- A row of numbers. -/
def rowZ (L : List Int) : List Value := L.map fun x => Value.int .i64 x
theorem rowZ_len (L : List Int) : (rowZ L).length = L.length := by simp [rowZ]
theorem rowZ_push (L : List Int) (x : Int) : rowZ L ++ [.int .i64 x] = rowZ (L ++ [x]) := by simp [rowZ]
theorem rd_own {w : World} {base : Nat} {ao : Option Addr} {c : Nat} {L : List Int} (h : w.ownsRow base 3 1 (.slice ao L.length c) L.length (rowZ L)) : Rd w ao L := by
  intro i hi
  rcases h.2 with ⟨e, q⟩ | ⟨b, c', cur, e, _, hg, h1, h2, h3, h4⟩
  · omega
  · cases e
    refine ⟨b, rfl, block_lt hg, ?_⟩
    rw [cell_of_row w b i _ _ _ hg, ← Array.getElem?_toList, ← List.getElem?_take_of_lt (j := L.length * 1) (by omega), h4]
    simp [rowZ, hi]

/-- On the way: of the row X is left. -/
structure RD (w W : World) (rb : Nat) (n : Int) (v vk : Value) (X : List It) : Prop where
  rm : RM W rb n vk X
  tu : Turn (fun k => k = rb) w W
  ob : ∀ k, vk.ownBlock = some k → v.ownBlock = some k
section
variable {w W W' : World} {rb : Nat} {n : Int} {v vk : Value} {X : List It}
theorem RD.next (h : RD w W rb n v vk X) (hv : ∀ k, v.ownBlock = some k → k < w.heap.size) (hb : Below w.heap.size W W') (hrb : rb < w.heap.size) : RD w W' rb n v vk X :=
  ⟨h.rm.keep hb.size (fun k hk => hb.block k (by rcases hk with rfl | q; exact hrb; exact hv k (h.ob k q))), ⟨hb.os.trans h.tu.os, hb.tape.trans h.tu.tape, hb.output.trans h.tu.output, Nat.le_trans h.tu.size hb.size, fun k hk hn => (hb.block k hk).trans (h.tu.block k hk hn)⟩, h.ob⟩
theorem RD.form (h : RD w W rb n v vk X) : ∃ ao c, vk = .slice ao X.length c ∧ X.length ≤ c ∧ c ≤ maxLen := h.rm.row.form
theorem RD.cells (h : RD w W rb n v vk X) : W.cell? ⟨rb, 1, none⟩ = some vk ∧ W.frozen? ⟨rb, 1, none⟩ = false := ⟨h.rm.c1, h.rm.fr 1⟩
/-- The first item taken off. -/
theorem RD.tail {p : It} {T : List It} (h : RD w W rb n v vk (p :: T)) : ∃ b o c, vk = .slice (some ⟨b, o, none⟩) (T.length + 1) (c + 1) ∧ T.length ≤ c ∧ c + 1 ≤ maxLen ∧ W.cell? ⟨b, o, none⟩ = some (.int .i64 p.1) ∧ W.cell? ⟨b, o + 1, none⟩ = some (.int .i64 p.2) ∧
    ∀ W', Below w.heap.size W W' → rb < w.heap.size → (∀ k, v.ownBlock = some k → k < w.heap.size) → RD w (W'.setCell ⟨rb, 1, none⟩ (.slice (some ⟨b, if c = 0 then o else o + 2, none⟩) T.length c)) rb n v (.slice (some ⟨b, if c = 0 then o else o + 2, none⟩) T.length c) T := by
  have hrow := h.rm.row
  rcases hrow with ⟨e, _⟩ | ⟨b, o, c0, e1, h2, h3, h4, h5⟩
  · cases e
  · obtain ⟨c, rfl⟩ : ∃ c, c0 = c + 1 := ⟨c0 - 1, by simp at h2; omega⟩
    have hlen : T.length ≤ c := by simp at h2; omega
    have q0 := h5 0 (.int .i64 p.1) (by obtain ⟨x, y⟩ := p; rfl)
    have q1 := h5 1 (.int .i64 p.2) (by obtain ⟨x, y⟩ := p; rfl)
    have hbv : v.ownBlock = some b := h.ob b (by rw [e1]; rfl)
    refine ⟨b, o, c, e1, hlen, h3, by simpa using q0, q1, fun W' hb hrb hv => ?_⟩
    have hblt := hv b hbv
    have hne : b ≠ rb := fun e => h.rm.ne (by rw [e1, ← e]; rfl)
    have r2 := h.next hv hb hrb
    have t2 := r2.tu
    refine ⟨⟨?_, .inr ⟨b, _, c, rfl, hlen, by omega, by simp [World.setCell]; have := hb.size; omega, fun j u hu => ?_⟩, fun e => hne (by simpa [Value.ownBlock] using e)⟩, t2.setCell (.inl rfl) _, fun k hk => by simp [Value.ownBlock] at hk; rw [← hk]; exact hbv⟩
    · have := heap_setCell_at (o := 1) r2.rm.blk (.slice (some ⟨b, if c = 0 then o else o + 2, none⟩) T.length c)
      simpa using this
    · have hu2 : (icells (p :: T))[j + 2]? = some u := by obtain ⟨x, y⟩ := p; simpa [icells] using hu
      have hc := h5 (j + 2) u hu2
      have hc0 : ¬ c = 0 := by
        intro e
        have : T = [] := List.eq_nil_of_length_eq_zero (by omega)
        subst this
        simp [icells] at hu
      rw [if_neg hc0]
      have e3 : (W'.setCell ⟨rb, 1, none⟩ (.slice (some ⟨b, if c = 0 then o else o + 2, none⟩) T.length c)).heap[b]? = W.heap[b]? := by
        rw [Below.heap_setCell _ _ _ _ hne, hb.block b hblt]
      rw [if_neg hc0] at e3
      rw [World.cell?_of_block (w := W) (a := ⟨b, o + 2 + j, none⟩) e3, ← hc]
      congr 2
      omega
end

set_option maxRecDepth 1000000 in
set_option maxHeartbeats 4000000 in
theorem rdue_any {w : World} {rb : Nat} {n : Int} {v : Value} {A D : List It} (h : RM w rb n v (A ++ D)) (hlen : A.length ≤ 100000) (hlen2 : D.length ≤ 100000) (now : Int) (hA : ∀ p ∈ A, p.2 ≤ now) (hD : ∀ p, D[0]? = some p → now < p.2) :
    Calls Try.prog 18 #[ptr rb, .int .i64 now] w fun e w' => ∃ ao c, e = .returned (.slice ao A.length c) ∧ Rd w' ao (A.map Prod.fst) ∧ ∃ v', RM w' rb n v' D ∧ Turn (RFoot rb v) w w' ∧ ∀ k, RFoot rb v' k → RFoot rb v k ∨ k = rb ∨ w.heap.size ≤ k := by
  obtain ⟨i0, hi0, hz0, hz1, hz2⟩ := info_parts info3
  have hrb := h.lt rb (.inl rfl)
  have HV : Hid (∀ k, v.ownBlock = some k → k < w.heap.size) := fun k hk => h.lt k (.inr hk)
  have own0 : (w.alloc (.cells #[] 3)).ownsRow w.heap.size 3 1 (.slice (some ⟨w.heap.size, 0, none⟩) 0 0) 0 [] := World.ownsRow_made w #[] 0 (Nat.le_refl _) (by simp [maxLen]) (by simp)
  have OW0 := hide_it own0
  have hb0 : Below w.heap.size w (w.alloc (.cells #[] 3)) := (Below.refl _ _).alloc (Nat.le_refl _) _
  have S0 : Hid (RD w (w.alloc (.cells #[] 3)) rb n v v (A ++ D)) := RD.next ⟨h, Turn.refl _ _, fun k hk => hk⟩ HV.out hb0 hrb
  have HA := hide_it hA
  have HD := hide_it hD
  clear own0 hb0 h hA hD
  go_enter Try.func18, Try.ntmps18
  go_wp2
  go_loopg [5] (A.length) (fun gk ov W => ∃ (A1 A2 : List It) (ao : Option Addr) (c : Nat) (vk : Value), ov = .slice ao A1.length c ∧ Hid (gk = A2.length) ∧ Hid (A = A1 ++ A2) ∧ Hid (RD w W rb n v vk (A2 ++ D)) ∧ Hid (W.ownsRow w.heap.size 3 1 (.slice ao A1.length c) A1.length (rowZ (A1.map Prod.fst))))
  case atStart => exact ⟨[], A, _, _, v, rfl, rfl, rfl, S0, OW0⟩
  case round =>
    clear S0 OW0
    obtain ⟨A1, A2, ao, c, vk, rfl, HG, HE, s, HO⟩ := hrel
    obtain ⟨q1, f1⟩ := s.out.cells
    cases A2 with
    | nil =>
      have HE2 : Hid (A = A1) := by have := HE.out; rw [List.append_nil] at this; exact this
      have HX : Hid (RD w wr rb n v vk D) := s.out
      cases D with
      | nil =>
        have e1 : vk = .slice none 0 0 ∨ ∃ b o cc, vk = .slice (some ⟨b, o, none⟩) 0 cc := by
          rcases HX.out.rm.row with ⟨_, e⟩ | ⟨b, o, cc, e, _⟩
          · exact .inl e
          · exact .inr ⟨b, o, cc, e⟩
        have hend : ∀ W, W = wr → ∃ ao' c', Ending.returned (.slice ao A1.length c) = .returned (.slice ao' A.length c') ∧ Rd W ao' (A.map Prod.fst) ∧ ∃ v', RM W rb n v' [] ∧ Turn (RFoot rb v) w W ∧ ∀ k, RFoot rb v' k → RFoot rb v k ∨ k = rb ∨ w.heap.size ≤ k := by
          rintro W rfl
          rw [HE2.out]
          have hO := HO.out
          rw [show A1.length = (A1.map Prod.fst).length by simp] at hO
          exact ⟨ao, c, rfl, rd_own hO, vk, HX.out.rm, HX.out.tu.mono (fun k _ hk => .inl hk), fun k hk => .inl (by rcases hk with z | z; exact .inl z; exact .inr (HX.out.ob k z))⟩
        have HEND := hide_it hend
        clear hend s HO HE
        rcases e1 with rfl | ⟨b, o, cc, rfl⟩
        · go_wp2
          go_ret
          exact HEND.out _ rfl
        · go_wp2
          go_ret
          exact HEND.out _ rfl
      | cons p T =>
        obtain ⟨b, o, cc, rfl, hc1, hc2, c1, c2, _⟩ := HX.out.tail
        have hnow : decide (p.2 ≤ now) = false := decide_eq_false (by have := HD.out p rfl; omega)
        have hend : ∀ W, W = wr → ∃ ao' c', Ending.returned (.slice ao A1.length c) = .returned (.slice ao' A.length c') ∧ Rd W ao' (A.map Prod.fst) ∧ ∃ v', RM W rb n v' (p :: T) ∧ Turn (RFoot rb v) w W ∧ ∀ k, RFoot rb v' k → RFoot rb v k ∨ k = rb ∨ w.heap.size ≤ k := by
          rintro W rfl
          rw [HE2.out]
          have hO := HO.out
          rw [show A1.length = (A1.map Prod.fst).length by simp] at hO
          exact ⟨ao, c, rfl, rd_own hO, _, HX.out.rm, HX.out.tu.mono (fun k _ hk => .inl hk), fun k hk => .inl (by rcases hk with z | z; exact .inl z; exact .inr (HX.out.ob k z))⟩
        have HEND := hide_it hend
        clear hend s HO HE HD
        obtain ⟨p1, p2⟩ := p
        simp only at c1 c2 hnow
        generalize T.length = tl at *
        go_wp2
        go_ret
        exact HEND.out _ rfl
    | cons p A3 =>
      have s' : RD w wr rb n v vk (p :: (A3 ++ D)) := s.out
      obtain ⟨b, o, cc, rfl, hc1, hc2, c1, c2, htl⟩ := s'.tail
      have hnow : decide (p.2 ≤ now) = true := decide_eq_true (HA.out p (by rw [HE.out]; simp))
      have HT := hide_it htl
      have hs := s.out.tu.size
      have HP : Hid (A = (A1 ++ [p]) ++ A3) := by have := HE.out; show A = (A1 ++ [p]) ++ A3; rw [this]; simp
      have HGG : Hid (A3.length + 1 = gk) := by have := HG.out; simp at this; show A3.length + 1 = gk; omega
      have hl1 : A1.length + 1 ≤ 100000 := by have := HE.out; rw [this] at hlen; simp at hlen; omega
      have HTL : Hid ((A3 ++ D).length ≤ 200000) := by have := HE.out; rw [this] at hlen; simp at hlen; show (A3 ++ D).length ≤ 200000; simp; omega
      clear htl HE HG s
      obtain ⟨p1, p2⟩ := p
      simp only at c1 c2 hnow
      obtain ⟨tl, htl⟩ : ∃ tl, (A3 ++ D).length = tl := ⟨_, rfl⟩
      have htl2 : tl ≤ 200000 := by have := HTL.out; omega
      simp only [htl] at hc1 q1 HT
      have HL2 := hide_it htl
      clear HTL htl s'
      have HQ : Hid (∀ W, Below w.heap.size wr W → W.cell? ⟨rb, 1, none⟩ = some (.slice (some ⟨b, o, none⟩) (tl + 1) (cc + 1)) ∧ W.frozen? ⟨rb, 1, none⟩ = false) := fun W hb => ⟨by rw [hb.cell (p := ⟨rb, 1, none⟩) hrb]; exact q1, by rw [hb.frozen (p := ⟨rb, 1, none⟩) hrb]; exact f1⟩
      by_cases hcc : cc = 0
      · subst hcc
        have htl0 : tl = 0 := by omega
        have HT2 : Hid (∀ W', Below w.heap.size wr W' → RD w (W'.setCell ⟨rb, 1, none⟩ (.slice (some ⟨b, o, none⟩) 0 0)) rb n v (.slice (some ⟨b, o, none⟩) 0 0) (A3 ++ D)) := fun W' hb => by
          have := HT.out W' hb hrb HV.out
          rw [if_pos rfl, htl0] at this
          exact this
        rw [htl0] at HQ q1
        clear HT hc1 htl0 HL2 htl2
        go_wp2_with (at_builtin; refine wpList_append_tell _ rfl (.tmp 24) (.tmp 32) 35 rfl w.heap.size 3 i0 _ 1 8 Try.underlying35 hi0 hz0 hz1 hz2 rfl (by decide) (.slice ao A1.length c) A1.length (rowZ (A1.map Prod.fst)) rfl (HO.out.alloc _) ⟨_, 0, none⟩ 1 1 [.int .i64 p1] rfl rfl (World.news_of_block (heap_alloc_new _ _)) (by simp [Value.oneCell']) (by unfold maxLen; omega) (by omega) (by simp; omega) ?_; intro v' w3 hown' hgrow hfr; have hB3 : Below w.heap.size wr w3 := (((Below.refl _ _).alloc hs (.cells #[.int .i64 p1] 3))).grown hgrow (by simp; omega) (fun q hq => (HO.out.lt q hq).1); have HR4 := hide_it (HT2.out w3 hB3); obtain ⟨q3, f3⟩ := HQ.out w3 hB3; obtain ⟨ao2, c2', rfl⟩ := own_slice hown'; have hO3 : w3.ownsRow w.heap.size 3 1 (.slice ao2 (A1 ++ [(p1, p2)]).length c2') (A1 ++ [(p1, p2)]).length (rowZ ((A1 ++ [(p1, p2)]).map Prod.fst)) := (by rw [List.map_append, List.length_append]; simp only [List.map_cons, List.map_nil]; rw [← rowZ_push]; exact hown'); have HO3 := hide_it (owns_keep (w' := w3.setCell ⟨rb, 1, none⟩ (.slice (some ⟨b, o, none⟩) 0 0)) hO3 (fun k hk => Below.heap_setCell _ _ _ _ (fun e => by have := (hO3.lt k hk).1; simp at e; omega))); clear hown' hgrow hfr hO3 hB3)
        go_roundg A3.length
        case measure => have := HGG.out; omega
        case rel => exact ⟨A1 ++ [(p1, p2)], A3, ao2, c2', _, by simp, rfl, HP, HR4, HO3⟩
      · have hcc1 : ¬ (cc : Int) + 1 = 1 := by omega
        have hcc2 : ¬ cc + 1 = 1 := by omega
        have HT2 : Hid (∀ W', Below w.heap.size wr W' → RD w (W'.setCell ⟨rb, 1, none⟩ (.slice (some ⟨b, o + 2, none⟩) tl cc)) rb n v (.slice (some ⟨b, o + 2, none⟩) tl cc) (A3 ++ D)) := fun W' hb => by
          have := HT.out W' hb hrb HV.out
          rw [if_neg hcc] at this
          exact this
        unfold maxLen at hc2
        clear HT HL2
        go_wp2_with (at_builtin; refine wpList_append_tell _ rfl (.tmp 24) (.tmp 32) 35 rfl w.heap.size 3 i0 _ 1 8 Try.underlying35 hi0 hz0 hz1 hz2 rfl (by decide) (.slice ao A1.length c) A1.length (rowZ (A1.map Prod.fst)) rfl (HO.out.alloc _) ⟨_, 0, none⟩ 1 1 [.int .i64 p1] rfl rfl (World.news_of_block (heap_alloc_new _ _)) (by simp [Value.oneCell']) (by unfold maxLen; omega) (by omega) (by simp; omega) ?_; intro v' w3 hown' hgrow hfr; have hB3 : Below w.heap.size wr w3 := (((Below.refl _ _).alloc hs (.cells #[.int .i64 p1] 3))).grown hgrow (by simp; omega) (fun q hq => (HO.out.lt q hq).1); have HR4 := hide_it (HT2.out w3 hB3); obtain ⟨q3, f3⟩ := HQ.out w3 hB3; obtain ⟨ao2, c2', rfl⟩ := own_slice hown'; have hO3 : w3.ownsRow w.heap.size 3 1 (.slice ao2 (A1 ++ [(p1, p2)]).length c2') (A1 ++ [(p1, p2)]).length (rowZ ((A1 ++ [(p1, p2)]).map Prod.fst)) := (by rw [List.map_append, List.length_append]; simp only [List.map_cons, List.map_nil]; rw [← rowZ_push]; exact hown'); have HO3 := hide_it (owns_keep (w' := w3.setCell ⟨rb, 1, none⟩ (.slice (some ⟨b, o + 2, none⟩) tl cc)) hO3 (fun k hk => Below.heap_setCell _ _ _ _ (fun e => by have := (hO3.lt k hk).1; simp at e; omega))); clear hown' hgrow hfr hO3 hB3)
        go_roundg A3.length
        case measure => have := HGG.out; omega
        case rel => exact ⟨A1 ++ [(p1, p2)], A3, ao2, c2', _, by simp, rfl, HP, HR4, HO3⟩
end Go.Proofs.Ytlpbjafdmhcmgaa
