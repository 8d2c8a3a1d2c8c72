/- What 'row' of the document's own answer answers: a line's tokens, or that it is wrong. -/
import Derived.Test.YtgjfhfjmdkhllaaDoorRefA
namespace Go.Proofs.YtgjfhfjmdkhllaaDoor
open Go.RowKit
open M
set_option linter.unusedVariables false
set_option linter.unusedSimpArgs false

theorem one_of {s : ByteArray} {l : List UInt8} (h : s.data.toList = l) (k : Nat) (hk : k < l.length) : s.extract k (k + 1) = ⟨#[l[k]]⟩ := by
  have e : (s.extract k (k + 1)).data.toList = [l[k]] := by
    subst h
    simp only [ByteArray.data_extract, Array.toList_extract]
    rw [List.extract_eq_take_drop, show k + 1 - k = 1 by omega, List.drop_eq_getElem_cons hk]
    rfl
  exact ba_of e
theorem cells_turn (ts : List Tok) (t t' : Tok) (u : Value) (h : tcells t' = [.int .i64 t.kind, u, .int .i64 t.line]) : (cells (ts ++ [t])).set (ts.length * 3 + 1) u = cells (ts ++ [t']) := by
  rw [cells_app, cells_app]
  have hl := cells_len ts
  rw [List.set_append_right _ _ (by omega), show ts.length * 3 + 1 - (cells ts).length = 1 by omega]
  have e1 : cells [t] = tcells t := by simp [cells]
  have e2 : cells [t'] = tcells t' := by simp [cells]
  rw [e1, e2, h]
  rfl
theorem rowF_snoc {l : List UInt8} {line i : Nat} (h : i < l.length) : rowF (l.take (i + 1)) line = M.step (rowF (l.take i) line) l[i] := by
  unfold rowF
  rw [List.take_succ_eq_append_getElem h, run_app]
  rfl
theorem rowF_wrong {l : List UInt8} {line i m : Nat} {cur : List UInt8} {ts : List Tok} (h : i < l.length) (hr : rowF (l.take i) line = .ok m cur ts line) (hi : RowInv m cur ts line) (hc : cls l[i] = 0 ∨ (cls l[i] = 1 ∧ m = 2) ∨ (cls l[i] = 2 ∧ m = 1)) : rowF l line = .bad line := by
  unfold rowF at hr ⊢
  conv => lhs; rw [← List.take_append_drop i l, List.drop_eq_getElem_cons h]
  rw [run_app, hr]
  exact row_wrong hi hc _
theorem kind_is (c : UInt8) (k : Nat) (hk : kindF c = k) (ki : Int) (hki : ki = k) (w : World) : Calls Tryd.prog 50 #[.int .u8 ((c.toNat : Nat) : Int)] w fun e w' => e = .returned (.int .i64 ki) ∧ w' = w := by
  have := kind_any c w
  rw [hk] at this
  rw [hki]
  exact this
theorem kindF0 {c : UInt8} (h : cls c = 0) : kindF c = 0 := by unfold kindF; rw [if_neg (by omega), if_neg (by omega), if_neg (by omega)]
theorem kindF1 {c : UInt8} (h : cls c = 1) : kindF c = 1 := by unfold kindF; rw [if_pos h]
theorem kindF2 {c : UInt8} (h : cls c = 2) : kindF c = 2 := by unfold kindF; rw [if_neg (by omega), if_pos h]
theorem kindF3 {c : UInt8} (h : cls c = 3) : kindF c = 3 := by unfold kindF; rw [if_neg (by omega), if_neg (by omega), if_pos h]

/-- What row answers. -/
def RowPost (l : List UInt8) (line base : Nat) (e : Ending) (w' : World) : Prop :=
  (∃ l', rowF l line = .bad l' ∧ l' = line ∧ e = .returned (.tuple #[.slice none 0 0, .bool false])) ∨
  (∃ m cur ts v, rowF l line = .ok m cur ts line ∧ (flush m cur ts line).length ≤ 4000 ∧ e = .returned (.tuple #[v, .bool true]) ∧ OwnR w' base v (endLine (flush m cur ts line) line))

set_option maxRecDepth 1000000 in
set_option maxHeartbeats 4000000 in
theorem row_any (s : ByteArray) (l : List UInt8) (hs : s.data.toList = l) (hl : l.length ≤ 4000) (hno : ∀ c ∈ l, cls c ≠ 4 ∧ cls c ≠ 5) (line : Nat) (hline : line ≤ 100000) (w : World) :
    Calls Tryd.prog 31 #[.string s, .int .i64 line] w fun e w' => RowPost l line w.heap.size e w' ∧ Below w.heap.size w w' := by
  have hsz : s.size ≤ 4000 := by rw [ba_size hs]; exact hl
  have hsl := ba_size hs
  have HS : Hid (s.data.toList = l) := hs
  have HNO : Hid (∀ c ∈ l, cls c ≠ 4 ∧ cls c ≠ 5) := hno
  have HSL : Hid (s.size = l.length) := hsl
  obtain ⟨i0, hi, hz0, hz1, hz2⟩ := info_parts Tryd.info62
  have HOS : Hid (OwnR (w.alloc (.cells #[] 62)) w.heap.size (.slice (some ⟨w.heap.size, 0, none⟩) 0 0) []) := World.ownsRow_lit w #[] 0 (Nat.le_refl _) (Nat.zero_le _) rfl
  have HBS : Hid (Below w.heap.size w (w.alloc (.cells #[] 62))) := (Below.refl _ _).alloc (Nat.le_refl _) _
  clear hs hno hsl
  go_enter Tryd.func31, Tryd.ntmps31
  go_wp2
  go_loopw [6, 7, 8] (fun vo wv iv wr => ∃ (i m : Nat) (cur : List UInt8) (ts : List Tok), i ≤ s.size ∧ iv = .int .i64 i ∧ wv = .int .i64 (wasF m) ∧ rowF (l.take i) line = .ok m cur ts line ∧ RowInv m cur ts line ∧ (flush m cur ts line).length ≤ i ∧ cur.length ≤ i ∧ OwnR wr w.heap.size vo (flush m cur ts line) ∧ Below w.heap.size w wr) (fun _ _ iv _ => s.size - (intOf iv).toNat)
  case atStart => exact ⟨0, 0, [], [], Nat.zero_le _, rfl, rfl, rfl, row_start line, by simp [flush], Nat.zero_le _, HOS.out, HBS.out⟩
  case round =>
    obtain ⟨i, m, cur, ts, hk, rfl, rfl, hrow, hinv, hfl, hcur, hown, hbel⟩ := hrel
    have HF : Hid (rowF (l.take i) line = .ok m cur ts line) := hrow
    have HI : Hid (RowInv m cur ts line) := hinv
    have HO : Hid (OwnR wr w.heap.size u6 (flush m cur ts line)) := hown
    have HE : Hid (Below w.heap.size w wr) := hbel
    have hsr := hbel.size
    have hmode := hinv.mode
    clear hrow hinv hown hbel HOS HBS
    by_cases hlt : i < s.size
    · have hlt' : i < l.length := by rw [← HSL.out]; exact hlt
      have HG : Hid (s[i] = l[i]) := ba_get HS.out i hlt
      have hn := HNO.out l[i] (List.getElem_mem hlt')
      have hc4 : cls l[i] = 0 ∨ cls l[i] = 1 ∨ cls l[i] = 2 ∨ cls l[i] = 3 := by have := cls_le l[i]; omega
      clear hn
      rcases hc4 with hc | hc | hc | hc
      · rcases hmode with rfl | rfl | rfl
        · have hwas : ((wasF 0 : Nat) : Int) = 3 := rfl
          have kc := kind_is s[i] 0 (by rw [HG.out]; exact kindF0 hc) 0 rfl wr
          have HR : Hid (rowF l line = .bad line) := rowF_wrong hlt' HF.out HI.out (.inl hc)
          clear hc
          go_wp2_with (go_at_call 50; refine kc.mono ?_; rintro e w2 ⟨rfl, rfl⟩)
          go_ret2
          exact ⟨.inl ⟨line, HR.out, rfl, rfl⟩, HE.out⟩
        · have hwas : ((wasF 1 : Nat) : Int) = 1 := rfl
          have kc := kind_is s[i] 0 (by rw [HG.out]; exact kindF0 hc) 0 rfl wr
          have HR : Hid (rowF l line = .bad line) := rowF_wrong hlt' HF.out HI.out (.inl hc)
          clear hc
          go_wp2_with (go_at_call 50; refine kc.mono ?_; rintro e w2 ⟨rfl, rfl⟩)
          go_ret2
          exact ⟨.inl ⟨line, HR.out, rfl, rfl⟩, HE.out⟩
        · have hwas : ((wasF 2 : Nat) : Int) = 2 := rfl
          have kc := kind_is s[i] 0 (by rw [HG.out]; exact kindF0 hc) 0 rfl wr
          have HR : Hid (rowF l line = .bad line) := rowF_wrong hlt' HF.out HI.out (.inl hc)
          clear hc
          go_wp2_with (go_at_call 50; refine kc.mono ?_; rintro e w2 ⟨rfl, rfl⟩)
          go_ret2
          exact ⟨.inl ⟨line, HR.out, rfl, rfl⟩, HE.out⟩
      · rcases hmode with rfl | rfl | rfl
        · have hwas : ((wasF 0 : Nat) : Int) = 3 := rfl
          have kc := kind_is s[i] 1 (by rw [HG.out]; exact kindF1 hc) 1 rfl wr
          obtain ⟨r1, r2, r3, r4⟩ := row_new HI.out (k := 1) (by omega) hc
          have HF' : Hid (rowF (l.take (i + 1)) line = .ok 1 [l[i]] ts line) := by rw [rowF_snoc hlt', HF.out]; exact r1
          have HI' : Hid (RowInv 1 [l[i]] ts line) := r2
          have ho' := HO.out
          rw [r3] at ho'
          have HO' : Hid (OwnR wr w.heap.size u6 ts) := ho'
          clear ho'
          have hfl' : ts.length ≤ i := by rw [r3] at hfl; exact hfl
          have H4 : Hid (flush 1 [l[i]] ts line = ts ++ [⟨1, [l[i]], line⟩]) := r4
          have hex := one_of HS.out i hlt'
          clear r1 r2 r3 r4 hc HO hfl
          go_wp2_with (first | (go_at_call 50; refine kc.mono ?_; rintro e w2 ⟨rfl, rfl⟩) | (at_builtin; refine wpList_append_own _ rfl (.tmp 70) (.tmp 79) 57 rfl w.heap.size 62 i0 _ 3 32 Tryd.underlying57 hi hz0 hz1 hz2 rfl (by decide) _ ts.length (cells ts) rfl (HO'.out.alloc _) ⟨w2.heap.size, 0, none⟩ 1 1 (tcells ⟨1, [l[i]], line⟩) rfl rfl (World.news_of_block (heap_alloc_new w2 _)) (one_tok _) (by unfold maxLen; omega) (by omega) (by simp; omega) ?_; intro v3 w3 hown3 hgrow hjunk; clear hjunk; have hbel3 : Below w.heap.size w w3 := ((HE.out).alloc hsr _).grown hgrow (by simp; omega) (fun q hq => (HO'.out.lt q hq).1)))
          go_roundw
          case rel => exact ⟨i + 1, 1, [l[i]], ts, by omega, by go_num, rfl, HF'.out, HI'.out, by rw [H4.out]; simp; omega, by simp, by rw [H4.out]; exact ownR_snoc hown3, hbel3⟩
          case measure => simp [intOf]; omega
        · have hwas : ((wasF 1 : Nat) : Int) = 1 := rfl
          have kc := kind_is s[i] 1 (by rw [HG.out]; exact kindF1 hc) 1 rfl wr
          obtain ⟨r1, r2, r3, r4⟩ := row_same HI.out (by omega) hc
          have HF' : Hid (rowF (l.take (i + 1)) line = .ok 1 (cur ++ [l[i]]) ts line) := by rw [rowF_snoc hlt', HF.out]; exact r1
          have HI' : Hid (RowInv 1 (cur ++ [l[i]]) ts line) := r2
          have hO'' := HO.out
          rw [r3] at hO''
          have hO' : OwnR wr w.heap.size u6 (ts ++ [⟨1, cur, line⟩]) := hO''
          clear hO''
          have hfl' : ts.length + 1 ≤ i := by rw [r3] at hfl; simpa using hfl
          have H4 : Hid (flush 1 (cur ++ [l[i]]) ts line = ts ++ [⟨1, cur ++ [l[i]], line⟩]) := r4
          have hex := one_of HS.out i hlt'
          clear r1 r2 r3 r4 hc HO hfl
          obtain ⟨g, cp, rfl, hg, hgl⟩ := hO'.form (by simp)
          have hc1 := (OwnR.cellsAt hO' ts.length (by simp)).2.1
          have hfz := hO'.frozenAt (ts.length * 3 + 1)
          simp only [List.getElem_concat_length] at hc1
          obtain ⟨T, hT⟩ : ∃ T : ByteArray, T = ⟨cur.toArray⟩ := ⟨_, rfl⟩
          rw [← hT] at hc1
          have hTl : T.data.toList = cur := by rw [hT]
          have hTs : T.size ≤ 4000 := by rw [ba_size hTl]; omega
          have HTN : Hid (T ++ (⟨#[l[i]]⟩ : ByteArray) = ⟨(cur ++ [l[i]]).toArray⟩) := ba_of (by simp [hTl])
          have hst := hO'.stored (ts.length * 3 + 1) (.string (T ++ (⟨#[l[i]]⟩ : ByteArray)))
          have HST : Hid (OwnR (wr.setCell ⟨g, ts.length * 3 + 1, none⟩ (.string (T ++ (⟨#[l[i]]⟩ : ByteArray)))) w.heap.size (.slice (some ⟨g, 0, none⟩) (ts.length + 1) cp) (ts ++ [⟨1, cur ++ [l[i]], line⟩])) := by
            have := hst.1
            rw [cells_turn ts ⟨1, cur, line⟩ ⟨1, cur ++ [l[i]], line⟩ _ (by rw [HTN.out]; rfl)] at this
            unfold OwnR
            simpa using hide_it this
          have HE' : Hid (Below w.heap.size w (wr.setCell ⟨g, ts.length * 3 + 1, none⟩ (.string (T ++ (⟨#[l[i]]⟩ : ByteArray))))) := HE.out.setCell hg _
          clear hst hO' hT hTl
          go_wp2_with (go_at_call 50; refine kc.mono ?_; rintro e w2 ⟨rfl, rfl⟩)
          go_region
          go_wp2
          go_roundw
          case rel => exact ⟨i + 1, 1, cur ++ [l[i]], ts, by omega, by go_num, rfl, HF'.out, HI'.out, by rw [H4.out]; simp; omega, by simp; omega, by rw [H4.out]; exact HST.out, HE'.out.drew⟩
          case measure => simp [intOf]; omega
        · have hwas : ((wasF 2 : Nat) : Int) = 2 := rfl
          have kc := kind_is s[i] 1 (by rw [HG.out]; exact kindF1 hc) 1 rfl wr
          have HR : Hid (rowF l line = .bad line) := rowF_wrong hlt' HF.out HI.out (.inr (.inl ⟨hc, rfl⟩))
          clear hc
          go_wp2_with (go_at_call 50; refine kc.mono ?_; rintro e w2 ⟨rfl, rfl⟩)
          go_ret2
          exact ⟨.inl ⟨line, HR.out, rfl, rfl⟩, HE.out⟩
      · rcases hmode with rfl | rfl | rfl
        · have hwas : ((wasF 0 : Nat) : Int) = 3 := rfl
          have kc := kind_is s[i] 2 (by rw [HG.out]; exact kindF2 hc) 2 rfl wr
          obtain ⟨r1, r2, r3, r4⟩ := row_new HI.out (k := 2) (by omega) hc
          have HF' : Hid (rowF (l.take (i + 1)) line = .ok 2 [l[i]] ts line) := by rw [rowF_snoc hlt', HF.out]; exact r1
          have HI' : Hid (RowInv 2 [l[i]] ts line) := r2
          have ho' := HO.out
          rw [r3] at ho'
          have HO' : Hid (OwnR wr w.heap.size u6 ts) := ho'
          clear ho'
          have hfl' : ts.length ≤ i := by rw [r3] at hfl; exact hfl
          have H4 : Hid (flush 2 [l[i]] ts line = ts ++ [⟨2, [l[i]], line⟩]) := r4
          have hex := one_of HS.out i hlt'
          clear r1 r2 r3 r4 hc HO hfl
          go_wp2_with (first | (go_at_call 50; refine kc.mono ?_; rintro e w2 ⟨rfl, rfl⟩) | (at_builtin; refine wpList_append_own _ rfl (.tmp 70) (.tmp 79) 57 rfl w.heap.size 62 i0 _ 3 32 Tryd.underlying57 hi hz0 hz1 hz2 rfl (by decide) _ ts.length (cells ts) rfl (HO'.out.alloc _) ⟨w2.heap.size, 0, none⟩ 1 1 (tcells ⟨2, [l[i]], line⟩) rfl rfl (World.news_of_block (heap_alloc_new w2 _)) (one_tok _) (by unfold maxLen; omega) (by omega) (by simp; omega) ?_; intro v3 w3 hown3 hgrow hjunk; clear hjunk; have hbel3 : Below w.heap.size w w3 := ((HE.out).alloc hsr _).grown hgrow (by simp; omega) (fun q hq => (HO'.out.lt q hq).1)))
          go_roundw
          case rel => exact ⟨i + 1, 2, [l[i]], ts, by omega, by go_num, rfl, HF'.out, HI'.out, by rw [H4.out]; simp; omega, by simp, by rw [H4.out]; exact ownR_snoc hown3, hbel3⟩
          case measure => simp [intOf]; omega
        · have hwas : ((wasF 1 : Nat) : Int) = 1 := rfl
          have kc := kind_is s[i] 2 (by rw [HG.out]; exact kindF2 hc) 2 rfl wr
          have HR : Hid (rowF l line = .bad line) := rowF_wrong hlt' HF.out HI.out (.inr (.inr ⟨hc, rfl⟩))
          clear hc
          go_wp2_with (go_at_call 50; refine kc.mono ?_; rintro e w2 ⟨rfl, rfl⟩)
          go_ret2
          exact ⟨.inl ⟨line, HR.out, rfl, rfl⟩, HE.out⟩
        · have hwas : ((wasF 2 : Nat) : Int) = 2 := rfl
          have kc := kind_is s[i] 2 (by rw [HG.out]; exact kindF2 hc) 2 rfl wr
          obtain ⟨r1, r2, r3, r4⟩ := row_same HI.out (by omega) hc
          have HF' : Hid (rowF (l.take (i + 1)) line = .ok 2 (cur ++ [l[i]]) ts line) := by rw [rowF_snoc hlt', HF.out]; exact r1
          have HI' : Hid (RowInv 2 (cur ++ [l[i]]) ts line) := r2
          have hO'' := HO.out
          rw [r3] at hO''
          have hO' : OwnR wr w.heap.size u6 (ts ++ [⟨2, cur, line⟩]) := hO''
          clear hO''
          have hfl' : ts.length + 1 ≤ i := by rw [r3] at hfl; simpa using hfl
          have H4 : Hid (flush 2 (cur ++ [l[i]]) ts line = ts ++ [⟨2, cur ++ [l[i]], line⟩]) := r4
          have hex := one_of HS.out i hlt'
          clear r1 r2 r3 r4 hc HO hfl
          obtain ⟨g, cp, rfl, hg, hgl⟩ := hO'.form (by simp)
          have hc1 := (OwnR.cellsAt hO' ts.length (by simp)).2.1
          have hfz := hO'.frozenAt (ts.length * 3 + 1)
          simp only [List.getElem_concat_length] at hc1
          obtain ⟨T, hT⟩ : ∃ T : ByteArray, T = ⟨cur.toArray⟩ := ⟨_, rfl⟩
          rw [← hT] at hc1
          have hTl : T.data.toList = cur := by rw [hT]
          have hTs : T.size ≤ 4000 := by rw [ba_size hTl]; omega
          have HTN : Hid (T ++ (⟨#[l[i]]⟩ : ByteArray) = ⟨(cur ++ [l[i]]).toArray⟩) := ba_of (by simp [hTl])
          have hst := hO'.stored (ts.length * 3 + 1) (.string (T ++ (⟨#[l[i]]⟩ : ByteArray)))
          have HST : Hid (OwnR (wr.setCell ⟨g, ts.length * 3 + 1, none⟩ (.string (T ++ (⟨#[l[i]]⟩ : ByteArray)))) w.heap.size (.slice (some ⟨g, 0, none⟩) (ts.length + 1) cp) (ts ++ [⟨2, cur ++ [l[i]], line⟩])) := by
            have := hst.1
            rw [cells_turn ts ⟨2, cur, line⟩ ⟨2, cur ++ [l[i]], line⟩ _ (by rw [HTN.out]; rfl)] at this
            unfold OwnR
            simpa using hide_it this
          have HE' : Hid (Below w.heap.size w (wr.setCell ⟨g, ts.length * 3 + 1, none⟩ (.string (T ++ (⟨#[l[i]]⟩ : ByteArray))))) := HE.out.setCell hg _
          clear hst hO' hT hTl
          go_wp2_with (go_at_call 50; refine kc.mono ?_; rintro e w2 ⟨rfl, rfl⟩)
          go_region
          go_wp2
          go_roundw
          case rel => exact ⟨i + 1, 2, cur ++ [l[i]], ts, by omega, by go_num, rfl, HF'.out, HI'.out, by rw [H4.out]; simp; omega, by simp; omega, by rw [H4.out]; exact HST.out, HE'.out.drew⟩
          case measure => simp [intOf]; omega
      · rcases hmode with rfl | rfl | rfl
        · have hwas : ((wasF 0 : Nat) : Int) = 3 := rfl
          have kc := kind_is s[i] 3 (by rw [HG.out]; exact kindF3 hc) 3 rfl wr
          obtain ⟨r1, r2, r3⟩ := row_blank HI.out hc
          have HF' : Hid (rowF (l.take (i + 1)) line = .ok 0 [] (flush 0 cur ts line) line) := by rw [rowF_snoc hlt', HF.out]; exact r1
          have HI' : Hid (RowInv 0 [] (flush 0 cur ts line) line) := r2
          have HR3 : Hid _ := r3
          clear r1 r2 r3 hc
          go_wp2_with (go_at_call 50; refine kc.mono ?_; rintro e w2 ⟨rfl, rfl⟩)
          go_roundw
          case rel => exact ⟨i + 1, 0, [], flush 0 cur ts line, by omega, by go_num, rfl, HF'.out, HI'.out, by rw [HR3.out]; omega, by simp, by rw [HR3.out]; exact HO.out, HE.out⟩
          case measure => simp [intOf]; omega
        · have hwas : ((wasF 1 : Nat) : Int) = 1 := rfl
          have kc := kind_is s[i] 3 (by rw [HG.out]; exact kindF3 hc) 3 rfl wr
          obtain ⟨r1, r2, r3⟩ := row_blank HI.out hc
          have HF' : Hid (rowF (l.take (i + 1)) line = .ok 0 [] (flush 1 cur ts line) line) := by rw [rowF_snoc hlt', HF.out]; exact r1
          have HI' : Hid (RowInv 0 [] (flush 1 cur ts line) line) := r2
          have HR3 : Hid _ := r3
          clear r1 r2 r3 hc
          go_wp2_with (go_at_call 50; refine kc.mono ?_; rintro e w2 ⟨rfl, rfl⟩)
          go_roundw
          case rel => exact ⟨i + 1, 0, [], flush 1 cur ts line, by omega, by go_num, rfl, HF'.out, HI'.out, by rw [HR3.out]; omega, by simp, by rw [HR3.out]; exact HO.out, HE.out⟩
          case measure => simp [intOf]; omega
        · have hwas : ((wasF 2 : Nat) : Int) = 2 := rfl
          have kc := kind_is s[i] 3 (by rw [HG.out]; exact kindF3 hc) 3 rfl wr
          obtain ⟨r1, r2, r3⟩ := row_blank HI.out hc
          have HF' : Hid (rowF (l.take (i + 1)) line = .ok 0 [] (flush 2 cur ts line) line) := by rw [rowF_snoc hlt', HF.out]; exact r1
          have HI' : Hid (RowInv 0 [] (flush 2 cur ts line) line) := r2
          have HR3 : Hid _ := r3
          clear r1 r2 r3 hc
          go_wp2_with (go_at_call 50; refine kc.mono ?_; rintro e w2 ⟨rfl, rfl⟩)
          go_roundw
          case rel => exact ⟨i + 1, 0, [], flush 2 cur ts line, by omega, by go_num, rfl, HF'.out, HI'.out, by rw [HR3.out]; omega, by simp, by rw [HR3.out]; exact HO.out, HE.out⟩
          case measure => simp [intOf]; omega
    · obtain rfl : i = s.size := by omega
      have HF' : Hid (rowF l line = .ok m cur ts line) := by have := HF.out; rw [HSL.out, List.take_length] at this; exact this
      have HRE : Hid _ := row_end (flush m cur ts line) line (flush_kinds HI.out)
      clear hmode
      obtain ⟨F, hF⟩ : ∃ F, flush m cur ts line = F := ⟨_, rfl⟩
      rw [hF] at hfl
      have hof := HO.out
      rw [hF] at hof
      have HOF : Hid (OwnR wr w.heap.size u6 F) := hof
      clear hof
      have HRF : Hid (endLine F line = if F = [] then [] else F ++ [⟨3, [], line⟩]) := by have := HRE.out; rw [hF] at this; exact this
      have HFF : Hid (flush m cur ts line = F) := hF
      obtain ⟨av, cv, rfl, hv1, hv2⟩ := ownR_slice HOF.out
      unfold maxLen at hv2
      clear hF HO HRE
      by_cases hF0 : F = []
      · subst hF0
        go_wp2
        go_ret2
        exact ⟨.inr ⟨m, cur, ts, _, HF'.out, by rw [HFF.out]; simp, rfl, by rw [HFF.out]; exact HOF.out⟩, HE.out⟩
      · have hl0 : 0 < F.length := List.length_pos_iff.2 hF0
        have HE0 : Hid (endLine F line = F ++ [⟨3, [], line⟩]) := by rw [HRF.out, if_neg hF0]; exact hide_it rfl
        clear hF0
        have hp : (0 : Int) < F.length := by omega
        go_wp2_with (at_builtin; refine wpList_append_own _ rfl (.tmp 85) (.tmp 88) 57 rfl w.heap.size 62 i0 _ 3 32 Tryd.underlying57 hi hz0 hz1 hz2 rfl (by decide) _ F.length (cells F) rfl (HOF.out.alloc _) ⟨wr.heap.size, 0, none⟩ 1 1 (tcells ⟨3, [], line⟩) rfl rfl (World.news_of_block (heap_alloc_new wr _)) (one_tok _) (by unfold maxLen; omega) (by omega) (by simp; omega) ?_; intro v3 w3 hown3 hgrow hjunk; clear hjunk; have hbel3 : Below w.heap.size w w3 := ((HE.out).alloc hsr _).grown hgrow (by simp; omega) (fun q hq => (HOF.out.lt q hq).1))
        go_ret2
        exact ⟨.inr ⟨m, cur, ts, _, HF'.out, by rw [HFF.out]; omega, rfl, by rw [HFF.out, HE0.out]; exact ownR_snoc hown3⟩, hbel3⟩

end Go.Proofs.YtgjfhfjmdkhllaaDoor
