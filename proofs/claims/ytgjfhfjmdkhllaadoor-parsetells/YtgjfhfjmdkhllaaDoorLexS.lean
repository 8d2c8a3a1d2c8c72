/- What scan and Lex of package lex answer, for every bytes. -/
import Derived.Test.YtgjfhfjmdkhllaaDoorLexI
import Derived.ScopeJumps
import Derived.WalkMore
namespace Go
/-- As Q; by a goto to a label l: J l. -/
def Exit.jumps (J : Nat → Act → World → Prop) (Q : Exit → Act → World → Prop) : Exit → Act → World → Prop
  | .goto l, a, w => J l a w
  | e, a, w => Q e a w

/-- A scope in which the run jumps among several labels: what holds at each jump, with a number of one's own that every pass from a label lowers. -/
theorem wp_scope_labels {P : Program} {a : Act} {w : World} {Q : Exit → Act → World → Prop} {c : Code} (J : Nat → Nat → Act → World → Prop)
    (first : c.wp P (Exit.jumps (fun l a w => ∃ n, J l n a w) Q) a w)
    (pass : ∀ l n a w, J l n a w → ∃ rest, findLabel c l = some rest ∧ rest.wp P (Exit.jumps (fun l' a' w' => ∃ n', n' < n ∧ J l' n' a' w') Q) a w) : (Code.scope c).wp P Q a w := by
  intro b k cs
  have key : ∀ n l a w, J l n a w → ∃ rest, findLabel c l = some rest ∧ ∃ e a' w', Q e a' w' ∧ Arrives P (lone (b.at a (.code rest :: .inScope c :: k)) cs w) b k cs e a' w' := by
    intro n
    induction n using Nat.strongRecOn with
    | _ n ih =>
      intro l a w hJ
      obtain ⟨rest, hf, hp⟩ := pass l n a w hJ
      refine ⟨rest, hf, ?_⟩
      obtain ⟨e, a₁, w₁, hq, harr⟩ := hp b (.inScope c :: k) cs
      cases e with
      | normal => exact ⟨.normal, a₁, w₁, hq, Steps.trans harr (.one step_inScope)⟩
      | exit id => exact ⟨.exit id, a₁, w₁, hq, fun k' hk => harr k' (by simp [exitTo, hk])⟩
      | goto l' =>
        obtain ⟨n', hlt, hJ'⟩ := hq
        obtain ⟨rest', hf', e₂, a₂, w₂, hq₂, harr₂⟩ := ih n' hlt l' a₁ w₁ hJ'
        exact ⟨e₂, a₂, w₂, hq₂, .of_steps (harr _ (by simp [gotoIn, hf'])) harr₂⟩
      | ret => exact ⟨_, a₁, w₁, hq, harr⟩
      | panic ch => exact ⟨_, a₁, w₁, hq, harr⟩
      | outgrown => exact ⟨_, a₁, w₁, hq, harr⟩
  obtain ⟨e, a₁, w₁, hq, harr⟩ := first b (.inScope c :: k) cs
  cases e with
  | normal => exact ⟨.normal, a₁, w₁, hq, .head step_scope (Steps.trans harr (.one step_inScope))⟩
  | exit id => exact ⟨.exit id, a₁, w₁, hq, fun k' hk => .head step_scope (harr k' (by simp [exitTo, hk]))⟩
  | goto l' =>
    obtain ⟨n', hJ'⟩ := hq
    obtain ⟨rest', hf', e₂, a₂, w₂, hq₂, harr₂⟩ := key n' l' a₁ w₁ hJ'
    exact ⟨e₂, a₂, w₂, hq₂, .of_steps (.head step_scope (harr _ (by simp [gotoIn, hf']))) harr₂⟩
  | ret => exact ⟨_, a₁, w₁, hq, .of_steps (.one step_scope) harr⟩
  | panic ch => exact ⟨_, a₁, w₁, hq, .of_steps (.one step_scope) harr⟩
  | outgrown => exact ⟨_, a₁, w₁, hq, .of_steps (.one step_scope) harr⟩

/-- The same, where the scope's own text falls into one of its labels first. -/
theorem wp_scope_into {P : Program} {a : Act} {w : World} {Q : Exit → Act → World → Prop} {c : Code} (J : Nat → Nat → Act → World → Prop) (l0 n0 : Nat) (body : Code) (hbody : findLabel c l0 = some (.seq .skip body))
    (first : ∀ K : Exit → Act → World → Prop, (∀ a w, J l0 n0 a w → body.wp P K a w) → c.wp P K a w)
    (pass : ∀ l n a w, J l n a w → ∃ rest, findLabel c l = some (.seq .skip rest) ∧ rest.wp P (Exit.jumps (fun l' a' w' => ∃ n', n' < n ∧ J l' n' a' w') Q) a w) : (Code.scope c).wp P Q a w := by
  refine wp_scope_labels J (first _ fun a w hJ => ?_) (fun l n a w hJ => ?_)
  · obtain ⟨rest', hf', hp⟩ := pass l0 n0 a w hJ
    rw [hbody] at hf'
    cases hf'
    intro b k cs
    obtain ⟨e, a', w', hq, harr⟩ := hp b k cs
    refine ⟨e, a', w', ?_, harr⟩
    cases e with
    | goto l => obtain ⟨n', _, h⟩ := hq; exact ⟨n', h⟩
    | normal => exact hq
    | exit id => exact hq
    | ret => exact hq
    | panic ch => exact hq
    | outgrown => exact hq
  · obtain ⟨rest, hf, hp⟩ := pass l n a w hJ
    exact ⟨_, hf, wp_seq (wp_skip hp)⟩
end Go
namespace Go.Proofs.YtgjfhfjmdkhllaaDoor
open Go.RowKit
open M
set_option linter.unusedVariables false

/-- The frame of scan at a label: what its variables hold; the rest is scratch. -/
def Fr (b v : Value) (k fr line : Int) (a : Act) : Prop :=
  ∃ u9 u10 u11 u12 u13 u14 u15 u16 u17 u18 u19 u20 u21 u22 u23 u24 u25 u26 u27 u28 u29 u30 u31 u32 u33 u34 u35 u36 u37 u38 u39 u40 u41 u42 u43 u44 u45 u46 u47 u48 u49 u50 u51 u52 u53 u54 u55 u56 u57 u58 u59 u60 u61 u62 u63 u64 u65 u66 u67 u68 u69 u70 u71 u72 u73 u74 u75 u76 u77 u78 u79 u80 u81 u82 u83 u84 u85 u86 u87 : Value, a = { tmps := #[b, undef, .slice none 0 0, .int .i64 0, .int .i64 0, v, .int .i64 k, .int .i64 fr, .int .i64 line, u9, u10, u11, u12, u13, u14, u15, u16, u17, u18, u19, u20, u21, u22, u23, u24, u25, u26, u27, u28, u29, u30, u31, u32, u33, u34, u35, u36, u37, u38, u39, u40, u41, u42, u43, u44, u45, u46, u47, u48, u49, u50, u51, u52, u53, u54, u55, u56, u57, u58, u59, u60, u61, u62, u63, u64, u65, u66, u67, u68, u69, u70, u71, u72, u73, u74, u75, u76, u77, u78, u79, u80, u81, u82, u83, u84, u85, u86, u87], defers := [] }
theorem Fr.mk {b v : Value} {k fr line : Int} {u9 u10 u11 u12 u13 u14 u15 u16 u17 u18 u19 u20 u21 u22 u23 u24 u25 u26 u27 u28 u29 u30 u31 u32 u33 u34 u35 u36 u37 u38 u39 u40 u41 u42 u43 u44 u45 u46 u47 u48 u49 u50 u51 u52 u53 u54 u55 u56 u57 u58 u59 u60 u61 u62 u63 u64 u65 u66 u67 u68 u69 u70 u71 u72 u73 u74 u75 u76 u77 u78 u79 u80 u81 u82 u83 u84 u85 u86 u87 : Value} : Fr b v k fr line { tmps := #[b, undef, .slice none 0 0, .int .i64 0, .int .i64 0, v, .int .i64 k, .int .i64 fr, .int .i64 line, u9, u10, u11, u12, u13, u14, u15, u16, u17, u18, u19, u20, u21, u22, u23, u24, u25, u26, u27, u28, u29, u30, u31, u32, u33, u34, u35, u36, u37, u38, u39, u40, u41, u42, u43, u44, u45, u46, u47, u48, u49, u50, u51, u52, u53, u54, u55, u56, u57, u58, u59, u60, u61, u62, u63, u64, u65, u66, u67, u68, u69, u70, u71, u72, u73, u74, u75, u76, u77, u78, u79, u80, u81, u82, u83, u84, u85, u86, u87], defers := [] } :=
  ⟨_, _, _, _, _, _, _, _, _, _, _, _, _, _, _, _, _, _, _, _, _, _, _, _, _, _, _, _, _, _, _, _, _, _, _, _, _, _, _, _, _, _, _, _, _, _, _, _, _, _, _, _, _, _, _, _, _, _, _, _, _, _, _, _, _, _, _, _, _, _, _, _, _, _, _, _, _, _, _, rfl⟩


set_option maxRecDepth 1000000 in
set_option maxHeartbeats 4000000 in
theorem scan_any (a : Option Addr) (cap : Nat) (bs : List UInt8) (w : World) (hn : bs.length ≤ 65536) (hcap : bs.length ≤ cap) (hcm : cap ≤ maxLen) (hb : Bytes w a bs) :
    Calls Tryd.prog 26 #[.slice a bs.length cap] w fun e w' => ∃ v, e = .returned (.tuple #[v, .int .i64 (fin (run init bs)).2.1, .int .i64 (fin (run init bs)).2.2]) ∧ Own w' w.heap.size v (fin (run init bs)).1 ∧ Below w.heap.size w w' := by
  unfold maxLen at hcm
  obtain ⟨i0, hi, hz0, hz1, hz2⟩ := info_parts Tryd.info71
  go_enter Tryd.func26, Tryd.ntmps26
  go_wp2
  refine wp_scope_into (fun l n a' w' => ∃ v ki fi li k fr line ts, Fr (.slice a bs.length cap) v ki fi li a' ∧ ki = ((k : Nat) : Int) ∧ fi = ((fr : Nat) : Int) ∧ li = ((line : Nat) : Int) ∧ Own w' w.heap.size v ts ∧ Below w.heap.size w w' ∧ Inv bs l n k fr line ts) 0 (2 * bs.length + 2) _ rfl ?_ ?_
  · intro K hK
    go_wp2
    go_step3
    rename_i K1 hK1
    exact hK1 _ _ (hK _ _ ⟨_, _, _, _, 0, 0, 1, [], Fr.mk, rfl, rfl, rfl, World.ownsRow_nil _ _ _ _, Below.refl _ _, inv_start⟩)
  · rintro l n a' w' ⟨v, ki, fi, li, k, fr, line, ts, hfr, rfl, rfl, rfl, hown, hbel, hinv⟩
    obtain ⟨u9, u10, u11, u12, u13, u14, u15, u16, u17, u18, u19, u20, u21, u22, u23, u24, u25, u26, u27, u28, u29, u30, u31, u32, u33, u34, u35, u36, u37, u38, u39, u40, u41, u42, u43, u44, u45, u46, u47, u48, u49, u50, u51, u52, u53, u54, u55, u56, u57, u58, u59, u60, u61, u62, u63, u64, u65, u66, u67, u68, u69, u70, u71, u72, u73, u74, u75, u76, u77, u78, u79, u80, u81, u82, u83, u84, u85, u86, u87, rfl⟩ := hfr
    have hb' := hb.below hbel
    have hsz := hbel.size
    clear hb
    rcases hinv with ⟨rfl, hk, ht, hl, rfl, h⟩ | ⟨hm, hf, hk, ht, hl, rfl, h⟩ | ⟨rfl, hk, ht, hl, rfl, h⟩ | ⟨rfl, hk, ht, hl, rfl, h⟩ | ⟨rfl, rfl, hl, h⟩
    · refine ⟨_, rfl, ?_⟩
      by_cases hk' : k < bs.length
      · have hcl := cls_le bs[k]
        have hcs : cls bs[k] = 0 ∨ cls bs[k] = 1 ∨ cls bs[k] = 2 ∨ cls bs[k] = 3 ∨ cls bs[k] = 4 ∨ cls bs[k] = 5 := by omega
        rcases hcs with hc | hc | hc | hc | hc | hc
        · have kc := classAt_is a cap bs w' hn hb' k k 0 (by omega) rfl (by rw [dif_pos hk', hc]; rfl)
          have HI : Hid (Inv bs 5 (0) (k) k line ts) := inv05 hk' h ht hl hn hc
          have HO : Hid (Own w' w.heap.size v ts) := hown
          clear hown h hc hb' hcl
          go_hide hQ
          go_wp2_with (go_at_call 43; refine kc.mono ?_; rintro e w2 ⟨rfl, rfl⟩)
          subst hQ
          go_step3
          exact ⟨_, by omega, v, _, _, _, k, k, line, _, Fr.mk, by omega, by omega, by omega, HO.out, hbel, HI.out⟩
        · have kc := classAt_is a cap bs w' hn hb' k k 1 (by omega) rfl (by rw [dif_pos hk', hc]; rfl)
          have HI : Hid (Inv bs 1 (2 * (bs.length - k) + 1) (k) k line ts) := inv01 hk' h ht hl hc
          have HO : Hid (Own w' w.heap.size v ts) := hown
          clear hown h hc hb' hcl
          go_hide hQ
          go_wp2_with (go_at_call 43; refine kc.mono ?_; rintro e w2 ⟨rfl, rfl⟩)
          subst hQ
          go_step3
          exact ⟨_, by omega, v, _, _, _, k, k, line, _, Fr.mk, by omega, by omega, by omega, HO.out, hbel, HI.out⟩
        · have kc := classAt_is a cap bs w' hn hb' k k 2 (by omega) rfl (by rw [dif_pos hk', hc]; rfl)
          have HI : Hid (Inv bs 2 (2 * (bs.length - k) + 1) (k) k line ts) := inv02 hk' h ht hl hc
          have HO : Hid (Own w' w.heap.size v ts) := hown
          clear hown h hc hb' hcl
          go_hide hQ
          go_wp2_with (go_at_call 43; refine kc.mono ?_; rintro e w2 ⟨rfl, rfl⟩)
          subst hQ
          go_step3
          exact ⟨_, by omega, v, _, _, _, k, k, line, _, Fr.mk, by omega, by omega, by omega, HO.out, hbel, HI.out⟩
        · have kc := classAt_is a cap bs w' hn hb' k k 3 (by omega) rfl (by rw [dif_pos hk', hc]; rfl)
          have HI : Hid (Inv bs 0 (2 * (bs.length - (k + 1)) + 2) (k + 1) k line ts) := inv00 hk' h ht hl hc
          have HO : Hid (Own w' w.heap.size v ts) := hown
          clear hown h hc hb' hcl
          go_hide hQ
          go_wp2_with (go_at_call 43; refine kc.mono ?_; rintro e w2 ⟨rfl, rfl⟩)
          subst hQ
          go_step3
          exact ⟨_, by omega, v, _, _, _, k + 1, k, line, _, Fr.mk, by omega, by omega, by omega, HO.out, hbel, HI.out⟩
        · have kc := classAt_is a cap bs w' hn hb' k k 4 (by omega) rfl (by rw [dif_pos hk', hc]; rfl)
          have HI : Hid (Inv bs 3 (2 * (bs.length - k) + 1) (k) k line ts) := inv03 hk' h ht hl hc
          have HO : Hid (Own w' w.heap.size v ts) := hown
          clear hown h hc hb' hcl
          go_hide hQ
          go_wp2_with (go_at_call 43; refine kc.mono ?_; rintro e w2 ⟨rfl, rfl⟩)
          subst hQ
          go_step3
          exact ⟨_, by omega, v, _, _, _, k, k, line, _, Fr.mk, by omega, by omega, by omega, HO.out, hbel, HI.out⟩
        · have kc := classAt_is a cap bs w' hn hb' k k 5 (by omega) rfl (by rw [dif_pos hk', hc]; rfl)
          have HI : Hid (Inv bs 4 (2 * (bs.length - k) + 1) (k) k line ts) := inv04 hk' h ht hl hc
          have HO : Hid (Own w' w.heap.size v ts) := hown
          clear hown h hc hb' hcl
          go_hide hQ
          go_wp2_with (go_at_call 43; refine kc.mono ?_; rintro e w2 ⟨rfl, rfl⟩)
          subst hQ
          go_step3
          exact ⟨_, by omega, v, _, _, _, k, k, line, _, Fr.mk, by omega, by omega, by omega, HO.out, hbel, HI.out⟩
      · obtain rfl : k = bs.length := by omega
        have kc := classAt_is a cap bs w' hn hb' bs.length bs.length 6 (by omega) rfl (by rw [dif_neg hk']; rfl)
        have ke := endLine_any ts line v w.heap.size w' hown (by omega) hsz
        have HR : Hid (fin (run init bs) = (endLine ts line, 0, 0)) := inv_end h
        clear hown h hb' hk'
        go_hide hQ
        go_wp2_with (first | (go_at_call 43; refine kc.mono ?_; rintro e w2 ⟨rfl, rfl⟩) | (go_at_call 44; refine ke.mono ?_; rintro e w3 ⟨v', rfl, ho, hb3⟩))
        subst hQ
        simp only [Exit.jumps]
        go_ret3
        rw [HR.out]
        exact ⟨_, rfl, ho, hbel.trans hb3⟩
    · rcases hm with rfl | rfl
      · refine ⟨_, rfl, ?_⟩
        obtain ⟨b0, o0, rfl, _⟩ := hb' k hk
        by_cases hk' : k + 1 < bs.length
        · by_cases h1 : cls bs[k + 1] = 1
          · have kc := classAt_is _ cap bs w' hn hb' (k + 1) ((k : Int) + 1) 1 (by omega) (by omega) (by rw [dif_pos hk', h1]; rfl)
            have HI : Hid (Inv bs 1 (2 * (bs.length - (k + 1)) + 1) (k + 1) fr line ts) := inv_more (.inl rfl) hf hk ht hl h hk' h1
            have HO : Hid (Own w' w.heap.size v ts) := hown
            clear hown h hb' h1
            go_hide hQ
            go_wp2_with (go_at_call 43; refine kc.mono ?_; rintro e w2 ⟨rfl, rfl⟩)
            subst hQ
            go_step3
            exact ⟨_, by omega, v, _, _, _, k + 1, fr, line, _, Fr.mk, by omega, by omega, by omega, HO.out, hbel, HI.out⟩
          · by_cases h2 : cls bs[k + 1] = 2
            · have kc := classAt_is _ cap bs w' hn hb' (k + 1) ((k : Int) + 1) 2 (by omega) (by omega) (by rw [dif_pos hk', h2]; rfl)
              have HI : Hid (Inv bs 5 0 (k + 1) fr line ts) := inv_wrong (.inl rfl) hf hk ht hl h hn hk' (by omega) (by omega)
              have HO : Hid (Own w' w.heap.size v ts) := hown
              clear hown h hb' h1 h2
              go_hide hQ
              go_wp2_with (go_at_call 43; refine kc.mono ?_; rintro e w2 ⟨rfl, rfl⟩)
              subst hQ
              go_step3
              exact ⟨_, by omega, v, _, _, _, k + 1, fr, line, _, Fr.mk, by omega, by omega, by omega, HO.out, hbel, HI.out⟩
            · obtain ⟨j, hj⟩ : ∃ j : Int, ((cls bs[k + 1] : Nat) : Int) = j := ⟨_, rfl⟩
              have j1 : (j == 1) = false := beq_eq_false_iff_ne.2 (by omega)
              have j2 : (j == 2) = false := beq_eq_false_iff_ne.2 (by omega)
              have kc := classAt_is _ cap bs w' hn hb' (k + 1) ((k : Int) + 1) j (by omega) (by omega) (by rw [dif_pos hk']; exact hj)
              have hcv := cut_string hb' fr k hf hk (cap - fr)
              have HI : Hid (Inv bs 0 (2 * (bs.length - (k + 1)) + 2) (k + 1) fr line (ts ++ [⟨1, (bs.drop fr).take (k + 1 - fr), line⟩])) := inv_done (.inl rfl) hf hk ht hl h (fun _ => ⟨by omega, by omega⟩)
              have HO : Hid (Own w' w.heap.size v ts) := hown
              clear hown h hb' h1 h2 hj
              go_hide hQ
              go_wp2_with (first | (go_at_call 43; refine kc.mono ?_; rintro e w2 ⟨rfl, rfl⟩) | (at_builtin; refine wpList_append_own _ rfl (.tmp 40) (.tmp 48) 53 rfl w.heap.size 71 i0 _ 3 32 Tryd.underlying53 hi hz0 hz1 hz2 rfl (by decide) _ ts.length (cells ts) rfl (HO.out.alloc _) ⟨w2.heap.size, 0, none⟩ 1 1 (tcells ⟨1, (bs.drop fr).take (k + 1 - fr), line⟩) rfl rfl (World.news_of_block (heap_alloc_new w2 _)) (one_tok _) (by unfold maxLen; omega) (by omega) (by simp; omega) ?_; intro v2 w3 hown2 hgrow _))
              subst hQ
              go_step3
              exact ⟨_, by omega, v2, _, _, _, k + 1, fr, line, _, Fr.mk, by omega, by omega, by omega, own_snoc hown2, (hbel.alloc hsz _).grown hgrow (by simp; omega) (fun x hx => (HO.out.lt x hx).1), HI.out⟩
        · have kc := classAt_is _ cap bs w' hn hb' (k + 1) ((k : Int) + 1) 6 (by omega) (by omega) (by rw [dif_neg hk']; rfl)
          have hcv := cut_string hb' fr k hf hk (cap - fr)
          have HI : Hid (Inv bs 0 (2 * (bs.length - (k + 1)) + 2) (k + 1) fr line (ts ++ [⟨1, (bs.drop fr).take (k + 1 - fr), line⟩])) := inv_done (.inl rfl) hf hk ht hl h (fun h => absurd h hk')
          have HO : Hid (Own w' w.heap.size v ts) := hown
          clear hown h hb' 
          go_hide hQ
          go_wp2_with (first | (go_at_call 43; refine kc.mono ?_; rintro e w2 ⟨rfl, rfl⟩) | (at_builtin; refine wpList_append_own _ rfl (.tmp 40) (.tmp 48) 53 rfl w.heap.size 71 i0 _ 3 32 Tryd.underlying53 hi hz0 hz1 hz2 rfl (by decide) _ ts.length (cells ts) rfl (HO.out.alloc _) ⟨w2.heap.size, 0, none⟩ 1 1 (tcells ⟨1, (bs.drop fr).take (k + 1 - fr), line⟩) rfl rfl (World.news_of_block (heap_alloc_new w2 _)) (one_tok _) (by unfold maxLen; omega) (by omega) (by simp; omega) ?_; intro v2 w3 hown2 hgrow _))
          subst hQ
          go_step3
          exact ⟨_, by omega, v2, _, _, _, k + 1, fr, line, _, Fr.mk, by omega, by omega, by omega, own_snoc hown2, (hbel.alloc hsz _).grown hgrow (by simp; omega) (fun x hx => (HO.out.lt x hx).1), HI.out⟩
      · refine ⟨_, rfl, ?_⟩
        obtain ⟨b0, o0, rfl, _⟩ := hb' k hk
        by_cases hk' : k + 1 < bs.length
        · by_cases h1 : cls bs[k + 1] = 2
          · have kc := classAt_is _ cap bs w' hn hb' (k + 1) ((k : Int) + 1) 2 (by omega) (by omega) (by rw [dif_pos hk', h1]; rfl)
            have HI : Hid (Inv bs 2 (2 * (bs.length - (k + 1)) + 1) (k + 1) fr line ts) := inv_more (.inr rfl) hf hk ht hl h hk' h1
            have HO : Hid (Own w' w.heap.size v ts) := hown
            clear hown h hb' h1
            go_hide hQ
            go_wp2_with (go_at_call 43; refine kc.mono ?_; rintro e w2 ⟨rfl, rfl⟩)
            subst hQ
            go_step3
            exact ⟨_, by omega, v, _, _, _, k + 1, fr, line, _, Fr.mk, by omega, by omega, by omega, HO.out, hbel, HI.out⟩
          · by_cases h2 : cls bs[k + 1] = 1
            · have kc := classAt_is _ cap bs w' hn hb' (k + 1) ((k : Int) + 1) 1 (by omega) (by omega) (by rw [dif_pos hk', h2]; rfl)
              have HI : Hid (Inv bs 5 0 (k + 1) fr line ts) := inv_wrong (.inr rfl) hf hk ht hl h hn hk' (by omega) (by omega)
              have HO : Hid (Own w' w.heap.size v ts) := hown
              clear hown h hb' h1 h2
              go_hide hQ
              go_wp2_with (go_at_call 43; refine kc.mono ?_; rintro e w2 ⟨rfl, rfl⟩)
              subst hQ
              go_step3
              exact ⟨_, by omega, v, _, _, _, k + 1, fr, line, _, Fr.mk, by omega, by omega, by omega, HO.out, hbel, HI.out⟩
            · obtain ⟨j, hj⟩ : ∃ j : Int, ((cls bs[k + 1] : Nat) : Int) = j := ⟨_, rfl⟩
              have j1 : (j == 1) = false := beq_eq_false_iff_ne.2 (by omega)
              have j2 : (j == 2) = false := beq_eq_false_iff_ne.2 (by omega)
              have kc := classAt_is _ cap bs w' hn hb' (k + 1) ((k : Int) + 1) j (by omega) (by omega) (by rw [dif_pos hk']; exact hj)
              have hcv := cut_string hb' fr k hf hk (cap - fr)
              have HI : Hid (Inv bs 0 (2 * (bs.length - (k + 1)) + 2) (k + 1) fr line (ts ++ [⟨2, (bs.drop fr).take (k + 1 - fr), line⟩])) := inv_done (.inr rfl) hf hk ht hl h (fun _ => ⟨by omega, by omega⟩)
              have HO : Hid (Own w' w.heap.size v ts) := hown
              clear hown h hb' h1 h2 hj
              go_hide hQ
              go_wp2_with (first | (go_at_call 43; refine kc.mono ?_; rintro e w2 ⟨rfl, rfl⟩) | (at_builtin; refine wpList_append_own _ rfl (.tmp 59) (.tmp 67) 53 rfl w.heap.size 71 i0 _ 3 32 Tryd.underlying53 hi hz0 hz1 hz2 rfl (by decide) _ ts.length (cells ts) rfl (HO.out.alloc _) ⟨w2.heap.size, 0, none⟩ 1 1 (tcells ⟨2, (bs.drop fr).take (k + 1 - fr), line⟩) rfl rfl (World.news_of_block (heap_alloc_new w2 _)) (one_tok _) (by unfold maxLen; omega) (by omega) (by simp; omega) ?_; intro v2 w3 hown2 hgrow _))
              subst hQ
              go_step3
              exact ⟨_, by omega, v2, _, _, _, k + 1, fr, line, _, Fr.mk, by omega, by omega, by omega, own_snoc hown2, (hbel.alloc hsz _).grown hgrow (by simp; omega) (fun x hx => (HO.out.lt x hx).1), HI.out⟩
        · have kc := classAt_is _ cap bs w' hn hb' (k + 1) ((k : Int) + 1) 6 (by omega) (by omega) (by rw [dif_neg hk']; rfl)
          have hcv := cut_string hb' fr k hf hk (cap - fr)
          have HI : Hid (Inv bs 0 (2 * (bs.length - (k + 1)) + 2) (k + 1) fr line (ts ++ [⟨2, (bs.drop fr).take (k + 1 - fr), line⟩])) := inv_done (.inr rfl) hf hk ht hl h (fun h => absurd h hk')
          have HO : Hid (Own w' w.heap.size v ts) := hown
          clear hown h hb' 
          go_hide hQ
          go_wp2_with (first | (go_at_call 43; refine kc.mono ?_; rintro e w2 ⟨rfl, rfl⟩) | (at_builtin; refine wpList_append_own _ rfl (.tmp 59) (.tmp 67) 53 rfl w.heap.size 71 i0 _ 3 32 Tryd.underlying53 hi hz0 hz1 hz2 rfl (by decide) _ ts.length (cells ts) rfl (HO.out.alloc _) ⟨w2.heap.size, 0, none⟩ 1 1 (tcells ⟨2, (bs.drop fr).take (k + 1 - fr), line⟩) rfl rfl (World.news_of_block (heap_alloc_new w2 _)) (one_tok _) (by unfold maxLen; omega) (by omega) (by simp; omega) ?_; intro v2 w3 hown2 hgrow _))
          subst hQ
          go_step3
          exact ⟨_, by omega, v2, _, _, _, k + 1, fr, line, _, Fr.mk, by omega, by omega, by omega, own_snoc hown2, (hbel.alloc hsz _).grown hgrow (by simp; omega) (fun x hx => (HO.out.lt x hx).1), HI.out⟩
    · refine ⟨_, rfl, ?_⟩
      by_cases hk' : k + 1 < bs.length
      · by_cases h1 : cls bs[k + 1] = 5
        · have kc := classAt_is _ cap bs w' hn hb' (k + 1) ((k : Int) + 1) 5 (by omega) (by omega) (by rw [dif_pos hk', h1]; rfl)
          have HI : Hid (Inv bs 0 (2 * (bs.length - (k + 1)) + 2) (k + 1) fr line ts) := inv30 hk ht hl h (fun _ => h1)
          have HO : Hid (Own w' w.heap.size v ts) := hown
          clear hown h hb' h1
          go_hide hQ
          go_wp2_with (go_at_call 43; refine kc.mono ?_; rintro e w2 ⟨rfl, rfl⟩)
          subst hQ
          go_step3
          exact ⟨_, by omega, v, _, _, _, k + 1, fr, line, _, Fr.mk, by omega, by omega, by omega, HO.out, hbel, HI.out⟩
        · obtain ⟨j, hj⟩ : ∃ j : Int, ((cls bs[k + 1] : Nat) : Int) = j := ⟨_, rfl⟩
          have hcl := cls_le bs[k + 1]
          have j1 : (j != 5) = true := bne_iff_ne.2 (by omega)
          have j2 : (j != 6) = true := bne_iff_ne.2 (by omega)
          have kc := classAt_is _ cap bs w' hn hb' (k + 1) ((k : Int) + 1) j (by omega) (by omega) (by rw [dif_pos hk']; exact hj)
          have HI : Hid (Inv bs 3 (2 * (bs.length - (k + 1)) + 1) (k + 1) fr line ts) := inv33 hk ht hl h hk' h1
          have HO : Hid (Own w' w.heap.size v ts) := hown
          clear hown h hb' h1 hj hcl
          go_hide hQ
          go_wp2_with (go_at_call 43; refine kc.mono ?_; rintro e w2 ⟨rfl, rfl⟩)
          subst hQ
          go_step3
          exact ⟨_, by omega, v, _, _, _, k + 1, fr, line, _, Fr.mk, by omega, by omega, by omega, HO.out, hbel, HI.out⟩
      · have kc := classAt_is _ cap bs w' hn hb' (k + 1) ((k : Int) + 1) 6 (by omega) (by omega) (by rw [dif_neg hk']; rfl)
        have HI : Hid (Inv bs 0 (2 * (bs.length - (k + 1)) + 2) (k + 1) fr line ts) := inv30 hk ht hl h (fun h => absurd h hk')
        have HO : Hid (Own w' w.heap.size v ts) := hown
        clear hown h hb'
        go_hide hQ
        go_wp2_with (go_at_call 43; refine kc.mono ?_; rintro e w2 ⟨rfl, rfl⟩)
        subst hQ
        go_step3
        exact ⟨_, by omega, v, _, _, _, k + 1, fr, line, _, Fr.mk, by omega, by omega, by omega, HO.out, hbel, HI.out⟩
    · refine ⟨_, rfl, ?_⟩
      have ke := endLine_any ts line v w.heap.size w' hown (by omega) hsz
      have HI : Hid (Inv bs 0 (2 * (bs.length - (k + 1)) + 2) (k + 1) fr (line + 1) (endLine ts line)) := inv40 hk ht hl h
      clear hown h hb'
      go_hide hQ
      go_wp2_with (go_at_call 44; refine ke.mono ?_; rintro e w3 ⟨v', rfl, ho, hb3⟩)
      subst hQ
      go_step3
      exact ⟨_, by omega, v', _, _, _, k + 1, fr, line + 1, _, Fr.mk, by omega, by omega, by omega, ho, hbel.trans hb3, HI.out⟩
    · refine ⟨_, rfl, ?_⟩
      go_hide hQ
      go_wp2
      subst hQ
      simp only [Exit.jumps]
      go_ret3
      rw [h]
      exact ⟨_, rfl, World.ownsRow_nil _ _ _ _, hbel⟩

set_option maxRecDepth 1000000 in
set_option maxHeartbeats 1000000 in
/-- What Lex answers. -/
theorem lex_any (a : Option Addr) (cap : Nat) (bs : List UInt8) (w : World) (hcap : bs.length ≤ cap) (hcm : cap ≤ maxLen) (hb : Bytes w a bs) :
    Calls Tryd.prog 18 #[.slice a bs.length cap] w fun e w' => ∃ v, e = .returned (.tuple #[v, .int .i64 (lexF bs).2.1, .int .i64 (lexF bs).2.2]) ∧ Own w' w.heap.size v (lexF bs).1 ∧ Below w.heap.size w w' := by
  unfold maxLen at hcm
  by_cases hn : 65536 < bs.length
  · have e : lexF bs = ([], 0, 4) := by unfold lexF; rw [if_pos hn]
    rw [e]
    have hn' : (65536 : Int) < bs.length := by omega
    go_enter Tryd.func18, Tryd.ntmps18
    go_wp2
    go_ret3
    exact ⟨_, rfl, World.ownsRow_nil _ _ _ _, Below.refl _ _⟩
  · have e : lexF bs = fin (run init bs) := by unfold lexF; rw [if_neg hn]
    rw [e]
    have hn' : ¬ ((65536 : Int) < bs.length) := by omega
    have ks := scan_any a cap bs w (by omega) hcap (by unfold maxLen; omega) hb
    go_enter Tryd.func18, Tryd.ntmps18
    go_wp2_with (go_at_call 26; refine ks.mono ?_; rintro e w' ⟨v, rfl, ho, hbel⟩)
    go_ret3
    exact ⟨_, rfl, ho, hbel⟩

end Go.Proofs.YtgjfhfjmdkhllaaDoor
