/- Order: each behind all that it has an edge to. -/
import Derived.Test.YtpbncoaonminoaaDoorCyA
import Derived.ScopeJumps
import Derived.WalkMore
import Derived.Deep.LoopGhost
namespace Go
/-- As Q; by a goto to a label l: J l. -/
def Exit.jumps (J : Nat → Act → World → Prop) (Q : Exit → Act → World → Prop) : Exit → Act → World → Prop
  | .goto l, a, w => J l a w
  | e, a, w => Q e a w

/-- A scope in which the run jumps among several labels: what holds at each jump, with a number of one's own that every pass from a label lowers. -/
theorem wp_scope_labels {P : Program} {a : Act} {w : World} {Q : Exit → Act → World → Prop} {c : Code} (J : Nat → Nat → Act → World → Prop)
    (first : c.wp P (Exit.jumps (fun l a w => ∃ n, J l n a w) Q) a w)
    (pass : ∀ l n a w, J l n a w → ∃ rest, findLabel c l = some rest ∧ rest.wp P (Exit.jumps (fun l' a' w' => ∃ n', n' < n ∧ J l' n' a' w') Q) a w) : (Code.scope c).wp P Q a w := by
  intro b k cs
  have key : ∀ n l a w, J l n a w → ∃ rest, findLabel c l = some rest ∧ ∃ e a' w', Q e a' w' ∧ Arrives P (lone (b.at a (.code rest :: .inScope c :: k)) cs w) b k cs e a' w' := by
    intro n
    induction n using Nat.strongRecOn with
    | _ n ih =>
      intro l a w hJ
      obtain ⟨rest, hf, hp⟩ := pass l n a w hJ
      refine ⟨rest, hf, ?_⟩
      obtain ⟨e, a₁, w₁, hq, harr⟩ := hp b (.inScope c :: k) cs
      cases e with
      | normal => exact ⟨.normal, a₁, w₁, hq, Steps.trans harr (.one step_inScope)⟩
      | exit id => exact ⟨.exit id, a₁, w₁, hq, fun k' hk => harr k' (by simp [exitTo, hk])⟩
      | goto l' =>
        obtain ⟨n', hlt, hJ'⟩ := hq
        obtain ⟨rest', hf', e₂, a₂, w₂, hq₂, harr₂⟩ := ih n' hlt l' a₁ w₁ hJ'
        exact ⟨e₂, a₂, w₂, hq₂, .of_steps (harr _ (by simp [gotoIn, hf'])) harr₂⟩
      | ret => exact ⟨_, a₁, w₁, hq, harr⟩
      | panic ch => exact ⟨_, a₁, w₁, hq, harr⟩
      | outgrown => exact ⟨_, a₁, w₁, hq, harr⟩
  obtain ⟨e, a₁, w₁, hq, harr⟩ := first b (.inScope c :: k) cs
  cases e with
  | normal => exact ⟨.normal, a₁, w₁, hq, .head step_scope (Steps.trans harr (.one step_inScope))⟩
  | exit id => exact ⟨.exit id, a₁, w₁, hq, fun k' hk => .head step_scope (harr k' (by simp [exitTo, hk]))⟩
  | goto l' =>
    obtain ⟨n', hJ'⟩ := hq
    obtain ⟨rest', hf', e₂, a₂, w₂, hq₂, harr₂⟩ := key n' l' a₁ w₁ hJ'
    exact ⟨e₂, a₂, w₂, hq₂, .of_steps (.head step_scope (harr _ (by simp [gotoIn, hf']))) harr₂⟩
  | ret => exact ⟨_, a₁, w₁, hq, .of_steps (.one step_scope) harr⟩
  | panic ch => exact ⟨_, a₁, w₁, hq, .of_steps (.one step_scope) harr⟩
  | outgrown => exact ⟨_, a₁, w₁, hq, .of_steps (.one step_scope) harr⟩

/-- The same, where the scope's own text falls into one of its labels first. -/
theorem wp_scope_into {P : Program} {a : Act} {w : World} {Q : Exit → Act → World → Prop} {c : Code} (J : Nat → Nat → Act → World → Prop) (l0 n0 : Nat) (body : Code) (hbody : findLabel c l0 = some (.seq .skip body))
    (first : ∀ K : Exit → Act → World → Prop, (∀ a w, J l0 n0 a w → body.wp P K a w) → c.wp P K a w)
    (pass : ∀ l n a w, J l n a w → ∃ rest, findLabel c l = some (.seq .skip rest) ∧ rest.wp P (Exit.jumps (fun l' a' w' => ∃ n', n' < n ∧ J l' n' a' w') Q) a w) : (Code.scope c).wp P Q a w := by
  refine wp_scope_labels J (first _ fun a w hJ => ?_) (fun l n a w hJ => ?_)
  · obtain ⟨rest', hf', hp⟩ := pass l0 n0 a w hJ
    rw [hbody] at hf'
    cases hf'
    intro b k cs
    obtain ⟨e, a', w', hq, harr⟩ := hp b k cs
    refine ⟨e, a', w', ?_, harr⟩
    cases e with
    | goto l => obtain ⟨n', _, h⟩ := hq; exact ⟨n', h⟩
    | normal => exact hq
    | exit id => exact hq
    | ret => exact hq
    | panic ch => exact hq
    | outgrown => exact hq
  · obtain ⟨rest, hf, hp⟩ := pass l n a w hJ
    exact ⟨_, hf, wp_seq (wp_skip hp)⟩
end Go
namespace Go.Proofs.YtpbncoaonminoaaDoor
open Go.RowKit
open M
set_option linter.unusedVariables false
set_option linter.unusedSimpArgs false

def orderL (es : List E) (n : Nat) : List Nat := if (ordS es n).length < n then [] else ordS es n
def orderB (es : List E) (n : Nat) : Bool := decide (n ≤ (ordS es n).length)

theorem iRow_congr {f f' : Nat → Int} {n : Nat} (h : ∀ i, i < n → f i = f' i) : iRow f n = iRow f' n := by
  unfold iRow
  congr 1
  apply List.map_congr_left
  intro i hi
  rw [h i (by simpa using hi)]
theorem own_at {w : World} {base : Nat} {ao : Option Addr} {m cap : Nat} {xs : List Nat} (h : OwnI w base (.slice ao m cap) xs) : m = xs.length ∧ ∀ i (h : i < xs.length), ∃ r, ao = some ⟨r, 0, none⟩ ∧ r < w.heap.size ∧ w.cell? ⟨r, i, none⟩ = some (.int .i64 (xs[i] : Nat)) := by
  obtain ⟨ao', cap', he, hc⟩ := own_iat h
  injection he with e1 e2 e3
  subst e1
  exact ⟨e2, hc⟩
theorem owns_set {W : World} {ob j : Nat} {u x : Value} {L : List Nat} (h : OwnI W (ob + 1) u L) : OwnI (W.setCell ⟨ob, j, none⟩ x) (ob + 1) u L :=
  owns_keep h (fun k hk => Below.heap_setCell _ _ _ _ (fun e => by have := (h.lt k hk).1; simp at e; omega))

/-- A row of numbers, and a row that grows, both of the call's own. -/
structure OQ (w W : World) (ob n : Nat) (f : Nat → Int) (u : Value) (S : List Nat) : Prop where
  bel : Below w.heap.size w W
  ge : w.heap.size ≤ ob
  row : W.heap[ob]? = some (.cells (iRow f n) 3)
  own : OwnI W (ob + 1) u S
section
variable {w W W' : World} {ob n : Nat} {f f' : Nat → Int} {u : Value} {S : List Nat}
theorem OQ.lt (h : OQ w W ob n f u S) : ob < W.heap.size := block_lt h.row
theorem OQ.below (h : OQ w W ob n f u S) (hb : Below W.heap.size W W') : OQ w W' ob n f u S :=
  ⟨h.bel.trans (hb.mono h.bel.size), h.ge, by rw [hb.block ob h.lt]; exact h.row, owns_below h.own hb⟩
theorem OQ.cell (h : OQ w W ob n f u S) (i : Nat) (hi : i < n) : W.cell? ⟨ob, i, none⟩ = some (.int .i64 (f i)) := by rw [cell_of_row W ob i _ _ _ h.row]; exact iRow_at f n i hi
theorem OQ.fro (h : OQ w W ob n f u S) (i : Nat) : W.frozen? ⟨ob, i, none⟩ = false := by simp [World.frozen?, h.row]
theorem OQ.congr (h : OQ w W ob n f u S) (hf : ∀ i, i < n → f i = f' i) : OQ w W ob n f' u S := ⟨h.bel, h.ge, by rw [← iRow_congr hf]; exact h.row, h.own⟩
theorem OQ.set (h : OQ w W ob n f u S) (j : Nat) (x : Int) (hf : ∀ i, i < n → f' i = if i = j then x else f i) : OQ w (W.setCell ⟨ob, j, none⟩ (.int .i64 x)) ob n f' u S := by
  refine ⟨h.bel.setCell (p := ⟨ob, j, none⟩) h.ge _, h.ge, ?_, owns_set h.own⟩
  rw [heap_setCell_at (o := j) h.row, iRow_set, iRow_congr hf]
theorem OQ.app {o : Obj} {k : Nat} {v' : Value} (h : OQ w W ob n f u S) (hown : W'.ownsRow (ob + 1) 3 1 v' (S.length + 1) (S.map (fun x => Value.int .i64 (x : Nat)) ++ [.int .i64 k])) (hg : (W.alloc o).grownBy W' u.ownBlock) : OQ w W' ob n f v' (S ++ [k]) := by
  have hl := h.lt
  have hs := h.bel.size
  have hgr : Below (ob + 1) W W' := ((Below.refl _ _).alloc (by omega) _).grown hg (by simp; omega) (fun k hk => (h.own.lt k hk).1)
  exact ⟨h.bel.trans (hgr.mono (by have := h.ge; omega)), h.ge, by rw [hgr.block ob (by omega)]; exact h.row, own_snoc hown⟩
end
theorem OQ.start {w : World} (n : Nat) : OQ w (w.alloc (.cells (iRow (fun _ => 0) n) 3)) w.heap.size n (fun _ => 0) (.slice none 0 0) [] :=
  ⟨(Below.refl _ _).alloc (Nat.le_refl _) _, Nat.le_refl _, heap_alloc_new _ _, owns_nil _ _⟩

/-- The frame of Order at its label. -/
def FrO (g ob n : Nat) (u : Value) (a : Act) : Prop := ∃ u5 u7 u8 u9 u10 u11 u12 u13 u14 u15 u16 u17 u18 u19 u20 u21 u22 u23 u24 u25 u26 u27 u28 u29 u30 u31 u32 u33 u34 u35 u36 u37 u38 u39 u40 u41 u42 u43 u44 u45 u46 u47 u48 u49 u50 u51 u52 u53 u54 u55 u56 u57 : Value, a = { tmps := #[ptr g, undef, .slice none 0 0, .bool false, .slice (some ⟨ob, 0, none⟩) n n, u5, u, u7, u8, u9, u10, u11, u12, u13, u14, u15, u16, u17, u18, u19, u20, u21, u22, u23, u24, u25, u26, u27, u28, u29, u30, u31, u32, u33, u34, u35, u36, u37, u38, u39, u40, u41, u42, u43, u44, u45, u46, u47, u48, u49, u50, u51, u52, u53, u54, u55, u56, u57], defers := [] }
theorem FrO.mk {g ob n : Nat} {u u5 u7 u8 u9 u10 u11 u12 u13 u14 u15 u16 u17 u18 u19 u20 u21 u22 u23 u24 u25 u26 u27 u28 u29 u30 u31 u32 u33 u34 u35 u36 u37 u38 u39 u40 u41 u42 u43 u44 u45 u46 u47 u48 u49 u50 u51 u52 u53 u54 u55 u56 u57 : Value} : FrO g ob n u { tmps := #[ptr g, undef, .slice none 0 0, .bool false, .slice (some ⟨ob, 0, none⟩) n n, u5, u, u7, u8, u9, u10, u11, u12, u13, u14, u15, u16, u17, u18, u19, u20, u21, u22, u23, u24, u25, u26, u27, u28, u29, u30, u31, u32, u33, u34, u35, u36, u37, u38, u39, u40, u41, u42, u43, u44, u45, u46, u47, u48, u49, u50, u51, u52, u53, u54, u55, u56, u57], defers := [] } := ⟨u5, u7, u8, u9, u10, u11, u12, u13, u14, u15, u16, u17, u18, u19, u20, u21, u22, u23, u24, u25, u26, u27, u28, u29, u30, u31, u32, u33, u34, u35, u36, u37, u38, u39, u40, u41, u42, u43, u44, u45, u46, u47, u48, u49, u50, u51, u52, u53, u54, u55, u56, u57, rfl⟩
def outL (es : List E) (k t : Nat) : Int := if t < k then (((outs es (t : Int)).length : Nat) : Int) else 0

set_option maxRecDepth 1000000 in
set_option maxHeartbeats 8000000 in
theorem order_any {w : World} {g eb n : Nat} {v : Value} {es : List E} (h : GM w g eb n v es) (hle : es.length ≤ 1000000) :
    Calls Tryd.prog 13 #[ptr g] w fun e w' => ∃ u, e = .returned (.tuple #[u, .bool (orderB es n)]) ∧ OwnI w' w.heap.size u (orderL es n) ∧ Below w.heap.size w w' := by
  have hn := h.hn
  have HG := hide_it h
  obtain ⟨i0, hi, hz0, hz1, hz2⟩ := info_parts info3
  have kt := tasks_any g eb n w hn h.c1
  have hk : ∀ W : World, (Instr.makeSlice 33 (.int .i64 n) (.int .i64 n)).run Tryd.prog W = .ok (.slice (some ⟨W.heap.size, 0, none⟩) n n) (W.alloc (.cells (madeCells #[.int .i64 0] n) 3)) := fun W =>
    run_make_row' 33 3 (.int .i64 0) 8 Tryd.underlying33 info3 rfl .i64 .i64 n (by omega) (by omega) W
  simp only [iRow_new] at hk
  have HS := hide_it (OQ.start (w := w) n)
  clear h
  go_enter Tryd.func13, Tryd.ntmps13
  go_wp2
  refine wp_scope_into (fun l m a' W => l = 0 ∧ ∃ u S, FrO g w.heap.size n u a' ∧ OI es n S ∧ OQ w W w.heap.size n (opF es S) u S ∧ m = n - S.length) 0 n _ rfl ?_ ?_
  · intro K hK
    go_wp2_with (go_at_call 29; refine kt.mono ?_; rintro e w' ⟨rfl, rfl⟩)
    go_loopw [15] (fun i W => ∃ k : Nat, k ≤ n ∧ i = .int .i64 k ∧ Hid (OQ w' W w'.heap.size n (outL es k) (.slice none 0 0) [])) (fun i _ => n - (intOf i).toNat)
    case atStart => exact ⟨0, Nat.zero_le _, rfl, HS.out.congr (fun i _ => by simp [outL])⟩
    case round =>
      obtain ⟨k, hk2, rfl, HQ⟩ := hrel
      by_cases hlt : k < n
      · have ko := out_any (HG.out.below HQ.out.bel) (k : Int) hle
        have hol := outs_len es (k : Int)
        have HQ2 : ∀ W2, Below wr.heap.size wr W2 → Hid (OQ w' (W2.setCell ⟨w'.heap.size, k, none⟩ (.int .i64 ((outs es (k : Int)).length : Nat))) w'.heap.size n (outL es (k + 1)) (.slice none 0 0) []) ∧ W2.cell? ⟨w'.heap.size, k, none⟩ = some (.int .i64 (outL es k k)) := fun W2 hb => ⟨(HQ.out.below hb).set k _ (fun i hi => by
            unfold outL
            by_cases e : i = k
            · subst e; simp
            · rw [if_neg e]
              by_cases e2 : i < k
              · rw [if_pos e2, if_pos (by omega)]
              · rw [if_neg e2, if_neg (by omega)]), (HQ.out.below hb).cell k hlt⟩
        have HQF := hide_it HQ2
        clear HQ2
        generalize outL es k k = y0 at *
        go_wp2_with (go_at_call 24; refine ko.mono ?_; rintro e w5 ⟨u5, rfl, ho5, hb5⟩; have HO5 := hide_it ho5; clear ho5; obtain ⟨ao5, cap5, rfl, _⟩ := own_iat HO5.out; have q5 := (HQF.out w5 hb5).2; have f5 := (HQ.out.below hb5).fro k)
        go_roundw
        case rel => exact ⟨k + 1, by omega, by go_num, (HQF.out w5 hb5).1⟩
        case measure => simp [intOf]; omega
      · go_wp2
        go_step3
        rename_i K1 hK1
        exact hK1 _ _ (hK _ _ ⟨trivial, _, [], FrO.mk, OI.start _ _, HQ.out.congr (fun i hi => by rw [opF_nil]; unfold outL; rw [if_pos (by omega)]), by simp⟩)
  · rintro l m a' W ⟨rfl, u, S, hfr, hoi, hoq, rfl⟩
    obtain ⟨u5, u7, u8, u9, u10, u11, u12, u13, u14, u15, u16, u17, u18, u19, u20, u21, u22, u23, u24, u25, u26, u27, u28, u29, u30, u31, u32, u33, u34, u35, u36, u37, u38, u39, u40, u41, u42, u43, u44, u45, u46, u47, u48, u49, u50, u51, u52, u53, u54, u55, u56, u57, rfl⟩ := hfr
    refine ⟨_, rfl, ?_⟩
    have HI := hide_it hoi
    have HQ := hide_it hoq
    have hSl := hoi.len
    have ki := index_zero w.heap.size n (opF es S) W hn hoq.row
    clear hoi hoq kt hk HS
    by_cases hnx : ∃ k, k < n ∧ opF es S k = 0 ∧ ∀ i, i < k → opF es S i ≠ 0
    · obtain ⟨k, hkn, hk0, hkl⟩ := hnx
      have kI : Calls Tryd.prog 30 #[.slice (some ⟨w.heap.size, 0, none⟩) n n, .int .i64 0] W fun e w' => e = .returned (.int .i64 k) ∧ w' = W := by
        refine ki.mono ?_
        rintro e w' ⟨⟨z, rfl, HZ⟩, rfl⟩
        refine ⟨?_, rfl⟩
        rcases HZ.out with ⟨_, hz⟩ | ⟨k', rfl, h1, h2, h3⟩
        · exact absurd hk0 (hz k hkn)
        · have : k' = k := by
            rcases Nat.lt_trichotomy k' k with q | q | q
            · exact absurd h2 (hkl k' q)
            · exact q
            · exact absurd hk0 (h3 k q)
          rw [this]
      have hP : nextP es S k = true := (opF_zero es S k).1 hk0
      have HI2 := hide_it (HI.out.snoc hkn hP (fun i hi => by
        cases e : nextP es S i with
        | false => rfl
        | true => exact absurd ((opF_zero es S i).2 e) (hkl i hi)))
      have HST := hide_it (fun t => opF_step HI.out.topo hP t)
      have hSl2 := HI2.out.len
      simp at hSl2
      have HSB := hide_it (opF_bound es S)
      have hwW : w.heap.size ≤ W.heap.size := HQ.out.bel.size
      have hlW : w.heap.size < W.heap.size := HQ.out.lt
      have HGW := hide_it (fun W2 (hb : Below w.heap.size w W2) => in_any (HG.out.below hb) (k : Int) hle)
      have hil := ins_len es (k : Int)
      have HIN : Hid (∀ t ∈ ins es (k : Int), t < n) := fun t ht => (HG.out.good _ (mem_ins.1 ht)).1
      clear ki hk0 hkl hP
      obtain ⟨I, hI⟩ : ∃ I, ins es (k : Int) = I := ⟨_, rfl⟩
      rw [hI] at HST HGW hil HIN
      clear hI
      go_hide hQ
      go_wp2_with (first | (go_at_call 30; refine kI.mono ?_; rintro e w' ⟨rfl, rfl⟩) | (at_builtin; (refine wpList_append_tell _ rfl (.tmp 30) (.tmp 32) 33 rfl (w.heap.size + 1) 3 i0 _ 1 8 Tryd.underlying33 hi hz0 hz1 hz2 rfl (by decide) _ S.length (S.map fun x => Value.int .i64 (x : Nat)) rfl (HQ.out.own.alloc _) ⟨_, 0, none⟩ 1 1 [.int .i64 k] rfl rfl (World.news_of_block (heap_alloc_at rfl _)) (by simp [Value.oneCell']) (by unfold maxLen; omega) (by omega) (by simp; omega) ?_; intro v' w2 hown' hgrow hfr; have H2 := hide_it (HQ.out.app hown' hgrow); have c2 := H2.out.cell k hkn; have f2 := H2.out.fro k; generalize opF es S k = y0 at c2; have H3 := hide_it (H2.out.set k (-1) (f' := fun t => if t = k then -1 else opF es S t) (fun i _ => rfl)); have kin := HGW.out _ H3.out.bel)) | (go_at_call 31; refine kin.mono ?_; rintro e w5 ⟨u5, rfl, ho5, hb5⟩; have HO5 := hide_it (owns_base (base' := w.heap.size + 1) ho5 (fun q hq => by have := (ho5.lt q hq).1; have := H3.out.lt; omega)); clear ho5; obtain ⟨ao5, cap5, rfl, _⟩ := own_iat HO5.out; have H4 := hide_it (H3.out.below hb5)))
      go_loopw [41] (fun i W2 => ∃ j : Nat, j ≤ I.length ∧ i = .int .i64 j ∧ Hid (OQ w W2 w.heap.size n (fun t => (if t = k then -1 else opF es S t) - (((I.take j).count t : Nat) : Int)) v' (S ++ [k])) ∧ Hid (OwnI W2 (w.heap.size + 1) (.slice ao5 I.length cap5) I)) (fun i _ => I.length - (intOf i).toNat)
      case atStart => exact ⟨0, Nat.zero_le _, rfl, H4.out.congr (fun i _ => by simp), HO5⟩
      case round =>
        obtain ⟨j, hj, rfl, HJ, HOJ⟩ := hrel
        by_cases hjl : j < I.length
        · obtain ⟨r, rfl, hr, cr⟩ := (own_at HOJ.out).2 j hjl
          have hIn : I[j] < n := HIN.out _ (List.getElem_mem hjl)
          have cj := HJ.out.cell I[j] hIn
          have fj := HJ.out.fro I[j]
          have hct : (I.take j).count I[j] ≤ j := Nat.le_trans List.count_le_length (List.length_take_le _ _)
          have hb1 := (HSB.out I[j]).1
          have hb2 := (HSB.out I[j]).2
          have hy : -2000000 ≤ (if I[j] = k then -1 else opF es S I[j]) - (((I.take j).count I[j] : Nat) : Int) ∧ (if I[j] = k then -1 else opF es S I[j]) - (((I.take j).count I[j] : Nat) : Int) ≤ 2000000 := by split <;> omega
          have HTC : Hid (∀ t, (I.take (j + 1)).count t = (I.take j).count t + if t = I[j] then 1 else 0) := fun t => by
            rw [List.take_succ_eq_append_getElem hjl, List.count_append, List.count_singleton]
            by_cases e : I[j] = t
            · subst e; simp
            · have e2 : ¬ t = I[j] := fun q => e q.symm
              simp [e, e2]
          have HSET := fun (y : Int) (hy : (if I[j] = k then -1 else opF es S I[j]) - (((I.take j).count I[j] : Nat) : Int) = y) => HJ.out.set I[j] (y - 1) (f' := fun t => (if t = k then -1 else opF es S t) - (((I.take (j + 1)).count t : Nat) : Int)) (fun i _ => by
            show (if i = k then -1 else opF es S i) - (((I.take (j + 1)).count i : Nat) : Int) = _
            rw [HTC.out i, ← hy]
            by_cases e : i = I[j]
            · subst e
              rw [if_pos rfl, if_pos rfl]
              omega
            · rw [if_neg e, if_neg e]
              simp)
          have HOS := fun x => hide_it (owns_set (j := I[j]) (x := x) HOJ.out)
          have HSETH := hide_it HSET
          clear HSET hb1 hb2 hct HTC
          generalize hyy : (if I[j] = k then -1 else opF es S I[j]) - (((I.take j).count I[j] : Nat) : Int) = y at *
          obtain ⟨hy1, hy2⟩ := hy
          have HS3 := hide_it (HSETH.out y rfl)
          clear HSETH hyy
          generalize I[j] = t at *
          go_wp2
          go_roundw
          case rel => exact ⟨j + 1, by omega, by go_num, HS3, HOS _⟩
          case measure => simp [intOf]; omega
        · go_wp2
          subst hQ
          go_step3
          have e : I.take j = I := List.take_of_length_le (by omega)
          exact ⟨n - (S.length + 1), by omega, rfl, v', S ++ [k], FrO.mk, HI2.out, HJ.out.congr (fun i _ => by rw [e]; exact HST.out i), by simp⟩
    · have hnone : ∀ i, i < n → opF es S i ≠ 0 := by
        intro i
        induction i using Nat.strongRecOn with
        | _ i ih =>
          intro hi he
          exact hnx ⟨i, hi, he, fun j hj => ih j hj (by omega)⟩
      have kI : Calls Tryd.prog 30 #[.slice (some ⟨w.heap.size, 0, none⟩) n n, .int .i64 0] W fun e w' => e = .returned (.int .i64 (-1)) ∧ w' = W := by
        refine ki.mono ?_
        rintro e w' ⟨⟨z, rfl, HZ⟩, rfl⟩
        refine ⟨?_, rfl⟩
        rcases HZ.out with ⟨rfl, hz⟩ | ⟨k', rfl, h1, h2, h3⟩
        · rfl
        · exact absurd h2 (hnone k' h1)
      have HF : Hid (S = ordS es n) := HI.out.fin (fun i hi => by
        cases e : nextP es S i with
        | false => rfl
        | true => exact absurd ((opF_zero es S i).2 e) (hnone i hi))
      clear ki hnone hnx
      obtain ⟨ao, cap, rfl, _⟩ := own_iat HQ.out.own
      by_cases hlt : S.length < n
      · go_hide hQ
        go_wp2_with (go_at_call 30; refine kI.mono ?_; rintro e w' ⟨rfl, rfl⟩)
        subst hQ
        simp only [Exit.jumps]
        go_ret2
        have e := HF.out
        rw [e] at hlt
        refine ⟨.slice none 0 0, ?_, ?_, HQ.out.bel⟩
        · have eb : orderB es n = false := decide_eq_false (by omega)
          rw [eb]
          rfl
        · unfold orderL; rw [if_pos hlt]; exact owns_nil _ _
      · have hlt2 : decide ((S.length : Int) < (n : Int)) = false := by simp; omega
        go_hide hQ
        go_wp2_with (go_at_call 30; refine kI.mono ?_; rintro e w' ⟨rfl, rfl⟩)
        subst hQ
        simp only [Exit.jumps]
        go_ret2
        have e := HF.out
        have ho := HQ.out.own
        rw [e] at hlt ho ⊢
        refine ⟨.slice ao (ordS es n).length cap, ?_, ?_, HQ.out.bel⟩
        · have eb : orderB es n = true := decide_eq_true (by omega)
          rw [eb]
          rfl
        · unfold orderL; rw [if_neg hlt]; exact owns_base ho (fun q hq => by have := (ho.lt q hq).1; omega)
end Go.Proofs.YtpbncoaonminoaaDoor
