/- GraphOrder, walked. -/
import Derived.Test.YtcbgjdlkihepcaaDoorSho
namespace Go.Proofs.YtcbgjdlkihepcaaDoor
open Go.RowKit
open M
set_option linter.unusedVariables false
set_option linter.unusedSimpArgs false

theorem shown_o {W w : World} (hT : Tab W) (h0 : 0 < W.heap.size) (hb : Below W.heap.size W w) :
    Calls Tryd.prog 10 #[] w fun e w' => e = .returned (.bool true) ∧ Hid (Below W.heap.size W w') := by
  refine (shown_any w (tab_below hT h0 hb) (Nat.lt_of_lt_of_le h0 hb.size)).mono ?_
  rintro e w' ⟨rfl, h⟩
  exact ⟨rfl, hb.trans (h.mono hb.size)⟩

/-- A graph, and a row of numbers beside it. -/
structure OB (B : Nat) (w0 w : World) (g eb n : Nat) (v : Value) (es : List E) (u : Value) (ws : List Nat) : Prop where
  bel : Below B w0 w
  gm : GM w g eb n v es
  gB : ∀ k, Foot g eb v k → B ≤ k
  own : OwnI w B u ws
  dis : ∀ k, u.ownBlock = some k → ¬ Foot g eb v k
  tab : Tab w
  pos : 0 < B
  le : B ≤ w.heap.size
def OX (B : Nat) (w0 w : World) (g eb n : Nat) (es : List E) (u : Value) (ws : List Nat) : Prop := ∃ v, OB B w0 w g eb n v es u ws
section
variable {B : Nat} {w0 w : World} {g eb n : Nat} {v : Value} {es : List E} {u : Value} {ws : List Nat}
theorem OB.step (h : OB B w0 w g eb n v es u ws) {w' : World} (hb : Below w.heap.size w w') : OB B w0 w' g eb n v es u ws :=
  ⟨h.bel.trans (hb.mono h.le), h.gm.below hb, h.gB, owns_below h.own hb, h.dis, tab_below h.tab (Nat.lt_of_lt_of_le h.pos h.le) hb, h.pos, Nat.le_trans h.le hb.size⟩
theorem OX.step (h : OX B w0 w g eb n es u ws) {w' : World} (hb : Below w.heap.size w w') : OX B w0 w' g eb n es u ws := by
  obtain ⟨v, h⟩ := h
  exact ⟨v, h.step hb⟩
theorem OX.own (h : OX B w0 w g eb n es u ws) : OwnI w B u ws := by
  obtain ⟨v, h⟩ := h
  exact h.own
theorem OX.le (h : OX B w0 w g eb n es u ws) : B ≤ w.heap.size := by
  obtain ⟨v, h⟩ := h
  exact h.le
theorem OX.bel (h : OX B w0 w g eb n es u ws) : Below B w0 w := by
  obtain ⟨v, h⟩ := h
  exact h.bel
theorem OX.add (h : OX B w0 w g eb n es u ws) (hle : es.length ≤ 1000000) (a b : Int) (R : Bool) (er : Int) (fs : List E) (hR : newB n es a b = R) (he : errN n a b = er) (hf : addE n es a b = fs) :
    Calls Tryd.prog 13 #[ptr g, .int .i64 a, .int .i64 b] w fun e w' => e = .returned (.tuple #[.bool R, .int .i64 er]) ∧ Hid (OX B w0 w' g eb n fs u ws) := by
  obtain ⟨v, h⟩ := h
  subst hR he hf
  refine (add_any h.gm a b hle).mono ?_
  rintro e w' ⟨rfl, v', h1, h2, h3⟩
  have hb := h2.below h.le h.gB
  have old : ∀ k, u.ownBlock = some k → k < w.heap.size := fun k hk => (h.own.lt k hk).2
  refine ⟨rfl, v', h.bel.trans hb, h1, ?_, owns_keep h.own (fun k hk => h2.block k (old k hk) (h.dis k hk)), ?_, ?_, h.pos, Nat.le_trans h.le hb.size⟩
  · rintro k (rfl | rfl | hk)
    · exact h.gB _ (.inl rfl)
    · exact h.gB _ (.inr (.inl rfl))
    · rcases h3 with q | ⟨j, q1, q2⟩
      · exact h.gB k (.inr (.inr (by rw [← q]; exact hk)))
      · rw [q1] at hk; cases hk; have := h.le; omega
  · rintro k hk (rfl | rfl | hk')
    · exact h.dis _ hk (.inl rfl)
    · exact h.dis _ hk (.inr (.inl rfl))
    · rcases h3 with q | ⟨j, q1, q2⟩
      · exact h.dis k hk (.inr (.inr (by rw [← q]; exact hk')))
      · rw [q1] at hk'; cases hk'; have := old _ hk; omega
  · intro j hj
    rw [hb.cell (p := ⟨0, j, none⟩) h.pos]; exact h.tab j hj
theorem OX.app (h : OX B w0 w g eb n es u ws) {w2 : World} {u' : Value} {b : Nat} {o : Obj} (hown : w2.ownsRow B 3 1 u' (ws.length + 1) (ws.map (fun x => Value.int .i64 (x : Nat)) ++ [.int .i64 b])) (hg : (w.alloc o).grownBy w2 u.ownBlock) (hf : Fresh (w.alloc o) u u') :
    OX B w0 w2 g eb n es u' (ws ++ [b]) := by
  obtain ⟨v, h⟩ := h
  have ht : Turn (fun k => u.ownBlock = some k) w w2 := Turn.grown ((Turn.refl _ w).alloc o) hg (fun k hk => .inl hk)
  have hb := ht.below h.le (fun k hk => (h.own.lt k hk).1)
  refine ⟨v, h.bel.trans hb, h.gm.turn ht (fun k hk hu => h.dis k hu hk), h.gB, own_snoc hown, ?_, ?_, h.pos, Nat.le_trans h.le hb.size⟩
  · intro k hk hF
    rcases hf with q | ⟨j, q1, q2⟩
    · exact h.dis k (by rw [← q]; exact hk) hF
    · rw [q1] at hk; cases hk
      have := h.gm.lt _ hF
      simp at q2
      omega
  · intro j hj
    rw [hb.cell (p := ⟨0, j, none⟩) h.pos]; exact h.tab j hj
theorem OX.outs (h : OX B w0 w g eb n es u ws) (hle : es.length ≤ 1000000) (a : Int) (L : List Nat) (hL : outs es a = L) :
    Calls Tryd.prog 20 #[ptr g, .int .i64 a] w fun e w' => ∃ x, e = .returned x ∧ Hid (OX B w0 w' g eb n es u ws ∧ IAt w' x L) := by
  obtain ⟨v, h⟩ := h
  refine (out_any h.gm a hle).mono ?_
  rintro e w' ⟨x, rfl, ho, hb⟩
  exact ⟨x, rfl, ⟨v, h.step hb⟩, by rw [← hL]; exact own_iat ho⟩
end

theorem i64_and63 (n : Int) : bits .and .i64 n 63 = n % 64 := by
  have h : (BitVec.ofInt 64 63).toNat = 2 ^ 6 - 1 := by decide
  have key : (BitVec.ofInt 64 n &&& BitVec.ofInt 64 63).toNat = (n % ((2 ^ 64 : Nat) : Int)).toNat % 2 ^ 6 := by
    rw [BitVec.toNat_and, BitVec.toNat_ofInt, h, Nat.and_two_pow_sub_one_eq_mod]
  show IntKind.i64.wrap ((BitVec.ofInt 64 n &&& BitVec.ofInt 64 63).toNat : Nat) = n % 64
  rw [key, IntKind.wrap_i64]
  omega
theorem and63 (n : Int) : ∃ b : Nat, bits .and .i64 n 63 = b ∧ b < 64 := ⟨(n % 64).toNat, by rw [i64_and63]; omega, by omega⟩

def pairs (A : Nat) (ws : List Nat) : List E := ws.map fun b => (A, b)
theorem pairs_mem (A : Nat) (ws : List Nat) (b : Nat) : (A, b) ∈ pairs A ws ↔ b ∈ ws := by simp [pairs]
theorem pairs_outs (A : Nat) (ws : List Nat) : outs (pairs A ws) A = ws := by
  unfold outs pairs
  induction ws with
  | nil => rfl
  | cons x r ih => simp at ih ⊢; exact ih
theorem pairs_in (A b : Nat) (hA : A < 64) (hb : b < 64) : (!([(A : Int), (b : Int)].any (offB 64))) = true := by simp [offB]; omega
theorem pairs_new (A b : Nat) (ws : List Nat) (hA : A < 64) (hb : b < 64) : newB 64 (pairs A ws) A b = !decide (b ∈ ws) := by
  unfold newB
  rw [pairs_in A b hA hb]
  simp [pairs_mem]
theorem pairs_err (A b : Nat) (hA : A < 64) (hb : b < 64) : errN 64 A b = 0 := by
  unfold errN
  rw [if_pos (pairs_in A b hA hb)]
theorem pairs_add (A b : Nat) (ws : List Nat) (hA : A < 64) (hb : b < 64) : addE 64 (pairs A ws) A b = pairs A (if b ∈ ws then ws else ws ++ [b]) := by
  unfold addE
  rw [if_pos (pairs_in A b hA hb)]
  simp only [Int.toNat_natCast, pairs_mem]
  split
  · rfl
  · simp [pairs]

/-- Numbers of a slice that came in. -/
def NIn (w : World) (a : Option Addr) (ls : List Int) : Prop := ∀ i (h : i < ls.length), ∃ b o, a = some ⟨b, o, none⟩ ∧ b < w.heap.size ∧ w.cell? ⟨b, o + i, none⟩ = some (.int .i64 ls[i])
theorem NIn.below {w w' : World} {a : Option Addr} {ls : List Int} (h : NIn w a ls) {B : Nat} (hb : Below B w w') (hB : w.heap.size ≤ B) : NIn w' a ls := by
  intro i hi
  obtain ⟨b, o, h1, h2, h3⟩ := h i hi
  exact ⟨b, o, h1, Nat.lt_of_lt_of_le h2 hb.size, by rw [hb.cell (p := ⟨b, _, none⟩) (Nat.lt_of_lt_of_le h2 hB)]; exact h3⟩

theorem take_mem (ws : List Nat) (r : Nat) (h : r < ws.length) (b : Nat) : decide (b ∈ ws.take (r + 1)) = (decide (b ∈ ws.take r) || decide (ws[r] = b)) := by
  rw [List.take_succ_eq_append_getElem h]
  by_cases e : ws[r] = b
  · simp [e]
  · have e2 : ¬ b = ws[r] := fun h => e h.symm
    simp only [List.mem_append, List.mem_singleton, e2, or_false, e, decide_false, Bool.or_false]

set_option maxRecDepth 1000000 in
set_option maxHeartbeats 4000000 in
theorem order_core (a : Int) (ls : List Int) (la : Option Addr) (lc : Nat) (w : World) (hT : Tab w) (h0 : 0 < w.heap.size) (hl : NIn w la ls) (hm : ls.length ≤ maxLen) :
    Calls Tryd.prog 8 #[.int .i64 a, .slice la ls.length lc] w fun e w' => e = .returned (.bool true) ∧ Below w.heap.size w w' := by
  unfold maxLen at hm
  have kS := shown_o hT h0 (Below.refl _ w)
  have kN : ∀ w1, Below w.heap.size w w1 → Calls Tryd.prog 11 #[.int .i64 64] w1 fun e w' => e = .returned (ptr (w1.heap.size + 1)) ∧ Hid (∀ ob, Below w'.heap.size w' (w'.alloc ob) → ob = .cells #[] 3 → OX w.heap.size w (w'.alloc ob) (w1.heap.size + 1) w1.heap.size 64 (pairs 0 []) (.slice (some ⟨w'.heap.size, 0, none⟩) 0 0) []) := fun w1 hb => by
    refine (new_any 64 w1).mono ?_
    rintro e w' ⟨rfl, h1, h2⟩
    refine ⟨rfl, fun ob hob he => ?_⟩
    subst he
    have h3 := hb.trans (h2.mono hb.size)
    have hg : GM w' (w1.heap.size + 1) w1.heap.size 64 (.slice none 0 0) [] := h1
    refine ⟨_, ?_, hg.below hob, ?_, ?_, ?_, ?_, h0, ?_⟩
    · exact h3.trans (hob.mono h3.size)
    · rintro k (rfl | rfl | hk)
      · have := hb.size; omega
      · exact hb.size
      · simp [Value.ownBlock] at hk
    · exact World.ownsRow_made w' #[] 0 h3.size (by simp [maxLen]) (by simp)
    · rintro k hk hF
      simp [Value.ownBlock] at hk
      subst hk
      have := hg.lt _ hF
      omega
    · exact tab_below hT h0 (h3.trans (hob.mono h3.size))
    · have := h3.size; simp; omega
  obtain ⟨A, hA, hA64⟩ := and63 a
  have HL := hide_it hl
  obtain ⟨m, hmm⟩ : ∃ m, ls.length = m := ⟨_, rfl⟩
  have HM := hide_it hmm
  rw [hmm] at hm ⊢
  obtain ⟨i0, hi, hz0, hz1, hz2⟩ := info_parts info3
  clear hl hmm hT
  go_enter Tryd.func8, Tryd.ntmps8
  go_wp2_with (first | (go_at_call 10; refine kS.mono ?_; rintro e w1 ⟨rfl, hb1⟩) | (go_at_call 11; refine (kN _ hb1.out).mono ?_; rintro e w2 ⟨rfl, s⟩; have s := hide_it (s.out (.cells #[] 3) ((Below.refl _ _).alloc (Nat.le_refl _) _) rfl)))
  obtain ⟨G, hG⟩ : ∃ G, w1.heap.size + 1 = G := ⟨_, rfl⟩
  rw [hG] at s
  simp only [hG]
  go_loopw [7, 8] (fun u i W => ∃ (k : Nat) (ws : List Nat), k ≤ m ∧ k ≤ 100 ∧ ws.length ≤ k ∧ i = .int .i64 k ∧ Hid (OX w.heap.size w W G w1.heap.size 64 (pairs A ws) u ws)) (fun _ i _ => m - (intOf i).toNat)
  case atStart => exact ⟨0, [], Nat.zero_le _, by omega, by simp, rfl, s⟩
  case round =>
    obtain ⟨k, ws, hk, hk2, hwl, rfl, HO⟩ := hrel
    have hle := HO.out.le
    obtain ⟨w5, rfl⟩ : ∃ W, W = wr := ⟨_, rfl⟩
    by_cases hlt : k < m
    · by_cases hlt2 : k < 100
      · have hlx : k < ls.length := by rw [HM.out]; exact hlt
        obtain ⟨lb, lo, rfl, hlb, cl⟩ := (HL.out.below HO.out.bel (Nat.le_refl _)) k hlx
        obtain ⟨b, hb, hb64⟩ := and63 ls[k]
        generalize ls[k] = z at *
        obtain ⟨ao, cap, rfl, hc⟩ := own_iat HO.out.own
        have HC := hide_it hc
        obtain ⟨q, hq⟩ : ∃ q, ws.length = q := ⟨_, rfl⟩
        have HQ := hide_it hq
        have KA := fun R fs hR hf => HO.out.add (by simp [pairs]; omega) A b R 0 fs hR (pairs_err A b hA64 hb64) hf
        clear hc
        rw [hq] at hwl
        have H1 := hide_it HO.out
        clear HO
        rw [hq] at H1 KA
        go_wp2
        go_loop [10, 11] (fun t j => ∃ r : Nat, r ≤ q ∧ j = .int .i64 r ∧ t = .bool (decide (b ∈ ws.take r))) (fun _ j => q - (intOf j).toNat)
        case atStart => exact ⟨0, Nat.zero_le _, rfl, by simp⟩
        case round =>
          obtain ⟨r, hr, rfl, rfl⟩ := hrel
          by_cases hrq : r < q
          · have hrx : r < ws.length := by rw [HQ.out]; exact hrq
            obtain ⟨rb, rfl, hrb, cr⟩ := HC.out r hrx
            have HT := hide_it (take_mem ws r hrx b)
            generalize ws[r] = y at *
            cases ht : decide (b ∈ ws.take r) with
            | true =>
              rw [ht] at HT
              go_wp2
              go_round
              case rel => exact ⟨r + 1, by omega, by go_num, by rw [HT.out]; rfl⟩
              case measure => simp [intOf]; omega
            | false =>
              rw [ht] at HT
              by_cases hyb : y = b
              · subst hyb
                go_wp2
                go_round
                case rel => exact ⟨r + 1, by omega, by go_num, by rw [HT.out]; simp⟩
                case measure => simp [intOf]; omega
              · have hyb2 : ((y : Int) == (b : Int)) = false := by simp; omega
                go_wp2
                go_round
                case rel => exact ⟨r + 1, by omega, by go_num, by rw [HT.out]; simp [hyb]⟩
                case measure => simp [intOf]; omega
          · have e : ws.take r = ws := List.take_of_length_le (by rw [HQ.out]; omega)
            rw [e]
            by_cases hin : b ∈ ws
            · have hd : decide (b ∈ ws) = true := by simpa using hin
              have ka := KA false (pairs A ws) (by rw [pairs_new A b ws hA64 hb64, hd]; rfl) (by rw [pairs_add A b ws hA64 hb64, if_pos hin])
              rw [hd]
              clear KA e hd hin
              go_wp2_with (go_at_call 13; refine ka.mono ?_; rintro e w6 ⟨rfl, t⟩)
              go_roundw
              case rel => exact ⟨k + 1, ws, by omega, by omega, by rw [HQ.out]; omega, by go_num, t⟩
              case measure => simp [intOf]; omega
            · have hd : decide (b ∈ ws) = false := by simpa using hin
              have ka := KA true (pairs A (ws ++ [b])) (by rw [pairs_new A b ws hA64 hb64, hd]; rfl) (by rw [pairs_add A b ws hA64 hb64, if_neg hin])
              rw [hd]
              clear KA e hd hin
              go_wp2_with (first | (go_at_call 13; refine ka.mono ?_; rintro e w6 ⟨rfl, t⟩; have tl := t.out.le) | (at_builtin; (refine wpList_append_tell _ rfl (.tmp 67) (.tmp 69) 39 rfl w.heap.size 3 i0 _ 1 8 Tryd.underlying39 hi hz0 hz1 hz2 rfl (by decide) _ ws.length (ws.map fun x => Value.int .i64 (x : Nat)) rfl (t.out.own.alloc _) ⟨_, 0, none⟩ 1 1 [.int .i64 b] rfl rfl (World.news_of_block (heap_alloc_at rfl _)) (by simp [Value.oneCell']) (by rw [HQ.out]; unfold maxLen; omega) (by rw [HQ.out]; omega) (by simp; omega) ?_; intro v' w7 hown' hgrow hfr; have t2 := hide_it (t.out.app hown' hgrow hfr))))
              go_roundw
              case rel => exact ⟨k + 1, ws ++ [b], by omega, by omega, by rw [List.length_append, HQ.out]; simp; omega, by go_num, t2⟩
              case measure => simp [intOf]; omega
      · have ko := HO.out.outs (by simp [pairs]; omega) A ws (pairs_outs A ws)
        have kI : ∀ w6 x, OX w.heap.size w w6 G w1.heap.size 64 (pairs A ws) u7 ws → IAt w6 x ws → Calls Tryd.prog 19 #[x, u7] w6 fun e w' => e = .returned (.bool true) ∧ Hid (Below w.heap.size w w') := fun w6 x h hx => by
          refine (ints_any hx (own_iat h.own) (by omega)).mono ?_
          rintro e w' ⟨rfl, hb⟩
          exact ⟨by simp, h.bel.trans (hb.mono h.le)⟩
        have h2 : decide ((k : Int) < 100) = false := by simp; omega
        go_wp2_with (first | (go_at_call 20; refine ko.mono ?_; rintro e w6 ⟨x, rfl, t⟩) | (go_at_call 19; refine (kI _ _ t.out.1 t.out.2).mono ?_; rintro e w7 ⟨rfl, hb7⟩))
        go_ret
        exact ⟨rfl, hb7.out⟩
    · have ko := HO.out.outs (by simp [pairs]; omega) A ws (pairs_outs A ws)
      have kI : ∀ w6 x, OX w.heap.size w w6 G w1.heap.size 64 (pairs A ws) u7 ws → IAt w6 x ws → Calls Tryd.prog 19 #[x, u7] w6 fun e w' => e = .returned (.bool true) ∧ Hid (Below w.heap.size w w') := fun w6 x h hx => by
        refine (ints_any hx (own_iat h.own) (by omega)).mono ?_
        rintro e w' ⟨rfl, hb⟩
        exact ⟨by simp, h.bel.trans (hb.mono h.le)⟩
      have h2 : decide ((k : Int) < m) = false := by simp; omega
      go_wp2_with (first | (go_at_call 20; refine ko.mono ?_; rintro e w6 ⟨x, rfl, t⟩) | (go_at_call 19; refine (kI _ _ t.out.1 t.out.2).mono ?_; rintro e w7 ⟨rfl, hb7⟩))
      go_ret
      exact ⟨rfl, hb7.out⟩
end Go.Proofs.YtcbgjdlkihepcaaDoor
