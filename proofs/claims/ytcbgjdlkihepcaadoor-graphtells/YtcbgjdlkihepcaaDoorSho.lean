/- shown: what must be in any case. -/
import Derived.Test.YtcbgjdlkihepcaaDoorMad
namespace Go.Proofs.YtcbgjdlkihepcaaDoor
open Go.RowKit
open M
set_option linter.unusedVariables false
set_option linter.unusedSimpArgs false

/-- The graph of shown. -/
def esS : List E := [(0, 2), (2, 1)]
theorem rch_S (a b : Nat) : Rch esS a b ↔ b = a ∨ (a = 0 ∧ b = 2) ∨ (a = 0 ∧ b = 1) ∨ (a = 2 ∧ b = 1) := by
  constructor
  · intro h
    refine h.closed (fun b => b = a ∨ (a = 0 ∧ b = 2) ∨ (a = 0 ∧ b = 1) ∨ (a = 2 ∧ b = 1)) (.inl rfl) ?_
    intro x y hx he
    simp [esS] at he
    omega
  · rintro (rfl | ⟨rfl, rfl⟩ | ⟨rfl, rfl⟩ | ⟨rfl, rfl⟩)
    · exact Rch.refl _ _
    · exact (Rch.refl _ _).tail (by simp [esS])
    · exact ((Rch.refl _ 0).tail (b := 0) (c := 2) (by simp [esS])).tail (by simp [esS])
    · exact (Rch.refl _ _).tail (by simp [esS])
theorem reachB_S1 : reachB 4 esS 0 1 = true := by
  have : rB esS 0 1 = true := (rB_iff _ _ _).2 ((rch_S _ _).2 (by omega))
  unfold reachB
  simpa [offB] using this
theorem reachB_S2 : reachB 4 esS 1 0 = false := by
  have : rB esS 1 0 = false := by
    cases h : rB esS 1 0 with
    | false => rfl
    | true => have := (rch_S _ _).1 ((rB_iff _ _ _).1 h); omega
  unfold reachB
  simpa [offB] using this
theorem rset_S : rset esS 0 = 7 := by
  apply Nat.eq_of_testBit_eq
  intro i
  by_cases hi : i < 64
  · rw [rset_bit _ _ _ hi, Bool.eq_iff_iff, rB_iff, rch_S]
    have e : (7 : Nat) = 2 ^ 3 - 1 := rfl
    rw [e, Nat.testBit_two_pow_sub_one]
    simp
    omega
  · have e1 : (rset esS 0).testBit i = false := by
      cases h : (rset esS 0).testBit i with
      | false => rfl
      | true => exact absurd (bit_lt (rset_lt _ _) h) hi
    rw [e1]
    have e : (7 : Nat) = 2 ^ 3 - 1 := rfl
    rw [e, Nat.testBit_two_pow_sub_one]
    simp
    omega
theorem reachL_S : reachL 4 esS 0 = [0, 1, 2] := by
  unfold reachL
  rw [if_neg (by simp [offB])]
  have : ((0 : Int).toNat) = 0 := rfl
  rw [this, rset_S]
  decide
theorem ins_S : ins esS 1 = [2] := by decide
theorem add_S1 : addE 4 [] 0 2 = [(0, 2)] := by decide
theorem add_S2 : addE 4 [(0, 2)] 2 1 = esS := by decide
theorem add_S3 : addE 4 esS 0 2 = esS := by decide
theorem add_S4 : addE 4 esS 0 4 = esS := by decide
theorem new_S1 : newB 4 [] 0 2 = true := by decide
theorem new_S2 : newB 4 [(0, 2)] 2 1 = true := by decide
theorem new_S3 : newB 4 esS 0 2 = false := by decide
theorem new_S4 : newB 4 esS 0 4 = false := by decide
theorem err_S1 : errN 4 0 2 = 0 := by decide
theorem err_S2 : errN 4 2 1 = 0 := by decide
theorem err_S4 : errN 4 0 4 = 1 := by decide

/-- All that is the call's own, and what was there. -/
structure Sc (B : Nat) (w0 w : World) (g eb n : Nat) (es : List E) : Prop where
  bel : Below B w0 w
  go : GO w B g eb n es
  tab : Tab w
  pos : 0 < B
  le : B ≤ w.heap.size
theorem Sc.step {B : Nat} {w0 w w' : World} {g eb n : Nat} {es : List E} (h : Sc B w0 w g eb n es) (hb : Below w.heap.size w w') : Sc B w0 w' g eb n es :=
  ⟨h.bel.trans (hb.mono h.le), h.go.below hb, tab_below h.tab (Nat.lt_of_lt_of_le h.pos h.le) hb, h.pos, Nat.le_trans h.le hb.size⟩
section
variable {B : Nat} {w0 w : World} {g eb n : Nat} {es : List E}
theorem Sc.add (h : Sc B w0 w g eb n es) (hle : es.length ≤ 1000000) (a b : Int) (R : Bool) (er : Int) (fs : List E) (hR : newB n es a b = R) (he : errN n a b = er) (hf : addE n es a b = fs) :
    Calls Tryd.prog 13 #[ptr g, .int .i64 a, .int .i64 b] w fun e w' => e = .returned (.tuple #[.bool R, .int .i64 er]) ∧ Hid (Sc B w0 w' g eb n fs) := by
  refine (add_go h.go a b hle h.le).mono ?_
  rintro e w' ⟨rfl, hg, hb⟩
  subst hR he hf
  have hb' := hb.out
  refine ⟨rfl, h.bel.trans hb', hg.out, fun j hj => ?_, h.pos, Nat.le_trans h.le hb'.size⟩
  rw [hb'.cell (p := ⟨0, j, none⟩) h.pos]; exact h.tab j hj
theorem Sc.has (h : Sc B w0 w g eb n es) (a b : Int) (R : Bool) (hR : hasB n es a b = R) :
    Calls Tryd.prog 17 #[ptr g, .int .i64 a, .int .i64 b] w fun e w' => e = .returned (.bool R) ∧ Hid (Sc B w0 w' g eb n es) := by
  obtain ⟨v, hm, _⟩ := h.go.ex
  refine (has_edge hm a b).mono ?_
  rintro e w' ⟨rfl, hb⟩
  exact ⟨by rw [hR], h.step hb⟩
theorem Sc.reaches (h : Sc B w0 w g eb n es) (a b : Int) (R : Bool) (hR : reachB n es a b = R) :
    Calls Tryd.prog 26 #[ptr g, .int .i64 a, .int .i64 b] w fun e w' => e = .returned (.bool R) ∧ Hid (Sc B w0 w' g eb n es) := by
  obtain ⟨v, hm, _⟩ := h.go.ex
  refine (reaches_any hm h.tab (Nat.lt_of_lt_of_le h.pos h.le) a b).mono ?_
  rintro e w' ⟨rfl, hb⟩
  exact ⟨by rw [hR], h.step hb⟩
theorem Sc.num (h : Sc B w0 w g eb n es) : Calls Tryd.prog 16 #[ptr g] w fun e w' => e = .returned (.int .i64 n) ∧ w' = w := by
  obtain ⟨v, hm, _⟩ := h.go.ex
  exact n_any g eb n w hm.hn hm.c1
theorem Sc.len (h : Sc B w0 w g eb n es) : Calls Tryd.prog 15 #[ptr g] w fun e w' => e = .returned (.int .i64 es.length) ∧ w' = w := by
  obtain ⟨v, hm, _⟩ := h.go.ex
  exact len_any hm
theorem Sc.reach (h : Sc B w0 w g eb n es) (a : Int) (L : List Nat) (hL : reachL n es a = L) :
    Calls Tryd.prog 24 #[ptr g, .int .i64 a] w fun e w' => ∃ u, e = .returned u ∧ Hid (Sc B w0 w' g eb n es ∧ OwnI w' w.heap.size u L) := by
  obtain ⟨v, hm, _⟩ := h.go.ex
  refine (reach_any hm h.tab (Nat.lt_of_lt_of_le h.pos h.le) a).mono ?_
  rintro e w' ⟨u, rfl, ho, hb⟩
  exact ⟨u, rfl, h.step hb, by rw [← hL]; exact ho⟩
theorem Sc.out (h : Sc B w0 w g eb n es) (hle : es.length ≤ 1000000) (a : Int) (L : List Nat) (hL : outs es a = L) :
    Calls Tryd.prog 20 #[ptr g, .int .i64 a] w fun e w' => ∃ u, e = .returned u ∧ Hid (Sc B w0 w' g eb n es ∧ OwnI w' w.heap.size u L) := by
  obtain ⟨v, hm, _⟩ := h.go.ex
  refine (out_any hm a hle).mono ?_
  rintro e w' ⟨u, rfl, ho, hb⟩
  exact ⟨u, rfl, h.step hb, by rw [← hL]; exact ho⟩
theorem Sc.ins (h : Sc B w0 w g eb n es) (hle : es.length ≤ 1000000) (a : Int) (L : List Nat) (hL : ins es a = L) :
    Calls Tryd.prog 22 #[ptr g, .int .i64 a] w fun e w' => ∃ u, e = .returned u ∧ Hid (Sc B w0 w' g eb n es ∧ OwnI w' w.heap.size u L) := by
  obtain ⟨v, hm, _⟩ := h.go.ex
  refine (in_any hm a hle).mono ?_
  rintro e w' ⟨u, rfl, ho, hb⟩
  exact ⟨u, rfl, h.step hb, by rw [← hL]; exact ho⟩
theorem Sc.eqs (h : Sc B w0 w g eb n es) {va vb : Value} {xs ys : List Nat} (ha : IAt w va xs) (hb : IAt w vb ys) (hl : xs.length ≤ 1000000) (R : Bool) (hR : decide (xs = ys) = R) :
    Calls Tryd.prog 19 #[va, vb] w fun e w' => e = .returned (.bool R) ∧ Hid (Sc B w0 w' g eb n es) := by
  refine (ints_any ha hb hl).mono ?_
  rintro e w' ⟨rfl, hb⟩
  exact ⟨by rw [hR], h.step hb⟩
end
theorem new_sc (n : Int) (w : World) (hT : Tab w) (h0 : 0 < w.heap.size) (m : Nat) (hm : sz n = m) :
    Calls Tryd.prog 11 #[.int .i64 n] w fun e w' => e = .returned (ptr (w.heap.size + 1)) ∧ Hid (Sc w.heap.size w w' (w.heap.size + 1) w.heap.size m []) := by
  subst hm
  refine (new_go n w).mono ?_
  rintro e w' ⟨rfl, hg, hb⟩
  exact ⟨rfl, hb.out, hg.out, tab_below hT h0 hb.out, h0, hb.out.size⟩

set_option maxRecDepth 1000000 in
set_option maxHeartbeats 4000000 in
theorem shown_any (w : World) (hT : Tab w) (h0 : 0 < w.heap.size) :
    Calls Tryd.prog 10 #[] w fun e w' => e = .returned (.bool true) ∧ Below w.heap.size w w' := by
  have kN := new_sc 4 w hT h0 4 (by decide)
  clear hT
  have k1 : ∀ W, Sc w.heap.size w W (w.heap.size + 1) w.heap.size 4 [] → Calls Tryd.prog 13 #[ptr (w.heap.size + 1), .int .i64 0, .int .i64 2] W fun e w' => e = .returned (.tuple #[.bool true, .int .i64 0]) ∧ Hid (Sc w.heap.size w w' (w.heap.size + 1) w.heap.size 4 [(0, 2)]) := fun W h => h.add (by simp) 0 2 _ _ _ new_S1 err_S1 add_S1
  have k2 : ∀ W, Sc w.heap.size w W (w.heap.size + 1) w.heap.size 4 [(0, 2)] → Calls Tryd.prog 13 #[ptr (w.heap.size + 1), .int .i64 2, .int .i64 1] W fun e w' => e = .returned (.tuple #[.bool true, .int .i64 0]) ∧ Hid (Sc w.heap.size w w' (w.heap.size + 1) w.heap.size 4 esS) := fun W h => h.add (by simp) 2 1 _ _ _ new_S2 err_S2 add_S2
  have k3 : ∀ W, Sc w.heap.size w W (w.heap.size + 1) w.heap.size 4 esS → Calls Tryd.prog 13 #[ptr (w.heap.size + 1), .int .i64 0, .int .i64 2] W fun e w' => e = .returned (.tuple #[.bool false, .int .i64 0]) ∧ Hid (Sc w.heap.size w w' (w.heap.size + 1) w.heap.size 4 esS) := fun W h => h.add (by decide) 0 2 _ _ _ new_S3 err_S1 add_S3
  have k4 : ∀ W, Sc w.heap.size w W (w.heap.size + 1) w.heap.size 4 esS → Calls Tryd.prog 13 #[ptr (w.heap.size + 1), .int .i64 0, .int .i64 4] W fun e w' => e = .returned (.tuple #[.bool false, .int .i64 1]) ∧ Hid (Sc w.heap.size w w' (w.heap.size + 1) w.heap.size 4 esS) := fun W h => h.add (by decide) 0 4 _ _ _ new_S4 err_S4 add_S4
  have kR := fun W (h : Sc w.heap.size w W (w.heap.size + 1) w.heap.size 4 esS) => h.reach 0 _ reachL_S
  have kI := fun W (h : Sc w.heap.size w W (w.heap.size + 1) w.heap.size 4 esS) => h.ins (by decide) 1 _ ins_S
  have kE1 : ∀ W u, Sc w.heap.size w W (w.heap.size + 1) w.heap.size 4 esS → IAt W u [0, 1, 2] → Calls Tryd.prog 19 #[u, .slice (some ⟨W.heap.size, 0, none⟩) 3 3] (W.alloc (.cells #[.int .i64 0, .int .i64 1, .int .i64 2] 3)) fun e w' => e = .returned (.bool true) ∧ Hid (Sc w.heap.size w w' (w.heap.size + 1) w.heap.size 4 esS) := fun W u h hu =>
    (h.step ((Below.refl _ _).alloc (Nat.le_refl _) _)).eqs (hu.below ((Below.refl _ _).alloc (Nat.le_refl _) _)) (lit_iat W [0, 1, 2] 3 _ 3 _ rfl rfl rfl) (by simp) true (by simp)
  have kE2 : ∀ W u, Sc w.heap.size w W (w.heap.size + 1) w.heap.size 4 esS → IAt W u [2] → Calls Tryd.prog 19 #[u, .slice (some ⟨W.heap.size, 0, none⟩) 1 1] (W.alloc (.cells #[.int .i64 2] 3)) fun e w' => e = .returned (.bool true) ∧ Hid (Sc w.heap.size w w' (w.heap.size + 1) w.heap.size 4 esS) := fun W u h hu =>
    (h.step ((Below.refl _ _).alloc (Nat.le_refl _) _)).eqs (hu.below ((Below.refl _ _).alloc (Nat.le_refl _) _)) (lit_iat W [2] 3 _ 1 _ rfl rfl rfl) (by simp) true (by simp)
  have kQ1 := fun W (h : Sc w.heap.size w W (w.heap.size + 1) w.heap.size 4 esS) => h.reaches 0 1 _ reachB_S1
  have kQ2 := fun W (h : Sc w.heap.size w W (w.heap.size + 1) w.heap.size 4 esS) => h.reaches 1 0 _ reachB_S2
  have kL : ∀ W, Sc w.heap.size w W (w.heap.size + 1) w.heap.size 4 esS → Calls Tryd.prog 15 #[ptr (w.heap.size + 1)] W fun e w' => e = .returned (.int .i64 2) ∧ w' = W := fun W h => h.len
  have kM : ∀ W, Sc w.heap.size w W (w.heap.size + 1) w.heap.size 4 esS → Calls Tryd.prog 16 #[ptr (w.heap.size + 1)] W fun e w' => e = .returned (.int .i64 4) ∧ w' = W := fun W h => h.num
  go_enter Tryd.func10, Tryd.ntmps10
  go_wp2_with (first | (go_at_call 11; refine kN.mono ?_; rintro e w1 ⟨rfl, s1⟩) | (go_at_call 13; refine (k1 _ s1.out).mono ?_; rintro e w2 ⟨rfl, s2⟩; refine Hid.out ?_))
  refine hide_it ?_
  go_wp2_with (go_at_call 13; refine (k2 _ s2.out).mono ?_; rintro e w3 ⟨rfl, s3⟩; refine Hid.out ?_)
  refine hide_it ?_
  go_wp2_with (go_at_call 13; refine (k3 _ s3.out).mono ?_; rintro e w4 ⟨rfl, s4⟩; refine Hid.out ?_)
  refine hide_it ?_
  go_wp2_with (first | (go_at_call 13; refine (k4 _ s4.out).mono ?_; rintro e w5 ⟨rfl, s5⟩) | (go_at_call 24; refine (kR _ s5.out).mono ?_; rintro e w6 ⟨u6, rfl, s6⟩) | (go_at_call 19; refine (kE1 _ _ s6.out.1 (own_iat s6.out.2)).mono ?_; rintro e w7 ⟨rfl, s7⟩; refine Hid.out ?_))
  refine hide_it ?_
  go_wp2_with (first | (go_at_call 22; refine (kI _ s7.out).mono ?_; rintro e w8 ⟨u8, rfl, s8⟩) | (go_at_call 19; refine (kE2 _ _ s8.out.1 (own_iat s8.out.2)).mono ?_; rintro e w9 ⟨rfl, s9⟩) | (go_at_call 26; refine (kQ1 _ s9.out).mono ?_; rintro e w10 ⟨rfl, s10⟩; refine Hid.out ?_))
  refine hide_it ?_
  go_wp2_with (first | (go_at_call 26; refine (kQ2 _ s10.out).mono ?_; rintro e w11 ⟨rfl, s11⟩) | (go_at_call 15; refine (kL _ s11.out).mono ?_; rintro e w12 ⟨rfl, rfl⟩) | (go_at_call 16; refine (kM _ s11.out).mono ?_; rintro e w13 ⟨rfl, rfl⟩))
  go_ret
  exact ⟨rfl, s11.out.bel⟩
end Go.Proofs.YtcbgjdlkihepcaaDoor
