/- New, Join, Leave, Credit, Turn, Len. -/
import Derived.Test.YtlhkahincnchjaaRow
namespace Go.Proofs.Ytlhkahincnchjaa
open Go.RowKit
open M
set_option linter.unusedVariables false
set_option linter.unusedSimpArgs false

theorem max_num (x y : Int) (ts : Array TypeId) (t : TypeId) (W : World) : (Builtin.max_ ts t #[.int .i64 x, .int .i64 y]).run Try.prog W = .ok (.int .i64 (max x y)) W := by
  rw [run_max_int2]
  congr 2
  split <;> omega
theorem min_num (x y : Int) (ts : Array TypeId) (t : TypeId) (W : World) : (Builtin.min_ ts t #[.int .i64 x, .int .i64 y]).run Try.prog W = .ok (.int .i64 (min x y)) W := by
  rw [run_min_int2]
  congr 2
  split <;> omega

/-- New turns. -/
def mk0 (q : Int) : Tn := ⟨min (max q 1) 1048576, 0, 0, fun _ => 0, fun _ => 0, fun _ => 0⟩
theorem inv_mk0 (q : Int) {M : Int} (hM : 1 ≤ M) : Inv M (mk0 q) :=
  ⟨by show 1 ≤ min (max q 1) 1048576; omega, by show min (max q 1) 1048576 ≤ 1048576; omega, fun j hj => absurd hj (Nat.not_lt_zero _), fun j hj => absurd hj (Nat.not_lt_zero _), fun j hj => absurd hj (Nat.not_lt_zero _), fun hj => absurd hj (Nat.not_lt_zero _), fun hj => absurd hj (Nat.not_lt_zero _), fun _ => rfl⟩
theorem tm_mk0 {e tt : TypeId} {w : World} {t : Nat} (q : Int) (h : w.heap[t]? = some (.cells #[.int .i64 (min (max q 1) 1048576), .slice none 0 0, .int .i64 0] tt)) : MO e tt w (fun k => k = t) t (mk0 q) :=
  ⟨.slice none 0 0, ⟨h, World.ownsRow_nil _ _ _ _, by simp [Value.ownBlock]⟩, fun k hk => by
    rcases hk with e | e
    · exact e
    · simp [Value.ownBlock] at e⟩
def crI (x : Tn) (id : Int) : Int := if 0 ≤ plc x id then x.C (plc x id).toNat else 0
def crB (x : Tn) (id : Int) : Bool := decide (0 ≤ plc x id)
def tuI (x : Tn) : Int := if x.n = 0 then 0 else x.I x.k
def tuB (x : Tn) : Bool := !decide (x.n = 0)
def joinE (x : Tn) (id wt : Int) : Int := if wt < 1 ∨ 100 < wt then 1 else if 0 ≤ plc x id then 8 else 0
def joinX (x : Tn) (id wt : Int) : Tn := if joinE x id wt = 0 then { x with n := x.n + 1, I := upd x.I x.n id, W := upd x.W x.n wt, C := upd x.C x.n 0 } else x
def lessX (x : Tn) (i : Nat) : Tn := { x with n := x.n - 1, I := del x.I i, W := del x.W i, C := del x.C i }
def leaveE (x : Tn) (id : Int) : Int := if 0 ≤ plc x id then 0 else 6
def leaveX (x : Tn) (id : Int) : Tn := if 0 ≤ plc x id then { lessX x (plc x id).toNat with k := if (if (plc x id).toNat < x.k then x.k - 1 else x.k) = x.n - 1 then 0 else (if (plc x id).toNat < x.k then x.k - 1 else x.k) } else x
theorem plc_lt {x : Tn} {id : Int} (h : 0 ≤ plc x id) : ∃ k : Nat, k < x.n ∧ x.I k = id ∧ plc x id = (k : Int) := by
  rcases plc_cases x id with ⟨k, h1, h2, _, h4⟩ | ⟨_, h1⟩
  · exact ⟨k, h1, h2, h4⟩
  · omega

section
variable {w : World} {F : Nat → Prop} {t : Nat} {x : Tn}

set_option maxRecDepth 1000000 in
set_option maxHeartbeats 2000000 in
theorem new_any (w : World) (q : Int) : Calls Try.prog 11 #[.int .i64 q] w fun e w' => ∃ t, e = .returned (ptr t) ∧ Hid (MO 64 62 w' (fun k => k = t) t (mk0 q) ∧ Below w.heap.size w w' ∧ w.heap.size ≤ t) := by
  obtain ⟨m, hm⟩ : ∃ m, max q 1 = m := ⟨_, rfl⟩
  obtain ⟨n, hn⟩ : ∃ n, min m 1048576 = n := ⟨_, rfl⟩
  have k1 : ∀ ts u W, (Builtin.max_ ts u #[.int .i64 q, .int .i64 1]).run Try.prog W = .ok (.int .i64 m) W := fun ts u W => by rw [← hm]; exact max_num _ _ ts u W
  have k2 : ∀ ts u W, (Builtin.min_ ts u #[.int .i64 m, .int .i64 1048576]).run Try.prog W = .ok (.int .i64 n) W := fun ts u W => by rw [← hn]; exact min_num _ _ ts u W
  have HL : Hid (MO 64 62 (w.alloc (.cells #[.int .i64 n, .slice none 0 0, .int .i64 0] 62)) (fun k => k = w.heap.size) w.heap.size (mk0 q) ∧ Below w.heap.size w (w.alloc (.cells #[.int .i64 n, .slice none 0 0, .int .i64 0] 62)) ∧ w.heap.size ≤ w.heap.size) :=
    ⟨tm_mk0 q (by rw [heap_alloc_new, hm, hn]), (Below.refl _ _).alloc (Nat.le_refl _) _, Nat.le_refl _⟩
  clear hm hn
  go_enter Try.func11, Try.ntmps11
  go_wp2
  go_ret
  exact ⟨_, rfl, HL⟩
set_option maxRecDepth 1000000 in
set_option maxHeartbeats 2000000 in
theorem rnew_any (w : World) (q : Int) : Calls Try.prog 12 #[.int .i64 q] w fun e w' => ∃ t, e = .returned (ptr t) ∧ Hid (MO 50 48 w' (fun k => k = t) t (mk0 q) ∧ Below w.heap.size w w' ∧ w.heap.size ≤ t) := by
  obtain ⟨m, hm⟩ : ∃ m, max q 1 = m := ⟨_, rfl⟩
  obtain ⟨n, hn⟩ : ∃ n, min m 1048576 = n := ⟨_, rfl⟩
  have k1 : ∀ ts u W, (Builtin.max_ ts u #[.int .i64 q, .int .i64 1]).run Try.prog W = .ok (.int .i64 m) W := fun ts u W => by rw [← hm]; exact max_num _ _ ts u W
  have k2 : ∀ ts u W, (Builtin.min_ ts u #[.int .i64 m, .int .i64 1048576]).run Try.prog W = .ok (.int .i64 n) W := fun ts u W => by rw [← hn]; exact min_num _ _ ts u W
  have HL : Hid (MO 50 48 (w.alloc (.cells #[.int .i64 n, .slice none 0 0, .int .i64 0] 48)) (fun k => k = w.heap.size) w.heap.size (mk0 q) ∧ Below w.heap.size w (w.alloc (.cells #[.int .i64 n, .slice none 0 0, .int .i64 0] 48)) ∧ w.heap.size ≤ w.heap.size) :=
    ⟨tm_mk0 q (by rw [heap_alloc_new, hm, hn]), (Below.refl _ _).alloc (Nat.le_refl _) _, Nat.le_refl _⟩
  clear hm hn
  go_enter Try.func12, Try.ntmps12
  go_wp2
  go_ret
  exact ⟨_, rfl, HL⟩

set_option maxRecDepth 1000000 in
set_option maxHeartbeats 2000000 in
theorem len_any (h : MO 64 62 w F t x) : Calls Try.prog 23 #[ptr t] w fun e w' => e = .returned (.int .i64 x.n) ∧ w' = w := by
  obtain ⟨v, h1, _⟩ := h
  have c1 := h1.c1
  obtain ⟨ao, cap, rfl, _⟩ := h1.mbs
  clear h1
  generalize x.n = n at *
  go_enter Try.func23, Try.ntmps23
  go_wp2
  go_ret
  exact ⟨rfl, rfl⟩

set_option maxRecDepth 1000000 in
set_option maxHeartbeats 2000000 in
theorem credit_any (h : MO 64 62 w F t x) (hn : x.n ≤ 1000000) (id : Int) : Calls Try.prog 20 #[ptr t, .int .i64 id] w fun e w' => e = .returned (.tuple #[.int .i64 (crI x id), .bool (crB x id)]) ∧ Hid (Below w.heap.size w w') := by
  have k1 := place_any h hn id
  by_cases hp : 0 ≤ plc x id
  · obtain ⟨k, hk, _, e⟩ := plc_lt hp
    have HF : Hid (∀ W, Below w.heap.size w W → ∃ g cap, W.cell? ⟨t, 1, none⟩ = some (.slice (some ⟨g, 0, none⟩) x.n cap) ∧ W.cell? ⟨g, k * 3 + 2, none⟩ = some (.int .i64 (x.C k))) := fun W hb => by
      obtain ⟨v, h1, _⟩ := h.below hb
      have c1 := h1.c1
      obtain ⟨ao, cap, rfl, _, _, hm⟩ := h1.mbs
      obtain ⟨g, rfl, _, _, _, c⟩ := hm k hk
      exact ⟨g, cap, c1, c⟩
    unfold crI crB
    rw [e] at k1 ⊢
    rw [if_pos (Int.natCast_nonneg k), decide_eq_true (Int.natCast_nonneg k), Int.toNat_natCast]
    clear hp e h
    generalize x.C k = c at *
    generalize x.n = n at *
    go_enter Try.func20, Try.ntmps20
    go_wp2_with (go_at_call 24; refine k1.mono ?_; rintro e w1 ⟨rfl, b1⟩; refine Hid.out ?_)
    refine hide_it ?_
    obtain ⟨g, cap, q1, q2⟩ := HF.out w1 b1.out
    go_wp2
    go_ret2
    exact ⟨rfl, b1⟩
  · unfold crI crB
    rw [if_neg hp, decide_eq_false hp]
    have hd : decide (plc x id < 0) = true := by simp; omega
    clear hp h
    generalize plc x id = z at *
    go_enter Try.func20, Try.ntmps20
    go_wp2_with (go_at_call 24; refine k1.mono ?_; rintro e w1 ⟨rfl, b1⟩)
    go_ret2
    exact ⟨rfl, b1⟩

set_option maxRecDepth 1000000 in
set_option maxHeartbeats 2000000 in
theorem turn_any (h : MO 64 62 w F t x) (hn : x.n ≤ 1000000) (hk : 0 < x.n → x.k < x.n) : Calls Try.prog 22 #[ptr t] w fun e w' => e = .returned (.tuple #[.int .i64 (tuI x), .bool (tuB x)]) ∧ Hid (Below w.heap.size w w') := by
  obtain ⟨v, h1, _⟩ := h
  have c1 := h1.c1
  have c2 := h1.c2
  obtain ⟨ao, cap, rfl, _, _, hm⟩ := h1.mbs
  have HB : Hid (∀ j : Nat, Below w.heap.size w (w.drewN j)) := fun j => below_drewN (Below.refl _ _) j
  unfold tuI tuB
  by_cases e : x.n = 0
  · rw [if_pos e, decide_eq_true e]
    have HB0 : Hid (Below w.heap.size w w) := Below.refl _ _
    rw [e] at c1
    clear hm h1 hk
    go_enter Try.func22, Try.ntmps22
    go_wp2
    go_ret2
    exact ⟨rfl, HB0⟩
  · rw [if_neg e, decide_eq_false e]
    have hk2 := hk (by omega)
    obtain ⟨g, rfl, _, q0, _, _⟩ := hm x.k hk2
    have hd : ((x.n : Int) == 0) = false := by simp; omega
    clear hm h1 hk
    generalize x.I x.k = i at *
    generalize x.n = n at *
    generalize x.k = k at *
    clear e
    go_enter Try.func22, Try.ntmps22
    go_wp2_with (go_big_quiet (fail))
    go_ret2
    exact ⟨rfl, HB.out _⟩

set_option maxRecDepth 1000000 in
set_option maxHeartbeats 4000000 in
theorem join_any (h : MO 64 62 w F t x) (hs : x.n < 1000000) (id wt : Int) : Calls Try.prog 13 #[ptr t, .int .i64 id, .int .i64 wt] w fun e w' => e = .returned (.int .i64 (joinE x id wt)) ∧ Hid (St 64 62 F w w' t (joinX x id wt)) := by
  have s0 := hide_it (St.refl h)
  by_cases h1 : wt < 1
  · have e : joinE x id wt = 1 := by unfold joinE; rw [if_pos (.inl h1)]
    have e2 : joinX x id wt = x := by unfold joinX; rw [e]; rfl
    rw [e, e2]
    have hd : decide (wt < 1) = true := by simpa using h1
    clear e e2 h h1 hs
    go_enter Try.func13, Try.ntmps13
    go_wp2
    go_ret
    exact ⟨rfl, s0⟩
  · have hd : decide (wt < 1) = false := by simpa using h1
    by_cases h2 : 100 < wt
    · have e : joinE x id wt = 1 := by unfold joinE; rw [if_pos (.inr h2)]
      have e2 : joinX x id wt = x := by unfold joinX; rw [e]; rfl
      rw [e, e2]
      have hd2 : decide (100 < wt) = true := by simpa using h2
      clear e e2 h h1 hs h2
      go_enter Try.func13, Try.ntmps13
      go_wp2
      go_ret
      exact ⟨rfl, s0⟩
    · have hd2 : decide (100 < wt) = false := by simpa using h2
      have k1 := place_any h (by omega) id
      by_cases hp : 0 ≤ plc x id
      · have e : joinE x id wt = 8 := by unfold joinE; rw [if_neg (by omega), if_pos hp]
        have e2 : joinX x id wt = x := by unfold joinX; rw [e]; rfl
        rw [e, e2]
        have hd3 : decide (0 ≤ plc x id) = true := by simpa using hp
        clear e e2 h h1 hs h2 hp
        generalize plc x id = z at *
        go_enter Try.func13, Try.ntmps13
        go_wp2_with (go_at_call 24; refine k1.mono ?_; rintro e w1 ⟨rfl, b1⟩)
        go_ret
        exact ⟨rfl, s0.out.below b1.out⟩
      · have e : joinE x id wt = 0 := by unfold joinE; rw [if_neg (by omega), if_neg hp]
        have e2 : joinX x id wt = { x with n := x.n + 1, I := upd x.I x.n id, W := upd x.W x.n wt, C := upd x.C x.n 0 } := by unfold joinX; rw [e]; rfl
        rw [e, e2]
        have hd3 : decide (0 ≤ plc x id) = false := by simpa using hp
        obtain ⟨v, sv⟩ := SV.start h
        have HSV := hide_it sv
        have HS := hide_it hs
        clear e e2 h h1 hs h2 hp sv
        generalize plc x id = z at *
        go_enter Try.func13, Try.ntmps13
        go_wp2_with (go_at_call 24; refine k1.mono ?_; rintro e w1 ⟨rfl, b1⟩; refine Hid.out ?_)
        refine hide_it ?_
        have HV1 := hide_it (HSV.out.below b1.out)
        have q1 := HV1.out.tm.c1
        have HT : Hid (∀ W, Turn (fun k => v.ownBlock = some k) w1 W → W.cell? ⟨t, 1, none⟩ = some v ∧ W.frozen? ⟨t, 1, none⟩ = false) := fun W hW => by
          have hb : W.heap[t]? = w1.heap[t]? := hW.block t (block_lt HV1.out.tm.blk) HV1.out.tm.tv
          exact ⟨by rw [← HV1.out.tm.c1]; simp only [World.cell?, hb], by rw [← HV1.out.tm.fr 1]; simp only [World.frozen?, hb]⟩
        have BA : Hid (Below w1.heap.size w1 (w1.alloc (.cells #[.int .i64 id, .int .i64 wt, .int .i64 0] 64))) := (Below.refl _ _).alloc (Nat.le_refl _) _
        have OA : Hid ((w1.alloc (.cells #[.int .i64 id, .int .i64 wt, .int .i64 0] 64)).ownsRow 0 64 3 v x.n (mrow x.n x.I x.W x.C)) := owns_below HV1.out.tm.row BA.out
        go_wp2_with (at_builtin; refine wpList_mcat 60 64 Try.underlying60 info64 rfl (.tmp 21) (.tmp 25) rfl OA.out (mbo_one 64 rfl id wt 0) (fun q => by cases q) (by have := HS.out; omega) rfl rfl (Nat.zero_le _) ?_; intro ao' cap' m w2 HO; have TW := hide_it ((Turn.of_below (F := fun k => v.ownBlock = some k) BA.out).grown HO.out.2.2.1 (fun k hk => .inl hk)); have HFr := hide_it HO.out.2.2.2; obtain ⟨c1, c3⟩ := HT.out _ TW.out)
        go_ret
        refine ⟨rfl, ?_⟩
        obtain ⟨em, ho, _, _⟩ := HO.out
        subst em
        rw [mrow_congr (I' := upd x.I x.n id) (W' := upd x.W x.n wt) (C' := upd x.C x.n 0)
          (fun j hj => by
            unfold cat upd
            by_cases e : j = x.n
            · rw [if_neg (by omega), if_pos e]
            · rw [if_pos (by omega), if_neg e])
          (fun j hj => by
            unfold cat upd
            by_cases e : j = x.n
            · rw [if_neg (by omega), if_pos e]
            · rw [if_pos (by omega), if_neg e])
          (fun j hj => by
            unfold cat upd
            by_cases e : j = x.n
            · rw [if_neg (by omega), if_pos e]
            · rw [if_pos (by omega), if_neg e])] at ho
        have hf : Fresh w1 v (.slice ao' (x.n + 1) cap') := by
          rcases HFr.out with q | ⟨k, q, hk⟩
          · exact .inl q
          · exact .inr ⟨k, q, by simp at hk; omega⟩
        obtain ⟨a1, a2, a3⟩ := HV1.out.tm.putV HV1.out.ft TW.out ho hf
        exact HV1.out.st.trans ⟨⟨_, a1, a2⟩, a3⟩

set_option maxRecDepth 1000000 in
set_option maxHeartbeats 4000000 in
theorem leave_any (h : MO 64 62 w F t x) (hs : x.n ≤ 1000000) (hk : 0 < x.n → x.k < x.n) (id : Int) : Calls Try.prog 15 #[ptr t, .int .i64 id] w fun e w' => e = .returned (.int .i64 (leaveE x id)) ∧ Hid (St 64 62 F w w' t (leaveX x id)) := by
  have s0 := hide_it (St.refl h)
  have k1 := place_any h (by omega) id
  unfold leaveE leaveX
  by_cases hp : 0 ≤ plc x id
  · rw [if_pos hp, if_pos hp]
    obtain ⟨i, hi, _, e⟩ := plc_lt hp
    rw [e] at k1 ⊢
    rw [Int.toNat_natCast]
    obtain ⟨v, sv⟩ := SV.start h
    have hkn := hk (by omega)
    obtain ⟨g, cap, rfl⟩ : ∃ g cap, v = .slice (some ⟨g, 0, none⟩) x.n cap := by
      obtain ⟨ao, cap, e, _, _, hm⟩ := sv.tm.mbs
      obtain ⟨g, e2, _⟩ := hm i hi
      exact ⟨g, cap, by rw [e, e2]⟩
    have HSV := hide_it sv
    have HD := hide_it (fun (W : World) (hb : Below w.heap.size w W) => delete_any (sv.below hb).tm.row hs hi rfl)
    have HI : Hid (((i : Nat) : Int) + 1 = ((i + 1 : Nat) : Int)) := by show _ = _; omega
    have hb1 : (i : Int) + 1 ≤ 9223372036854775807 := by omega
    have hb0 : ((i : Int) < 0) = False := by simp
    obtain ⟨k, ek⟩ : ∃ k, x.k = k := ⟨_, rfl⟩
    obtain ⟨n, en⟩ : ∃ n, x.n = n := ⟨_, rfl⟩
    obtain ⟨n1, en1⟩ : ∃ n1, x.n - 1 = n1 := ⟨_, rfl⟩
    have HN := hide_it (show x.k = k ∧ x.n = n ∧ x.n - 1 = n1 from ⟨ek, en, en1⟩)
    rw [en] at HD HSV hi hkn hs
    rw [ek] at hkn ⊢
    rw [en1]
    have en2 : n - 1 = n1 := by omega
    rw [en2] at HD
    clear hp e h hk sv
    -- the row is another one: what stands behind it
    have HV : Hid (∀ w1 w2, Below w.heap.size w w1 → w2.ownsRow 0 64 3 (.slice (some ⟨g, 0, none⟩) n1 cap) n1 (mrow n1 (del x.I i) (del x.W i) (del x.C i)) → Turn (fun k => k = g) w1 w2 → (w2.cell? ⟨t, 1, none⟩ = some (.slice (some ⟨g, 0, none⟩) n cap) ∧ w2.frozen? ⟨t, 1, none⟩ = false ∧ w2.frozen? ⟨t, 2, none⟩ = false ∧ w2.cell? ⟨t, 2, none⟩ = some (.int .i64 k)) ∧ SV 64 62 F w (w2.setCell ⟨t, 1, none⟩ (.slice (some ⟨g, 0, none⟩) n1 cap)) t { lessX x i with k := k } (.slice (some ⟨g, 0, none⟩) n1 cap)) := fun w1 w2 b1 ho ht => by
      have v1 := HSV.out.below b1
      have ht2 : Turn (fun k => (Value.slice (some ⟨g, 0, none⟩) n cap).ownBlock = some k) w1 w2 := ht.mono (fun k _ hk => by subst hk; rfl)
      have hb : w2.heap[t]? = w1.heap[t]? := ht2.block t (block_lt v1.tm.blk) v1.tm.tv
      have b1' := v1.tm.c1
      have b2' := v1.tm.c2
      rw [HN.out.1] at b2'
      obtain ⟨a1, a2, a3⟩ := v1.tm.putV v1.ft ht2 ho (.inl rfl)
      have st := v1.st.trans ⟨⟨_, a1, a2⟩, a3⟩
      refine ⟨⟨by rw [← b1']; simp only [World.cell?, hb], by rw [← v1.tm.fr 1]; simp only [World.frozen?, hb], by rw [← v1.tm.fr 2]; simp only [World.frozen?, hb], by rw [← b2']; simp only [World.cell?, hb]⟩, ⟨?_, fun j hj => ?_, st.tu, v1.own, v1.lt⟩⟩
      · unfold lessX
        rw [HN.out.2.2]
        have := a1
        rw [HN.out.1] at this
        exact this
      · rcases a2 j hj with q | q
        · rcases q with q | q
          · exact .inl q
          · exact .inr ⟨q.1, by have := ht.size; simp [World.setCell]; omega⟩
        · have := b1.size
          exact .inr ⟨by omega, q.2⟩
    have hs1 : n1 < n := by omega
    have hN1 : (n1 : Int) ≤ 1000000 := by omega
    by_cases hik : i < k
    · rw [if_pos hik]
      obtain ⟨k', rfl⟩ : ∃ k', k = k' + 1 := ⟨k - 1, by omega⟩
      rw [Nat.add_sub_cancel]
      have hk2 : ((k' + 1 : Nat) : Int) - 1 = (k' : Int) := by omega
      have hik2 : decide ((i : Int) < ((k' + 1 : Nat) : Int)) = true := by simp; omega
      obtain ⟨K, hK⟩ : ∃ K : Int, ((k' + 1 : Nat) : Int) = K := ⟨_, rfl⟩
      rw [hK] at hk2 hik2
      have hw : IntKind.i64.wrap (K - 1) = (k' : Int) := by rw [IntKind.wrap_i64]; omega
      have hw2 : wrap64 (K - 1) = (k' : Int) := by unfold wrap64; omega
      by_cases hz : k' = n1
      · rw [if_pos hz]
        have hz2 : ((k' : Int) == (n1 : Int)) = true := by simp; omega
        clear hk2 hz hik hs1 en en1 en2 ek hkn hs hi s0
        try clear hb
        go_enter Try.func15, Try.ntmps15
        go_wp2_with (go_at_call 24; refine k1.mono ?_; rintro e w1 ⟨rfl, b1⟩; refine Hid.out ?_)
        refine hide_it ?_
        have q1 := (HSV.out.below b1.out).tm.c1
        have kd := HD.out w1 b1.out
        rw [← HI.out] at kd
        go_wp2_with (first | (go_at_call 25; refine kd.mono ?_; rintro e w2 ⟨rfl, HO⟩; obtain ⟨⟨c1, f1, f2, c2⟩, sv⟩ := HV.out w1 w2 b1.out HO.out.1 HO.out.2; have HS2 := hide_it sv; clear sv; rw [hK] at c2) | (go_big_quiet (fail)))
        go_ret
        exact ⟨rfl, (((HS2.out.setK k').below (below_drewN (Below.refl _ _) _)).setK 0).st⟩
      · rw [if_neg hz]
        have hz2 : ((k' : Int) == (n1 : Int)) = false := by simp; omega
        clear hk2 hz hik hs1 en en1 en2 ek hkn hs hi s0
        go_enter Try.func15, Try.ntmps15
        go_wp2_with (go_at_call 24; refine k1.mono ?_; rintro e w1 ⟨rfl, b1⟩; refine Hid.out ?_)
        refine hide_it ?_
        have q1 := (HSV.out.below b1.out).tm.c1
        have kd := HD.out w1 b1.out
        rw [← HI.out] at kd
        go_wp2_with (first | (go_at_call 25; refine kd.mono ?_; rintro e w2 ⟨rfl, HO⟩; obtain ⟨⟨c1, f1, f2, c2⟩, sv⟩ := HV.out w1 w2 b1.out HO.out.1 HO.out.2; have HS2 := hide_it sv; clear sv; rw [hK] at c2) | (go_big_quiet (fail)))
        go_ret
        exact ⟨rfl, ((HS2.out.setK k').below (below_drewN (Below.refl _ _) _)).st⟩
    · rw [if_neg hik]
      have hik2 : decide ((i : Int) < (k : Int)) = false := by simp; omega
      obtain ⟨K, hK⟩ : ∃ K : Int, (k : Int) = K := ⟨_, rfl⟩
      rw [hK] at hik2
      by_cases hz : k = n1
      · rw [if_pos hz]
        have hz2 : (K == (n1 : Int)) = true := by simp; omega
        clear hz hik hs1 en en1 en2 ek hkn hs hi s0
        go_enter Try.func15, Try.ntmps15
        go_wp2_with (go_at_call 24; refine k1.mono ?_; rintro e w1 ⟨rfl, b1⟩; refine Hid.out ?_)
        refine hide_it ?_
        have q1 := (HSV.out.below b1.out).tm.c1
        have kd := HD.out w1 b1.out
        rw [← HI.out] at kd
        go_wp2_with (first | (go_at_call 25; refine kd.mono ?_; rintro e w2 ⟨rfl, HO⟩; obtain ⟨⟨c1, f1, f2, c2⟩, sv⟩ := HV.out w1 w2 b1.out HO.out.1 HO.out.2; have HS2 := hide_it sv; clear sv; rw [hK] at c2) | (go_big_quiet (fail)))
        go_ret
        exact ⟨rfl, ((HS2.out.below (below_drewN (Below.refl _ _) _)).setK 0).st⟩
      · rw [if_neg hz]
        have hz2 : (K == (n1 : Int)) = false := by simp; omega
        clear hz hik hs1 en en1 en2 ek hkn hs hi s0
        go_enter Try.func15, Try.ntmps15
        go_wp2_with (go_at_call 24; refine k1.mono ?_; rintro e w1 ⟨rfl, b1⟩; refine Hid.out ?_)
        refine hide_it ?_
        have q1 := (HSV.out.below b1.out).tm.c1
        have kd := HD.out w1 b1.out
        rw [← HI.out] at kd
        go_wp2_with (first | (go_at_call 25; refine kd.mono ?_; rintro e w2 ⟨rfl, HO⟩; obtain ⟨⟨c1, f1, f2, c2⟩, sv⟩ := HV.out w1 w2 b1.out HO.out.1 HO.out.2; have HS2 := hide_it sv; clear sv; rw [hK] at c2) | (go_big_quiet (fail)))
        go_ret
        exact ⟨rfl, (HS2.out.below (below_drewN (Below.refl _ _) _)).st⟩
  · rw [if_neg hp, if_neg hp]
    have hd : decide (plc x id < 0) = true := by simp; omega
    clear hp h
    generalize plc x id = z at *
    go_enter Try.func15, Try.ntmps15
    go_wp2_with (go_at_call 24; refine k1.mono ?_; rintro e w1 ⟨rfl, b1⟩)
    go_ret
    exact ⟨rfl, s0.out.below b1.out⟩
end
end Go.Proofs.Ytlhkahincnchjaa
