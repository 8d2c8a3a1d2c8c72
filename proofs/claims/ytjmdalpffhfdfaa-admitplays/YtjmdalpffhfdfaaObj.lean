/- New, State, Add, End, Actives, Waiting. -/
import Derived.Test.YtjmdalpffhfdfaaRow
namespace Go.Proofs.Ytjmdalpffhfdfaa
open Go.RowKit
open M
set_option linter.unusedVariables false
set_option linter.unusedSimpArgs false

theorem max_num (x y : Int) (ts : Array TypeId) (t : TypeId) (W : World) : (Builtin.max_ ts t #[.int .i64 x, .int .i64 y]).run Try.prog W = .ok (.int .i64 (max x y)) W := by
  rw [run_max_int2]
  congr 2
  split <;> omega
theorem min_num (x y : Int) (ts : Array TypeId) (t : TypeId) (W : World) : (Builtin.min_ ts t #[.int .i64 x, .int .i64 y]).run Try.prog W = .ok (.int .i64 (min x y)) W := by
  rw [run_min_int2]
  congr 2
  split <;> omega

section
variable {w : World} {F : Nat → Prop} {t : Nat} {x : Ad}

set_option maxRecDepth 1000000 in
set_option maxHeartbeats 2000000 in
theorem new_any (w : World) (a q : Int) : Calls Try.prog 11 #[.int .i64 a, .int .i64 q] w fun e w' => ∃ t, e = .returned (ptr t) ∧ Hid (MO w' (fun k => k = t) t (mk0 a q) ∧ Below w.heap.size w w' ∧ w.heap.size ≤ t) := by
  obtain ⟨m, hm⟩ : ∃ m, max a 1 = m := ⟨_, rfl⟩
  obtain ⟨n, hn⟩ : ∃ n, max q 0 = n := ⟨_, rfl⟩
  have k1 : ∀ ts u W, (Builtin.max_ ts u #[.int .i64 a, .int .i64 1]).run Try.prog W = .ok (.int .i64 m) W := fun ts u W => by rw [← hm]; exact max_num _ _ ts u W
  have k2 : ∀ ts u W, (Builtin.max_ ts u #[.int .i64 q, .int .i64 0]).run Try.prog W = .ok (.int .i64 n) W := fun ts u W => by rw [← hn]; exact max_num _ _ ts u W
  have HL : Hid (MO (w.alloc (.cells #[.int .i64 m, .slice none 0 0, .int .i64 n, .slice none 0 0] 49)) (fun k => k = w.heap.size) w.heap.size (mk0 a q) ∧ Below w.heap.size w (w.alloc (.cells #[.int .i64 m, .slice none 0 0, .int .i64 n, .slice none 0 0] 49)) ∧ w.heap.size ≤ w.heap.size) := by
    unfold mk0
    rw [hm, hn]
    exact ⟨⟨.slice none 0 0, .slice none 0 0, ⟨heap_alloc_new _ _, World.ownsRow_nil _ _ _ _, World.ownsRow_nil _ _ _ _, by simp [Value.ownBlock], by simp [Value.ownBlock], fun k hk => by simp [Value.ownBlock] at hk⟩, fun k hk => by
      rcases hk with e | e | e
      · exact e
      · simp [Value.ownBlock] at e
      · simp [Value.ownBlock] at e⟩, (Below.refl _ _).alloc (Nat.le_refl _) _, Nat.le_refl _⟩
  clear hm hn
  go_enter Try.func11, Try.ntmps11
  go_wp2
  go_ret
  exact ⟨_, rfl, HL⟩

set_option maxRecDepth 1000000 in
set_option maxHeartbeats 2000000 in
theorem state_any (h : MO w F t x) (hs : siz x ≤ 1000000) (id : Int) : Calls Try.prog 18 #[ptr t, .int .i64 id] w fun e w' => e = .returned (.tuple #[.int .i64 (sI x id), .bool (sB x id)]) ∧ w' = w := by
  unfold siz at hs
  have kA := hasA h (by omega) id
  have kQ := hasQ h (by omega) id
  unfold sI sB
  clear h hs
  by_cases ha : id ∈ x.A
  · rw [if_pos ha, decide_eq_true (Or.inl ha)]
    rw [decide_eq_true ha] at kA
    clear kQ ha
    go_enter Try.func18, Try.ntmps18
    go_wp2_with (go_at_call 27; refine kA.mono ?_; rintro e w' ⟨rfl, rfl⟩)
    go_ret2
    exact ⟨rfl, rfl⟩
  · rw [if_neg ha]
    rw [decide_eq_false ha] at kA
    have e : decide (id ∈ x.A ∨ id ∈ x.Q) = decide (id ∈ x.Q) := by simp [ha]
    rw [e]
    clear ha e
    generalize decide (id ∈ x.Q) = c at *
    cases c with
    | true =>
      go_enter Try.func18, Try.ntmps18
      go_wp2_with (go_at_call 27; refine kA.mono ?_; rintro e w' ⟨rfl, e9⟩; have e8 := e9.symm; clear e9; subst e8; refine Hid.out ?_)
      refine hide_it ?_
      go_wp2_with (go_at_call 27; refine kQ.mono ?_; rintro e w' ⟨rfl, e9⟩; have e8 := e9.symm; clear e9; subst e8)
      go_ret2
      exact ⟨rfl, rfl⟩
    | false =>
      go_enter Try.func18, Try.ntmps18
      go_wp2_with (go_at_call 27; refine kA.mono ?_; rintro e w' ⟨rfl, e9⟩; have e8 := e9.symm; clear e9; subst e8; refine Hid.out ?_)
      refine hide_it ?_
      go_wp2_with (go_at_call 27; refine kQ.mono ?_; rintro e w' ⟨rfl, e9⟩; have e8 := e9.symm; clear e9; subst e8)
      go_ret2
      exact ⟨rfl, rfl⟩

set_option maxRecDepth 1000000 in
set_option maxHeartbeats 2000000 in
theorem act_any (h : MO w F t x) (hs : siz x ≤ 1000000) : Calls Try.prog 16 #[ptr t] w fun e w' => ∃ a' c', e = .returned (.slice a' x.A.length c') ∧ Hid (w'.ownsRow w.heap.size 3 1 (.slice a' x.A.length c') x.A.length (ints x.A) ∧ Below w.heap.size w w') := by
  unfold siz at hs
  have k := allA h (by omega)
  clear h hs
  generalize ints x.A = XS at *
  generalize x.A.length = n at *
  go_enter Try.func16, Try.ntmps16
  go_wp2_with (go_at_call 26; refine k.mono ?_; rintro e w' ⟨a', c', rfl, H⟩)
  go_ret
  exact ⟨a', c', rfl, H⟩
set_option maxRecDepth 1000000 in
set_option maxHeartbeats 2000000 in
theorem wai_any (h : MO w F t x) (hs : siz x ≤ 1000000) : Calls Try.prog 17 #[ptr t] w fun e w' => ∃ a' c', e = .returned (.slice a' x.Q.length c') ∧ Hid (w'.ownsRow w.heap.size 3 1 (.slice a' x.Q.length c') x.Q.length (ints x.Q) ∧ Below w.heap.size w w') := by
  unfold siz at hs
  have k := allQ h (by omega)
  clear h hs
  generalize ints x.Q = XS at *
  generalize x.Q.length = n at *
  go_enter Try.func17, Try.ntmps17
  go_wp2_with (go_at_call 26; refine k.mono ?_; rintro e w' ⟨a', c', rfl, H⟩)
  go_ret
  exact ⟨a', c', rfl, H⟩

set_option maxRecDepth 1000000 in
set_option maxHeartbeats 2000000 in
theorem add_any (h : MO w F t x) (hs : siz x < 1000000) (id : Int) : Calls Try.prog 12 #[ptr t, .int .i64 id] w fun e w' => e = .returned (.tuple #[.int .i64 (ts x id), .int .i64 (te x id)]) ∧ Hid (St F w w' t (tx x id)) := by
  have ks := state_any h (by omega) id
  have s0 := hide_it (St.refl h)
  unfold siz at hs
  have hA : x.A.length < 1000000 := by omega
  have hQ : x.Q.length < 1000000 := by omega
  unfold ts te tx
  unfold sB at ks
  clear h hs
  by_cases hk : id ∈ x.A ∨ id ∈ x.Q
  · rw [if_pos hk, if_pos hk, if_pos hk]
    rw [decide_eq_true hk] at ks
    clear hk hA hQ
    generalize sI x id = z at *
    go_enter Try.func12, Try.ntmps12
    go_wp2_with (go_at_call 18; refine ks.mono ?_; rintro e w' ⟨rfl, e9⟩; have e8 := e9.symm; clear e9; subst e8)
    go_ret2
    exact ⟨rfl, s0⟩
  · rw [if_neg hk, if_neg hk, if_neg hk]
    rw [decide_eq_false hk] at ks
    clear hk
    by_cases h2 : (x.A.length : Int) < x.a
    · rw [if_pos h2, if_pos h2, if_pos h2]
      have k1 := s0.out.op (fun G g => addA_yes g hA h2 id)
      clear hA hQ h2
      generalize sI x id = z at *
      go_enter Try.func12, Try.ntmps12
      go_wp2_with (first | (go_at_call 18; refine ks.mono ?_; rintro e w' ⟨rfl, e9⟩; have e8 := e9.symm; clear e9; subst e8) | (go_at_call 22; refine k1.mono ?_; rintro e w1 ⟨rfl, s1⟩))
      go_ret2
      exact ⟨rfl, s1⟩
    · rw [if_neg h2, if_neg h2, if_neg h2]
      have k1 := s0.out.op (fun G g => addA_no g (by omega) h2 id)
      by_cases h3 : (x.Q.length : Int) < x.q
      · rw [if_pos h3, if_pos h3]
        have k2 := fun W (s : St F w W t x) => s.op (fun G g => addQ_yes g hQ h3 id)
        clear hA hQ h2 h3
        generalize sI x id = z at *
        go_enter Try.func12, Try.ntmps12
        go_wp2_with (go_at_call 18; refine ks.mono ?_; rintro e w' ⟨rfl, e9⟩; have e8 := e9.symm; clear e9; subst e8; refine Hid.out ?_)
        refine hide_it ?_
        go_wp2_with (go_at_call 22; refine k1.mono ?_; rintro e w1 ⟨rfl, s1⟩; refine Hid.out ?_)
        refine hide_it ?_
        go_wp2_with (go_at_call 22; refine (k2 _ s1.out).mono ?_; rintro e w2 ⟨rfl, s2⟩)
        go_ret2
        exact ⟨rfl, s2⟩
      · rw [if_neg h3, if_neg h3]
        have k2 := fun W (s : St F w W t x) => s.op (fun G g => addQ_no g (by omega) h3 id)
        clear hA hQ h2 h3
        generalize sI x id = z at *
        go_enter Try.func12, Try.ntmps12
        go_wp2_with (go_at_call 18; refine ks.mono ?_; rintro e w' ⟨rfl, e9⟩; have e8 := e9.symm; clear e9; subst e8; refine Hid.out ?_)
        refine hide_it ?_
        go_wp2_with (go_at_call 22; refine k1.mono ?_; rintro e w1 ⟨rfl, s1⟩; refine Hid.out ?_)
        refine hide_it ?_
        go_wp2_with (go_at_call 22; refine (k2 _ s1.out).mono ?_; rintro e w2 ⟨rfl, s2⟩)
        go_ret2
        exact ⟨rfl, s2⟩

set_option maxRecDepth 1000000 in
set_option maxHeartbeats 2000000 in
theorem end_any (h : MO w F t x) (hi : Inv x) (hs : siz x ≤ 1000000) (id : Int) : Calls Try.prog 14 #[ptr t, .int .i64 id] w fun e w' => e = .returned (.tuple #[.int .i64 (es x id), .int .i64 (ee x id)]) ∧ Hid (St F w w' t (ex x id)) := by
  have s0 := hide_it (St.refl h)
  unfold siz at hs
  have hA : x.A.length ≤ 1000000 := by omega
  have hQ : x.Q.length ≤ 1000000 := by omega
  unfold es ee ex
  clear hs
  by_cases hq : id ∈ x.Q
  · have k1 := s0.out.op (fun G g => remQ_yes g hQ hq)
    rw [if_pos (Or.inr hq), if_pos hq, if_pos hq]
    clear hA hQ hq hi h
    go_enter Try.func14, Try.ntmps14
    go_wp2_with (go_at_call 24; refine k1.mono ?_; rintro e w1 ⟨rfl, s1⟩)
    go_ret2
    exact ⟨rfl, s1⟩
  · have k0 := remQ_no h hQ hq
    by_cases ha : id ∈ x.A
    · have k1 := s0.out.op (fun G g => remA_yes g hA ha)
      have hla := hi.la
      have hl := List.length_erase_of_mem ha
      have h0 := List.length_pos_of_mem ha
      rw [if_pos (Or.inl ha), if_neg hq, if_neg hq, if_pos ha, if_pos ha]
      cases hx : x.Q with
      | nil =>
        have k2 : ∀ W, St F w W t ⟨x.a, x.q, x.A.erase id, x.Q⟩ → _ := fun W s => s.ask (fun G g => first_no g hx)
        simp only [List.head?_nil, Option.getD_none, Option.toList_none, List.append_nil, List.tail_nil]
        rw [hx] at k1 k2
        clear hA hQ hq hi h ha hla hl h0 hx
        go_enter Try.func14, Try.ntmps14
        go_wp2_with (go_at_call 24; refine k0.mono ?_; rintro e w' ⟨rfl, e9⟩; have e8 := e9.symm; clear e9; subst e8; refine Hid.out ?_)
        refine hide_it ?_
        go_wp2_with (go_at_call 24; refine k1.mono ?_; rintro e w1 ⟨rfl, s1⟩; refine Hid.out ?_)
        refine hide_it ?_
        go_wp2_with (go_at_call 25; refine (k2 _ s1.out).mono ?_; rintro e w2 ⟨rfl, s2⟩)
        go_ret2
        exact ⟨rfl, s2⟩
      | cons n r =>
        have k2 : ∀ W, St F w W t ⟨x.a, x.q, x.A.erase id, x.Q⟩ → _ := fun W s => s.ask (fun G g => first_yes g hQ hx)
        have k3 : ∀ W, St F w W t ⟨x.a, x.q, x.A.erase id, x.Q⟩ → _ := fun W s => s.op (fun G g => remQ_yes g hQ (y := n) (by simp only; rw [hx]; exact List.mem_cons_self ..))
        have k4 : ∀ W, St F w W t ⟨x.a, x.q, x.A.erase id, r⟩ → _ := fun W s => s.op (fun G g => addA_yes g (by simp only; omega) (by simp only; omega) n)
        simp only [List.head?_cons, Option.getD_some, Option.toList_some, List.tail_cons]
        rw [hx] at k1 k2 k3
        simp only [List.erase_cons_head] at k3
        clear hA hQ hq hi h ha hla hl h0 hx
        generalize x.A.erase id = A' at *
        go_enter Try.func14, Try.ntmps14
        go_wp2_with (go_at_call 24; refine k0.mono ?_; rintro e w' ⟨rfl, e9⟩; have e8 := e9.symm; clear e9; subst e8; refine Hid.out ?_)
        refine hide_it ?_
        go_wp2_with (go_at_call 24; refine k1.mono ?_; rintro e w1 ⟨rfl, s1⟩; clear k1 k0 s0; refine Hid.out ?_)
        refine hide_it ?_
        go_wp2_with (go_at_call 25; refine (k2 _ s1.out).mono ?_; rintro e w2 ⟨rfl, s2⟩; clear k2 s1; refine Hid.out ?_)
        refine hide_it ?_
        go_wp2_with (first | (go_at_call 24; refine (k3 _ s2.out).mono ?_; rintro e w3 ⟨rfl, s3⟩; clear k3 s2) | (go_at_call 22; refine (k4 _ s3.out).mono ?_; rintro e w4 ⟨rfl, s4⟩))
        go_ret2
        exact ⟨rfl, s4⟩
    · have k1 := remA_no h hA ha
      have hn : ¬ (id ∈ x.A ∨ id ∈ x.Q) := fun e => e.elim ha hq
      rw [if_neg hn, if_neg hq, if_neg hq, if_neg ha, if_neg ha]
      clear hA hQ hq hi h ha hn
      go_enter Try.func14, Try.ntmps14
      go_wp2_with (go_at_call 24; refine k0.mono ?_; rintro e w' ⟨rfl, e9⟩; have e8 := e9.symm; clear e9; subst e8; refine Hid.out ?_)
      refine hide_it ?_
      go_wp2_with (go_at_call 24; refine k1.mono ?_; rintro e w' ⟨rfl, e9⟩; have e8 := e9.symm; clear e9; subst e8)
      go_ret2
      exact ⟨rfl, s0⟩
end
end Go.Proofs.Ytjmdalpffhfdfaa
