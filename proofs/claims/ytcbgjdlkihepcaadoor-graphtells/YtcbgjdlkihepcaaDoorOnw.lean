/- GraphOnward, walked. -/
import Derived.Test.YtcbgjdlkihepcaaDoorSho
namespace Go.Proofs.YtcbgjdlkihepcaaDoor
open Go.RowKit
open M
set_option linter.unusedVariables false
set_option linter.unusedSimpArgs false

theorem addE_sub (n : Nat) (es : List E) (a b : Int) : ∀ e ∈ es, e ∈ addE n es a b := by
  intro e he
  unfold addE
  split
  · split
    · exact he
    · exact List.mem_append.2 (.inl he)
  · exact he
theorem off_two (n : Nat) (a b : Int) : (!([a, b].any (offB n))) = (!(offB n a) && !(offB n b)) := by simp
theorem reachB_iff (n : Nat) (es : List E) (a b : Int) : reachB n es a b = true ↔ offB n a = false ∧ offB n b = false ∧ Rch es a.toNat b.toNat := by
  unfold reachB
  rw [off_two]
  simp [rB_iff, and_assoc]
theorem hasB_iff (n : Nat) (es : List E) (a b : Int) : hasB n es a b = true ↔ offB n a = false ∧ offB n b = false ∧ (a.toNat, b.toNat) ∈ es := by
  unfold hasB
  rw [off_two]
  simp [and_assoc]
theorem reachB_mono {n : Nat} {es fs : List E} (hs : ∀ e ∈ es, e ∈ fs) {a b : Int} (h : reachB n es a b = true) : reachB n fs a b = true := by
  rw [reachB_iff] at *
  exact ⟨h.1, h.2.1, h.2.2.mono hs⟩
theorem reachB_trans {n : Nat} {es : List E} {a b c : Int} (h : reachB n es a b = true) (h' : reachB n es b c = true) : reachB n es a c = true := by
  rw [reachB_iff] at *
  exact ⟨h.1, h'.2.1, h.2.2.trans h'.2.2⟩
theorem reachB_has {n : Nat} {es : List E} {a b : Int} (h : hasB n es a b = true) : reachB n es a b = true := by
  rw [hasB_iff] at h
  rw [reachB_iff]
  exact ⟨h.1, h.2.1, (Rch.refl _ _).tail h.2.2⟩

/-- What shown answers, wherever it is called. -/
theorem shown_b {W w : World} (hT : Tab W) (h0 : 0 < W.heap.size) (hb : Below W.heap.size W w) :
    Calls Tryd.prog 10 #[] w fun e w' => e = .returned (.bool true) ∧ Hid (Below W.heap.size W w') := by
  refine (shown_any w (tab_below hT h0 hb) (Nat.lt_of_lt_of_le h0 hb.size)).mono ?_
  rintro e w' ⟨rfl, h⟩
  exact ⟨rfl, hb.trans (h.mono hb.size)⟩
theorem made_sc {W w : World} (hT : Tab W) (h0 : 0 < W.heap.size) (hb : Below W.heap.size W w) (n : Int) (ls : List (Int × Int)) (la : Option Addr) (lc : Nat) (hl : LIn W la ls) (hm : ls.length ≤ maxLen) (m N : Nat) (fs : List E) (hN : sz n = N) (hmm : ls.length = m) (hf : foldE N (ls.take 200) [] = fs) :
    Calls Tryd.prog 28 #[.int .i64 n, .slice la m lc] w fun e w' => ∃ g eb, e = .returned (ptr g) ∧ Hid (Sc W.heap.size W w' g eb N fs) := by
  subst hN hmm hf
  refine (made_any n ls la lc w (hl.below hb (Nat.le_refl _)) hm).mono ?_
  rintro e w' ⟨rfl, hg, h⟩
  have h1 := hb.trans (h.out.mono hb.size)
  obtain ⟨v, hv1, hv2⟩ := hg.out.ex
  refine ⟨_, _, rfl, h1, ⟨⟨v, hv1, fun k hk => ?_⟩, ?_, ?_⟩, tab_below hT h0 h1, h0, h1.size⟩
  · have := hv2 k hk; have := hb.size; omega
  · have := hb.size; omega
  · exact hb.size

set_option maxRecDepth 1000000 in
set_option maxHeartbeats 4000000 in
theorem onward_core (n a b c x y : Int) (ls : List (Int × Int)) (la : Option Addr) (lc : Nat) (w : World) (hT : Tab w) (h0 : 0 < w.heap.size) (hl : LIn w la ls) (hm : ls.length ≤ maxLen) :
    Calls Tryd.prog 5 #[.int .i64 n, .slice la ls.length lc, .agg #[.int .i64 x, .int .i64 y], .int .i64 a, .int .i64 b, .int .i64 c] w fun e w' => e = .returned (.bool true) ∧ Below w.heap.size w w' := by
  have hbW : Below w.heap.size w (w.alloc (.cells #[.int .i64 x, .int .i64 y] 32)) := (Below.refl _ _).alloc (Nat.le_refl _) _
  have c0 : (w.alloc (.cells #[.int .i64 x, .int .i64 y] 32)).cell? ⟨w.heap.size, 0, none⟩ = some (.int .i64 x) := by simp
  have c1 : (w.alloc (.cells #[.int .i64 x, .int .i64 y] 32)).cell? ⟨w.heap.size, 1, none⟩ = some (.int .i64 y) := by simp
  have hs : w.heap.size < (w.alloc (.cells #[.int .i64 x, .int .i64 y] 32)).heap.size := by simp
  have hl' : LIn (w.alloc (.cells #[.int .i64 x, .int .i64 y] 32)) la ls := hl.below hbW (Nat.le_refl _)
  have hT' := tab_below hT h0 hbW
  have hW : ∀ W1, Below w.heap.size w W1 → W1.cell? ⟨w.heap.size, 0, none⟩ = some (.int .i64 x) → W1.cell? ⟨w.heap.size, 1, none⟩ = some (.int .i64 y) → w.heap.size < W1.heap.size → True := fun _ _ _ _ _ => trivial
  obtain ⟨W, hWd⟩ : ∃ W, w.alloc (.cells #[.int .i64 x, .int .i64 y] 32) = W := ⟨_, rfl⟩
  rw [hWd] at hbW c0 c1 hs hl' hT'
  have h0' : 0 < W.heap.size := by omega
  have kS := shown_b hT' h0' (Below.refl _ W)
  have kM := fun w1 (hb : Below W.heap.size W w1) => made_sc hT' h0' hb n ls la lc hl' hm ls.length (sz n) _ rfl rfl rfl
  have hfl := foldE_len (sz n) ls 200
  have hsub := hide_it (addE_sub (sz n) (foldE (sz n) (ls.take 200) []) x y)
  generalize foldE (sz n) (ls.take 200) [] = es at *
  generalize sz n = N at *
  generalize ls.length = m at *
  obtain ⟨fs, hfs⟩ : ∃ fs, addE N es x y = fs := ⟨_, rfl⟩
  rw [hfs] at hsub
  have kR : ∀ w1 g eb p q, Sc W.heap.size W w1 g eb N es → Calls Tryd.prog 26 #[ptr g, .int .i64 p, .int .i64 q] w1 fun e w' => e = .returned (.bool (reachB N es p q)) ∧ Hid (Sc W.heap.size W w' g eb N es) := fun w1 g eb p q h => h.reaches p q _ rfl
  have kR2 : ∀ w1 g eb p q, Sc W.heap.size W w1 g eb N fs → Calls Tryd.prog 26 #[ptr g, .int .i64 p, .int .i64 q] w1 fun e w' => e = .returned (.bool (reachB N fs p q)) ∧ Hid (Sc W.heap.size W w' g eb N fs) := fun w1 g eb p q h => h.reaches p q _ rfl
  have kH : ∀ w1 g eb p q, Sc W.heap.size W w1 g eb N fs → Calls Tryd.prog 17 #[ptr g, .int .i64 p, .int .i64 q] w1 fun e w' => e = .returned (.bool (hasB N fs p q)) ∧ Hid (Sc W.heap.size W w' g eb N fs) := fun w1 g eb p q h => h.has p q _ rfl
  have kA : ∀ w1 g eb, Sc W.heap.size W w1 g eb N es → Calls Tryd.prog 13 #[ptr g, .int .i64 x, .int .i64 y] w1 fun e w' => (∃ R er, e = .returned (.tuple #[.bool R, .int .i64 er])) ∧ Hid (Sc W.heap.size W w' g eb N fs) := fun w1 g eb h => by
    refine (h.add (by omega) x y _ _ fs rfl rfl hfs).mono ?_
    rintro e w' ⟨rfl, h⟩
    exact ⟨⟨_, _, rfl⟩, h⟩
  have e1 : Hid (reachB N es a b = true → reachB N es b c = true → reachB N es a c = true) := fun h h' => reachB_trans h h'
  have e2 : Hid (∀ p q, reachB N es p q = true → reachB N fs p q = true) := fun p q h => reachB_mono hsub.out h
  have e3 : Hid (hasB N fs a b = true → reachB N fs a b = true) := fun h => reachB_has h
  clear hfl hfs hl hl' hT hT' hm hW hsub
  have HB := hide_it hbW
  clear hbW
  cases hX : reachB N es a b with
  | false =>
    cases hZ : reachB N es a c with
    | false =>
      cases hH : hasB N fs a b with
      | false =>
        clear e1 e2 e3
        go_enter Tryd.func5, Tryd.ntmps5
        go_wp2_with (first | (go_at_call 10; refine kS.mono ?_; rintro e w1 ⟨rfl, hb1⟩) | (go_at_call 28; refine (kM _ hb1.out).mono ?_; rintro e w2 ⟨g, eb, rfl, s⟩) | (go_at_call 26; refine (kR _ _ _ _ _ s.out).mono ?_; rintro e w3 ⟨rfl, s⟩; have q0 := (s.out.bel.cell (p := ⟨w.heap.size, 0, none⟩) hs).trans c0; have q1 := (s.out.bel.cell (p := ⟨w.heap.size, 1, none⟩) hs).trans c1) | (go_at_call 13; refine (kA _ _ _ s.out).mono ?_; rintro e w4 ⟨⟨R, er, rfl⟩, t⟩; refine Hid.out ?_))
        refine hide_it ?_
        go_wp2_with (first | (go_at_call 26; refine (kR2 _ _ _ _ _ t.out).mono ?_; rintro e w5 ⟨rfl, t⟩) | (go_at_call 17; refine (kH _ _ _ _ _ t.out).mono ?_; rintro e w6 ⟨rfl, t⟩))
        go_ret
        exact ⟨rfl, HB.out.trans (t.out.bel.mono HB.out.size)⟩
      | true =>
        have hX2 : reachB N fs a b = true := e3.out hH
        clear e1 e2 e3
        go_enter Tryd.func5, Tryd.ntmps5
        go_wp2_with (first | (go_at_call 10; refine kS.mono ?_; rintro e w1 ⟨rfl, hb1⟩) | (go_at_call 28; refine (kM _ hb1.out).mono ?_; rintro e w2 ⟨g, eb, rfl, s⟩) | (go_at_call 26; refine (kR _ _ _ _ _ s.out).mono ?_; rintro e w3 ⟨rfl, s⟩; have q0 := (s.out.bel.cell (p := ⟨w.heap.size, 0, none⟩) hs).trans c0; have q1 := (s.out.bel.cell (p := ⟨w.heap.size, 1, none⟩) hs).trans c1) | (go_at_call 13; refine (kA _ _ _ s.out).mono ?_; rintro e w4 ⟨⟨R, er, rfl⟩, t⟩; refine Hid.out ?_))
        refine hide_it ?_
        go_wp2_with (first | (go_at_call 26; refine (kR2 _ _ _ _ _ t.out).mono ?_; rintro e w5 ⟨rfl, t⟩) | (go_at_call 17; refine (kH _ _ _ _ _ t.out).mono ?_; rintro e w6 ⟨rfl, t⟩))
        go_ret
        exact ⟨rfl, HB.out.trans (t.out.bel.mono HB.out.size)⟩
    | true =>
      cases hH : hasB N fs a b with
      | false =>
        have hZ2 : reachB N fs a c = true := e2.out _ _ hZ
        clear e1 e2 e3
        go_enter Tryd.func5, Tryd.ntmps5
        go_wp2_with (first | (go_at_call 10; refine kS.mono ?_; rintro e w1 ⟨rfl, hb1⟩) | (go_at_call 28; refine (kM _ hb1.out).mono ?_; rintro e w2 ⟨g, eb, rfl, s⟩) | (go_at_call 26; refine (kR _ _ _ _ _ s.out).mono ?_; rintro e w3 ⟨rfl, s⟩; have q0 := (s.out.bel.cell (p := ⟨w.heap.size, 0, none⟩) hs).trans c0; have q1 := (s.out.bel.cell (p := ⟨w.heap.size, 1, none⟩) hs).trans c1) | (go_at_call 13; refine (kA _ _ _ s.out).mono ?_; rintro e w4 ⟨⟨R, er, rfl⟩, t⟩; refine Hid.out ?_))
        refine hide_it ?_
        go_wp2_with (first | (go_at_call 26; refine (kR2 _ _ _ _ _ t.out).mono ?_; rintro e w5 ⟨rfl, t⟩) | (go_at_call 17; refine (kH _ _ _ _ _ t.out).mono ?_; rintro e w6 ⟨rfl, t⟩))
        go_ret
        exact ⟨rfl, HB.out.trans (t.out.bel.mono HB.out.size)⟩
      | true =>
        have hX2 : reachB N fs a b = true := e3.out hH
        have hZ2 : reachB N fs a c = true := e2.out _ _ hZ
        clear e1 e2 e3
        go_enter Tryd.func5, Tryd.ntmps5
        go_wp2_with (first | (go_at_call 10; refine kS.mono ?_; rintro e w1 ⟨rfl, hb1⟩) | (go_at_call 28; refine (kM _ hb1.out).mono ?_; rintro e w2 ⟨g, eb, rfl, s⟩) | (go_at_call 26; refine (kR _ _ _ _ _ s.out).mono ?_; rintro e w3 ⟨rfl, s⟩; have q0 := (s.out.bel.cell (p := ⟨w.heap.size, 0, none⟩) hs).trans c0; have q1 := (s.out.bel.cell (p := ⟨w.heap.size, 1, none⟩) hs).trans c1) | (go_at_call 13; refine (kA _ _ _ s.out).mono ?_; rintro e w4 ⟨⟨R, er, rfl⟩, t⟩; refine Hid.out ?_))
        refine hide_it ?_
        go_wp2_with (first | (go_at_call 26; refine (kR2 _ _ _ _ _ t.out).mono ?_; rintro e w5 ⟨rfl, t⟩) | (go_at_call 17; refine (kH _ _ _ _ _ t.out).mono ?_; rintro e w6 ⟨rfl, t⟩))
        go_ret
        exact ⟨rfl, HB.out.trans (t.out.bel.mono HB.out.size)⟩
  | true =>
    cases hY : reachB N es b c with
    | true =>
      have hZ : reachB N es a c = true := e1.out hX hY
      cases hH : hasB N fs a b with
      | false =>
        have hX2 : reachB N fs a b = true := e2.out _ _ hX
        have hZ2 : reachB N fs a c = true := e2.out _ _ hZ
        clear e1 e2 e3
        go_enter Tryd.func5, Tryd.ntmps5
        go_wp2_with (first | (go_at_call 10; refine kS.mono ?_; rintro e w1 ⟨rfl, hb1⟩) | (go_at_call 28; refine (kM _ hb1.out).mono ?_; rintro e w2 ⟨g, eb, rfl, s⟩) | (go_at_call 26; refine (kR _ _ _ _ _ s.out).mono ?_; rintro e w3 ⟨rfl, s⟩; have q0 := (s.out.bel.cell (p := ⟨w.heap.size, 0, none⟩) hs).trans c0; have q1 := (s.out.bel.cell (p := ⟨w.heap.size, 1, none⟩) hs).trans c1) | (go_at_call 13; refine (kA _ _ _ s.out).mono ?_; rintro e w4 ⟨⟨R, er, rfl⟩, t⟩; refine Hid.out ?_))
        refine hide_it ?_
        go_wp2_with (first | (go_at_call 26; refine (kR2 _ _ _ _ _ t.out).mono ?_; rintro e w5 ⟨rfl, t⟩) | (go_at_call 17; refine (kH _ _ _ _ _ t.out).mono ?_; rintro e w6 ⟨rfl, t⟩))
        go_ret
        exact ⟨rfl, HB.out.trans (t.out.bel.mono HB.out.size)⟩
      | true =>
        have hX2 : reachB N fs a b = true := e2.out _ _ hX
        have hZ2 : reachB N fs a c = true := e2.out _ _ hZ
        clear e1 e2 e3
        go_enter Tryd.func5, Tryd.ntmps5
        go_wp2_with (first | (go_at_call 10; refine kS.mono ?_; rintro e w1 ⟨rfl, hb1⟩) | (go_at_call 28; refine (kM _ hb1.out).mono ?_; rintro e w2 ⟨g, eb, rfl, s⟩) | (go_at_call 26; refine (kR _ _ _ _ _ s.out).mono ?_; rintro e w3 ⟨rfl, s⟩; have q0 := (s.out.bel.cell (p := ⟨w.heap.size, 0, none⟩) hs).trans c0; have q1 := (s.out.bel.cell (p := ⟨w.heap.size, 1, none⟩) hs).trans c1) | (go_at_call 13; refine (kA _ _ _ s.out).mono ?_; rintro e w4 ⟨⟨R, er, rfl⟩, t⟩; refine Hid.out ?_))
        refine hide_it ?_
        go_wp2_with (first | (go_at_call 26; refine (kR2 _ _ _ _ _ t.out).mono ?_; rintro e w5 ⟨rfl, t⟩) | (go_at_call 17; refine (kH _ _ _ _ _ t.out).mono ?_; rintro e w6 ⟨rfl, t⟩))
        go_ret
        exact ⟨rfl, HB.out.trans (t.out.bel.mono HB.out.size)⟩
    | false =>
      cases hZ : reachB N es a c with
      | false =>
        cases hH : hasB N fs a b with
        | false =>
          have hX2 : reachB N fs a b = true := e2.out _ _ hX
          clear e1 e2 e3
          go_enter Tryd.func5, Tryd.ntmps5
          go_wp2_with (first | (go_at_call 10; refine kS.mono ?_; rintro e w1 ⟨rfl, hb1⟩) | (go_at_call 28; refine (kM _ hb1.out).mono ?_; rintro e w2 ⟨g, eb, rfl, s⟩) | (go_at_call 26; refine (kR _ _ _ _ _ s.out).mono ?_; rintro e w3 ⟨rfl, s⟩; have q0 := (s.out.bel.cell (p := ⟨w.heap.size, 0, none⟩) hs).trans c0; have q1 := (s.out.bel.cell (p := ⟨w.heap.size, 1, none⟩) hs).trans c1) | (go_at_call 13; refine (kA _ _ _ s.out).mono ?_; rintro e w4 ⟨⟨R, er, rfl⟩, t⟩; refine Hid.out ?_))
          refine hide_it ?_
          go_wp2_with (first | (go_at_call 26; refine (kR2 _ _ _ _ _ t.out).mono ?_; rintro e w5 ⟨rfl, t⟩) | (go_at_call 17; refine (kH _ _ _ _ _ t.out).mono ?_; rintro e w6 ⟨rfl, t⟩))
          go_ret
          exact ⟨rfl, HB.out.trans (t.out.bel.mono HB.out.size)⟩
        | true =>
          have hX2 : reachB N fs a b = true := e2.out _ _ hX
          clear e1 e2 e3
          go_enter Tryd.func5, Tryd.ntmps5
          go_wp2_with (first | (go_at_call 10; refine kS.mono ?_; rintro e w1 ⟨rfl, hb1⟩) | (go_at_call 28; refine (kM _ hb1.out).mono ?_; rintro e w2 ⟨g, eb, rfl, s⟩) | (go_at_call 26; refine (kR _ _ _ _ _ s.out).mono ?_; rintro e w3 ⟨rfl, s⟩; have q0 := (s.out.bel.cell (p := ⟨w.heap.size, 0, none⟩) hs).trans c0; have q1 := (s.out.bel.cell (p := ⟨w.heap.size, 1, none⟩) hs).trans c1) | (go_at_call 13; refine (kA _ _ _ s.out).mono ?_; rintro e w4 ⟨⟨R, er, rfl⟩, t⟩; refine Hid.out ?_))
          refine hide_it ?_
          go_wp2_with (first | (go_at_call 26; refine (kR2 _ _ _ _ _ t.out).mono ?_; rintro e w5 ⟨rfl, t⟩) | (go_at_call 17; refine (kH _ _ _ _ _ t.out).mono ?_; rintro e w6 ⟨rfl, t⟩))
          go_ret
          exact ⟨rfl, HB.out.trans (t.out.bel.mono HB.out.size)⟩
      | true =>
        cases hH : hasB N fs a b with
        | false =>
          have hX2 : reachB N fs a b = true := e2.out _ _ hX
          have hZ2 : reachB N fs a c = true := e2.out _ _ hZ
          clear e1 e2 e3
          go_enter Tryd.func5, Tryd.ntmps5
          go_wp2_with (first | (go_at_call 10; refine kS.mono ?_; rintro e w1 ⟨rfl, hb1⟩) | (go_at_call 28; refine (kM _ hb1.out).mono ?_; rintro e w2 ⟨g, eb, rfl, s⟩) | (go_at_call 26; refine (kR _ _ _ _ _ s.out).mono ?_; rintro e w3 ⟨rfl, s⟩; have q0 := (s.out.bel.cell (p := ⟨w.heap.size, 0, none⟩) hs).trans c0; have q1 := (s.out.bel.cell (p := ⟨w.heap.size, 1, none⟩) hs).trans c1) | (go_at_call 13; refine (kA _ _ _ s.out).mono ?_; rintro e w4 ⟨⟨R, er, rfl⟩, t⟩; refine Hid.out ?_))
          refine hide_it ?_
          go_wp2_with (first | (go_at_call 26; refine (kR2 _ _ _ _ _ t.out).mono ?_; rintro e w5 ⟨rfl, t⟩) | (go_at_call 17; refine (kH _ _ _ _ _ t.out).mono ?_; rintro e w6 ⟨rfl, t⟩))
          go_ret
          exact ⟨rfl, HB.out.trans (t.out.bel.mono HB.out.size)⟩
        | true =>
          have hX2 : reachB N fs a b = true := e2.out _ _ hX
          have hZ2 : reachB N fs a c = true := e2.out _ _ hZ
          clear e1 e2 e3
          go_enter Tryd.func5, Tryd.ntmps5
          go_wp2_with (first | (go_at_call 10; refine kS.mono ?_; rintro e w1 ⟨rfl, hb1⟩) | (go_at_call 28; refine (kM _ hb1.out).mono ?_; rintro e w2 ⟨g, eb, rfl, s⟩) | (go_at_call 26; refine (kR _ _ _ _ _ s.out).mono ?_; rintro e w3 ⟨rfl, s⟩; have q0 := (s.out.bel.cell (p := ⟨w.heap.size, 0, none⟩) hs).trans c0; have q1 := (s.out.bel.cell (p := ⟨w.heap.size, 1, none⟩) hs).trans c1) | (go_at_call 13; refine (kA _ _ _ s.out).mono ?_; rintro e w4 ⟨⟨R, er, rfl⟩, t⟩; refine Hid.out ?_))
          refine hide_it ?_
          go_wp2_with (first | (go_at_call 26; refine (kR2 _ _ _ _ _ t.out).mono ?_; rintro e w5 ⟨rfl, t⟩) | (go_at_call 17; refine (kH _ _ _ _ _ t.out).mono ?_; rintro e w6 ⟨rfl, t⟩))
          go_ret
          exact ⟨rfl, HB.out.trans (t.out.bel.mono HB.out.size)⟩
end Go.Proofs.YtcbgjdlkihepcaaDoor
