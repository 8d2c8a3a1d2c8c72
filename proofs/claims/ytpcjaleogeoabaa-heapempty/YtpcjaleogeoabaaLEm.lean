/- HeapEmpty, walked. -/
import Derived.Test.YtpcjaleogeoabaaArg
namespace Go.Proofs.Ytpcjaleogeoabaa
open Go.RowKit
open M
set_option linter.unusedVariables false
set_option linter.unusedSimpArgs false

set_option maxRecDepth 1000000 in
set_option maxHeartbeats 4000000 in
theorem heapEmpty_walk (n id key : Int) (w : World) :
    Calls Try.prog 9 #[.int .i64 n, .int .i64 id, .int .i64 key] w fun e w' => e = .returned (.bool true) ∧ Below w.heap.size w w' := by
  obtain ⟨B, hB⟩ : ∃ B, w.heap.size = B := ⟨_, rfl⟩
  have ks : Calls Try.prog 11 #[] w fun e w' => e = .returned (.bool true) ∧ Hid (Below B w w') := by
    have := shown_any w
    rw [hB] at this
    exact this
  have hle : B ≤ w.heap.size := by omega
  obtain ⟨u, hu, hu2⟩ := and16 n
  obtain ⟨N, hN⟩ : ∃ N, u % 100 = N := ⟨_, rfl⟩
  have hN1 : N < 100 := by omega
  have q1 : (u : Int).tmod 100 = (N : Int) := by rw [Int.tmod_eq_emod_of_nonneg (by omega)]; omega
  have q2 : (u : Int) % 100 = (N : Int) := by omega
  have kn : ∀ W, Below B w W → Calls Try.prog 12 #[.int .i64 N] W fun e w' => ∃ g, e = .returned (ptr g) ∧ Hid (One B w w' g N (fun _ => none)) := fun W hb => by
    have := one_new hb hle (N : Int)
    rw [hsz_in N (by omega)] at this
    exact this
  have hE : Emp N (fun _ => none) := fun _ _ => rfl
  cases hid : isId N id with
  | false =>
    have hz : (decide (0 ≤ id) && decide (id < (N : Int))) = false := hid
    have kl : ∀ W g, One B w W g N (fun _ => none) → Calls Try.prog 15 #[ptr g, .int .i64 id, .int .i64 key] W fun e w' => e = .returned (.int .i64 1) ∧ Hid (One B w w' g N (fun _ => none)) := fun W g h => by
      have := h.lower id key
      rw [show lowE N (fun _ => none) id key = 1 by simp [lowE, hid], show lowS N (fun _ => none) id key = (fun _ => none) by simp [lowS, hasB]] at this
      exact this
    have kr : ∀ W g, One B w W g N (fun _ => none) → Calls Try.prog 17 #[ptr g, .int .i64 id] W fun e w' => e = .returned (.tuple #[.int .i64 0, .int .i64 1]) ∧ Hid (One B w w' g N (fun _ => none)) := fun W g h => by
      have := h.remove id
      rw [show remE N (fun _ => none) id = 1 by simp [remE, hid], show remS N (fun _ => none) id = (fun _ => none) by simp [remS, hasB], show keyV N (fun _ => none) id = 0 by simp [keyV]] at this
      exact this
    have kf : ∀ W g, One B w W g N (fun _ => none) → Calls Try.prog 21 #[ptr g] W fun e w' => e = .returned (.tuple #[.int .i64 0, .int .i64 0, .bool false]) ∧ Hid (One B w w' g N (fun _ => none)) := fun W g h => h.first0 hE
    have kp : ∀ W g, One B w W g N (fun _ => none) → Calls Try.prog 19 #[ptr g] W fun e w' => e = .returned (.tuple #[.int .i64 0, .int .i64 0, .bool false]) ∧ Hid (One B w w' g N (fun _ => none)) := fun W g h => h.pop0 hE
    have kk : ∀ W g, One B w W g N (fun _ => none) → Calls Try.prog 23 #[ptr g, .int .i64 id] W fun e w' => e = .returned (.tuple #[.int .i64 0, .bool false]) ∧ Hid (One B w w' g N (fun _ => none)) := fun W g h => by
      have := h.key id
      rw [show keyV N (fun _ => none) id = 0 by simp [keyV], show hasB N (fun _ => none) id = false by simp [hasB]] at this
      exact this
    have kh : ∀ W g, One B w W g N (fun _ => none) → Calls Try.prog 25 #[ptr g, .int .i64 id] W fun e w' => e = .returned (.bool false) ∧ Hid (One B w w' g N (fun _ => none)) := fun W g h => by
      have := h.has id
      rw [show hasB N (fun _ => none) id = false by simp [hasB]] at this
      exact this
    have kc : ∀ W g, One B w W g N (fun _ => none) → Calls Try.prog 26 #[ptr g] W fun e w' => e = .returned (.int .i64 0) ∧ Hid (One B w w' g N (fun _ => none)) := fun W g h => h.len0 hE
    have ku : ∀ W g, One B w W g N (fun _ => none) → Calls Try.prog 13 #[ptr g, .int .i64 id, .int .i64 key] W fun e w' => e = .returned (.int .i64 1) ∧ Hid (One B w w' g N (fun _ => none)) := fun W g h => by
      have := h.push id key
      rw [show pushE N (fun _ => none) id = 1 by simp [pushE, hid], show pushS N (fun _ => none) id key = (fun _ => none) by simp [pushS, hid]] at this
      exact this
    rw [hB]
    clear hE hid hB
    generalize (fun _ : Nat => (none : Option Int)) = S at *
    by_cases h0 : 0 ≤ id
    · have d0 : decide (0 ≤ id) = true := decide_eq_true h0
      have d1 : decide (id < (N : Int)) = false := by rw [d0] at hz; simpa using hz
      clear hz
      go_enter Try.func9, Try.ntmps9
      go_wp2_with (first | (go_at_call 11; refine ks.mono ?_; rintro e w1 ⟨rfl, s1⟩; clear ks) | (go_at_call 12; refine (kn _ s1.out).mono ?_; rintro e w2 ⟨g, rfl, s⟩; clear kn s1) | (go_at_call 15; refine (kl _ _ s.out).mono ?_; rintro e wA ⟨rfl, t⟩; clear kl s; have s := t; clear t) | (go_at_call 17; refine (kr _ _ s.out).mono ?_; rintro e wA ⟨rfl, t⟩; clear kr s; have s := t; clear t) | (go_at_call 21; refine (kf _ _ s.out).mono ?_; rintro e wA ⟨rfl, t⟩; clear kf s; have s := t; clear t) | (go_at_call 19; refine (kp _ _ s.out).mono ?_; rintro e wA ⟨rfl, t⟩; clear kp s; have s := t; clear t) | (go_at_call 23; refine (kk _ _ s.out).mono ?_; rintro e wA ⟨rfl, t⟩; clear kk s; have s := t; clear t) | (go_at_call 25; refine (kh _ _ s.out).mono ?_; rintro e wA ⟨rfl, t⟩; clear kh s; have s := t; clear t) | (go_at_call 26; refine (kc _ _ s.out).mono ?_; rintro e wA ⟨rfl, t⟩; clear s; have s := t; clear t) | (go_at_call 13; refine (ku _ _ s.out).mono ?_; rintro e wA ⟨rfl, t⟩; clear s; have s := t; clear t))
      go_ret
      exact ⟨rfl, s.out.bel⟩
    · have d0 : decide (0 ≤ id) = false := decide_eq_false h0
      clear hz
      go_enter Try.func9, Try.ntmps9
      go_wp2_with (first | (go_at_call 11; refine ks.mono ?_; rintro e w1 ⟨rfl, s1⟩; clear ks) | (go_at_call 12; refine (kn _ s1.out).mono ?_; rintro e w2 ⟨g, rfl, s⟩; clear kn s1) | (go_at_call 15; refine (kl _ _ s.out).mono ?_; rintro e wA ⟨rfl, t⟩; clear kl s; have s := t; clear t) | (go_at_call 17; refine (kr _ _ s.out).mono ?_; rintro e wA ⟨rfl, t⟩; clear kr s; have s := t; clear t) | (go_at_call 21; refine (kf _ _ s.out).mono ?_; rintro e wA ⟨rfl, t⟩; clear kf s; have s := t; clear t) | (go_at_call 19; refine (kp _ _ s.out).mono ?_; rintro e wA ⟨rfl, t⟩; clear kp s; have s := t; clear t) | (go_at_call 23; refine (kk _ _ s.out).mono ?_; rintro e wA ⟨rfl, t⟩; clear kk s; have s := t; clear t) | (go_at_call 25; refine (kh _ _ s.out).mono ?_; rintro e wA ⟨rfl, t⟩; clear kh s; have s := t; clear t) | (go_at_call 26; refine (kc _ _ s.out).mono ?_; rintro e wA ⟨rfl, t⟩; clear s; have s := t; clear t) | (go_at_call 13; refine (ku _ _ s.out).mono ?_; rintro e wA ⟨rfl, t⟩; clear s; have s := t; clear t))
      go_ret
      exact ⟨rfl, s.out.bel⟩
  | true =>
    obtain ⟨x, rfl, hx⟩ := isId_true hid
    have kl : ∀ W g, One B w W g N (fun _ => none) → Calls Try.prog 15 #[ptr g, .int .i64 (x : Int), .int .i64 key] W fun e w' => e = .returned (.int .i64 6) ∧ Hid (One B w w' g N (fun _ => none)) := fun W g h => by
      have := h.lower (x : Int) key
      rw [show lowE N (fun _ => none) (x : Int) key = 6 by simp [lowE, hid, hasB], show lowS N (fun _ => none) (x : Int) key = (fun _ => none) by simp [lowS, hasB]] at this
      exact this
    have kr : ∀ W g, One B w W g N (fun _ => none) → Calls Try.prog 17 #[ptr g, .int .i64 (x : Int)] W fun e w' => e = .returned (.tuple #[.int .i64 0, .int .i64 6]) ∧ Hid (One B w w' g N (fun _ => none)) := fun W g h => by
      have := h.remove (x : Int)
      rw [show remE N (fun _ => none) (x : Int) = 6 by simp [remE, hid, hasB], show remS N (fun _ => none) (x : Int) = (fun _ => none) by simp [remS, hasB], show keyV N (fun _ => none) (x : Int) = 0 by simp [keyV]] at this
      exact this
    have kf : ∀ W g, One B w W g N (fun _ => none) → Calls Try.prog 21 #[ptr g] W fun e w' => e = .returned (.tuple #[.int .i64 0, .int .i64 0, .bool false]) ∧ Hid (One B w w' g N (fun _ => none)) := fun W g h => h.first0 hE
    have kp : ∀ W g, One B w W g N (fun _ => none) → Calls Try.prog 19 #[ptr g] W fun e w' => e = .returned (.tuple #[.int .i64 0, .int .i64 0, .bool false]) ∧ Hid (One B w w' g N (fun _ => none)) := fun W g h => h.pop0 hE
    have kk : ∀ W g, One B w W g N (fun _ => none) → Calls Try.prog 23 #[ptr g, .int .i64 (x : Int)] W fun e w' => e = .returned (.tuple #[.int .i64 0, .bool false]) ∧ Hid (One B w w' g N (fun _ => none)) := fun W g h => by
      have := h.key (x : Int)
      rw [show keyV N (fun _ => none) (x : Int) = 0 by simp [keyV], show hasB N (fun _ => none) (x : Int) = false by simp [hasB]] at this
      exact this
    have kh : ∀ W g, One B w W g N (fun _ => none) → Calls Try.prog 25 #[ptr g, .int .i64 (x : Int)] W fun e w' => e = .returned (.bool false) ∧ Hid (One B w w' g N (fun _ => none)) := fun W g h => by
      have := h.has (x : Int)
      rw [show hasB N (fun _ => none) (x : Int) = false by simp [hasB]] at this
      exact this
    have kc : ∀ W g, One B w W g N (fun _ => none) → Calls Try.prog 26 #[ptr g] W fun e w' => e = .returned (.int .i64 0) ∧ Hid (One B w w' g N (fun _ => none)) := fun W g h => h.len0 hE
    have ku : ∀ W g, One B w W g N (fun _ => none) → Calls Try.prog 13 #[ptr g, .int .i64 x, .int .i64 key] W fun e w' => e = .returned (.int .i64 0) ∧ Hid (One B w w' g N (upS (fun _ => none) x (some key))) := fun W g h => by
      have := h.push x key
      rw [show pushE N (fun _ => none) x = 0 by simp [pushE, hid, hasB], show pushS N (fun _ => none) x key = upS (fun _ => none) x (some key) by simp [pushS, hid, hasB]] at this
      exact this
    have hF : Fst N (upS (fun _ => none) x (some key)) x key := ⟨hx, upS_is _ _ _, fun z y hz hy => by
      by_cases q : z = x
      · subst q; rw [upS_is] at hy; cases hy; omega
      · rw [upS_ne _ _ q] at hy; cases hy⟩
    have hE2 : Emp N (upS (upS (fun _ => none) x (some key)) x none) := fun z hz => by
      by_cases q : z = x
      · subst q; exact upS_is _ _ _
      · rw [upS_ne _ _ q, upS_ne _ _ q]
    have kp2 : ∀ W g, One B w W g N (upS (fun _ => none) x (some key)) → Calls Try.prog 19 #[ptr g] W fun e w' => e = .returned (.tuple #[.int .i64 x, .int .i64 key, .bool true]) ∧ Hid (One B w w' g N (upS (upS (fun _ => none) x (some key)) x none)) := fun W g h => h.pop hF
    have kc2 : ∀ W g, One B w W g N (upS (upS (fun _ => none) x (some key)) x none) → Calls Try.prog 26 #[ptr g] W fun e w' => e = .returned (.int .i64 0) ∧ Hid (One B w w' g N (upS (upS (fun _ => none) x (some key)) x none)) := fun W g h => h.len0 hE2
    rw [hB]
    clear hE hid hB hF hE2
    generalize upS (upS (fun _ => none) x (some key)) x none = S2 at *
    generalize upS (fun _ => none) x (some key) = S1 at *
    generalize (fun _ : Nat => (none : Option Int)) = S at *
    have d0 : decide (0 ≤ (x : Int)) = true := decide_eq_true (by omega)
    have d1 : decide ((x : Int) < (N : Int)) = true := decide_eq_true (by omega)
    have d2 : decide (x < N) = true := decide_eq_true (by omega)
    go_enter Try.func9, Try.ntmps9
    go_wp2_with (first | (go_at_call 11; refine ks.mono ?_; rintro e w1 ⟨rfl, s1⟩; clear ks) | (go_at_call 12; refine (kn _ s1.out).mono ?_; rintro e w2 ⟨g, rfl, s⟩; clear kn s1) | (go_at_call 15; refine (kl _ _ s.out).mono ?_; rintro e wA ⟨rfl, t⟩; clear kl s; have s := t; clear t) | (go_at_call 17; refine (kr _ _ s.out).mono ?_; rintro e wA ⟨rfl, t⟩; clear kr s; have s := t; clear t) | (go_at_call 21; refine (kf _ _ s.out).mono ?_; rintro e wA ⟨rfl, t⟩; clear kf s; have s := t; clear t) | (go_at_call 19; refine (kp _ _ s.out).mono ?_; rintro e wA ⟨rfl, t⟩; clear kp s; have s := t; clear t) | (go_at_call 23; refine (kk _ _ s.out).mono ?_; rintro e wA ⟨rfl, t⟩; clear kk s; have s := t; clear t) | (go_at_call 25; refine (kh _ _ s.out).mono ?_; rintro e wA ⟨rfl, t⟩; clear kh s; have s := t; clear t) | (go_at_call 26; refine (kc _ _ s.out).mono ?_; rintro e wA ⟨rfl, t⟩; clear s kc; have s := t; clear t) | (go_at_call 13; refine (ku _ _ s.out).mono ?_; rintro e wA ⟨rfl, t⟩; clear s; have s := t; clear t; refine Hid.out ?_))
    refine hide_it ?_
    go_wp2_with (first | (go_at_call 19; refine (kp2 _ _ s.out).mono ?_; rintro e wA ⟨rfl, t⟩; clear s; have s := t; clear t) | (go_at_call 26; refine (kc2 _ _ s.out).mono ?_; rintro e wA ⟨rfl, t⟩; clear s; have s := t; clear t))
    go_ret
    exact ⟨rfl, s.out.bel⟩
end Go.Proofs.Ytpcjaleogeoabaa
