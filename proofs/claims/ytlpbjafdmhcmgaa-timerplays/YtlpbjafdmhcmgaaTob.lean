/- A timer in memory as what it has; Set, Stop, Next, At, New. -/
import Derived.Test.YtlpbjafdmhcmgaaOne
import Derived.Test.YtlpbjafdmhcmgaaDuM
namespace Go.Proofs.Ytlpbjafdmhcmgaa
open Go.RowKit
open M
set_option linter.unusedVariables false
set_option linter.unusedSimpArgs false

theorem below_of_eq {w w' : World} (h : w' = w) : Below w.heap.size w w' := by subst h; exact Below.refl _ _

/-- A timer at block t, its heap at block g: of the ids below n it has those of S, with these times; its blocks are of F. -/
structure TO (w : World) (F : Nat → Prop) (t g n : Nat) (S : Nat → Option Int) : Prop where
  blk : w.heap[t]? = some (.cells #[ptr g] 46)
  ft : F t
  ho : HO w (fun k => F k ∧ k ≠ t) g n S
section
variable {w w' : World} {F G : Nat → Prop} {t g n : Nat} {S S' : Nat → Option Int}
theorem TO.turn (h : TO w F t g n S) (u : Turn G w w') (hd : ∀ k, F k → ¬ G k) : TO w' F t g n S := ⟨by rw [u.block t (block_lt h.blk) (hd t h.ft)]; exact h.blk, h.ft, h.ho.turn u (fun k hk => hd k hk.1)⟩
theorem TO.below (h : TO w F t g n S) (hb : Below w.heap.size w w') : TO w' F t g n S := ⟨by rw [hb.block t (block_lt h.blk)]; exact h.blk, h.ft, h.ho.below hb⟩
theorem TO.mono (h : TO w F t g n S) (hg : ∀ k, k < w.heap.size → F k → G k) : TO w G t g n S := ⟨h.blk, hg t (block_lt h.blk) h.ft, h.ho.mono (fun k hk q => ⟨hg k hk q.1, q.2⟩)⟩
theorem TO.congr (h : TO w F t g n S) (hs : ∀ x, x < n → S' x = S x) : TO w F t g n S' := ⟨h.blk, h.ft, h.ho.congr hs⟩
theorem TO.hn (h : TO w F t g n S) : n ≤ 65536 := h.ho.hn
theorem TO.cases (h : TO w F t g n S) : Emp n S ∨ ∃ x y, Fst n S x y := h.ho.cases
theorem TO.c0 (h : TO w F t g n S) : w.cell? ⟨t, 0, none⟩ = some (ptr g) := by rw [cell_of_row w t 0 _ _ _ h.blk]; rfl

/-- What a call made of the timer that was there in w. -/
structure St (F : Nat → Prop) (w w' : World) (t g n : Nat) (S : Nat → Option Int) : Prop where
  to : TO w' (Grow F w w') t g n S
  tu : Turn F w w'
theorem St.refl (h : TO w F t g n S) : St F w w t g n S := ⟨h.mono (fun k _ hk => .inl hk), Turn.refl _ _⟩
theorem St.below {w1 : World} (h : St F w w1 t g n S) (hb : Below w1.heap.size w1 w') : St F w w' t g n S := by
  have hs := hb.size
  exact ⟨(h.to.below hb).mono (fun k _ hk => by rcases hk with q | q; exact .inl q; exact .inr ⟨q.1, by omega⟩), h.tu.trans (Turn.of_below hb)⟩
theorem St.congr {w1 : World} (h : St F w w1 t g n S) (hs : ∀ x, x < n → S' x = S x) : St F w w1 t g n S' := ⟨h.to.congr hs, h.tu⟩
theorem st_next {w1 : World} (h : St F w w1 t g n S) (h1 : HO w' (Grow (fun k => Grow F w w1 k ∧ k ≠ t) w1 w') g n S') (t1 : Turn (fun k => Grow F w w1 k ∧ k ≠ t) w1 w') : St F w w' t g n S' := by
  have hs1 := h.tu.size
  have hs2 := t1.size
  have hl := block_lt h.to.blk
  refine ⟨⟨by rw [t1.block t hl (fun q => q.2 rfl)]; exact h.to.blk, ?_, h1.mono (fun k _ hk => ?_)⟩, ⟨t1.os.trans h.tu.os, t1.tape.trans h.tu.tape, t1.output.trans h.tu.output, by omega, fun k hk hf => ?_⟩⟩
  · rcases h.to.ft with q | q
    · exact .inl q
    · exact .inr ⟨q.1, by omega⟩
  · rcases hk with q | q
    · refine ⟨?_, q.2⟩
      rcases q.1 with z | z
      · exact .inl z
      · exact .inr ⟨z.1, by omega⟩
    · exact ⟨.inr ⟨by omega, q.2⟩, by omega⟩
  · rw [t1.block k (by omega) (fun q => by rcases q.1 with z | z; exact hf z; omega)]
    exact h.tu.block k hk hf
theorem St.op {w1 : World} (h : St F w w1 t g n S) {fn : Nat} {args : Array Value} {E : Ending}
    (k : ∀ G, HO w1 G g n S → Calls Try.prog fn args w1 fun e w' => e = E ∧ HO w' (Grow G w1 w') g n S' ∧ Turn G w1 w') : Calls Try.prog fn args w1 fun e w' => e = E ∧ Hid (St F w w' t g n S') := by
  refine (k _ h.to.ho).mono ?_
  rintro e w' ⟨rfl, h1, h2⟩
  exact ⟨rfl, st_next h h1 h2⟩
theorem St.ask {w1 : World} (h : St F w w1 t g n S) {fn : Nat} {args : Array Value} {E : Ending}
    (k : ∀ G, HO w1 G g n S → Calls Try.prog fn args w1 fun e w' => e = E ∧ Below w1.heap.size w1 w') : Calls Try.prog fn args w1 fun e w' => e = E ∧ Hid (St F w w' t g n S) := by
  refine (k _ h.to.ho).mono ?_
  rintro e w' ⟨rfl, h1⟩
  exact ⟨rfl, h.below h1⟩

def setE (n : Nat) (id : Int) : Int := if isId n id = true then 0 else 1
def setS (n : Nat) (S : Nat → Option Int) (id y : Int) : Nat → Option Int := if isId n id = true then upS S id.toNat (some y) else S
theorem remS_set (n : Nat) (S : Nat → Option Int) (id y : Int) : pushE n (remS n S id) id = setE n id ∧ ∀ x, x < n → setS n S id y x = pushS n (remS n S id) id y x := by
  unfold pushE setE setS pushS remS
  cases hid : isId n id with
  | false => simp [hasB_id hid]
  | true =>
    simp only [if_true, true_and]
    cases hb : hasB n S id with
    | false => simp [hb]
    | true =>
      have hb2 : hasB n (upS S id.toNat none) id = false := by simp [hasB, hid, upS_is]
      simp only [if_true, hb2]
      refine ⟨by simp, fun x hx => ?_⟩
      by_cases e : x = id.toNat
      · subst e; rw [upS_is, upS_is]
      · rw [upS_ne _ _ e, upS_ne _ _ e, upS_ne _ _ e]

set_option maxRecDepth 1000000 in
set_option maxHeartbeats 2000000 in
theorem set_any (h : TO w F t g n S) (id y : Int) :
    Calls Try.prog 12 #[ptr t, .int .i64 id, .int .i64 y] w fun e w' => e = .returned (.int .i64 (setE n id)) ∧ TO w' (Grow F w w') t g n (setS n S id y) ∧ Turn F w w' := by
  obtain ⟨eE, eS⟩ := remS_set n S id y
  have k1 := (St.refl h).op (S' := remS n S id) (fun G q => remove_any q id)
  have k2 : ∀ W, St F w W t g n (remS n S id) → Calls Try.prog 25 #[ptr g, .int .i64 id, .int .i64 y] W fun e w' => e = .returned (.int .i64 (setE n id)) ∧ Hid (St F w w' t g n (pushS n (remS n S id) id y)) := fun W q => by
    have := q.op (fun G q => push_any q id y)
    rw [eE] at this
    exact this
  have HC : Hid (∀ W S', St F w W t g n S' → W.cell? ⟨t, 0, none⟩ = some (ptr g)) := fun W S' q => q.to.c0
  have c0 := h.c0
  have HS := hide_it eS
  clear h eE eS
  generalize pushS n (remS n S id) id y = S2 at *
  generalize remS n S id = S1 at *
  generalize setS n S id y = S3 at *
  generalize setE n id = E at *
  generalize keyV n S id = kv at *
  generalize remE n S id = re at *
  go_enter Try.func12, Try.ntmps12
  go_wp2_with (first | (go_at_call 24; refine k1.mono ?_; rintro e w1 ⟨rfl, s1⟩; have c1 := HC.out _ _ s1.out) | (go_at_call 25; refine (k2 _ s1.out).mono ?_; rintro e w2 ⟨rfl, s2⟩))
  go_ret
  have s3 := s2.out.congr HS.out
  exact ⟨rfl, s3.to, s3.tu⟩

set_option maxRecDepth 1000000 in
set_option maxHeartbeats 2000000 in
theorem stop_any (h : TO w F t g n S) (id : Int) :
    Calls Try.prog 14 #[ptr t, .int .i64 id] w fun e w' => e = .returned (.bool (hasB n S id)) ∧ TO w' (Grow F w w') t g n (remS n S id) ∧ Turn F w w' := by
  have k1 := (St.refl h).op (S' := remS n S id) (fun G q => remove_any q id)
  have c0 := h.c0
  have hE : (remE n S id == 0) = hasB n S id := by
    unfold remE
    cases hid : isId n id with
    | false => simp [hasB_id hid]
    | true => cases hb : hasB n S id <;> simp
  have HE := hide_it hE
  clear h hE
  generalize remS n S id = S1 at *
  generalize keyV n S id = kv at *
  generalize remE n S id = re at *
  generalize hasB n S id = hb at *
  go_enter Try.func14, Try.ntmps14
  go_wp2_with (go_at_call 24; refine k1.mono ?_; rintro e w1 ⟨rfl, s1⟩)
  go_ret
  exact ⟨ret_bool (by first | exact HE.out | (have := HE.out; simpa using this)), s1.out.to, s1.out.tu⟩

set_option maxRecDepth 1000000 in
set_option maxHeartbeats 2000000 in
theorem next_some (h : TO w F t g n S) {x : Nat} {y : Int} (hf : Fst n S x y) :
    Calls Try.prog 19 #[ptr t] w fun e w' => e = .returned (.tuple #[.int .i64 y, .bool true]) ∧ Below w.heap.size w w' := by
  have k1 := first_some h.ho hf
  have c0 := h.c0
  clear h hf
  go_enter Try.func19, Try.ntmps19
  go_wp2_with (go_at_call 27; refine k1.mono ?_; rintro e w1 ⟨rfl, s1⟩)
  go_ret2
  exact ⟨rfl, s1⟩
set_option maxRecDepth 1000000 in
set_option maxHeartbeats 2000000 in
theorem next_none (h : TO w F t g n S) (he : Emp n S) :
    Calls Try.prog 19 #[ptr t] w fun e w' => e = .returned (.tuple #[.int .i64 0, .bool false]) ∧ w' = w := by
  have k1 := first_none h.ho he
  have c0 := h.c0
  clear h he
  go_enter Try.func19, Try.ntmps19
  go_wp2_with (go_at_call 27; refine k1.mono ?_; rintro e w1 ⟨rfl, rfl⟩)
  go_ret2
  exact ⟨rfl, rfl⟩
set_option maxRecDepth 1000000 in
set_option maxHeartbeats 2000000 in
theorem at_any (h : TO w F t g n S) (id : Int) :
    Calls Try.prog 20 #[ptr t, .int .i64 id] w fun e w' => e = .returned (.tuple #[.int .i64 (keyV n S id), .bool (hasB n S id)]) ∧ w' = w := by
  have k1 := key_any h.ho id
  have c0 := h.c0
  clear h
  generalize keyV n S id = kv at *
  generalize hasB n S id = hb at *
  go_enter Try.func20, Try.ntmps20
  go_wp2_with (go_at_call 28; refine k1.mono ?_; rintro e w1 ⟨rfl, rfl⟩)
  go_ret2
  exact ⟨rfl, rfl⟩
set_option maxRecDepth 1000000 in
set_option maxHeartbeats 2000000 in
theorem tnew_any (n : Int) (w : World) :
    Calls Try.prog 11 #[.int .i64 n] w fun e w' => ∃ t g, e = .returned (ptr t) ∧ TO w' (Span w w') t g (hsz n) (fun _ => none) ∧ Below w.heap.size w w' := by
  have k1 := new_any n w
  generalize hsz n = m at *
  go_enter Try.func11, Try.ntmps11
  go_wp2_with (go_at_call 23; refine k1.mono ?_; rintro e w1 ⟨g, rfl, h1, hb⟩; have H1 := hide_it h1; clear h1)
  go_ret
  have hs := hb.size
  refine ⟨w1.heap.size, g, rfl, ⟨heap_alloc_new _ _, ⟨by omega, by simp⟩, ?_⟩, (hb.alloc (by omega) _)⟩
  exact (H1.out.below ((Below.refl _ _).alloc (Nat.le_refl _) _)).mono (fun k _ hk => ⟨⟨hk.1, by have := hk.2; simp; omega⟩, by have := hk.2; omega⟩)
end
end Go.Proofs.Ytlpbjafdmhcmgaa
