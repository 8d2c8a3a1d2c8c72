/- A heap and the document's own: every call of the latter. -/
import Derived.Test.YtpcjaleogeoabaaPla
import Derived.Test.YtpcjaleogeoabaaArg
namespace Go.Proofs.Ytpcjaleogeoabaa
open Go.RowKit
open M
set_option linter.unusedVariables false
set_option linter.unusedSimpArgs false

section
variable {B : Nat} {w : World} {g N : Nat} {S : Nat → Option Int} {rb : Nat} {n : Int} {L : List It} {R : List (Nat × Obj)}
theorem pq_start {W : World} (h : MX B w W [(g, N, S)] [(rb, .cells #[.int .i64 n, .slice none 0 0] 29)]) : PQ B w W g N S rb n [] [] := by
  obtain ⟨F, h⟩ := h
  obtain ⟨q1, q2, q3⟩ := h.row _ (List.mem_singleton.2 rfl)
  refine ⟨F, .slice none 0 0, ⟨h.bel, h.le, h.ho, h.bnd, h.dis, fun p hp => by simp at hp⟩, ⟨q1, World.ownsRow_nil _ _ _ _, by simp [Value.ownBlock]⟩, fun k hk => ?_, fun p hp => by simp at hp⟩
  rcases hk with rfl | hk
  · exact ⟨q2, q3 0⟩
  · simp [Value.ownBlock] at hk
theorem PQ.same {W : World} {S2 : Nat → Option Int} (h : PQ B w W g N S2 rb n L R) {fn : Nat} {args : Array Value} {E : Ending}
    (k : ∀ v, RM W rb n v L → Calls Try.prog fn args W fun e w' => e = E ∧ Below W.heap.size W w') : Calls Try.prog fn args W fun e w' => e = E ∧ Hid (PQ B w w' g N S2 rb n L R) := by
  have h' := h
  obtain ⟨F, v, h⟩ := h
  refine (k v h.rm).mono ?_
  rintro e w' ⟨rfl, hb⟩
  exact ⟨rfl, h'.below hb⟩
theorem rpush_all (hs : RS N S L) (hN : hsz n = N) (y z : Int) : ∃ L', RS N (pushS N S y z) L' ∧ ∀ W S2, PQ B w W g N S2 rb n L R → Calls Try.prog 14 #[ptr rb, .int .i64 y, .int .i64 z] W fun e w' => e = .returned (.int .i64 (pushE N S y)) ∧ Hid (PQ B w w' g N S2 rb n L' R) := by
  have hl := hs.len
  have hN2 := hsz_le n
  unfold pushS pushE
  cases hid : isId N y with
  | false =>
    simp only [Bool.false_eq_true, if_false, false_and]
    exact ⟨L, hs, fun W S2 h => h.same (fun v hm => (rpush_bad hm y z (by rw [hN]; exact hid)).mono (fun e w' q => ⟨q.1, below_of_eq q.2⟩))⟩
  | true =>
    simp only [if_true, true_and]
    cases hb : hasB N S y with
    | false =>
      simp only [Bool.false_eq_true, if_false, if_true]
      obtain ⟨x, rfl, hx⟩ := isId_true hid
      have hsn : S x = Option.none := by
        cases hq : S x with
        | none => rfl
        | some u => simp [hasB, hid, hq] at hb
      rw [Int.toNat_natCast]
      exact ⟨_, hs.push hx hsn z, fun W S2 h => h.ref (fun v hm => (rpush_new hm (by omega) (x : Int) z (by rw [hN]; exact hid) (hs.noid hb)).mono (fun e w' q => ⟨q.1, by obtain ⟨v', q1, q2, q3⟩ := q.2; exact ⟨v', q1, q2, fun k hk => .inr (q3 k hk)⟩⟩))⟩
    | true =>
      simp only [if_true, Bool.true_eq_false, if_false]
      obtain ⟨x, i, hi, _, _, _, e⟩ := hs.hasid hb
      exact ⟨L, hs, fun W S2 h => h.same (fun v hm => (rpush_old hm (by omega) hs.once y z (by rw [hN]; exact hid) hi (by rw [e])).mono (fun e w' q => ⟨q.1, below_of_eq q.2⟩))⟩
theorem rlow_all (hs : RS N S L) (hN : hsz n = N) (y z : Int) : ∃ L', RS N (lowS N S y z) L' ∧ ∀ W S2, PQ B w W g N S2 rb n L R → Calls Try.prog 16 #[ptr rb, .int .i64 y, .int .i64 z] W fun e w' => e = .returned (.int .i64 (lowE N S y z)) ∧ Hid (PQ B w w' g N S2 rb n L' R) := by
  have hl := hs.len
  have hN2 := hsz_le n
  unfold lowS lowE
  cases hid : isId N y with
  | false =>
    rw [hasB_id hid]
    simp only [Bool.false_eq_true, if_false, false_and]
    exact ⟨L, hs, fun W S2 h => h.same (fun v hm => (rlow_bad hm y z (by rw [hN]; exact hid)).mono (fun e w' q => ⟨q.1, below_of_eq q.2⟩))⟩
  | true =>
    simp only [if_true]
    cases hb : hasB N S y with
    | false =>
      simp only [Bool.false_eq_true, if_false, false_and]
      exact ⟨L, hs, fun W S2 h => h.same (fun v hm => (rlow_none hm (by omega) y z (by rw [hN]; exact hid) (hs.noid hb)).mono (fun e w' q => ⟨q.1, below_of_eq q.2⟩))⟩
    | true =>
      simp only [if_true, true_and]
      obtain ⟨x, i, hi, hyx, hx, hsx, e⟩ := hs.hasid hb
      by_cases hlt : keyV N S y < z
      · simp only [hlt, if_true, not_true, if_false]
        exact ⟨L, hs, fun W S2 h => h.same (fun v hm => (rlow_high hm (by omega) hs.once y z (keyV N S y) (by rw [hN]; exact hid) hi (by rw [e]) (by rw [e]) hlt).mono (fun e w' q => ⟨q.1, below_of_eq q.2⟩))⟩
      · simp only [hlt, if_false, not_false_iff, if_true]
        refine ⟨L.set i (y, z), ?_, fun W S2 h => h.ref (fun v hm => (rlow_new hm (by omega) hs.once y z (keyV N S y) (by rw [hN]; exact hid) hi (by rw [e]) (by rw [e]) hlt).mono (fun e w' q => ⟨q.1, v, q.2.1, q.2.2, fun k hk => .inl hk⟩))⟩
        rw [hyx, Int.toNat_natCast]
        rw [hyx] at e hsx
        exact hs.low hx hi e hsx z
theorem rrem_all (hs : RS N S L) (hN : hsz n = N) (y : Int) : ∃ L', RS N (remS N S y) L' ∧ ∀ W S2, PQ B w W g N S2 rb n L R → Calls Try.prog 18 #[ptr rb, .int .i64 y] W fun e w' => e = .returned (.tuple #[.int .i64 (keyV N S y), .int .i64 (remE N S y)]) ∧ Hid (PQ B w w' g N S2 rb n L' R) := by
  have hl := hs.len
  have hN2 := hsz_le n
  unfold remS remE
  cases hid : isId N y with
  | false =>
    rw [keyV_none (hasB_id hid), hasB_id hid]
    simp only [Bool.false_eq_true, if_false]
    exact ⟨L, hs, fun W S2 h => h.same (fun v hm => (rrem_bad hm y (by rw [hN]; exact hid)).mono (fun e w' q => ⟨q.1, below_of_eq q.2⟩))⟩
  | true =>
    simp only [if_true]
    cases hb : hasB N S y with
    | false =>
      rw [keyV_none hb]
      simp only [Bool.false_eq_true, if_false]
      exact ⟨L, hs, fun W S2 h => h.same (fun v hm => (rrem_none hm (by omega) y (by rw [hN]; exact hid) (hs.noid hb)).mono (fun e w' q => ⟨q.1, below_of_eq q.2⟩))⟩
    | true =>
      simp only [if_true]
      obtain ⟨x, i, hi, hyx, hx, hsx, e⟩ := hs.hasid hb
      refine ⟨L.eraseIdx i, ?_, fun W S2 h => h.ref (fun v hm => (rrem_new hm (by omega) hs.once y (keyV N S y) (by rw [hN]; exact hid) hi (by rw [e]) (by rw [e])).mono (fun e w' q => ⟨q.1, by obtain ⟨v', q1, q2, q3⟩ := q.2; exact ⟨v', q1, q2, fun k hk => .inr (q3 k hk)⟩⟩))⟩
      rw [hyx, Int.toNat_natCast]
      rw [hyx] at e hsx
      exact hs.rem hx hi e hsx
theorem rkey_all (hs : RS N S L) (hN : hsz n = N) (y : Int) : ∀ W S2, PQ B w W g N S2 rb n L R → Calls Try.prog 24 #[ptr rb, .int .i64 y] W fun e w' => e = .returned (.tuple #[.int .i64 (keyV N S y), .bool (hasB N S y)]) ∧ w' = W := by
  have hl := hs.len
  have hN2 := hsz_le n
  intro W S2 h
  obtain ⟨F, v, h⟩ := h
  cases hb : hasB N S y with
  | false => rw [keyV_none hb]; exact rkey_none h.rm (by omega) y (hs.noid hb)
  | true =>
    obtain ⟨x, i, hi, hyx, hx, hsx, e⟩ := hs.hasid hb
    exact rkey_some h.rm (by omega) hs.once hi y (keyV N S y) (by rw [e]) (by rw [e])
theorem rpop_fst (hs : RS N S L) (hN : hsz n = N) {x : Nat} {y : Int} (hf : Fst N S x y) : ∃ L', RS N (upS S x none) L' ∧ ∀ W S2, PQ B w W g N S2 rb n L R → Calls Try.prog 20 #[ptr rb] W fun e w' => e = .returned (.tuple #[.agg #[.int .i64 x, .int .i64 y], .bool true]) ∧ Hid (PQ B w w' g N S2 rb n L' R) := by
  have hl := hs.len
  have hN2 := hsz_le n
  obtain ⟨hb, i, hi, e⟩ := hs.fst hf
  exact ⟨L.eraseIdx i, hs.rem hf.lt hi e hf.is, fun W S2 h => h.ref (fun v hm => (rpop_some hm (by omega) hs.once hi e hb).mono (fun e w' q => ⟨q.1, by obtain ⟨v', q1, q2, q3⟩ := q.2; exact ⟨v', q1, q2, fun k hk => .inr (q3 k hk)⟩⟩))⟩
theorem rpop_emp (hs : RS N S L) (he : Emp N S) : ∀ W S2, PQ B w W g N S2 rb n L R → Calls Try.prog 20 #[ptr rb] W fun e w' => e = .returned (.tuple #[.agg #[.int .i64 0, .int .i64 0], .bool false]) ∧ Hid (PQ B w w' g N S2 rb n L R) := fun W S2 h => by
  have := hs.emp he
  subst this
  exact h.same (fun v hm => rpop_none hm)
theorem rfirst_fst (hs : RS N S L) (hN : hsz n = N) {x : Nat} {y : Int} (hf : Fst N S x y) : ∀ W S2, PQ B w W g N S2 rb n L R → Calls Try.prog 22 #[ptr rb] W fun e w' => e = .returned (.tuple #[.agg #[.int .i64 x, .int .i64 y], .bool true]) ∧ Hid (PQ B w w' g N S2 rb n L R) := fun W S2 h => by
  have hl := hs.len
  have hN2 := hsz_le n
  exact h.same (fun v hm => rfirst_some hm (by omega) (hs.fst hf).1)
theorem rfirst_emp (hs : RS N S L) (he : Emp N S) : ∀ W S2, PQ B w W g N S2 rb n L R → Calls Try.prog 22 #[ptr rb] W fun e w' => e = .returned (.tuple #[.agg #[.int .i64 0, .int .i64 0], .bool false]) ∧ Hid (PQ B w w' g N S2 rb n L R) := fun W S2 h => by
  have := hs.emp he
  subst this
  exact h.same (fun v hm => rfirst_none hm)
theorem PQ.rl {W : World} (h : PQ B w W g N S rb n L R) : ∃ ao cap, W.cell? ⟨rb, 1, none⟩ = some (.slice ao L.length cap) := by
  obtain ⟨F, v, h⟩ := h
  obtain ⟨ao, cap, hv, _, _⟩ := h.rm.form0
  exact ⟨ao, cap, by rw [h.rm.c1, hv]⟩
end
end Go.Proofs.Ytpcjaleogeoabaa
