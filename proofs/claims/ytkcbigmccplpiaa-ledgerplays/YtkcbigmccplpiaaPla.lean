/- A ledger and the document's own, side by side. -/
import Derived.Test.YtkcbigmccplpiaaRfd
import Derived.Test.YtkcbigmccplpiaaKee
namespace Go.Proofs.Ytkcbigmccplpiaa
open Go.RowKit
open M
set_option linter.unusedVariables false
set_option linter.unusedSimpArgs false

/-- What the row of items says. -/
structure RS (x : Lg) (L : List It) : Prop where
  mem : ∀ p ∈ L, ∃ k : Nat, p.2.1 = k ∧ k < 16 ∧ x.P k = ⟨true, p.1, p.2.2⟩
  all : ∀ k : Nat, k < 16 → (x.P k).t = true → ((x.P k).i, (k : Int), (x.P k).m) ∈ L
  len : L.length = tk x.P 16
  sum : sumL L = us x.P 16
  ids : L.Pairwise (fun p q => p.1 ≠ q.1)
theorem rs_new (bu : Int) (n : Nat) : RS ⟨bu, n, fun _ => no⟩ [] := ⟨fun p hp => by simp at hp, fun k hk h => by simp [no] at h, rfl, rfl, List.Pairwise.nil⟩
section
variable {x : Lg} {L : List It}
theorem RS.slP (h : RS x L) (hi : Inv x) (id : Int) : SlP L id ((slo x id).getD 0 : Nat) (slo x id).isSome := by
  refine ⟨fun hn => ?_, fun p hp e => ?_⟩
  · have : slo x id = none := low1_none.2 fun k hk => by
      cases hq : hasI x id k with
      | false => rfl
      | true =>
        simp [hasI] at hq
        exact absurd hq.2 (hn _ (h.all k hk hq.1))
    rw [this]; exact ⟨rfl, rfl⟩
  · obtain ⟨k, e1, e2, e3⟩ := h.mem p hp
    have : slo x id = some k := hi.slo_of (by rw [e3]) (by rw [e3]; exact e)
    rw [this, e1]; exact ⟨rfl, rfl⟩
theorem RS.atP (h : RS x L) (hi : Inv x) (s : Int) : AtP L s (atI x s) (atB x s) := by
  have hn := hi.n16
  refine ⟨fun hno => ?_, fun p hp e => ?_⟩
  · by_cases q : 0 ≤ s ∧ s < x.n
    · obtain ⟨k, rfl⟩ : ∃ k : Nat, s = k := ⟨s.toNat, by omega⟩
      have hk : k < 16 := by omega
      have hf : (x.P k).t = false := by
        cases hq : (x.P k).t with
        | false => rfl
        | true => exact absurd rfl (hno _ (h.all k hk hq))
      unfold atI atB
      rw [if_pos q, decide_eq_true q]
      simp [hf, (hi.off k hf).1]
    · unfold atI atB
      rw [if_neg q, decide_eq_false q]
      exact ⟨rfl, rfl⟩
  · obtain ⟨k, e1, e2, e3⟩ := h.mem p hp
    have hkn : k < x.n := by
      rcases Nat.lt_or_ge k x.n with q | q
      · exact q
      · have := hi.out k q; rw [e3] at this; cases this
    have q : 0 ≤ s ∧ s < x.n := by omega
    obtain rfl : s = k := by omega
    unfold atI atB
    rw [if_pos q, decide_eq_true q]
    simp [e3]
theorem RS.m0 (h : RS x L) (hi : Inv x) : ∀ p ∈ L, 0 ≤ p.2.2 := fun p hp => by
  obtain ⟨k, _, _, e3⟩ := h.mem p hp
  have := hi.m0 k
  rw [e3] at this; exact this
theorem RS.take (h : RS x L) (hi : Inv x) {id mem : Int} (h0 : te x id mem = 0) : RS (tx x id mem) (L ++ [(id, (ts x id mem : Int), mem)]) := by
  obtain ⟨a1, a2, a3, a4, ⟨k, a5⟩, a6⟩ := te_ok h0
  obtain ⟨l1, l2, l3⟩ := low_lt a5
  have hn := hi.n16
  have e1 : ts x id mem = k := by unfold ts; rw [if_pos h0, a5]; rfl
  have e2 : tx x id mem = ⟨x.bu, x.n, setP x.P k ⟨true, id, mem⟩⟩ := by unfold tx; rw [if_pos h0, a5]; rfl
  rw [e1, e2]
  have u1 := us_set x.P k ⟨true, id, mem⟩ 16
  rw [if_pos (by omega), (hi.off k l2).2] at u1
  have t1 := tk_set x.P k ⟨true, id, mem⟩ 16 (by omega)
  rw [l2] at t1
  simp only [if_true, Bool.false_eq_true, if_false] at t1 u1
  refine ⟨fun p hp => ?_, fun j hj ht => ?_, ?_, ?_, ?_⟩
  · rcases List.mem_append.1 hp with hp | hp
    · obtain ⟨j, e1, e2, e3⟩ := h.mem p hp
      have : j ≠ k := fun e => by subst e; rw [e3] at l2; cases l2
      exact ⟨j, e1, e2, by simp only; rw [setP_other _ _ this]; exact e3⟩
    · rw [List.mem_singleton.1 hp]
      exact ⟨k, rfl, by omega, by simp only; rw [setP_same]⟩
  · simp only at ht ⊢
    by_cases e : j = k
    · subst e; rw [setP_same]; simp
    · rw [setP_other _ _ e] at ht ⊢
      exact List.mem_append_left _ (h.all j hj ht)
  · rw [List.length_append, h.len]; simp only [List.length_singleton]; omega
  · rw [sumL_app, h.sum]; simp only [sumL]; omega
  · refine List.pairwise_append.2 ⟨h.ids, List.pairwise_singleton _ _, fun p hp q hq => ?_⟩
    rw [List.mem_singleton.1 hq]
    obtain ⟨j, e1, e2, e3⟩ := h.mem p hp
    have := slo_no a4 e2 (by rw [e3])
    rw [e3] at this
    exact this
theorem rmL_one {L : List It} (hi : L.Pairwise (fun p q => p.1 ≠ q.1)) {p : It} (hp : p ∈ L) : (rmL L p.1).length + 1 = L.length ∧ sumL (rmL L p.1) + p.2.2 = sumL L := by
  induction L with
  | nil => simp at hp
  | cons q r ih =>
    obtain ⟨h1, h2⟩ := List.pairwise_cons.1 hi
    rcases List.mem_cons.1 hp with e | hp
    · subst e
      have hr : rmL r p.1 = r := by
        unfold rmL
        rw [List.filter_eq_self]
        intro a ha
        have := h1 a ha
        simp; exact fun e => this e.symm
      have hc : rmL (p :: r) p.1 = rmL r p.1 := by unfold rmL; rw [List.filter_cons_of_neg (by simp)]
      rw [hc, hr]
      exact ⟨by simp, by simp only [sumL]; omega⟩
    · have hne := h1 p hp
      have hc : rmL (q :: r) p.1 = q :: rmL r p.1 := by unfold rmL; rw [List.filter_cons_of_pos (by simp; exact hne)]
      obtain ⟨i1, i2⟩ := ih h2 hp
      rw [hc]
      exact ⟨by simp only [List.length_cons]; omega, by simp only [sumL]; omega⟩
theorem RS.free_yes (h : RS x L) (hi : Inv x) {id : Int} {k : Nat} (hs : slo x id = some k) : RS (fx x id) (rmL L id) ∧ (rmL L id).length ≠ L.length := by
  obtain ⟨l1, l2, l3⟩ := hi.slo_lt hs
  have hn := hi.n16
  have e2 : fx x id = ⟨x.bu, x.n, setP x.P k no⟩ := by unfold fx; rw [hs]; rfl
  have hm := h.all k (by omega) l2
  have h1 := rmL_one h.ids hm
  rw [l3] at h1
  simp only at h1
  rw [l3] at hm
  rw [e2]
  have u1 := us_set x.P k no 16
  rw [if_pos (by omega)] at u1
  have t1 := tk_set x.P k no 16 (by omega)
  rw [l2] at t1
  simp only [no, if_true, Bool.false_eq_true, if_false] at t1 u1
  refine ⟨⟨fun p hp => ?_, fun j hj ht => ?_, ?_, ?_, ?_⟩, by omega⟩
  · unfold rmL at hp
    obtain ⟨q1, q2⟩ := List.mem_filter.1 hp
    obtain ⟨j, e1, e2, e3⟩ := h.mem p q1
    have : j ≠ k := fun e => by
      subst e
      rw [e3] at l3
      simp at q2 l3
      exact q2 l3
    exact ⟨j, e1, e2, by simp only; rw [setP_other _ _ this]; exact e3⟩
  · simp only at ht ⊢
    by_cases e : j = k
    · subst e; rw [setP_same] at ht; simp [no] at ht
    · rw [setP_other _ _ e] at ht ⊢
      unfold rmL
      refine List.mem_filter.2 ⟨h.all j hj ht, ?_⟩
      have : (x.P j).i ≠ id := fun q => e (hi.one j k ht l2 (by rw [q, l3]))
      simpa using this
  · have := h.len; simp only [no] at t1 ⊢; omega
  · have := h.sum; simp only [no] at u1 ⊢; omega
  · exact h.ids.filter _
theorem RS.free_no (h : RS x L) (hi : Inv x) {id : Int} (hs : slo x id = none) : rmL L id = L := by
  unfold rmL
  rw [List.filter_eq_self]
  intro p hp
  obtain ⟨j, e1, e2, e3⟩ := h.mem p hp
  have := slo_no hs e2 (by rw [e3])
  rw [e3] at this
  simpa using this
end

/-- Both side by side. -/
def PX (B : Nat) (w0 w : World) (b : Nat) (x : Lg) (rb : Nat) (bu mn : Int) (L : List It) (R : List (Nat × Obj)) : Prop :=
  ∃ v, LX B w0 w b x R ∧ RM B w rb bu mn v L ∧ B ≤ rb ∧ rb ≠ b ∧ v.ownBlock ≠ some b ∧ ∀ p ∈ R, p.1 ≠ rb ∧ v.ownBlock ≠ some p.1
section
variable {B : Nat} {w0 w w' : World} {b : Nat} {x X : Lg} {rb : Nat} {bu mn : Int} {L L' : List It} {R : List (Nat × Obj)}
theorem PX.lx (h : PX B w0 w b x rb bu mn L R) : LX B w0 w b x R := by obtain ⟨v, h, _⟩ := h; exact h
theorem PX.below (h : PX B w0 w b x rb bu mn L R) (hb : Below w.heap.size w w') : PX B w0 w' b x rb bu mn L R := by
  obtain ⟨v, h1, h2, h3⟩ := h
  exact ⟨v, h1.below hb, h2.below hb, h3⟩
theorem PX.drop (h : PX B w0 w b x rb bu mn L R) {R' : List (Nat × Obj)} (hr : ∀ p ∈ R', p ∈ R) : PX B w0 w b x rb bu mn L R' := by
  obtain ⟨v, h1, h2, h3, h4, h5, h6⟩ := h
  exact ⟨v, h1.drop hr, h2, h3, h4, h5, fun p hp => h6 p (hr p hp)⟩
theorem PX.alloc (h : PX B w0 w b x rb bu mn L R) (o : Obj) : PX B w0 (w.alloc o) b x rb bu mn L ((w.heap.size, o) :: R) := by
  obtain ⟨v, h1, h2, h3, h4, h5, h6⟩ := h
  refine ⟨v, h1.alloc o, h2.below ((Below.refl _ _).alloc (Nat.le_refl _) _), h3, h4, h5, fun p hp => ?_⟩
  rcases List.mem_cons.1 hp with q | q
  · subst q
    refine ⟨fun e => ?_, fun e => ?_⟩
    · have := block_lt h2.blk; simp at e; omega
    · have := (h2.row.lt _ e).2; simp at this
  · exact h6 p q
/-- The blocks that the document's row lies in. -/
theorem RM.blocks {v : Value} (h : RM B w rb bu mn v L) : ∃ V : List (Nat × Obj), (∀ p ∈ V, w.heap[p.1]? = some p.2 ∧ v.ownBlock = some p.1 ∧ B ≤ p.1) ∧ ∀ k, v.ownBlock = some k → ∃ o, (k, o) ∈ V := by
  rcases h.row.2 with ⟨rfl, _⟩ | ⟨g, c, cur, rfl, hb, hg, _⟩
  · exact ⟨[], fun p hp => by simp at hp, fun k hk => by simp [Value.ownBlock] at hk⟩
  · refine ⟨[(g, .cells cur 54)], fun p hp => ?_, fun k hk => ?_⟩
    · rw [List.mem_singleton.1 hp]; exact ⟨hg, rfl, hb⟩
    · simp [Value.ownBlock] at hk; subst hk; exact ⟨_, List.mem_singleton.2 rfl⟩
theorem PX.own (h : PX B w0 w b x rb bu mn L R) {p : Ending → Prop} {F : Nat} {args : Array Value} (k : ∀ R', LX B w0 w b x R' → Calls Try.prog F args w fun e w' => p e ∧ Hid (LX B w0 w' b X R')) : Calls Try.prog F args w fun e w' => p e ∧ Hid (PX B w0 w' b X rb bu mn L R) := by
  obtain ⟨v, h1, h2, h3, h4, h5, h6⟩ := h
  obtain ⟨V, v1, v2⟩ := h2.blocks
  have hl : LX B w0 w b x ((rb, .cells #[.int .i64 bu, .int .i64 mn, v] 29) :: (V ++ R)) := ⟨h1.bel, h1.le, h1.lo, h1.blk, h1.inv, fun q hq => by
    rcases List.mem_cons.1 hq with rfl | hq
    · exact ⟨h2.blk, h3, h4⟩
    · rcases List.mem_append.1 hq with hq | hq
      · obtain ⟨a1, a2, a3⟩ := v1 q hq
        exact ⟨a1, a3, fun e => h5 (by rw [← e]; exact a2)⟩
      · exact h1.row q hq⟩
  refine (k _ hl).mono ?_
  rintro e w' ⟨hp, s⟩
  refine ⟨hp, v, s.out.drop (fun q hq => List.mem_cons_of_mem _ (List.mem_append_right _ hq)), ⟨(s.out.row _ (List.mem_cons_self ..)).1, owns_keep h2.row (fun j hj => ?_), h2.ne⟩, h3, h4, h5, h6⟩
  obtain ⟨o, ho⟩ := v2 j hj
  rw [(s.out.row (j, o) (List.mem_cons_of_mem _ (List.mem_append_left _ ho))).1, (v1 _ ho).1]
theorem PX.ref (h : PX B w0 w b x rb bu mn L R) {p : Ending → Prop} {F : Nat} {args : Array Value} (k : ∀ v, RM B w rb bu mn v L → Calls Try.prog F args w fun e w' => p e ∧ ∃ v', RM B w' rb bu mn v' L' ∧ Turn (fun k => k = rb) w w' ∧ ∀ k, v'.ownBlock = some k → v.ownBlock = some k ∨ w.heap.size ≤ k) : Calls Try.prog F args w fun e w' => p e ∧ Hid (PX B w0 w' b x rb bu mn L' R) := by
  obtain ⟨v, h1, h2, h3, h4, h5, h6⟩ := h
  refine (k v h2).mono ?_
  rintro e w' ⟨hp, v', g1, g2, g3⟩
  have hz := h1.size
  refine ⟨hp, v', ⟨h1.bel.trans (g2.below hz (fun j hj => by subst hj; exact h3)), h1.le, h1.lo, by rw [g2.block b (block_lt h1.blk) (fun e => h4 e.symm)]; exact h1.blk, h1.inv, fun q hq => ?_⟩, g1, h3, h4, fun e => ?_, fun q hq => ⟨(h6 q hq).1, fun e => ?_⟩⟩
  · obtain ⟨a1, a2, a3⟩ := h1.row q hq
    exact ⟨by rw [g2.block q.1 (block_lt a1) (h6 q hq).1]; exact a1, a2, a3⟩
  · rcases g3 b e with z | z
    · exact h5 z
    · have := block_lt h1.blk; omega
  · rcases g3 _ e with z | z
    · exact (h6 q hq).2 z
    · have := block_lt (h1.row q hq).1; omega
theorem PX.ask (h : PX B w0 w b x rb bu mn L R) {p : Ending → Prop} {F : Nat} {args : Array Value} (k : ∀ v, RM B w rb bu mn v L → Calls Try.prog F args w fun e w' => p e ∧ w' = w) : Calls Try.prog F args w fun e w' => p e ∧ Hid (PX B w0 w' b x rb bu mn L R) := by
  have h' := h
  obtain ⟨v, h1, h2, h3⟩ := h
  refine (k v h2).mono ?_
  rintro e w' ⟨hp, rfl⟩
  exact ⟨hp, h'⟩
theorem PX.askb (h : PX B w0 w b x rb bu mn L R) {p : Ending → Prop} {F : Nat} {args : Array Value} (k : ∀ v, RM B w rb bu mn v L → Calls Try.prog F args w fun e w' => p e ∧ Hid (Below w.heap.size w w')) : Calls Try.prog F args w fun e w' => p e ∧ Hid (PX B w0 w' b x rb bu mn L R) := by
  have h' := h
  obtain ⟨v, h1, h2, h3⟩ := h
  refine (k v h2).mono ?_
  rintro e w' ⟨hp, s⟩
  exact ⟨hp, h'.below s.out⟩
theorem px_start (h : LX B w0 w b x [(rb, .cells #[.int .i64 bu, .int .i64 mn, .slice none 0 0] 29)]) : PX B w0 w b x rb bu mn [] [] := by
  obtain ⟨q1, q2, q3⟩ := h.row _ (List.mem_singleton.2 rfl)
  exact ⟨.slice none 0 0, h.drop (fun p hp => by simp at hp), ⟨q1, World.ownsRow_nil _ _ _ _, by simp [Value.ownBlock]⟩, q2, q3, by simp [Value.ownBlock], fun p hp => by simp at hp⟩

/-- The document's own calls, where its row says what the ledger is. -/
theorem ref_take {W : World} (h : PX B w0 W b X rb bu mn L R) (hs : RS x L) (hi : Inv x) (hbu : max bu 0 = x.bu) (hmn : min (max mn 0) 16 = (x.n : Int)) (id mem : Int) : Calls Try.prog 13 #[ptr rb, .int .i64 id, .int .i64 mem] W fun e w' => e = .returned (.tuple #[.int .i64 (ts x id mem : Nat), .int .i64 (te x id mem : Nat)]) ∧ Hid (PX B w0 w' b X rb bu mn (if te x id mem = 0 then L ++ [(id, (ts x id mem : Int), mem)] else L) R) := by
  have hlen := hs.len
  have htk := hi.tkn
  have hn := hi.n16
  have hsl := hs.slP hi id
  have hsm := hs.sum
  have hM := hi.bM
  have hle := hi.le
  have hm0 := hs.m0 hi
  have hz := h.lx.size
  by_cases h0 : te x id mem = 0
  · rw [if_pos h0]
    have h0' := h0
    obtain ⟨a1, a2, a3, a4, ⟨k, a5⟩, a6⟩ := te_ok h0'
    obtain ⟨l1, l2, l3⟩ := low_lt a5
    have e1 : ts x id mem = k := by unfold ts; rw [if_pos h0, a5]; rfl
    rw [h0, e1]
    rw [a4] at hsl
    have hnf : tk x.P 16 ≠ x.n := fun e => by rw [hi.full.2 e] at a5; cases a5
    unfold room at a6
    refine h.ref (p := fun e => e = .returned (.tuple #[.int .i64 k, .int .i64 0])) (fun v hr => (rtake_yes hr hz id mem x.bu hbu x.n hmn (by omega) hm0 (by omega) hM (by omega) (by omega) hsl (by omega) k (by omega) (fun j hj => ?_) ?_).mono ?_)
    · have := hs.atP hi (j : Int)
      have hb : atB x j = true := by unfold atB; rw [decide_eq_true (by omega)]; simpa using l3 j hj
      rw [hb] at this
      exact ⟨_, this⟩
    · have := hs.atP hi (k : Int)
      have hb : atB x k = false := by unfold atB; simp [l2]
      have hb2 : atI x k = 0 := by unfold atI; rw [if_pos (by omega)]; simpa using (hi.off k l2).1
      rw [hb, hb2] at this
      exact this
    · rintro e w' ⟨rfl, v', g1, g2, g3⟩
      exact ⟨rfl, v', g1, g2, fun k hk => .inr (g3 k hk)⟩
  · rw [if_neg h0]
    have e1 : ts x id mem = 0 := by unfold ts; rw [if_neg h0]
    rw [e1]
    by_cases hA : id < 0 ∨ mem < 0
    · rw [te_arg hA]
      exact h.ask (p := fun e => e = .returned (.tuple #[.int .i64 0, .int .i64 1])) (fun v hr => rtake_early hr (by omega) id mem x.bu hbu 1 (.inl ⟨hA, rfl⟩))
    · by_cases hB : x.bu < mem
      · rw [te_big hA hB]
        exact h.ask (p := fun e => e = .returned (.tuple #[.int .i64 0, .int .i64 5])) (fun v hr => rtake_early hr (by omega) id mem x.bu hbu 5 (.inr (.inl ⟨hA, hB, rfl⟩)))
      · cases hS : (slo x id).isSome with
        | true =>
          rw [te_state hA hB hS]
          rw [hS] at hsl
          exact h.ask (p := fun e => e = .returned (.tuple #[.int .i64 0, .int .i64 8])) (fun v hr => rtake_early hr (by omega) id mem x.bu hbu 8 (.inr (.inr ⟨hA, hB, ⟨_, hsl⟩, rfl⟩)))
        | false =>
          have hf : (low x).isNone = true ∨ room x < mem := by
            by_cases q : (low x).isNone = true ∨ room x < mem
            · exact q
            · exact absurd (te_good hA hB hS q) h0
          rw [te_full hA hB hS hf]
          have hsn : slo x id = none := by
            cases hq : slo x id with
            | none => rfl
            | some k => rw [hq] at hS; cases hS
          rw [hsn] at hsl
          have hF : L.length = x.n ∨ x.bu - sumL L < mem := by
            rcases hf with q | q
            · left
              have : low x = none := by
                cases hq : low x with
                | none => rfl
                | some k => rw [hq] at q; cases q
              have := hi.full.1 this
              omega
            · right; unfold room at q; omega
          exact h.askb (p := fun e => e = .returned (.tuple #[.int .i64 0, .int .i64 4])) (fun v hr => rtake_full hr (by omega) id mem x.bu hbu x.n hmn (by omega) hm0 (by omega) hM hA hB hsl hF)
theorem ref_free {W : World} (h : PX B w0 W b X rb bu mn L R) (hs : RS x L) (hi : Inv x) (id : Int) : Calls Try.prog 15 #[ptr rb, .int .i64 id] W fun e w' => e = .returned (.int .i64 (fe x id : Nat)) ∧ Hid (PX B w0 w' b X rb bu mn (rmL L id) R) := by
  have hlen := hs.len
  have htk := hi.tkn
  have hn := hi.n16
  have hz := h.lx.size
  have e : ((fe x id : Nat) : Int) = if (decide ((rmL L id).length = L.length)) = true then 6 else 0 := by
    cases hq : slo x id with
    | none =>
      rw [hs.free_no hi hq]
      unfold fe; rw [hq]; simp
    | some k =>
      have := (hs.free_yes hi hq).2
      rw [decide_eq_false this]
      unfold fe; rw [hq]; simp
  rw [e]
  exact h.ref (p := fun e => e = .returned (.int .i64 (if (decide ((rmL L id).length = L.length)) = true then 6 else 0))) (fun v hr => rfree_any hr hz (by omega) id rfl)
theorem RS.free (hs : RS x L) (hi : Inv x) (id : Int) : RS (fx x id) (rmL L id) := by
  cases hq : slo x id with
  | none =>
    rw [hs.free_no hi hq]
    unfold fx; rw [hq]; exact hs
  | some k => exact (hs.free_yes hi hq).1
theorem RS.take_any (hs : RS x L) (hi : Inv x) (id mem : Int) : RS (tx x id mem) (if te x id mem = 0 then L ++ [(id, (ts x id mem : Int), mem)] else L) := by
  by_cases h0 : te x id mem = 0
  · rw [if_pos h0]; exact hs.take hi h0
  · rw [if_neg h0]; unfold tx; rw [if_neg h0]; exact hs
theorem ref_slot {W : World} (h : PX B w0 W b X rb bu mn L R) (hs : RS x L) (hi : Inv x) (id : Int) : Calls Try.prog 17 #[ptr rb, .int .i64 id] W fun e w' => e = .returned (.tuple #[.int .i64 ((slo x id).getD 0 : Nat), .bool (slo x id).isSome]) ∧ Hid (PX B w0 w' b X rb bu mn L R) :=
  h.ask (p := fun e => e = .returned (.tuple #[.int .i64 ((slo x id).getD 0 : Nat), .bool (slo x id).isSome])) (fun v hr => rslot_any hr (by have := hs.len; have := hi.tkn; have := hi.n16; omega) (hs.slP hi id))
theorem ref_at {W : World} (h : PX B w0 W b X rb bu mn L R) (hs : RS x L) (hi : Inv x) (s : Int) : Calls Try.prog 24 #[ptr rb, .int .i64 s] W fun e w' => e = .returned (.tuple #[.int .i64 (atI x s), .bool (atB x s)]) ∧ Hid (PX B w0 w' b X rb bu mn L R) :=
  h.ask (p := fun e => e = .returned (.tuple #[.int .i64 (atI x s), .bool (atB x s)])) (fun v hr => rat_any hr (by have := hs.len; have := hi.tkn; have := hi.n16; omega) (hs.atP hi s))
theorem ref_used {W : World} (h : PX B w0 W b X rb bu mn L R) (hs : RS x L) (hi : Inv x) : Calls Try.prog 19 #[ptr rb] W fun e w' => e = .returned (.int .i64 (us x.P 16)) ∧ Hid (PX B w0 w' b X rb bu mn L R) := by
  have e := hs.sum
  have := hi.le
  have := hi.bM
  rw [← e]
  exact h.ask (p := fun e => e = .returned (.int .i64 (sumL L))) (fun v hr => rused_any hr (by have := hs.len; have := hi.tkn; have := hi.n16; omega) (hs.m0 hi) (by omega))
theorem ref_slots {W : World} (h : PX B w0 W b X rb bu mn L R) (hs : RS x L) (hi : Inv x) (hmn : min (max mn 0) 16 = (x.n : Int)) : Calls Try.prog 22 #[ptr rb] W fun e w' => e = .returned (.int .i64 (M.free x)) ∧ Hid (PX B w0 w' b X rb bu mn L R) := by
  have e : M.free x = (x.n : Int) - L.length := by unfold M.free; rw [hs.len]
  rw [e]
  exact h.askb (p := fun e => e = .returned (.int .i64 ((x.n : Int) - L.length))) (fun v hr => rslots_any hr x.n hmn (by have := hs.len; have := hi.tkn; omega))
end
end Go.Proofs.Ytkcbigmccplpiaa
