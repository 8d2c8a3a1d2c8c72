/- The document's own ledger: Take. -/
import Derived.Test.YtkcbigmccplpiaaRfb
import Derived.Deep.RegionHeld3
import Derived.Deep.CutRange
import Derived.Deep.CutBlock
import Derived.BigQuiet
namespace Go.Proofs.Ytkcbigmccplpiaa
open Go.RowKit
open M
set_option linter.unusedVariables false
set_option linter.unusedSimpArgs false


theorem takeD {P : Program} {ops : Array Oper} {Q : Exit → Act → World → Prop} {md : Region.Mode} {S : World → Prop} {i : Nat} {oi : Oper} {v : Value} {fuel : Nat} {listed : Array Bool} {a : Act} {w : World} (d : Nat) (hi : ops[i]? = some oi) (hd : oi.dst = some d)
    (hs : Region.noSelect ops = true) (hf : Region.free md ops listed i = true) (hr : (Region.ready md ops listed).contains i = true)
    (hQ : ∀ c a w, Q (.panic c) (a.put oi.dst v) w → Q (.panic c) a w) (hy : YieldsIf P ops S oi v a) (hS : S w)
    (h : wpAnyH P md ops Q S fuel (listed.setIfInBounds i true) (a.put (some d) v) w) : wpAnyH P md ops Q S (fuel + 1) listed a w := by
  rw [← hd] at h
  exact wpAnyH_take hi hs hf hr hQ hy hS h

theorem rslots_rm {B : Nat} {w : World} {rb : Nat} {bu mn : Int} {v : Value} {L : List It} (h : RM B w rb bu mn v L) (n : Nat) (hn : min (max mn 0) 16 = (n : Int)) (hlen : L.length ≤ n) :
    Calls Try.prog 22 #[ptr rb] w fun e w' => e = .returned (.int .i64 ((n : Int) - L.length)) ∧ Hid (Below w.heap.size w w' ∧ RM B w' rb bu mn v L) := (rslots_any h n hn hlen).mono (fun e w' q => ⟨q.1, q.2.out, h.below q.2.out⟩)

set_option maxRecDepth 1000000 in
set_option maxHeartbeats 4000000 in
theorem rtake_early {B : Nat} {w : World} {rb : Nat} {bu mn : Int} {v : Value} {L : List It} (h : RM B w rb bu mn v L) (hlen : L.length ≤ 1000000) (id mem : Int) (N : Int) (hN : max bu 0 = N) (E : Int)
    (hE : (id < 0 ∨ mem < 0) ∧ E = 1 ∨ ¬ (id < 0 ∨ mem < 0) ∧ N < mem ∧ E = 5 ∨ ¬ (id < 0 ∨ mem < 0) ∧ ¬ N < mem ∧ (∃ z, SlP L id z true) ∧ E = 8) :
    Calls Try.prog 13 #[ptr rb, .int .i64 id, .int .i64 mem] w fun e w' => e = .returned (.tuple #[.int .i64 0, .int .i64 E]) ∧ w' = w := by
  have c0 := h.c0
  have m1 : ∀ ts u W, (Builtin.max_ ts u #[.int .i64 bu, .int .i64 0]).run Try.prog W = .ok (.int .i64 N) W := fun ts u W => by rw [← hN]; exact max_num _ _ ts u W
  rcases hE with ⟨hA, rfl⟩ | ⟨hA, hB, rfl⟩ | ⟨hA, hB, ⟨z, hS⟩, rfl⟩
  · by_cases h0 : id < 0
    · have d : decide (id < 0) = true := by simpa using h0
      clear hA h hN
      go_enter Try.func13, Try.ntmps13
      go_wp2
      go_ret2
      exact ⟨rfl, rfl⟩
    · have h1 : mem < 0 := by omega
      have d : decide (id < 0) = false := by simpa using h0
      have d1 : decide (mem < 0) = true := by simpa using h1
      clear hA h hN
      go_enter Try.func13, Try.ntmps13
      go_wp2
      go_ret2
      exact ⟨rfl, rfl⟩
  · have d1 : decide (id < 0) = false := by simp; omega
    have d2 : decide (mem < 0) = false := by simp; omega
    have d3 : decide (N < mem) = true := by simpa using hB
    clear hA hB h hN
    go_enter Try.func13, Try.ntmps13
    go_wp2
    go_ret2
    exact ⟨rfl, rfl⟩
  · have d1 : decide (id < 0) = false := by simp; omega
    have d2 : decide (mem < 0) = false := by simp; omega
    have d3 : decide (N < mem) = false := by simpa using hB
    have k17 := rslot_any h hlen hS
    clear hA hB h hN hS
    go_enter Try.func13, Try.ntmps13
    go_wp2_with (go_at_call 17; refine k17.mono ?_; rintro e w1 ⟨rfl, rfl⟩)
    go_ret2
    exact ⟨rfl, rfl⟩

set_option maxRecDepth 1000000 in
set_option maxHeartbeats 4000000 in
theorem rtake_full {B : Nat} {w : World} {rb : Nat} {bu mn : Int} {v : Value} {L : List It} (h : RM B w rb bu mn v L) (hlen : L.length ≤ 16) (id mem : Int) (N : Int) (hN : max bu 0 = N) (n : Nat) (hn : min (max mn 0) 16 = (n : Int)) (hln : L.length ≤ n)
    (h0 : ∀ p ∈ L, 0 ≤ p.2.2) (hM : sumL L ≤ N) (hNM : N ≤ 9223372036854775807) (hA : ¬ (id < 0 ∨ mem < 0)) (hB : ¬ N < mem) (hS : SlP L id 0 false) (hF : L.length = n ∨ N - sumL L < mem) :
    Calls Try.prog 13 #[ptr rb, .int .i64 id, .int .i64 mem] w fun e w' => e = .returned (.tuple #[.int .i64 0, .int .i64 4]) ∧ Hid (Below w.heap.size w w') := by
  have c0 := h.c0
  have m1 : ∀ ts u W, (Builtin.max_ ts u #[.int .i64 bu, .int .i64 0]).run Try.prog W = .ok (.int .i64 N) W := fun ts u W => by rw [← hN]; exact max_num _ _ ts u W
  have d1 : decide (id < 0) = false := by simp; omega
  have d2 : decide (mem < 0) = false := by simp; omega
  have d3 : decide (N < mem) = false := by simpa using hB
  have k17 := rslot_any h (by omega) hS
  have k22 : Calls Try.prog 22 #[ptr rb] w.drew fun e w' => e = .returned (.int .i64 ((n : Int) - L.length)) ∧ Hid (Below w.heap.size w w' ∧ RM B w' rb bu mn v L) := (rslots_rm (h.below ((Below.refl _ _).drew)) n hn hln).mono (fun e w' q => ⟨q.1, ((Below.refl w.heap.size w).drew).trans q.2.out.1, q.2.out.2⟩)
  have k19 : ∀ W, RM B W rb bu mn v L → Calls Try.prog 19 #[ptr rb] W fun e w' => e = .returned (.int .i64 (sumL L)) ∧ w' = W := fun W h => rused_any h (by omega) h0 (by omega)
  have HC : Hid (∀ W, RM B W rb bu mn v L → W.cell? ⟨rb, 0, none⟩ = some (.int .i64 bu)) := fun W h => h.c0
  have hs0 := sumL_nn h0
  have hFF : ((n : Int) - L.length = 0) ∨ ¬ ((n : Int) - L.length = 0) ∧ N - sumL L < mem := by omega
  generalize sumL L = U at *
  obtain ⟨F, hF2⟩ : ∃ F, (n : Int) - L.length = F := ⟨_, rfl⟩
  rw [hF2] at k22 hFF
  have HB : Hid (∀ j, Below w.heap.size w (w.drewN j)) := fun j => below_drewN (Below.refl _ _) j
  have hU : 0 ≤ U ∧ U ≤ N := ⟨hs0, hM⟩
  obtain ⟨hU0, hU1⟩ := hU
  clear h hA hB hS h0 hN hn hF hlen hln hF2 hs0
  rcases hFF with hF | ⟨hF, hR⟩
  · have z1 : (F == 0) = true := by simp [hF]
    clear hF k19
    go_enter Try.func13, Try.ntmps13
    go_upto_region 8 with (go_at_call 17; refine k17.mono ?_; rintro e w1 ⟨rfl, rfl⟩)
    refine wp_region_noPanic ?_
    refine wp_region_held_drew (S := fun _ => True) (by kernel_rfl) ?hS0 (fun hHeld => ?_)
    case hS0 => trivial
    refine takeD (i := 0) (v := ?v0) 33 rfl rfl (by kernel_rfl) (by kernel_rfl) (by kernel_rfl) (fun _ _ _ h => h) (Or.inl ⟨by rfl, ?y0⟩) (by assumption) ?r0
    case y0 =>
      intro w hSw
      try dsimp only at hSw
      go_simp
      all_goals with_reducible rfl
    try simp only [Act.put, List.setIfInBounds_toArray, List.set_cons_zero, List.set_cons_succ]
    refine wpAnyH_ready (rs := [1]) (by kernel_rfl) (by simp) ?_
    refine AllReadyH.cons rfl (fun K hK => ?_) AllReadyH.nil
    go_simp
    (go_at_call 22; refine k22.mono ?_; rintro e w3 ⟨rfl, s⟩)
    refine hK.out _ _ ?hS1 (fun hHeld => ?_)
    case hS1 => trivial
    clear hK K
    try simp only [Act.put, List.getElem_toArray, List.getElem_cons_succ, List.getElem_cons_zero, List.setIfInBounds_toArray, List.set_cons_zero, List.set_cons_succ]
    refine takeD (i := 2) (v := ?v2) 35 rfl rfl (by kernel_rfl) (by kernel_rfl) (by kernel_rfl) (fun _ _ _ h => h) (Or.inl ⟨by rfl, ?y2⟩) (by assumption) ?r2
    case y2 =>
      intro w hSw
      try dsimp only at hSw
      go_simp
      all_goals with_reducible rfl
    try simp only [Act.put, List.setIfInBounds_toArray, List.set_cons_zero, List.set_cons_succ]
    refine takeD (i := 3) (v := ?v3) 36 rfl rfl (by kernel_rfl) (by kernel_rfl) (by kernel_rfl) (fun _ _ _ h => h) (Or.inl ⟨by rfl, ?y3⟩) (by assumption) ?r3
    case y3 =>
      intro w hSw
      try dsimp only at hSw
      go_simp
      all_goals with_reducible rfl
    try simp only [Act.put, List.setIfInBounds_toArray, List.set_cons_zero, List.set_cons_succ]
    refine takeD (i := 4) (v := undef) 37 rfl rfl (by kernel_rfl) (by kernel_rfl) (by kernel_rfl) (fun _ _ _ h => h) (Or.inr ⟨by rfl, rfl⟩) (by assumption) ?_
    try simp only [Act.put, List.setIfInBounds_toArray, List.set_cons_zero, List.set_cons_succ]
    refine takeD (i := 5) (v := undef) 38 rfl rfl (by kernel_rfl) (by kernel_rfl) (by kernel_rfl) (fun _ _ _ h => h) (Or.inr ⟨by rfl, rfl⟩) (by assumption) ?_
    try simp only [Act.put, List.setIfInBounds_toArray, List.set_cons_zero, List.set_cons_succ]
    refine takeD (i := 6) (v := undef) 39 rfl rfl (by kernel_rfl) (by kernel_rfl) (by kernel_rfl) (fun _ _ _ h => h) (Or.inr ⟨by rfl, rfl⟩) (by assumption) ?_
    try simp only [Act.put, List.setIfInBounds_toArray, List.set_cons_zero, List.set_cons_succ]
    refine takeD (i := 7) (v := undef) 40 rfl rfl (by kernel_rfl) (by kernel_rfl) (by kernel_rfl) (fun _ _ _ h => h) (Or.inr ⟨by rfl, rfl⟩) (by assumption) ?_
    try simp only [Act.put, List.setIfInBounds_toArray, List.set_cons_zero, List.set_cons_succ]
    refine takeD (i := 8) (v := undef) 41 rfl rfl (by kernel_rfl) (by kernel_rfl) (by kernel_rfl) (fun _ _ _ h => h) (Or.inr ⟨by rfl, rfl⟩) (by assumption) ?_
    try simp only [Act.put, List.setIfInBounds_toArray, List.set_cons_zero, List.set_cons_succ]
    refine takeD (i := 9) (v := undef) 42 rfl rfl (by kernel_rfl) (by kernel_rfl) (by kernel_rfl) (fun _ _ _ h => h) (Or.inr ⟨by rfl, rfl⟩) (by assumption) ?_
    try simp only [Act.put, List.setIfInBounds_toArray, List.set_cons_zero, List.set_cons_succ]
    refine takeD (i := 10) (v := undef) 43 rfl rfl (by kernel_rfl) (by kernel_rfl) (by kernel_rfl) (fun _ _ _ h => h) (Or.inr ⟨by rfl, rfl⟩) (by assumption) ?_
    try simp only [Act.put, List.setIfInBounds_toArray, List.set_cons_zero, List.set_cons_succ]
    refine takeD (i := 11) (v := undef) 44 rfl rfl (by kernel_rfl) (by kernel_rfl) (by kernel_rfl) (fun _ _ _ h => h) (Or.inr ⟨by rfl, rfl⟩) (by assumption) ?_
    try simp only [Act.put, List.setIfInBounds_toArray, List.set_cons_zero, List.set_cons_succ]
    refine takeD (i := 12) (v := undef) 45 rfl rfl (by kernel_rfl) (by kernel_rfl) (by kernel_rfl) (fun _ _ _ h => h) (Or.inr ⟨by rfl, rfl⟩) (by assumption) ?_
    try simp only [Act.put, List.setIfInBounds_toArray, List.set_cons_zero, List.set_cons_succ]
    refine takeD (i := 13) (v := undef) 46 rfl rfl (by kernel_rfl) (by kernel_rfl) (by kernel_rfl) (fun _ _ _ h => h) (Or.inr ⟨by rfl, rfl⟩) (by assumption) ?_
    try simp only [Act.put, List.setIfInBounds_toArray, List.set_cons_zero, List.set_cons_succ]
    refine takeD (i := 14) (v := ?v14) 47 rfl rfl (by kernel_rfl) (by kernel_rfl) (by kernel_rfl) (fun _ _ _ h => h) (Or.inl ⟨by rfl, ?y14⟩) (by assumption) ?r14
    case y14 =>
      intro w hSw
      try dsimp only at hSw
      go_simp
      all_goals with_reducible rfl
    try simp only [Act.put, List.setIfInBounds_toArray, List.set_cons_zero, List.set_cons_succ]
    refine wpAnyH_done (by kernel_rfl) ?_ _
    refine NoPanic.normal ?_
    go_wp2
    go_ret2
    exact ⟨rfl, s.out.1⟩
  · have z1 : (F == 0) = false := by simp [hF]
    have z2 : decide (N - U < mem) = true := by simpa using hR
    have v1 : IntKind.i64.wrap (N - U) = N - U := by rw [IntKind.wrap_i64]; omega
    clear hF hR
    go_enter Try.func13, Try.ntmps13
    go_upto_region 8 with (go_at_call 17; refine k17.mono ?_; rintro e w1 ⟨rfl, rfl⟩)
    first | (go_region_held3 (fun V => V.cell? ⟨rb, 0, none⟩ = some (.int .i64 bu)) (first | exact c0 | (exact HC.out _ s.out.2) | go_keep) (first | (go_at_call 22; refine k22.mono ?_; rintro e w3 ⟨rfl, s⟩) | (go_at_call 19; refine (k19 _ s.out.2).mono ?_; rintro e w4 ⟨rfl, rfl⟩))) | fail
    go_wp2
    all_goals
      go_ret2
      exact ⟨rfl, s.out.1⟩
end Go.Proofs.Ytkcbigmccplpiaa
