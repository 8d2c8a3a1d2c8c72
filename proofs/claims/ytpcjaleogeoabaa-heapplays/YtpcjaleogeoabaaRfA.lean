/- The document's own heap in memory: a row of items; known, find, Key, Lower. -/
import Derived.Test.YtpcjaleogeoabaaMul
namespace Go.Proofs.Ytpcjaleogeoabaa
open Go.RowKit
open M
set_option linter.unusedVariables false
set_option linter.unusedSimpArgs false

abbrev It := Int × Int
def icells : List It → List Value
  | [] => []
  | (x, y) :: r => .int .i64 x :: .int .i64 y :: icells r
theorem icells_len (l : List It) : (icells l).length = l.length * 2 := by
  induction l with
  | nil => rfl
  | cons e r ih => obtain ⟨x, y⟩ := e; simp [icells, ih]; omega
theorem icells_app (a b : List It) : icells (a ++ b) = icells a ++ icells b := by
  induction a with
  | nil => rfl
  | cons e r ih => obtain ⟨x, y⟩ := e; simp [icells, ih]
theorem icells_at (l : List It) : ∀ i (h : i < l.length), (icells l)[i * 2]? = some (.int .i64 l[i].1) ∧ (icells l)[i * 2 + 1]? = some (.int .i64 l[i].2) := by
  induction l with
  | nil => intro i h; simp at h
  | cons e r ih =>
    obtain ⟨x, y⟩ := e
    intro i h
    cases i with
    | zero => exact ⟨rfl, rfl⟩
    | succ i =>
      obtain ⟨p, q⟩ := ih i (by simpa using h)
      rw [show (i + 1) * 2 = i * 2 + 1 + 1 by omega]
      simp only [icells, List.getElem_cons_succ, List.getElem?_cons_succ]
      exact ⟨p, q⟩
theorem icells_set (l : List It) : ∀ i (h : i < l.length) (z : Int), (icells l).set (i * 2 + 1) (.int .i64 z) = icells (l.set i (l[i].1, z)) := by
  induction l with
  | nil => intro i h; simp at h
  | cons e r ih =>
    obtain ⟨x, y⟩ := e
    intro i h z
    cases i with
    | zero => rfl
    | succ i =>
      have := ih i (by simpa using h) z
      rw [show (i + 1) * 2 + 1 = (i * 2 + 1) + 1 + 1 by omega]
      simp only [icells, List.set_cons_succ, List.getElem_cons_succ]
      rw [this]
theorem icells_one (l : List It) : ∀ u ∈ icells l, u.oneCell' = true := by
  induction l with
  | nil => intro u hu; simp [icells] at hu
  | cons e r ih =>
    obtain ⟨x, y⟩ := e
    intro u hu
    simp only [icells, List.mem_cons] at hu
    rcases hu with rfl | rfl | hu
    · rfl
    · rfl
    · exact ih u hu

/-- The document's heap at block rb, of n ids; its row of items is v. -/
structure RM (w : World) (rb : Nat) (n : Int) (v : Value) (L : List It) : Prop where
  blk : w.heap[rb]? = some (.cells #[.int .i64 n, v] 29)
  own : w.ownsRow 0 39 2 v L.length (icells L)
  ne : v.ownBlock ≠ some rb
def RFoot (rb : Nat) (v : Value) (k : Nat) : Prop := k = rb ∨ v.ownBlock = some k

section
variable {w w' : World} {rb : Nat} {n : Int} {v : Value} {L : List It}
theorem RM.c0 (h : RM w rb n v L) : w.cell? ⟨rb, 0, none⟩ = some (.int .i64 n) := by rw [cell_of_row w rb 0 _ _ _ h.blk]; rfl
theorem RM.c1 (h : RM w rb n v L) : w.cell? ⟨rb, 1, none⟩ = some v := by rw [cell_of_row w rb 1 _ _ _ h.blk]; rfl
theorem RM.fr (h : RM w rb n v L) (i : Nat) : w.frozen? ⟨rb, i, none⟩ = false := by simp [World.frozen?, h.blk]
theorem RM.form0 (h : RM w rb n v L) : ∃ ao cap, v = .slice ao L.length cap ∧ L.length ≤ cap ∧ cap ≤ maxLen := by
  rcases h.own.2 with ⟨rfl, q⟩ | ⟨ib, cap, cur, rfl, hb, hg, hnc, hcm, hcs, htake⟩
  · exact ⟨none, 0, by rw [q], by omega, by unfold maxLen; omega⟩
  · exact ⟨_, cap, rfl, hnc, hcm⟩
theorem RM.form (h : RM w rb n v L) (h0 : 0 < L.length) : ∃ ib cap, v = .slice (some ⟨ib, 0, none⟩) L.length cap ∧ L.length ≤ cap ∧ cap ≤ maxLen ∧ (∀ i (hi : i < L.length), w.cell? ⟨ib, i * 2, none⟩ = some (.int .i64 L[i].1) ∧ w.cell? ⟨ib, i * 2 + 1, none⟩ = some (.int .i64 L[i].2)) ∧ ∀ i, w.frozen? ⟨ib, i, none⟩ = false := by
  have ho := h.own
  rcases ho.2 with ⟨rfl, q⟩ | ⟨ib, cap, cur, rfl, hb, hg, hnc, hcm, hcs, htake⟩
  · omega
  · exact ⟨ib, cap, rfl, hnc, hcm, fun i hi => ⟨by rw [ho.cellAt (i * 2) (by omega)]; exact (icells_at L i hi).1, by rw [ho.cellAt (i * 2 + 1) (by omega)]; exact (icells_at L i hi).2⟩, fun i => ho.frozenAt i⟩
theorem RM.lt (h : RM w rb n v L) (k : Nat) (hk : RFoot rb v k) : k < w.heap.size := by
  rcases hk with rfl | hk
  · exact block_lt h.blk
  · exact (h.own.lt k hk).2
theorem RM.keep (h : RM w rb n v L) (hk : ∀ k, RFoot rb v k → w'.heap[k]? = w.heap[k]?) : RM w' rb n v L :=
  ⟨by rw [hk rb (.inl rfl)]; exact h.blk, owns_keep h.own (fun k hk' => hk k (.inr hk')), h.ne⟩
theorem RM.below (h : RM w rb n v L) (hb : Below w.heap.size w w') : RM w' rb n v L := h.keep (fun k hk => hb.block k (h.lt k hk))
theorem RM.turn (h : RM w rb n v L) {F : Nat → Prop} (ht : Turn F w w') (hF : ∀ k, RFoot rb v k → ¬ F k) : RM w' rb n v L := h.keep (fun k hk => ht.block k (h.lt k hk) (hF k hk))
end

theorem min_run2 (n : Int) (ts : Array TypeId) (t : TypeId) (W : World) : (Builtin.min_ ts t #[.int .i64 n, .int .i64 65536]).run Try.prog W = .ok (.int .i64 (min n 65536)) W := by
  rw [run_min_int2]
  congr 2
  split <;> omega

set_option maxRecDepth 1000000 in
set_option maxHeartbeats 2000000 in
theorem known_any {w : World} {rb : Nat} {n : Int} {v : Value} {L : List It} (h : RM w rb n v L) (id : Int) :
    Calls Try.prog 29 #[ptr rb, .int .i64 id] w fun e w' => e = .returned (.bool (isId (hsz n) id)) ∧ w' = w := by
  have q0 := h.c0
  clear h
  have hm := min_run2 n
  have H : Hid (0 ≤ id → isId (hsz n) id = decide (id < min n 65536)) := fun h0 => by
    unfold isId hsz
    rw [decide_eq_true h0, Bool.true_and]
    congr 1
    apply propext
    omega
  by_cases h0 : 0 ≤ id
  · have d : decide (0 ≤ id) = true := decide_eq_true h0
    generalize min n 65536 = x at *
    go_enter Try.func29, Try.ntmps29
    go_wp2
    go_ret
    exact ⟨ret_bool (by rw [H.out h0]), rfl⟩
  · have d : decide (0 ≤ id) = false := decide_eq_false h0
    have H2 : Hid (isId (hsz n) id = false) := by simp [Hid, isId]; omega
    go_enter Try.func29, Try.ntmps29
    go_wp2
    go_ret
    exact ⟨ret_bool (by rw [H2.out]), rfl⟩

/-- Where an id stands. -/
def FindP (L : List It) (id z : Int) : Prop := (z = -1 ∧ ∀ p ∈ L, p.1 ≠ id) ∨ ∃ (i : Nat) (hi : i < L.length), z = i ∧ L[i].1 = id

set_option maxRecDepth 1000000 in
set_option maxHeartbeats 2000000 in
theorem find_any {w : World} {rb : Nat} {n : Int} {v : Value} {L : List It} (h : RM w rb n v L) (hlen : L.length ≤ 1000000) (id : Int) :
    Calls Try.prog 30 #[ptr rb, .int .i64 id] w fun e w' => (∃ z : Int, e = .returned (.int .i64 z) ∧ FindP L id z) ∧ w' = w := by
  have q1 := h.c1
  have HC : Hid (∀ i (hi : i < L.length), ∃ ib cap, v = .slice (some ⟨ib, 0, none⟩) L.length cap ∧ w.cell? ⟨ib, i * 2, none⟩ = some (.int .i64 L[i].1)) := fun i hi => by
    obtain ⟨ib, cap, e, _, _, hc, _⟩ := h.form (by omega)
    exact ⟨ib, cap, e, (hc i hi).1⟩
  obtain ⟨ao, cap, hv, hc1, hc2⟩ := h.form0
  subst hv
  obtain ⟨m, hm⟩ : ∃ m, L.length = m := ⟨_, rfl⟩
  have HM := hide_it hm
  clear h
  rw [hm] at q1 hlen hc1
  clear hm
  go_enter Try.func30, Try.ntmps30
  go_wp2
  go_loop [5] (fun iv => ∃ k : Nat, k ≤ m ∧ iv = .int .i64 k ∧ Hid (∀ p, p ∈ L.take k → ¬ p.1 = id)) (fun iv => m - (intOf iv).toNat)
  case atStart => exact ⟨0, Nat.zero_le _, rfl, by simp [Hid]⟩
  case round =>
    obtain ⟨k, hk, rfl, HR⟩ := hrel
    by_cases hlt : k < m
    · have hlx : k < L.length := by rw [HM.out]; exact hlt
      obtain ⟨ib, cap', e, ck⟩ := HC.out k hlx
      obtain ⟨rfl, rfl⟩ : ao = some ⟨ib, 0, none⟩ ∧ cap = cap' := by simpa using e
      clear e
      have HT : Hid (L[k].1 ≠ id → ∀ p ∈ L.take (k + 1), p.1 ≠ id) := fun hne p hp => by
        rw [List.take_succ_eq_append_getElem hlx] at hp
        rcases List.mem_append.1 hp with q | q
        · exact HR.out p q
        · simp at q; subst q; exact hne
      have HF : Hid (∀ z, L[k].1 = z → z = id → FindP L id k) := fun z h1 h2 => .inr ⟨k, hlx, rfl, h1.trans h2⟩
      obtain ⟨z, hz⟩ : ∃ z, L[k].1 = z := ⟨_, rfl⟩
      have HF := hide_it (HF.out z hz)
      rw [hz] at ck HT
      clear hz
      by_cases he : z = id
      · have e1 : (z == id) = true := by simp [he]
        go_wp2
        go_ret
        exact ⟨⟨_, rfl, HF.out he⟩, rfl⟩
      · have e1 : (z == id) = false := by simp [he]
        go_wp2
        go_round
        case rel => exact ⟨k + 1, by omega, by go_num, HT.out he⟩
        case measure => simp [intOf]; omega
    · have d : decide ((k : Int) < m) = false := decide_eq_false (by omega)
      have d' : decide (k < m) = false := decide_eq_false (by omega)
      go_wp2
      go_ret
      have hh : FindP L id (-1) := .inl ⟨rfl, fun p hp => HR.out p (by rw [List.take_of_length_le (by rw [HM.out]; omega)]; exact hp)⟩
      exact ⟨⟨_, rfl, hh⟩, rfl⟩

/-- Each id once. -/
def Once (L : List It) : Prop := (L.map Prod.fst).Nodup
theorem Once.uniq {L : List It} (h : Once L) {i j : Nat} (hi : i < L.length) (hj : j < L.length) (e : L[i].1 = L[j].1) : i = j := by
  unfold Once at h
  have h1 : (L.map Prod.fst)[i]'(by simpa using hi) = (L.map Prod.fst)[j]'(by simpa using hj) := by simpa using e
  have hp := List.pairwise_iff_getElem.1 h
  rcases Nat.lt_trichotomy i j with q | q | q
  · exact absurd h1 (hp i j _ _ q)
  · exact q
  · exact absurd h1.symm (hp j i _ _ q)
theorem find_some {w : World} {rb : Nat} {n : Int} {v : Value} {L : List It} (h : RM w rb n v L) (hlen : L.length ≤ 1000000) (ho : Once L) {i : Nat} (hi : i < L.length) (id : Int) (e : L[i].1 = id) :
    Calls Try.prog 30 #[ptr rb, .int .i64 id] w fun e w' => e = .returned (.int .i64 i) ∧ w' = w := by
  refine (find_any h hlen id).mono ?_
  rintro e' w' ⟨⟨z, rfl, HZ⟩, rfl⟩
  refine ⟨?_, rfl⟩
  rcases HZ with ⟨_, q⟩ | ⟨j, hj, rfl, q⟩
  · exact absurd e (q _ (List.getElem_mem hi))
  · rw [ho.uniq hj hi (q.trans e.symm)]
theorem find_none {w : World} {rb : Nat} {n : Int} {v : Value} {L : List It} (h : RM w rb n v L) (hlen : L.length ≤ 1000000) (id : Int) (hn : ∀ p ∈ L, p.1 ≠ id) :
    Calls Try.prog 30 #[ptr rb, .int .i64 id] w fun e w' => e = .returned (.int .i64 (-1)) ∧ w' = w := by
  refine (find_any h hlen id).mono ?_
  rintro e' w' ⟨⟨z, rfl, HZ⟩, rfl⟩
  refine ⟨?_, rfl⟩
  rcases HZ with ⟨q, _⟩ | ⟨j, hj, rfl, q⟩
  · rw [q]
  · exact absurd q (hn _ (List.getElem_mem hj))

set_option maxRecDepth 1000000 in
set_option maxHeartbeats 2000000 in
theorem rkey_none {w : World} {rb : Nat} {n : Int} {v : Value} {L : List It} (h : RM w rb n v L) (hlen : L.length ≤ 1000000) (id : Int) (hn : ∀ p ∈ L, p.1 ≠ id) :
    Calls Try.prog 24 #[ptr rb, .int .i64 id] w fun e w' => e = .returned (.tuple #[.int .i64 0, .bool false]) ∧ w' = w := by
  have k := find_none h hlen id hn
  clear h hn
  go_enter Try.func24, Try.ntmps24
  go_wp2_with (go_at_call 30; refine k.mono ?_; rintro e w' ⟨rfl, rfl⟩)
  go_ret2
  exact ⟨rfl, rfl⟩
set_option maxRecDepth 1000000 in
set_option maxHeartbeats 2000000 in
theorem rkey_some {w : World} {rb : Nat} {n : Int} {v : Value} {L : List It} (h : RM w rb n v L) (hlen : L.length ≤ 1000000) (ho : Once L) {i : Nat} (hi : i < L.length) (id key : Int) (e : L[i].1 = id) (e2 : L[i].2 = key) :
    Calls Try.prog 24 #[ptr rb, .int .i64 id] w fun e w' => e = .returned (.tuple #[.int .i64 key, .bool true]) ∧ w' = w := by
  have k := find_some h hlen ho hi id e
  have q1 := h.c1
  obtain ⟨ib, cap, rfl, hc1, hc2, hc, _⟩ := h.form (by omega)
  have ck := (hc i hi).2
  rw [e2] at ck
  have hlt : decide ((i : Int) < 0) = false := decide_eq_false (by omega)
  clear h hc e e2 ho
  generalize L.length = m at *
  go_enter Try.func24, Try.ntmps24
  go_wp2_with (go_at_call 30; refine k.mono ?_; rintro e w' ⟨rfl, rfl⟩)
  go_ret2
  exact ⟨rfl, rfl⟩
end Go.Proofs.Ytpcjaleogeoabaa
