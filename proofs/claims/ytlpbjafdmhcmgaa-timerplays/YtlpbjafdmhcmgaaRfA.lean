/- The document's own timer in memory: a row of items; At. -/
import Derived.Test.YtlpbjafdmhcmgaaOvr
import Derived.Deep.LoopGhost
namespace Go.Proofs.Ytlpbjafdmhcmgaa
open Go.RowKit
open M
set_option linter.unusedVariables false
set_option linter.unusedSimpArgs false

abbrev It := Int × Int
def icells : List It → List Value
  | [] => []
  | (x, y) :: r => .int .i64 x :: .int .i64 y :: icells r
theorem icells_len (l : List It) : (icells l).length = l.length * 2 := by
  induction l with
  | nil => rfl
  | cons e r ih => obtain ⟨x, y⟩ := e; simp [icells, ih]; omega
theorem icells_app (a b : List It) : icells (a ++ b) = icells a ++ icells b := by
  induction a with
  | nil => rfl
  | cons e r ih => obtain ⟨x, y⟩ := e; simp [icells, ih]
theorem icells_at (l : List It) : ∀ i p, l[i]? = some p → (icells l)[i * 2]? = some (.int .i64 p.1) ∧ (icells l)[i * 2 + 1]? = some (.int .i64 p.2) := by
  induction l with
  | nil => intro i p h; simp at h
  | cons e r ih =>
    obtain ⟨x, y⟩ := e
    intro i p h
    cases i with
    | zero => simp at h; subst h; exact ⟨rfl, rfl⟩
    | succ i =>
      obtain ⟨q1, q2⟩ := ih i p (by simpa using h)
      rw [show (i + 1) * 2 = i * 2 + 1 + 1 by omega]
      simp only [icells, List.getElem?_cons_succ]
      exact ⟨q1, q2⟩
theorem icells_one (l : List It) : ∀ u ∈ icells l, u.oneCell' = true := by
  induction l with
  | nil => intro u hu; simp [icells] at hu
  | cons e r ih =>
    obtain ⟨x, y⟩ := e
    intro u hu
    simp only [icells, List.mem_cons] at hu
    rcases hu with rfl | rfl | hu
    · rfl
    · rfl
    · exact ih u hu
theorem icells_take (L : List It) (i : Nat) : icells (L.take i) = (icells L).take (i * 2) := by
  induction L generalizing i with
  | nil => simp [icells]
  | cons e r ih =>
    obtain ⟨x, y⟩ := e
    cases i with
    | zero => simp [icells]
    | succ i => rw [show (i + 1) * 2 = i * 2 + 1 + 1 by omega]; simp [icells, ih]
theorem icells_drop (L : List It) (i : Nat) : icells (L.drop i) = (icells L).drop (i * 2) := by
  induction L generalizing i with
  | nil => simp [icells]
  | cons e r ih =>
    obtain ⟨x, y⟩ := e
    cases i with
    | zero => simp [icells]
    | succ i => rw [show (i + 1) * 2 = i * 2 + 1 + 1 by omega]; simp [icells, ih]
theorem info42 : (Try.prog.info? 42).map (fun i => (i.zero, i.size, i.bytes)) = some (some (.agg #[.int .i64 0, .int .i64 0]), 2, 16) := by kernel_rfl

/-- A row of items that can be read. -/
def IR (w : World) (v : Value) (L : List It) : Prop := (L = [] ∧ v = .slice none 0 0) ∨ ∃ b o c, v = .slice (some ⟨b, o, none⟩) L.length c ∧ L.length ≤ c ∧ c ≤ maxLen ∧ b < w.heap.size ∧ ∀ j u, (icells L)[j]? = some u → w.cell? ⟨b, o + j, none⟩ = some u
/-- The document's timer at block rb, of n ids; its row of items is v. -/
structure RM (w : World) (rb : Nat) (n : Int) (v : Value) (L : List It) : Prop where
  blk : w.heap[rb]? = some (.cells #[.int .i64 n, v] 29)
  row : IR w v L
  ne : v.ownBlock ≠ some rb
def RFoot (rb : Nat) (v : Value) (k : Nat) : Prop := k = rb ∨ v.ownBlock = some k

section
variable {w w' : World} {rb : Nat} {n : Int} {v : Value} {L : List It}
theorem IR.keep (h : IR w v L) (hs : w.heap.size ≤ w'.heap.size) (hk : ∀ k, v.ownBlock = some k → w'.heap[k]? = w.heap[k]?) : IR w' v L := by
  rcases h with h | ⟨b, o, c, h1, h2, h3, h4, h5⟩
  · exact .inl h
  · refine .inr ⟨b, o, c, h1, h2, h3, by omega, fun j u hu => ?_⟩
    rw [World.cell?_of_block (w := w) (a := ⟨b, o + j, none⟩) (hk b (by rw [h1]; rfl))]
    exact h5 j u hu
theorem IR.lt (h : IR w v L) {k : Nat} (hk : v.ownBlock = some k) : k < w.heap.size := by
  rcases h with ⟨_, rfl⟩ | ⟨b, o, c, rfl, _, _, h4, _⟩
  · simp [Value.ownBlock] at hk
  · simp [Value.ownBlock] at hk; omega
theorem IR.form (h : IR w v L) : ∃ ao c, v = .slice ao L.length c ∧ L.length ≤ c ∧ c ≤ maxLen := by
  rcases h with ⟨rfl, rfl⟩ | ⟨b, o, c, rfl, h2, h3, _⟩
  · exact ⟨none, 0, rfl, Nat.le_refl _, Nat.zero_le _⟩
  · exact ⟨_, c, rfl, h2, h3⟩
theorem IR.cells (h : IR w v L) (h0 : 0 < L.length) : ∃ b o c, v = .slice (some ⟨b, o, none⟩) L.length c ∧ L.length ≤ c ∧ c ≤ maxLen ∧ ∀ i p, L[i]? = some p → w.cell? ⟨b, o + i * 2, none⟩ = some (.int .i64 p.1) ∧ w.cell? ⟨b, o + i * 2 + 1, none⟩ = some (.int .i64 p.2) := by
  rcases h with ⟨rfl, _⟩ | ⟨b, o, c, h1, h2, h3, h4, h5⟩
  · simp at h0
  · refine ⟨b, o, c, h1, h2, h3, fun i p hp => ?_⟩
    obtain ⟨q1, q2⟩ := icells_at L i p hp
    exact ⟨h5 _ _ q1, h5 _ _ q2⟩
theorem RM.c0 (h : RM w rb n v L) : w.cell? ⟨rb, 0, none⟩ = some (.int .i64 n) := by rw [cell_of_row w rb 0 _ _ _ h.blk]; rfl
theorem RM.c1 (h : RM w rb n v L) : w.cell? ⟨rb, 1, none⟩ = some v := by rw [cell_of_row w rb 1 _ _ _ h.blk]; rfl
theorem RM.fr (h : RM w rb n v L) (i : Nat) : w.frozen? ⟨rb, i, none⟩ = false := by simp [World.frozen?, h.blk]
theorem RM.lt (h : RM w rb n v L) (k : Nat) (hk : RFoot rb v k) : k < w.heap.size := by
  rcases hk with rfl | hk
  · exact block_lt h.blk
  · exact h.row.lt hk
theorem RM.keep (h : RM w rb n v L) (hs : w.heap.size ≤ w'.heap.size) (hk : ∀ k, RFoot rb v k → w'.heap[k]? = w.heap[k]?) : RM w' rb n v L :=
  ⟨by rw [hk rb (.inl rfl)]; exact h.blk, h.row.keep hs (fun k hk' => hk k (.inr hk')), h.ne⟩
theorem RM.below (h : RM w rb n v L) (hb : Below w.heap.size w w') : RM w' rb n v L := h.keep hb.size (fun k hk => hb.block k (h.lt k hk))
theorem RM.turn (h : RM w rb n v L) {F : Nat → Prop} (ht : Turn F w w') (hF : ∀ k, RFoot rb v k → ¬ F k) : RM w' rb n v L := h.keep ht.size (fun k hk => ht.block k (h.lt k hk) (hF k hk))
/-- Another row laid in the place of the one that was there. -/
theorem RM.put {v2 : Value} {L2 : List It} {w2 : World} (h : RM w rb n v L) (hb : Below w.heap.size w w2) (hr : IR w2 v2 L2) (hn : ∀ k, v2.ownBlock = some k → v.ownBlock = some k ∨ w.heap.size ≤ k) :
    RM (w2.setCell ⟨rb, 1, none⟩ v2) rb n v2 L2 ∧ Turn (RFoot rb v) w (w2.setCell ⟨rb, 1, none⟩ v2) ∧ ∀ k, RFoot rb v2 k → RFoot rb v k ∨ k = rb ∨ w.heap.size ≤ k := by
  have lr := h.lt rb (.inl rfl)
  have ne2 : v2.ownBlock ≠ some rb := fun q => by
    rcases hn rb q with z | z
    · exact h.ne z
    · omega
  refine ⟨⟨?_, ?_, ne2⟩, (Turn.of_below hb).setCell (.inl (.inl rfl)) _, fun k hk => ?_⟩
  · have := heap_setCell_at (o := 1) ((hb.block rb lr).trans h.blk) v2
    simpa using this
  · exact hr.keep (by simp [World.setCell]) (fun k hk => Below.heap_setCell _ _ _ _ (fun e => ne2 (by rw [hk, e])))
  · rcases hk with q | q
    · exact .inr (.inl q)
    · rcases hn k q with z | z
      · exact .inl (.inr z)
      · exact .inr (.inr z)
/-- A row of one's own can be read. -/
theorem ir_own {base : Nat} (h : w.ownsRow base 42 2 v L.length (icells L)) : IR w v L := by
  rcases h.2 with ⟨rfl, q⟩ | ⟨b, c, cur, rfl, _, hg, h1, h2, h3, h4⟩
  · exact .inl ⟨List.eq_nil_of_length_eq_zero q, rfl⟩
  · refine .inr ⟨b, 0, c, rfl, h1, h2, block_lt hg, fun j u hu => ?_⟩
    have hj : j < (icells L).length := by
      rcases Nat.lt_or_ge j (icells L).length with q | q
      · exact q
      · rw [List.getElem?_eq_none q] at hu; cases hu
    rw [icells_len] at hj
    rw [Nat.zero_add, cell_of_row w b j _ _ _ hg, ← hu, ← h4, ← Array.getElem?_toList, List.getElem?_take_of_lt hj]
end
theorem own_slice {w : World} {base sz n : Nat} {e : TypeId} {v : Value} {xs : List Value} (h : w.ownsRow base e sz v n xs) : ∃ ao cap, v = .slice ao n cap := by
  rcases h.2 with ⟨rfl, q⟩ | ⟨ib, cap, cur, rfl, _⟩
  · exact ⟨none, 0, by rw [q]⟩
  · exact ⟨_, cap, rfl⟩
/-- What At tells. -/
structure AtP (L : List It) (id z : Int) (bb : Bool) : Prop where
  no : (∀ p ∈ L, p.1 ≠ id) → bb = false ∧ z = 0
  yes : ∀ p ∈ L, p.1 = id → bb = true ∧ z = p.2

set_option maxRecDepth 1000000 in
set_option maxHeartbeats 2000000 in
theorem rat_any {w : World} {rb : Nat} {n : Int} {v : Value} {L : List It} (h : RM w rb n v L) (hlen : L.length ≤ 1000000) {id z : Int} {bb : Bool} (hA : AtP L id z bb) :
    Calls Try.prog 21 #[ptr rb, .int .i64 id] w fun e w' => e = .returned (.tuple #[.int .i64 z, .bool bb]) ∧ w' = w := by
  have q1 := h.c1
  obtain ⟨m, hm⟩ : ∃ m, L.length = m := ⟨_, rfl⟩
  have HC : Hid (∀ i, i < m → ∃ b o c p, v = .slice (some ⟨b, o, none⟩) m c ∧ L[i]? = some p ∧ w.cell? ⟨b, o + i * 2, none⟩ = some (.int .i64 p.1) ∧ w.cell? ⟨b, o + i * 2 + 1, none⟩ = some (.int .i64 p.2)) := fun i hi => by
    obtain ⟨b, o, c, e, _, _, hc⟩ := h.row.cells (by omega)
    rw [hm] at e
    have hi2 : i < L.length := by omega
    exact ⟨b, o, c, L[i], e, List.getElem?_eq_getElem hi2, hc i _ (List.getElem?_eq_getElem hi2)⟩
  obtain ⟨ao, cap, hv, hc1, hc2⟩ := h.row.form
  subst hv
  have HM := hide_it hm
  have HAT := hide_it hA
  clear h hA
  rw [hm] at q1 hlen hc1
  clear hm
  go_enter Try.func21, Try.ntmps21
  go_wp2
  go_loop [6] (fun iv => ∃ k : Nat, k ≤ m ∧ iv = .int .i64 k ∧ Hid (∀ i p, i < k → L[i]? = some p → ¬ p.1 = id)) (fun iv => m - (intOf iv).toNat)
  case atStart => exact ⟨0, Nat.zero_le _, rfl, fun i p hi => by omega⟩
  case round =>
    obtain ⟨k, hk, rfl, HR⟩ := hrel
    by_cases hlt : k < m
    · obtain ⟨b, o, c, p, e, e1, c1, c2⟩ := HC.out k hlt
      obtain ⟨rfl, _, rfl⟩ : ao = some ⟨b, o, none⟩ ∧ L.length = m ∧ cap = c := by simpa using e
      clear e
      obtain ⟨p1, p2⟩ := p
      simp only at c1 c2
      have HP := hide_it e1
      clear e1
      by_cases hid : p1 = id
      · have d : (p1 == id) = true := by simp [hid]
        go_wp2
        go_ret2
        obtain ⟨e1, e2⟩ := HAT.out.yes _ (List.mem_of_getElem? HP.out) hid
        subst e1 e2
        exact ⟨rfl, rfl⟩
      · have d : (p1 == id) = false := by simp [hid]
        go_wp2
        go_round
        case rel =>
          refine ⟨k + 1, by omega, by go_num, fun i p hi hp => ?_⟩
          by_cases e : i = k
          · subst e
            rw [HP.out] at hp
            cases hp
            exact hid
          · exact HR.out i p (by omega) hp
        case measure => simp [intOf]; omega
    · have d1 : decide ((k : Int) < m) = false := by simp; omega
      have d2 : decide (k < m) = false := by simp; omega
      go_wp2
      go_ret2
      obtain ⟨e1, e2⟩ := HAT.out.no (fun p hp => by
        obtain ⟨i, hi, e⟩ := List.getElem_of_mem hp
        exact HR.out i p (by have := HM.out; omega) (by rw [← e]; exact List.getElem?_eq_getElem hi))
      subst e1 e2
      exact ⟨rfl, rfl⟩
end Go.Proofs.Ytlpbjafdmhcmgaa
