/- What a call may turn; append told; the document's own ledger in memory, and what is asked of it. -/
import Derived.Test.YtkcbigmccplpiaaObj
import Derived.ArgAppend
import Derived.Laws.OwnMore
import Derived.Deep.OwnRows
import Derived.Deep.AppendLies
namespace Go.Proofs.Ytkcbigmccplpiaa
open Go.RowKit
open M
set_option linter.unusedVariables false
set_option linter.unusedSimpArgs false

/-- What the program wrote: only blocks of F, and new ones. -/
structure Turn (F : Nat → Prop) (w w' : World) : Prop where
  os : w'.os = w.os
  tape : w'.tape = w.tape
  output : w'.output = w.output
  size : w.heap.size ≤ w'.heap.size
  block : ∀ k, k < w.heap.size → ¬ F k → w'.heap[k]? = w.heap[k]?
theorem Turn.refl (F : Nat → Prop) (w : World) : Turn F w w := ⟨rfl, rfl, rfl, Nat.le_refl _, fun _ _ _ => rfl⟩
theorem Turn.of_below {F : Nat → Prop} {w w' : World} (h : Below w.heap.size w w') : Turn F w w' := ⟨h.os, h.tape, h.output, h.size, fun k hk _ => h.block k hk⟩
theorem Turn.below {F : Nat → Prop} {w w' : World} {B : Nat} (h : Turn F w w') (hB : B ≤ w.heap.size) (hF : ∀ k, F k → B ≤ k) : Below B w w' :=
  ⟨h.os, h.tape, h.output, h.size, fun k hk => h.block k (by omega) (fun hf => by have := hF k hf; omega)⟩
theorem Turn.trans {F : Nat → Prop} {a b c : World} (h : Turn F a b) (k : Turn F b c) : Turn F a c :=
  ⟨k.os.trans h.os, k.tape.trans h.tape, k.output.trans h.output, Nat.le_trans h.size k.size, fun i hi hf => (k.block i (Nat.lt_of_lt_of_le hi h.size) hf).trans (h.block i hi hf)⟩
theorem Turn.mono {F G : Nat → Prop} {w w' : World} (h : Turn F w w') (hg : ∀ k, k < w.heap.size → F k → G k) : Turn G w w' :=
  ⟨h.os, h.tape, h.output, h.size, fun k hk hn => h.block k hk (fun hf => hn (hg k hk hf))⟩
theorem Turn.setCell {F : Nat → Prop} {a w : World} (h : Turn F a w) {p : Addr} (hp : F p.block ∨ a.heap.size ≤ p.block) (u : Value) : Turn F a (w.setCell p u) :=
  ⟨h.os, h.tape, h.output, by simpa [World.setCell] using h.size, fun k hk hn => by
    rw [Below.heap_setCell _ _ _ _ (fun e => by subst e; rcases hp with hp | hp; exact hn hp; omega)]; exact h.block k hk hn⟩
theorem Turn.drew {F : Nat → Prop} {a w : World} (h : Turn F a w) : Turn F a w.drew := ⟨h.os, h.tape, h.output, h.size, h.block⟩
theorem Turn.alloc {F : Nat → Prop} {a w : World} (h : Turn F a w) (o : Obj) : Turn F a (w.alloc o) :=
  ⟨h.os, h.tape, h.output, by have := h.size; simp; omega, fun k hk hn => by rw [Below.heap_alloc _ _ _ (Nat.lt_of_lt_of_le hk h.size)]; exact h.block k hk hn⟩
theorem Turn.grown {F : Nat → Prop} {a w w' : World} {row : Option Nat} (h : Turn F a w) (hg : w.grownBy w' row) (hr : ∀ k, row = some k → F k ∨ a.heap.size ≤ k) : Turn F a w' :=
  ⟨hg.os.trans h.os, hg.tape.trans h.tape, hg.output.trans h.output, Nat.le_trans h.size hg.size, fun k hk hn => by
    rw [hg.block k (Nat.lt_of_lt_of_le hk h.size) (fun e => by rcases hr k e.symm with hf | hf; exact hn hf; omega)]; exact h.block k hk hn⟩

theorem owns_keep {w w' : World} {base sz n : Nat} {e : TypeId} {v : Value} {xs : List Value} (h : w.ownsRow base e sz v n xs) (hk : ∀ k, v.ownBlock = some k → w'.heap[k]? = w.heap[k]?) : w'.ownsRow base e sz v n xs := by
  refine ⟨h.1, ?_⟩
  rcases h.2 with hn | ⟨g, cap, cur, rfl, hb, hg, rest⟩
  · exact .inl hn
  · exact .inr ⟨g, cap, cur, rfl, hb, by rw [hk g rfl]; exact hg, rest⟩
theorem owns_below {w w' : World} {base sz n : Nat} {e : TypeId} {v : Value} {xs : List Value} (h : w.ownsRow base e sz v n xs) (hb : Below w.heap.size w w') : w'.ownsRow base e sz v n xs :=
  owns_keep h (fun k hk => hb.block k (h.lt k hk).2)
theorem owns_base {w : World} {base base' sz n : Nat} {e : TypeId} {v : Value} {xs : List Value} (h : w.ownsRow base e sz v n xs) (hb : ∀ k, v.ownBlock = some k → base' ≤ k) : w.ownsRow base' e sz v n xs := by
  refine ⟨h.1, ?_⟩
  rcases h.2 with hn | ⟨g, cap, cur, rfl, _, hg, rest⟩
  · exact .inl hn
  · exact .inr ⟨g, cap, cur, rfl, hb g rfl, hg, rest⟩

/-- Behind an append: in the old row, or in a new one. -/
def Fresh (w : World) (v v' : Value) : Prop := v'.ownBlock = v.ownBlock ∨ ∃ k, v'.ownBlock = some k ∧ w.heap.size ≤ k

section
variable {P : Program} (w : World)
theorem run_append_tell (base : Nat) (t ty e : TypeId) (i : TypeInfo) (z : Value) (size bytes : Nat) (ht : P.underlying t = some (.slice e)) (hi : P.info? e = some i) (hz : i.zero = some z)
    (hsize : i.size = size) (hby : i.bytes = bytes) (hzs : z.cells.size = size) (hsz : 0 < size)
    (v : Value) (n : Nat) (xs : List Value) (hown : w.ownsRow base e size v n xs)
    (a : Addr) (m c : Nat) (news : List Value) (hl : news.length = m * size) (hnews : ∀ j u, news[j]? = some u → w.cell? (a.add j) = some u) (h1 : ∀ u ∈ news, u.oneCell' = true)
    (h63 : n + m ≤ maxLen) (hbytes : (n + m) * bytes ≤ 140737488355328) (hbase : base ≤ w.heap.size) :
    ∃ v' w', (Builtin.append_ #[t, t] ty #[v, .slice (some a) m c]).run P w = .ok v' w' ∧ w'.ownsRow base e size v' (n + m) (xs ++ news) ∧ w.grownBy w' v.ownBlock ∧ Fresh w v v' := by
  obtain ⟨v', w', hr, h2, h3, _⟩ := run_append_own (P := P) w base t ty e i z size bytes ht hi hz hsize hby hzs hsz v n xs hown a m c news hl hnews h1 h63 hbytes hbase
  refine ⟨v', w', hr, h2, h3, ?_⟩
  have far : ∀ v2 w2, (Builtin.append_ #[t, t] ty #[v, .slice (some a) m c]).run P w = .ok v2 w2 → w2.ownsRow w.heap.size e size v2 (n + m) (xs ++ news) → (v.ownBlock = none ∨ ∃ k, v2.ownBlock = some k) → Fresh w v v' := by
    intro v2 w2 hr2 k2 hv
    have he := hr.symm.trans hr2
    have e1 : v' = v2 := by injection he
    subst e1
    cases hb : v'.ownBlock with
    | none =>
      rcases hv with hv | ⟨k, hk⟩
      · exact .inl (by rw [hv, hb])
      · rw [hb] at hk; cases hk
    | some k => exact .inr ⟨k, hb, (k2.lt k hb).1⟩
  rcases hown.2 with ⟨rfl, rfl⟩ | ⟨g, cap, cur, rfl, hbg, hg, hnc, hcm, hcs, htake⟩
  · have hx : xs = [] := List.eq_nil_of_length_eq_zero (by simpa using hown.1)
    subst hx
    obtain ⟨v2, w2, hr2, k2, _, _⟩ := run_append_own (P := P) w w.heap.size t ty e i z size bytes ht hi hz hsize hby hzs hsz (.slice none 0 0) 0 [] (World.ownsRow_nil w _ e size) a m c news hl hnews h1 h63 hbytes (Nat.le_refl _)
    exact far v2 w2 hr2 k2 (.inl rfl)
  · by_cases hroom : n + m ≤ cap
    · subst hsize
      have hfit : n * i.size + news.length ≤ cur.size := by rw [hl, hcs, ← Nat.add_mul]; exact Nat.mul_le_mul_right _ hroom
      have hr2 := run_append_room (P := P) w t ty e i ht hi g n cap cur hg a m c news hl hnews h1 hroom hfit
      have he := hr.symm.trans hr2
      have e1 : v' = .slice (some ⟨g, 0, none⟩) (n + m) cap := by injection he
      subst e1
      exact .inl rfl
    · obtain ⟨v2, w2, hr2, k2, _⟩ := run_append_arg_grows (P := P) w t ty e i z size bytes ht hi hz hsize hby hzs hsz ⟨g, 0, none⟩ n cap xs hown.1 (hown.cells (g := g) rfl) a m c news hl hnews (by omega) h63 hbytes
      refine far v2 w2 hr2 k2 (.inr ?_)
      rcases k2.2 with ⟨rfl, hz0⟩ | ⟨g2, c2, cur2, rfl, _⟩
      · omega
      · exact ⟨g2, rfl⟩

theorem wpList_append_tell {ops : Array Oper} {rest : List Oper} {o : Oper} {a : Act} {Q : Exit → Act → World → Prop} (hgd : o.guard = none) (s x : Operand) (t : TypeId)
    (ho : o.op = .call { callee := .builtin .append, args := #[s, x], argTypes := #[t, t] })
    (base : Nat) (e : TypeId) (i : TypeInfo) (z : Value) (size bytes : Nat) (ht : P.underlying t = some (.slice e)) (hi : P.info? e = some i) (hz : i.zero = some z)
    (hsize : i.size = size) (hby : i.bytes = bytes) (hzs : z.cells.size = size) (hsz : 0 < size)
    (v : Value) (n : Nat) (xs : List Value) (hs : a.eval s = v) (hown : w.ownsRow base e size v n xs)
    (ad : Addr) (m c : Nat) (news : List Value) (hx : a.eval x = .slice (some ad) m c) (hl : news.length = m * size) (hnews : ∀ j u, news[j]? = some u → w.cell? (ad.add j) = some u) (h1 : ∀ u ∈ news, u.oneCell' = true)
    (h63 : n + m ≤ maxLen) (hbytes : (n + m) * bytes ≤ 140737488355328) (hbase : base ≤ w.heap.size)
    (h : ∀ v' w', w'.ownsRow base e size v' (n + m) (xs ++ news) → w.grownBy w' v.ownBlock → Fresh w v v' → wpList P ops Q rest (a.put o.dst v') w') : wpList P ops Q (o :: rest) a w := by
  obtain ⟨v', w', hr, h2, h3, h4⟩ := run_append_tell (P := P) w base t o.type e i z size bytes ht hi hz hsize hby hzs hsz v n xs hown ad m c news hl hnews h1 h63 hbytes hbase
  refine wpList_plain hgd fun K hK => ?_
  unfold Oper.wp execOp
  simp only [ho, resolve, invoke, builtin, Sem.run_bind, Sem.run_pure, Result.andThen_ok, List.map_toArray, List.map_cons, List.map_nil, hs, hx, hr]
  exact hK _ _ (h v' w' h2 h3 h4)
end


theorem run_append_none2 {P : Program} (w : World) (t ty e : TypeId) (i : TypeInfo) (ht : P.underlying t = some (.slice e)) (hi : P.info? e = some i) (base : Option Addr) (n c : Nat) (hle : n ≤ c) :
    (Builtin.append_ #[t, t] ty #[.slice base n c, .slice none 0 0]).run P w = .ok (.slice base n c) w := by
  cases base <;> simp [Builtin.append_, run_underlying ht, sizeOf, typeInfo, hi, Builtin.lenOf, Builtin.firstCells, loadCells, loadCellsFrom, storeCells, hle]

/-- An item: its id, its slot, its memory. -/
abbrev It := Int × Int × Int
def icells : List It → List Value
  | [] => []
  | (x, y, z) :: r => .int .i64 x :: .int .i64 y :: .int .i64 z :: icells r
theorem icells_len (l : List It) : (icells l).length = l.length * 3 := by
  induction l with
  | nil => rfl
  | cons e r ih => obtain ⟨x, y, z⟩ := e; simp [icells, ih]; omega
theorem icells_app (a b : List It) : icells (a ++ b) = icells a ++ icells b := by
  induction a with
  | nil => rfl
  | cons e r ih => obtain ⟨x, y, z⟩ := e; simp [icells, ih]
theorem icells_at (l : List It) : ∀ i p, l[i]? = some p → (icells l)[i * 3]? = some (.int .i64 p.1) ∧ (icells l)[i * 3 + 1]? = some (.int .i64 p.2.1) ∧ (icells l)[i * 3 + 2]? = some (.int .i64 p.2.2) := by
  induction l with
  | nil => intro i p h; simp at h
  | cons e r ih =>
    obtain ⟨x, y, z⟩ := e
    intro i p h
    cases i with
    | zero => simp at h; subst h; exact ⟨rfl, rfl, rfl⟩
    | succ i =>
      obtain ⟨q1, q2, q3⟩ := ih i p (by simpa using h)
      rw [show (i + 1) * 3 = i * 3 + 1 + 1 + 1 by omega]
      refine ⟨?_, ?_, ?_⟩
      · simpa [icells] using q1
      · rw [show i * 3 + 1 + 1 + 1 + 1 = i * 3 + 1 + 1 + 1 + 1 by rfl]; simpa [icells] using q2
      · rw [show i * 3 + 1 + 1 + 1 + 2 = i * 3 + 2 + 1 + 1 + 1 by omega]; simpa [icells] using q3
theorem icells_one (l : List It) : ∀ u ∈ icells l, u.oneCell' = true := by
  induction l with
  | nil => intro u hu; simp [icells] at hu
  | cons e r ih =>
    obtain ⟨x, y, z⟩ := e
    intro u hu
    simp only [icells, List.mem_cons] at hu
    rcases hu with rfl | rfl | rfl | hu
    · rfl
    · rfl
    · rfl
    · exact ih u hu
theorem info54 : (Try.prog.info? 54).map (fun i => (i.zero, i.size, i.bytes)) = some (some (.agg #[.int .i64 0, .int .i64 0, .int .i64 0]), 3, 24) := by kernel_rfl

/-- The document's ledger at block rb; its row of items is v. -/
structure RM (B : Nat) (w : World) (rb : Nat) (bu mn : Int) (v : Value) (L : List It) : Prop where
  blk : w.heap[rb]? = some (.cells #[.int .i64 bu, .int .i64 mn, v] 29)
  row : w.ownsRow B 54 3 v L.length (icells L)
  ne : v.ownBlock ≠ some rb

section
variable {B : Nat} {w w' : World} {rb : Nat} {bu mn : Int} {v : Value} {L : List It}
theorem RM.c0 (h : RM B w rb bu mn v L) : w.cell? ⟨rb, 0, none⟩ = some (.int .i64 bu) := by rw [cell_of_row w rb 0 _ _ _ h.blk]; rfl
theorem RM.c1 (h : RM B w rb bu mn v L) : w.cell? ⟨rb, 1, none⟩ = some (.int .i64 mn) := by rw [cell_of_row w rb 1 _ _ _ h.blk]; rfl
theorem RM.c2 (h : RM B w rb bu mn v L) : w.cell? ⟨rb, 2, none⟩ = some v := by rw [cell_of_row w rb 2 _ _ _ h.blk]; rfl
theorem RM.fr (h : RM B w rb bu mn v L) (i : Nat) : w.frozen? ⟨rb, i, none⟩ = false := by simp [World.frozen?, h.blk]
theorem RM.below (h : RM B w rb bu mn v L) (hb : Below w.heap.size w w') : RM B w' rb bu mn v L :=
  ⟨by rw [hb.block rb (block_lt h.blk)]; exact h.blk, owns_below h.row hb, h.ne⟩
theorem RM.form (h : RM B w rb bu mn v L) : ∃ ao c, v = .slice ao L.length c ∧ L.length ≤ c ∧ c ≤ maxLen := by
  rcases h.row.2 with ⟨rfl, q⟩ | ⟨g, c, cur, rfl, _, _, h1, h2, _⟩
  · exact ⟨none, 0, by rw [q], by omega, Nat.zero_le _⟩
  · exact ⟨_, c, rfl, h1, h2⟩
theorem RM.cells (h : RM B w rb bu mn v L) (h0 : 0 < L.length) : ∃ b o c, v = .slice (some ⟨b, o, none⟩) L.length c ∧ L.length ≤ c ∧ c ≤ maxLen ∧ b < w.heap.size ∧ (∀ j u, (icells L)[j]? = some u → w.cell? ⟨b, o + j, none⟩ = some u) := by
  rcases h.row.2 with ⟨rfl, q⟩ | ⟨g, c, cur, rfl, _, hg, h1, h2, h3, h4⟩
  · omega
  · refine ⟨g, 0, c, rfl, h1, h2, block_lt hg, fun j u hu => ?_⟩
    have hj : j < (icells L).length := by
      rcases Nat.lt_or_ge j (icells L).length with q | q
      · exact q
      · rw [List.getElem?_eq_none q] at hu; cases hu
    rw [icells_len] at hj
    rw [Nat.zero_add, cell_of_row w g j _ _ _ hg, ← hu, ← h4, ← Array.getElem?_toList, List.getElem?_take_of_lt hj]
theorem RM.at_ (h : RM B w rb bu mn v L) (i : Nat) (hi : i < L.length) : ∃ b o c p, v = .slice (some ⟨b, o, none⟩) L.length c ∧ L[i]? = some p ∧ w.cell? ⟨b, o + i * 3, none⟩ = some (.int .i64 p.1) ∧ w.cell? ⟨b, o + i * 3 + 1, none⟩ = some (.int .i64 p.2.1) ∧ w.cell? ⟨b, o + i * 3 + 2, none⟩ = some (.int .i64 p.2.2) := by
  obtain ⟨b, o, c, e, _, _, _, hc⟩ := h.cells (by omega)
  obtain ⟨q1, q2, q3⟩ := icells_at L i _ (List.getElem?_eq_getElem hi)
  exact ⟨b, o, c, L[i], e, List.getElem?_eq_getElem hi, hc _ _ q1, hc _ _ q2, hc _ _ q3⟩
end
/-- What Slot tells, and At. -/
structure SlP (L : List It) (id z : Int) (bb : Bool) : Prop where
  no : (∀ p ∈ L, p.1 ≠ id) → bb = false ∧ z = 0
  yes : ∀ p ∈ L, p.1 = id → bb = true ∧ z = p.2.1
structure AtP (L : List It) (s z : Int) (bb : Bool) : Prop where
  no : (∀ p ∈ L, p.2.1 ≠ s) → bb = false ∧ z = 0
  yes : ∀ p ∈ L, p.2.1 = s → bb = true ∧ z = p.1

set_option maxRecDepth 1000000 in
set_option maxHeartbeats 2000000 in
theorem rslot_any {B : Nat} {w : World} {rb : Nat} {bu mn : Int} {v : Value} {L : List It} (h : RM B w rb bu mn v L) (hlen : L.length ≤ 1000000) {id z : Int} {bb : Bool} (hA : SlP L id z bb) :
    Calls Try.prog 17 #[ptr rb, .int .i64 id] w fun e w' => e = .returned (.tuple #[.int .i64 z, .bool bb]) ∧ w' = w := by
  have q2 := h.c2
  obtain ⟨m, hm⟩ : ∃ m, L.length = m := ⟨_, rfl⟩
  have HC : Hid (∀ i, i < m → ∃ b o c p, v = .slice (some ⟨b, o, none⟩) m c ∧ L[i]? = some p ∧ w.cell? ⟨b, o + i * 3, none⟩ = some (.int .i64 p.1) ∧ w.cell? ⟨b, o + i * 3 + 1, none⟩ = some (.int .i64 p.2.1) ∧ w.cell? ⟨b, o + i * 3 + 2, none⟩ = some (.int .i64 p.2.2)) := fun i hi => by
    have := h.at_ i (by omega)
    rw [hm] at this
    exact this
  obtain ⟨ao, cap, hv, hc1, hc2⟩ := h.form
  subst hv
  have HM := hide_it hm
  have HAT := hide_it hA
  clear h hA
  rw [hm] at q2 hlen hc1
  clear hm
  go_enter Try.func17, Try.ntmps17
  go_wp2
  go_loop [6] (fun iv => ∃ k : Nat, k ≤ m ∧ iv = .int .i64 k ∧ Hid (∀ i p, i < k → L[i]? = some p → ¬ p.1 = id)) (fun iv => m - (intOf iv).toNat)
  case atStart => exact ⟨0, Nat.zero_le _, rfl, fun i p hi => by omega⟩
  case round =>
    obtain ⟨k, hk, rfl, HR⟩ := hrel
    by_cases hlt : k < m
    · obtain ⟨b, o, c, p, e, e1, c1, c2, c3⟩ := HC.out k hlt
      obtain ⟨rfl, _, rfl⟩ : ao = some ⟨b, o, none⟩ ∧ L.length = m ∧ cap = c := by simpa using e
      clear e
      obtain ⟨p1, p2, p3⟩ := p
      simp only at c1 c2 c3
      have HP := hide_it e1
      clear e1
      by_cases hid : p1 = id
      · have d : (p1 == id) = true := by simp [hid]
        go_wp2
        go_ret2
        obtain ⟨e1, e2⟩ := HAT.out.yes _ (List.mem_of_getElem? HP.out) hid
        subst e1 e2
        exact ⟨rfl, rfl⟩
      · have d : (p1 == id) = false := by simp [hid]
        go_wp2
        go_round
        case rel =>
          refine ⟨k + 1, by omega, by go_num, fun i p hi hp => ?_⟩
          by_cases e : i = k
          · subst e
            rw [HP.out] at hp
            cases hp
            exact hid
          · exact HR.out i p (by omega) hp
        case measure => simp [intOf]; omega
    · have d1 : decide ((k : Int) < m) = false := by simp; omega
      have d2 : decide (k < m) = false := by simp; omega
      go_wp2
      go_ret2
      obtain ⟨e1, e2⟩ := HAT.out.no (fun p hp => by
        obtain ⟨i, hi, e⟩ := List.getElem_of_mem hp
        exact HR.out i p (by have := HM.out; omega) (by rw [← e]; exact List.getElem?_eq_getElem hi))
      subst e1 e2
      exact ⟨rfl, rfl⟩

set_option maxRecDepth 1000000 in
set_option maxHeartbeats 2000000 in
theorem rat_any {B : Nat} {w : World} {rb : Nat} {bu mn : Int} {v : Value} {L : List It} (h : RM B w rb bu mn v L) (hlen : L.length ≤ 1000000) {id z : Int} {bb : Bool} (hA : AtP L id z bb) :
    Calls Try.prog 24 #[ptr rb, .int .i64 id] w fun e w' => e = .returned (.tuple #[.int .i64 z, .bool bb]) ∧ w' = w := by
  have q2 := h.c2
  obtain ⟨m, hm⟩ : ∃ m, L.length = m := ⟨_, rfl⟩
  have HC : Hid (∀ i, i < m → ∃ b o c p, v = .slice (some ⟨b, o, none⟩) m c ∧ L[i]? = some p ∧ w.cell? ⟨b, o + i * 3, none⟩ = some (.int .i64 p.1) ∧ w.cell? ⟨b, o + i * 3 + 1, none⟩ = some (.int .i64 p.2.1) ∧ w.cell? ⟨b, o + i * 3 + 2, none⟩ = some (.int .i64 p.2.2)) := fun i hi => by
    have := h.at_ i (by omega)
    rw [hm] at this
    exact this
  obtain ⟨ao, cap, hv, hc1, hc2⟩ := h.form
  subst hv
  have HM := hide_it hm
  have HAT := hide_it hA
  clear h hA
  rw [hm] at q2 hlen hc1
  clear hm
  go_enter Try.func24, Try.ntmps24
  go_wp2
  go_loop [6] (fun iv => ∃ k : Nat, k ≤ m ∧ iv = .int .i64 k ∧ Hid (∀ i p, i < k → L[i]? = some p → ¬ p.2.1 = id)) (fun iv => m - (intOf iv).toNat)
  case atStart => exact ⟨0, Nat.zero_le _, rfl, fun i p hi => by omega⟩
  case round =>
    obtain ⟨k, hk, rfl, HR⟩ := hrel
    by_cases hlt : k < m
    · obtain ⟨b, o, c, p, e, e1, c1, c2, c3⟩ := HC.out k hlt
      obtain ⟨rfl, _, rfl⟩ : ao = some ⟨b, o, none⟩ ∧ L.length = m ∧ cap = c := by simpa using e
      clear e
      obtain ⟨p1, p2, p3⟩ := p
      simp only at c1 c2 c3
      have HP := hide_it e1
      clear e1
      by_cases hid : p2 = id
      · have d : (p2 == id) = true := by simp [hid]
        go_wp2
        go_ret2
        obtain ⟨e1, e2⟩ := HAT.out.yes _ (List.mem_of_getElem? HP.out) hid
        subst e1 e2
        exact ⟨rfl, rfl⟩
      · have d : (p2 == id) = false := by simp [hid]
        go_wp2
        go_round
        case rel =>
          refine ⟨k + 1, by omega, by go_num, fun i p hi hp => ?_⟩
          by_cases e : i = k
          · subst e
            rw [HP.out] at hp
            cases hp
            exact hid
          · exact HR.out i p (by omega) hp
        case measure => simp [intOf]; omega
    · have d1 : decide ((k : Int) < m) = false := by simp; omega
      have d2 : decide (k < m) = false := by simp; omega
      go_wp2
      go_ret2
      obtain ⟨e1, e2⟩ := HAT.out.no (fun p hp => by
        obtain ⟨i, hi, e⟩ := List.getElem_of_mem hp
        exact HR.out i p (by have := HM.out; omega) (by rw [← e]; exact List.getElem?_eq_getElem hi))
      subst e1 e2
      exact ⟨rfl, rfl⟩

/-- The memory of all items. -/
def sumL : List It → Int
  | [] => 0
  | p :: r => p.2.2 + sumL r
theorem sumL_app (a b : List It) : sumL (a ++ b) = sumL a + sumL b := by
  induction a with
  | nil => simp [sumL]
  | cons p r ih => simp only [List.cons_append, sumL, ih]; omega
theorem sumL_nn {L : List It} (h : ∀ p ∈ L, 0 ≤ p.2.2) : 0 ≤ sumL L := by
  induction L with
  | nil => exact Int.le_refl _
  | cons p r ih =>
    have h1 := h p (by simp)
    have h2 := ih (fun q hq => h q (by simp [hq]))
    simp only [sumL]; omega
theorem sumL_take {L : List It} {k : Nat} {p : It} (hp : L[k]? = some p) : sumL (L.take (k + 1)) = sumL (L.take k) + p.2.2 := by
  obtain ⟨h1, h2⟩ := List.getElem?_eq_some_iff.1 hp
  rw [List.take_succ_eq_append_getElem h1, sumL_app, h2]
  simp [sumL]
theorem sumL_le {L : List It} (h : ∀ p ∈ L, 0 ≤ p.2.2) (k : Nat) : 0 ≤ sumL (L.take k) ∧ sumL (L.take k) ≤ sumL L := by
  have h1 := sumL_nn (L := L.take k) (fun p hp => h p (List.mem_of_mem_take hp))
  have h2 := sumL_nn (L := L.drop k) (fun p hp => h p (List.mem_of_mem_drop hp))
  have h3 := sumL_app (L.take k) (L.drop k)
  rw [List.take_append_drop] at h3
  omega

set_option maxRecDepth 1000000 in
set_option maxHeartbeats 2000000 in
theorem rused_any {B : Nat} {w : World} {rb : Nat} {bu mn : Int} {v : Value} {L : List It} (h : RM B w rb bu mn v L) (hlen : L.length ≤ 1000000) (h0 : ∀ p ∈ L, 0 ≤ p.2.2) (hM : sumL L ≤ 9223372036854775807) :
    Calls Try.prog 19 #[ptr rb] w fun e w' => e = .returned (.int .i64 (sumL L)) ∧ w' = w := by
  have q2 := h.c2
  obtain ⟨m, hm⟩ : ∃ m, L.length = m := ⟨_, rfl⟩
  have HC : Hid (∀ i, i < m → ∃ (b o c : Nat) (p : It), v = .slice (some ⟨b, o, none⟩) m c ∧ (sumL (L.take (i + 1)) = sumL (L.take i) + p.2.2 ∧ 0 ≤ sumL (L.take i) ∧ 0 ≤ p.2.2 ∧ sumL (L.take i) + p.2.2 ≤ 9223372036854775807) ∧ w.cell? ⟨b, o + i * 3, none⟩ = some (.int .i64 p.1) ∧ w.cell? ⟨b, o + i * 3 + 1, none⟩ = some (.int .i64 p.2.1) ∧ w.cell? ⟨b, o + i * 3 + 2, none⟩ = some (.int .i64 p.2.2)) := fun i hi => by
    obtain ⟨b, o, c, p, e, e1, c1, c2, c3⟩ := h.at_ i (by omega)
    rw [hm] at e
    have z1 := sumL_take e1
    have z2 := sumL_le h0 i
    have z3 := sumL_le h0 (i + 1)
    have z4 := h0 p (List.mem_of_getElem? e1)
    exact ⟨b, o, c, p, e, ⟨z1, z2.1, z4, by omega⟩, c1, c2, c3⟩
  obtain ⟨ao, cap, hv, hc1, hc2⟩ := h.form
  subst hv
  have H0 : sumL (L.take 0) = 0 := by simp [sumL]
  have HE : Hid (sumL (L.take m) = sumL L) := by rw [List.take_of_length_le (by omega)]; exact rfl
  clear h h0 hM
  rw [hm] at q2 hlen hc1
  clear hm
  generalize sumL L = Q at *
  obtain ⟨U, hU⟩ : ∃ U : Nat → Int, (fun k => sumL (L.take k)) = U := ⟨_, rfl⟩
  have e : ∀ k, sumL (L.take k) = U k := fun k => by rw [← hU]
  simp only [e] at HC H0 HE
  clear hU e
  go_enter Try.func19, Try.ntmps19
  go_wp2
  go_loop [3, 4] (fun uv iv => ∃ k : Nat, k ≤ m ∧ uv = .int .i64 (U k) ∧ iv = .int .i64 k) (fun _ iv => m - (intOf iv).toNat)
  case atStart => exact ⟨0, Nat.zero_le _, by rw [H0], rfl⟩
  case round =>
    obtain ⟨k, hk, rfl, rfl⟩ := hrel
    by_cases hlt : k < m
    · obtain ⟨b, o, c, p, e, ⟨e1, e2, e3, e4⟩, c1, c2, c3⟩ := HC.out k hlt
      obtain ⟨rfl, _, rfl⟩ : ao = some ⟨b, o, none⟩ ∧ L.length = m ∧ cap = c := by simpa using e
      clear e
      obtain ⟨p1, p2, p3⟩ := p
      simp only at c1 c2 c3 e1 e3 e4
      obtain ⟨u, hu⟩ : ∃ u, U k = u := ⟨_, rfl⟩
      rw [hu] at e1 e2 e4 ⊢
      have HU := hide_it e1
      clear e1 hu
      go_wp2
      go_round
      case rel => exact ⟨k + 1, by omega, by rw [HU.out], by go_num⟩
      case measure => simp [intOf]; omega
    · have d1 : decide ((k : Int) < m) = false := by simp; omega
      have d2 : decide (k < m) = false := by simp; omega
      have : k = m := by omega
      subst this
      rw [HE.out]
      go_wp2
      go_ret
      exact ⟨rfl, rfl⟩

set_option maxRecDepth 1000000 in
set_option maxHeartbeats 2000000 in
theorem rslots_any {B : Nat} {w : World} {rb : Nat} {bu mn : Int} {v : Value} {L : List It} (h : RM B w rb bu mn v L) (n : Nat) (hn : min (max mn 0) 16 = (n : Int)) (hlen : L.length ≤ n) :
    Calls Try.prog 22 #[ptr rb] w fun e w' => e = .returned (.int .i64 ((n : Int) - L.length)) ∧ Hid (Below w.heap.size w w') := by
  have q1 := h.c1
  have q2 := h.c2
  obtain ⟨q0, hq0⟩ : ∃ q, max mn 0 = q := ⟨_, rfl⟩
  have m2 : ∀ ts u W, (Builtin.max_ ts u #[.int .i64 mn, .int .i64 0]).run Try.prog W = .ok (.int .i64 q0) W := fun ts u W => by rw [← hq0]; exact max_num _ _ ts u W
  have m3 : ∀ ts u W, (Builtin.min_ ts u #[.int .i64 q0, .int .i64 16]).run Try.prog W = .ok (.int .i64 n) W := fun ts u W => by rw [← hn, hq0]; exact min_num _ _ ts u W
  have hn16 : (n : Int) ≤ 16 := by omega
  have hn16' : n ≤ 16 := by omega
  obtain ⟨ao, cap, hv, hc1, hc2⟩ := h.form
  subst hv
  have HB : Hid (∀ j, Below w.heap.size w (w.drewN j)) := fun j => below_drewN (Below.refl _ _) j
  have HD : Hid (Below w.heap.size w w.drew) := (Below.refl _ _).drew
  clear h hq0 hn
  generalize L.length = m at *
  go_enter Try.func22, Try.ntmps22
  go_upto_region 1 with fail
  go_region
  all_goals
    go_wp2
    go_ret
    first | exact ⟨rfl, HB.out _⟩ | exact ⟨rfl, HD.out⟩
end Go.Proofs.Ytkcbigmccplpiaa
