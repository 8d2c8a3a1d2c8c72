/- Turns in memory; what a call may turn; append told. -/
import Derived.Test.YtlhkahincnchjaaProg
import Derived.Test.YtlhkahincnchjaaMat
import Derived.WalkKit
import Derived.WalkSpells
import Derived.WalkLawsBesides
import Derived.Below
import Derived.ArgAppend
import Derived.Laws.OwnMore
import Derived.OwnWalk
import Derived.Deep.OwnRows
import Derived.Deep.AppendLies
namespace Go.Proofs.Ytlhkahincnchjaa
open Go.RowKit
open M
set_option linter.unusedVariables false
set_option linter.unusedSimpArgs false

theorem ret_bool {a b : Bool} (h : a = b) : Ending.returned (.bool a) = .returned (.bool b) := by rw [h]
theorem ret_int {k : IntKind} {a b : Int} (h : a = b) : Ending.returned (.int k a) = .returned (.int k b) := by rw [h]
theorem hide_it {p : Prop} (h : p) : Hid p := h
theorem block_lt {w : World} {b : Nat} {o : Obj} (h : w.heap[b]? = some o) : b < w.heap.size := by
  rcases Nat.lt_or_ge b w.heap.size with h' | h'
  · exact h'
  · simp [Array.getElem?_eq_none h'] at h
theorem heap_setCell_at {w : World} {g o : Nat} {cur : Array Value} {t : TypeId} {fr : Nat × Nat} (h : w.heap[g]? = some (.cells cur t fr)) (u : Value) : (w.setCell ⟨g, o, none⟩ u).heap[g]? = some (.cells (cur.setIfInBounds o u) t fr) := by
  simp [World.setCell, Array.getElem?_modify, h]
theorem heap_alloc_at {w : World} {b : Nat} (h : w.heap.size = b) (o : Obj) : (w.alloc o).heap[b]? = some o := by subst h; exact heap_alloc_new w o
theorem below_of_eq {w w' : World} (h : w' = w) : Below w.heap.size w w' := by subst h; exact Below.refl _ _
theorem Below.drewN {B : Nat} {a w : World} (h : Below B a w) (n : Nat) : Below B a (w.drewN n) := ⟨h.os, h.tape, h.output, h.size, h.block⟩
abbrev ptr (g : Nat) : Value := .pointer (some ⟨g, 0, none⟩)
theorem info3 : (Try.prog.info? 3).map (fun i => (i.zero, i.size, i.bytes)) = some (some (.int .i64 0), 1, 8) := by kernel_rfl

/-- What the program wrote: only blocks of F, and new ones. -/
structure Turn (F : Nat → Prop) (w w' : World) : Prop where
  os : w'.os = w.os
  tape : w'.tape = w.tape
  output : w'.output = w.output
  size : w.heap.size ≤ w'.heap.size
  block : ∀ k, k < w.heap.size → ¬ F k → w'.heap[k]? = w.heap[k]?
theorem Turn.refl (F : Nat → Prop) (w : World) : Turn F w w := ⟨rfl, rfl, rfl, Nat.le_refl _, fun _ _ _ => rfl⟩
theorem Turn.of_below {F : Nat → Prop} {w w' : World} (h : Below w.heap.size w w') : Turn F w w' := ⟨h.os, h.tape, h.output, h.size, fun k hk _ => h.block k hk⟩
theorem Turn.below {F : Nat → Prop} {w w' : World} {B : Nat} (h : Turn F w w') (hB : B ≤ w.heap.size) (hF : ∀ k, F k → B ≤ k) : Below B w w' :=
  ⟨h.os, h.tape, h.output, h.size, fun k hk => h.block k (by omega) (fun hf => by have := hF k hf; omega)⟩
theorem Turn.trans {F : Nat → Prop} {a b c : World} (h : Turn F a b) (k : Turn F b c) : Turn F a c :=
  ⟨k.os.trans h.os, k.tape.trans h.tape, k.output.trans h.output, Nat.le_trans h.size k.size, fun i hi hf => (k.block i (Nat.lt_of_lt_of_le hi h.size) hf).trans (h.block i hi hf)⟩
theorem Turn.mono {F G : Nat → Prop} {w w' : World} (h : Turn F w w') (hg : ∀ k, k < w.heap.size → F k → G k) : Turn G w w' :=
  ⟨h.os, h.tape, h.output, h.size, fun k hk hn => h.block k hk (fun hf => hn (hg k hk hf))⟩
theorem Turn.setCell {F : Nat → Prop} {a w : World} (h : Turn F a w) {p : Addr} (hp : F p.block ∨ a.heap.size ≤ p.block) (u : Value) : Turn F a (w.setCell p u) :=
  ⟨h.os, h.tape, h.output, by simpa [World.setCell] using h.size, fun k hk hn => by
    rw [Below.heap_setCell _ _ _ _ (fun e => by subst e; rcases hp with hp | hp; exact hn hp; omega)]; exact h.block k hk hn⟩
theorem Turn.drew {F : Nat → Prop} {a w : World} (h : Turn F a w) : Turn F a w.drew := ⟨h.os, h.tape, h.output, h.size, h.block⟩
theorem Turn.alloc {F : Nat → Prop} {a w : World} (h : Turn F a w) (o : Obj) : Turn F a (w.alloc o) :=
  ⟨h.os, h.tape, h.output, by have := h.size; simp; omega, fun k hk hn => by rw [Below.heap_alloc _ _ _ (Nat.lt_of_lt_of_le hk h.size)]; exact h.block k hk hn⟩
theorem Turn.grown {F : Nat → Prop} {a w w' : World} {row : Option Nat} (h : Turn F a w) (hg : w.grownBy w' row) (hr : ∀ k, row = some k → F k ∨ a.heap.size ≤ k) : Turn F a w' :=
  ⟨hg.os.trans h.os, hg.tape.trans h.tape, hg.output.trans h.output, Nat.le_trans h.size hg.size, fun k hk hn => by
    rw [hg.block k (Nat.lt_of_lt_of_le hk h.size) (fun e => by rcases hr k e.symm with hf | hf; exact hn hf; omega)]; exact h.block k hk hn⟩

theorem owns_keep {w w' : World} {base sz n : Nat} {e : TypeId} {v : Value} {xs : List Value} (h : w.ownsRow base e sz v n xs) (hk : ∀ k, v.ownBlock = some k → w'.heap[k]? = w.heap[k]?) : w'.ownsRow base e sz v n xs := by
  refine ⟨h.1, ?_⟩
  rcases h.2 with hn | ⟨g, cap, cur, rfl, hb, hg, rest⟩
  · exact .inl hn
  · exact .inr ⟨g, cap, cur, rfl, hb, by rw [hk g rfl]; exact hg, rest⟩
theorem owns_below {w w' : World} {base sz n : Nat} {e : TypeId} {v : Value} {xs : List Value} (h : w.ownsRow base e sz v n xs) (hb : Below w.heap.size w w') : w'.ownsRow base e sz v n xs :=
  owns_keep h (fun k hk => hb.block k (h.lt k hk).2)
theorem owns_base {w : World} {base base' sz n : Nat} {e : TypeId} {v : Value} {xs : List Value} (h : w.ownsRow base e sz v n xs) (hb : ∀ k, v.ownBlock = some k → base' ≤ k) : w.ownsRow base' e sz v n xs := by
  refine ⟨h.1, ?_⟩
  rcases h.2 with hn | ⟨g, cap, cur, rfl, _, hg, rest⟩
  · exact .inl hn
  · exact .inr ⟨g, cap, cur, rfl, hb g rfl, hg, rest⟩

/-- Behind an append: in the old row, or in a new one. -/
def Fresh (w : World) (v v' : Value) : Prop := v'.ownBlock = v.ownBlock ∨ ∃ k, v'.ownBlock = some k ∧ w.heap.size ≤ k

section
variable {P : Program} (w : World)
theorem run_append_tell (base : Nat) (t ty e : TypeId) (i : TypeInfo) (z : Value) (size bytes : Nat) (ht : P.underlying t = some (.slice e)) (hi : P.info? e = some i) (hz : i.zero = some z)
    (hsize : i.size = size) (hby : i.bytes = bytes) (hzs : z.cells.size = size) (hsz : 0 < size)
    (v : Value) (n : Nat) (xs : List Value) (hown : w.ownsRow base e size v n xs)
    (a : Addr) (m c : Nat) (news : List Value) (hl : news.length = m * size) (hnews : ∀ j u, news[j]? = some u → w.cell? (a.add j) = some u) (h1 : ∀ u ∈ news, u.oneCell' = true)
    (h63 : n + m ≤ maxLen) (hbytes : (n + m) * bytes ≤ 140737488355328) (hbase : base ≤ w.heap.size) :
    ∃ v' w', (Builtin.append_ #[t, t] ty #[v, .slice (some a) m c]).run P w = .ok v' w' ∧ w'.ownsRow base e size v' (n + m) (xs ++ news) ∧ w.grownBy w' v.ownBlock ∧ Fresh w v v' := by
  obtain ⟨v', w', hr, h2, h3, _⟩ := run_append_own (P := P) w base t ty e i z size bytes ht hi hz hsize hby hzs hsz v n xs hown a m c news hl hnews h1 h63 hbytes hbase
  refine ⟨v', w', hr, h2, h3, ?_⟩
  have far : ∀ v2 w2, (Builtin.append_ #[t, t] ty #[v, .slice (some a) m c]).run P w = .ok v2 w2 → w2.ownsRow w.heap.size e size v2 (n + m) (xs ++ news) → (v.ownBlock = none ∨ ∃ k, v2.ownBlock = some k) → Fresh w v v' := by
    intro v2 w2 hr2 k2 hv
    have he := hr.symm.trans hr2
    have e1 : v' = v2 := by injection he
    subst e1
    cases hb : v'.ownBlock with
    | none =>
      rcases hv with hv | ⟨k, hk⟩
      · exact .inl (by rw [hv, hb])
      · rw [hb] at hk; cases hk
    | some k => exact .inr ⟨k, hb, (k2.lt k hb).1⟩
  rcases hown.2 with ⟨rfl, rfl⟩ | ⟨g, cap, cur, rfl, hbg, hg, hnc, hcm, hcs, htake⟩
  · have hx : xs = [] := List.eq_nil_of_length_eq_zero (by simpa using hown.1)
    subst hx
    obtain ⟨v2, w2, hr2, k2, _, _⟩ := run_append_own (P := P) w w.heap.size t ty e i z size bytes ht hi hz hsize hby hzs hsz (.slice none 0 0) 0 [] (World.ownsRow_nil w _ e size) a m c news hl hnews h1 h63 hbytes (Nat.le_refl _)
    exact far v2 w2 hr2 k2 (.inl rfl)
  · by_cases hroom : n + m ≤ cap
    · subst hsize
      have hfit : n * i.size + news.length ≤ cur.size := by rw [hl, hcs, ← Nat.add_mul]; exact Nat.mul_le_mul_right _ hroom
      have hr2 := run_append_room (P := P) w t ty e i ht hi g n cap cur hg a m c news hl hnews h1 hroom hfit
      have he := hr.symm.trans hr2
      have e1 : v' = .slice (some ⟨g, 0, none⟩) (n + m) cap := by injection he
      subst e1
      exact .inl rfl
    · obtain ⟨v2, w2, hr2, k2, _⟩ := run_append_arg_grows (P := P) w t ty e i z size bytes ht hi hz hsize hby hzs hsz ⟨g, 0, none⟩ n cap xs hown.1 (hown.cells (g := g) rfl) a m c news hl hnews (by omega) h63 hbytes
      refine far v2 w2 hr2 k2 (.inr ?_)
      rcases k2.2 with ⟨rfl, hz0⟩ | ⟨g2, c2, cur2, rfl, _⟩
      · omega
      · exact ⟨g2, rfl⟩

theorem wpList_append_tell {ops : Array Oper} {rest : List Oper} {o : Oper} {a : Act} {Q : Exit → Act → World → Prop} (hgd : o.guard = none) (s x : Operand) (t : TypeId)
    (ho : o.op = .call { callee := .builtin .append, args := #[s, x], argTypes := #[t, t] })
    (base : Nat) (e : TypeId) (i : TypeInfo) (z : Value) (size bytes : Nat) (ht : P.underlying t = some (.slice e)) (hi : P.info? e = some i) (hz : i.zero = some z)
    (hsize : i.size = size) (hby : i.bytes = bytes) (hzs : z.cells.size = size) (hsz : 0 < size)
    (v : Value) (n : Nat) (xs : List Value) (hs : a.eval s = v) (hown : w.ownsRow base e size v n xs)
    (ad : Addr) (m c : Nat) (news : List Value) (hx : a.eval x = .slice (some ad) m c) (hl : news.length = m * size) (hnews : ∀ j u, news[j]? = some u → w.cell? (ad.add j) = some u) (h1 : ∀ u ∈ news, u.oneCell' = true)
    (h63 : n + m ≤ maxLen) (hbytes : (n + m) * bytes ≤ 140737488355328) (hbase : base ≤ w.heap.size)
    (h : ∀ v' w', w'.ownsRow base e size v' (n + m) (xs ++ news) → w.grownBy w' v.ownBlock → Fresh w v v' → wpList P ops Q rest (a.put o.dst v') w') : wpList P ops Q (o :: rest) a w := by
  obtain ⟨v', w', hr, h2, h3, h4⟩ := run_append_tell (P := P) w base t o.type e i z size bytes ht hi hz hsize hby hzs hsz v n xs hown ad m c news hl hnews h1 h63 hbytes hbase
  refine wpList_plain hgd fun K hK => ?_
  unfold Oper.wp execOp
  simp only [ho, resolve, invoke, builtin, Sem.run_bind, Sem.run_pure, Result.andThen_ok, List.map_toArray, List.map_cons, List.map_nil, hs, hx, hr]
  exact hK _ _ (h v' w' h2 h3 h4)
end


theorem run_append_none2 {P : Program} (w : World) (t ty e : TypeId) (i : TypeInfo) (ht : P.underlying t = some (.slice e)) (hi : P.info? e = some i) (base : Option Addr) (n c : Nat) (hle : n ≤ c) :
    (Builtin.append_ #[t, t] ty #[.slice base n c, .slice none 0 0]).run P w = .ok (.slice base n c) w := by
  cases base <;> simp [Builtin.append_, run_underlying ht, sizeOf, typeInfo, hi, Builtin.lenOf, Builtin.firstCells, loadCells, loadCellsFrom, storeCells, hle]

theorem own_slice {w : World} {base sz n : Nat} {e : TypeId} {v : Value} {xs : List Value} (h : w.ownsRow base e sz v n xs) : ∃ ao cap, v = .slice ao n cap := by
  rcases h.2 with ⟨rfl, q⟩ | ⟨ib, cap, cur, rfl, _⟩
  · exact ⟨none, 0, by rw [q]⟩
  · exact ⟨_, cap, rfl⟩


/-- Numbers in a row. -/
def iRow (f : Nat → Int) (n : Nat) : Array Value := ((List.range n).map fun i => Value.int .i64 (f i)).toArray
theorem iRow_at (f : Nat → Int) (n i : Nat) (h : i < n) : (iRow f n)[i]? = some (.int .i64 (f i)) := by simp [iRow, h]
theorem iRow_size (f : Nat → Int) (n : Nat) : (iRow f n).size = n := by simp [iRow]
/-- The cells of members. -/
def mrow (n : Nat) (I W C : Nat → Int) : List Value := (List.range n).flatMap fun j => [.int .i64 (I j), .int .i64 (W j), .int .i64 (C j)]
theorem mrow_succ (n : Nat) (I W C : Nat → Int) : mrow (n + 1) I W C = mrow n I W C ++ [.int .i64 (I n), .int .i64 (W n), .int .i64 (C n)] := by simp [mrow, List.range_succ]
theorem mrow_len (n : Nat) (I W C : Nat → Int) : (mrow n I W C).length = n * 3 := by
  induction n with
  | zero => rfl
  | succ n ih => rw [mrow_succ, List.length_append, ih]; simp; omega
theorem mrow_at (n : Nat) (I W C : Nat → Int) (j : Nat) (hj : j < n) : (mrow n I W C)[j * 3]? = some (.int .i64 (I j)) ∧ (mrow n I W C)[j * 3 + 1]? = some (.int .i64 (W j)) ∧ (mrow n I W C)[j * 3 + 2]? = some (.int .i64 (C j)) := by
  induction n with
  | zero => omega
  | succ n ih =>
    rw [mrow_succ]
    by_cases e : j = n
    · subst e
      refine ⟨?_, ?_, ?_⟩ <;> rw [List.getElem?_append_right (by rw [mrow_len]; omega), mrow_len]
      · rw [Nat.sub_self]; rfl
      · rw [Nat.add_sub_cancel_left]; rfl
      · rw [Nat.add_sub_cancel_left]; rfl
    · obtain ⟨h0, h1, h2⟩ := ih (by omega)
      refine ⟨?_, ?_, ?_⟩ <;> rw [List.getElem?_append_left (by rw [mrow_len]; omega)]
      · exact h0
      · exact h1
      · exact h2
theorem mrow_one (n : Nat) (I W C : Nat → Int) : ∀ u ∈ mrow n I W C, u.oneCell' = true := by
  intro u hu
  obtain ⟨j, _, h⟩ := List.mem_flatMap.1 hu
  simp at h
  rcases h with h | h | h <;> subst h <;> rfl
theorem mrow_congr {n : Nat} {I W C I' W' C' : Nat → Int} (h1 : ∀ j, j < n → I j = I' j) (h2 : ∀ j, j < n → W j = W' j) (h3 : ∀ j, j < n → C j = C' j) : mrow n I W C = mrow n I' W' C' := by
  induction n with
  | zero => rfl
  | succ n ih => rw [mrow_succ, mrow_succ, ih (fun j hj => h1 j (by omega)) (fun j hj => h2 j (by omega)) (fun j hj => h3 j (by omega)), h1 n (by omega), h2 n (by omega), h3 n (by omega)]
/-- Which cell it is. -/
theorem mrow_cut {n t : Nat} (ht : t < n * 3) : ∃ j r, j < n ∧ r < 3 ∧ t = j * 3 + r := ⟨t / 3, t % 3, by omega, Nat.mod_lt _ (by omega), by omega⟩
theorem mrow_ext {n : Nat} {I W C : Nat → Int} {L : List Value} (hl : L.length = n * 3) (h : ∀ j, j < n → L[j * 3]? = some (.int .i64 (I j)) ∧ L[j * 3 + 1]? = some (.int .i64 (W j)) ∧ L[j * 3 + 2]? = some (.int .i64 (C j))) : L = mrow n I W C := by
  refine List.ext_getElem? (fun t => ?_)
  by_cases ht : t < n * 3
  · obtain ⟨j, r, hj, hr, rfl⟩ := mrow_cut ht
    obtain ⟨a0, a1, a2⟩ := h j hj
    obtain ⟨b0, b1, b2⟩ := mrow_at n I W C j hj
    match r, hr with
    | 0, _ => exact a0.trans b0.symm
    | 1, _ => exact a1.trans b1.symm
    | 2, _ => exact a2.trans b2.symm
  · rw [List.getElem?_eq_none (by omega), List.getElem?_eq_none (by rw [mrow_len]; omega)]
theorem mrow_set {n k : Nat} (hk : k < n) (I W C : Nat → Int) (v : Int) : (mrow n I W C).set (k * 3 + 2) (.int .i64 v) = mrow n I W (upd C k v) := by
  refine mrow_ext (by rw [List.length_set, mrow_len]) (fun j hj => ?_)
  obtain ⟨b0, b1, b2⟩ := mrow_at n I W C j hj
  refine ⟨by rw [List.getElem?_set_ne (by omega)]; exact b0, by rw [List.getElem?_set_ne (by omega)]; exact b1, ?_⟩
  by_cases e : j = k
  · subst e
    rw [upd_same, List.getElem?_set_self (by rw [mrow_len]; omega)]
  · rw [upd_other _ _ e, List.getElem?_set_ne (by omega)]; exact b2
theorem owns_set3 {w : World} {base g n cap k : Nat} {I W C : Nat → Int} {e : TypeId} (h : w.ownsRow base e 3 (.slice (some ⟨g, 0, none⟩) n cap) n (mrow n I W C)) (hk : k < n) (v : Int) : (w.setCell ⟨g, k * 3 + 2, none⟩ (.int .i64 v)).ownsRow base e 3 (.slice (some ⟨g, 0, none⟩) n cap) n (mrow n I W (upd C k v)) := by
  refine ⟨mrow_len .., ?_⟩
  rcases h.2 with ⟨q, _⟩ | ⟨g', c, cur, q, hb, hg, h1, h2, h3, h4⟩
  · cases q
  · cases q
    refine .inr ⟨g, cap, cur.setIfInBounds (k * 3 + 2) (.int .i64 v), rfl, hb, by rw [heap_setCell_at (o := k * 3 + 2) hg], h1, h2, by rw [Array.size_setIfInBounds]; exact h3, ?_⟩
    rw [Array.toList_setIfInBounds, ← mrow_set hk, ← h4, List.take_set]
theorem owns_at3 {w : World} {base n : Nat} {v : Value} {I W C : Nat → Int} {e : TypeId} (h : w.ownsRow base e 3 v n (mrow n I W C)) : ∃ ao cap, v = .slice ao n cap ∧ n ≤ cap ∧ cap ≤ maxLen ∧ ∀ j, j < n → ∃ g, ao = some ⟨g, 0, none⟩ ∧ base ≤ g ∧ g < w.heap.size ∧ w.cell? ⟨g, j * 3, none⟩ = some (.int .i64 (I j)) ∧ w.cell? ⟨g, j * 3 + 1, none⟩ = some (.int .i64 (W j)) ∧ w.cell? ⟨g, j * 3 + 2, none⟩ = some (.int .i64 (C j)) ∧ ∀ i, w.frozen? ⟨g, i, none⟩ = false := by
  rcases h.2 with ⟨rfl, q⟩ | ⟨g, c, cur, rfl, hb, hg, h1, h2, h3, h4⟩
  · subst q
    exact ⟨none, 0, rfl, Nat.le_refl _, Nat.zero_le _, fun j hj => by omega⟩
  · refine ⟨_, c, rfl, h1, h2, fun j hj => ⟨g, rfl, hb, block_lt hg, ?_⟩⟩
    have hc : ∀ t u, t < n * 3 → (mrow n I W C)[t]? = some u → w.cell? ⟨g, t, none⟩ = some u := fun t u ht hu => by
      rw [cell_of_row w g t _ _ _ hg, ← Array.getElem?_toList, ← hu, ← h4, List.getElem?_take_of_lt ht]
    obtain ⟨b0, b1, b2⟩ := mrow_at n I W C j hj
    exact ⟨hc _ _ (by omega) b0, hc _ _ (by omega) b1, hc _ _ (by omega) b2, fun i => by simp [World.frozen?, hg]⟩

/-- Turns at block t: its members' row is v. The program's own (e = 64, tt = 62), and the document's (50, 48). -/
structure TM (e tt : TypeId) (w : World) (t : Nat) (x : Tn) (v : Value) : Prop where
  blk : w.heap[t]? = some (.cells #[.int .i64 x.q, v, .int .i64 x.k] tt)
  row : w.ownsRow 0 e 3 v x.n (mrow x.n x.I x.W x.C)
  tv : v.ownBlock ≠ some t
def Foot (t : Nat) (v : Value) (k : Nat) : Prop := k = t ∨ v.ownBlock = some k
section
variable {e tt : TypeId} {w w' W : World} {t : Nat} {x y : Tn} {v : Value}
theorem TM.c0 (h : TM e tt w t x v) : w.cell? ⟨t, 0, none⟩ = some (.int .i64 x.q) := by rw [cell_of_row w t 0 _ _ _ h.blk]; rfl
theorem TM.c1 (h : TM e tt w t x v) : w.cell? ⟨t, 1, none⟩ = some v := by rw [cell_of_row w t 1 _ _ _ h.blk]; rfl
theorem TM.c2 (h : TM e tt w t x v) : w.cell? ⟨t, 2, none⟩ = some (.int .i64 x.k) := by rw [cell_of_row w t 2 _ _ _ h.blk]; rfl
theorem TM.fr (h : TM e tt w t x v) (i : Nat) : w.frozen? ⟨t, i, none⟩ = false := by simp [World.frozen?, h.blk]
theorem TM.lt (h : TM e tt w t x v) (k : Nat) (hk : Foot t v k) : k < w.heap.size := by
  rcases hk with rfl | hk
  · exact block_lt h.blk
  · exact (h.row.lt k hk).2
theorem TM.keep (h : TM e tt w t x v) (hk : ∀ k, Foot t v k → w'.heap[k]? = w.heap[k]?) : TM e tt w' t x v :=
  ⟨by rw [hk t (.inl rfl)]; exact h.blk, owns_keep h.row (fun k q => hk k (.inr q)), h.tv⟩
theorem TM.below (h : TM e tt w t x v) (hb : Below w.heap.size w w') : TM e tt w' t x v := h.keep (fun k hk => hb.block k (h.lt k hk))
theorem TM.turn (h : TM e tt w t x v) {F : Nat → Prop} (ht : Turn F w w') (hF : ∀ k, Foot t v k → ¬ F k) : TM e tt w' t x v := h.keep (fun k hk => ht.block k (h.lt k hk) (hF k hk))
/-- What can be read of it. -/
theorem TM.form (h : TM e tt w t x v) : ∃ ao cap, v = .slice ao x.n cap ∧ x.n ≤ cap ∧ cap ≤ maxLen ∧ ∀ j, j < x.n → ∃ g, ao = some ⟨g, 0, none⟩ ∧ 0 ≤ g ∧ g < w.heap.size ∧ w.cell? ⟨g, j * 3, none⟩ = some (.int .i64 (x.I j)) ∧ w.cell? ⟨g, j * 3 + 1, none⟩ = some (.int .i64 (x.W j)) ∧ w.cell? ⟨g, j * 3 + 2, none⟩ = some (.int .i64 (x.C j)) ∧ ∀ i, w.frozen? ⟨g, i, none⟩ = false := owns_at3 h.row
theorem TM.setK (h : TM e tt w t x v) (k : Nat) : TM e tt (w.setCell ⟨t, 2, none⟩ (.int .i64 k)) t { x with k := k } v :=
  ⟨by rw [heap_setCell_at (o := 2) h.blk]; rfl, owns_keep h.row (fun k hk => Below.heap_setCell _ _ _ _ (fun e => h.tv (by rw [hk, e]))), h.tv⟩
theorem TM.setC {g cap : Nat} (h : TM e tt w t x (.slice (some ⟨g, 0, none⟩) x.n cap)) {k : Nat} (hk : k < x.n) (c : Int) : TM e tt (w.setCell ⟨g, k * 3 + 2, none⟩ (.int .i64 c)) t { x with C := upd x.C k c } (.slice (some ⟨g, 0, none⟩) x.n cap) := by
  have hne : g ≠ t := fun q => h.tv (by rw [q]; rfl)
  exact ⟨by rw [Below.heap_setCell _ _ _ _ (fun q => hne q.symm)]; exact h.blk, owns_set3 h.row hk c, h.tv⟩

/-- F, and what is new. -/
def Grow (F : Nat → Prop) (w w' : World) (k : Nat) : Prop := F k ∨ (w.heap.size ≤ k ∧ k < w'.heap.size)
/-- Turns; its blocks are of F. -/
def MO (e tt : TypeId) (w : World) (F : Nat → Prop) (t : Nat) (x : Tn) : Prop := ∃ v, TM e tt w t x v ∧ ∀ k, Foot t v k → F k
theorem MO.turn {F G : Nat → Prop} (h : MO e tt w F t x) (u : Turn G w w') (hd : ∀ k, F k → ¬ G k) : MO e tt w' F t x := by
  obtain ⟨v, h1, h2⟩ := h
  exact ⟨v, h1.turn u (fun k hk => hd k (h2 k hk)), h2⟩
theorem MO.below {F : Nat → Prop} (h : MO e tt w F t x) (hb : Below w.heap.size w w') : MO e tt w' F t x := by
  obtain ⟨v, h1, h2⟩ := h
  exact ⟨v, h1.below hb, h2⟩
theorem MO.mono {F G : Nat → Prop} (h : MO e tt w F t x) (hg : ∀ k, k < w.heap.size → F k → G k) : MO e tt w G t x := by
  obtain ⟨v, h1, h2⟩ := h
  exact ⟨v, h1, fun k hk => hg k (h1.lt k hk) (h2 k hk)⟩
theorem MO.put {F : Nat → Prop} (h : MO e tt w F t x) (hb : Below w.heap.size w w') : MO e tt w' (Grow F w w') t x ∧ Turn F w w' := ⟨(h.below hb).mono (fun k _ hk => .inl hk), Turn.of_below hb⟩
theorem MO.lt {F : Nat → Prop} (h : MO e tt w F t x) : t < w.heap.size := by
  obtain ⟨v, h1, h2⟩ := h
  exact block_lt h1.blk
/-- The row is another one, or the same row with more or less in it. -/
theorem TM.putV (h : TM e tt w t x v) {F : Nat → Prop} (hF : ∀ k, Foot t v k → F k) (ht : Turn (fun k => v.ownBlock = some k) w W) {v' : Value} {n : Nat} {I Wt C : Nat → Int} (ho : W.ownsRow 0 e 3 v' n (mrow n I Wt C)) (hf : Fresh w v v') :
    TM e tt (W.setCell ⟨t, 1, none⟩ v') t ⟨x.q, n, x.k, I, Wt, C⟩ v' ∧ (∀ k, Foot t v' k → Grow F w (W.setCell ⟨t, 1, none⟩ v') k) ∧ Turn F w (W.setCell ⟨t, 1, none⟩ v') := by
  have hl := block_lt h.blk
  have hsz := ht.size
  have hz : (W.setCell ⟨t, 1, none⟩ v').heap.size = W.heap.size := by simp [World.setCell]
  have bt : W.heap[t]? = some (.cells #[.int .i64 x.q, v, .int .i64 x.k] tt) := by rw [ht.block t hl h.tv]; exact h.blk
  have vt : v'.ownBlock ≠ some t := by
    rcases hf with q | ⟨k, q, hk⟩
    · rw [q]; exact h.tv
    · rw [q]; intro r; cases r; omega
  refine ⟨⟨by rw [heap_setCell_at (o := 1) bt]; rfl, owns_keep ho (fun k hk => Below.heap_setCell _ _ _ _ (fun q => vt (by rw [hk, q]))), vt⟩, fun k hk => ?_, ?_⟩
  · rcases hk with rfl | hk
    · exact .inl (hF _ (.inl rfl))
    · rcases hf with q | ⟨j, q, hj⟩
      · rw [q] at hk; exact .inl (hF k (.inr hk))
      · have := (ho.lt k hk).2
        rw [q] at hk; cases hk
        exact .inr ⟨hj, by rw [hz]; exact this⟩
  · exact (ht.mono (fun k _ hk => hF k (.inr hk))).setCell (p := ⟨t, 1, none⟩) (.inl (hF _ (.inl rfl))) _
end
section
variable {e tt : TypeId} {w w' w1 : World} {F G : Nat → Prop} {t : Nat} {x y : Tn}
/-- What a call made of the turns that were there in w. -/
structure St (e tt : TypeId) (F : Nat → Prop) (w w' : World) (t : Nat) (x : Tn) : Prop where
  to : MO e tt w' (Grow F w w') t x
  tu : Turn F w w'
theorem St.refl (h : MO e tt w F t x) : St e tt F w w t x := ⟨h.mono (fun k _ hk => .inl hk), Turn.refl _ _⟩
theorem st_next (h : St e tt F w w1 t x) (h1 : MO e tt w' (Grow (Grow F w w1) w1 w') t y) (t1 : Turn (Grow F w w1) w1 w') : St e tt F w w' t y := by
  have hs1 := h.tu.size
  have hs2 := t1.size
  refine ⟨h1.mono (fun k _ hk => ?_), ⟨t1.os.trans h.tu.os, t1.tape.trans h.tu.tape, t1.output.trans h.tu.output, by omega, fun k hk hf => ?_⟩⟩
  · rcases hk with q | q
    · rcases q with z | z
      · exact .inl z
      · exact .inr ⟨z.1, by omega⟩
    · exact .inr ⟨by omega, q.2⟩
  · rw [t1.block k (by omega) (fun q => by rcases q with z | z; exact hf z; omega)]
    exact h.tu.block k hk hf
theorem St.trans (h : St e tt F w w1 t x) (h1 : St e tt (Grow F w w1) w1 w' t y) : St e tt F w w' t y := st_next h h1.to h1.tu
theorem St.below (h : St e tt F w w1 t x) (hb : Below w1.heap.size w1 w') : St e tt F w w' t x := by
  obtain ⟨a, b⟩ := h.to.put hb
  exact st_next h a b
end
end Go.Proofs.Ytlhkahincnchjaa
