/- A heap in memory; what a call may turn; append told. -/
import Derived.Test.YtlpbjafdmhcmgaaProg
import Derived.Test.YtlpbjafdmhcmgaaMat
import Derived.WalkKit
import Derived.WalkSpells
import Derived.WalkLawsBesides
import Derived.Below
import Derived.ArgAppend
import Derived.Laws.OwnMore
import Derived.OwnWalk
import Derived.Deep.OwnRows
namespace Go.Proofs.Ytlpbjafdmhcmgaa
open Go.RowKit
open M
set_option linter.unusedVariables false
set_option linter.unusedSimpArgs false

theorem ret_bool {a b : Bool} (h : a = b) : Ending.returned (.bool a) = .returned (.bool b) := by rw [h]
theorem ret_int {k : IntKind} {a b : Int} (h : a = b) : Ending.returned (.int k a) = .returned (.int k b) := by rw [h]
theorem hide_it {p : Prop} (h : p) : Hid p := h

theorem block_lt {w : World} {b : Nat} {o : Obj} (h : w.heap[b]? = some o) : b < w.heap.size := by
  rcases Nat.lt_or_ge b w.heap.size with h' | h'
  · exact h'
  · simp [Array.getElem?_eq_none h'] at h

/-- What the program wrote: only blocks of F, and new ones. -/
structure Turn (F : Nat → Prop) (w w' : World) : Prop where
  os : w'.os = w.os
  tape : w'.tape = w.tape
  output : w'.output = w.output
  size : w.heap.size ≤ w'.heap.size
  block : ∀ k, k < w.heap.size → ¬ F k → w'.heap[k]? = w.heap[k]?
theorem Turn.refl (F : Nat → Prop) (w : World) : Turn F w w := ⟨rfl, rfl, rfl, Nat.le_refl _, fun _ _ _ => rfl⟩
theorem Turn.of_below {F : Nat → Prop} {w w' : World} (h : Below w.heap.size w w') : Turn F w w' := ⟨h.os, h.tape, h.output, h.size, fun k hk _ => h.block k hk⟩
theorem Turn.below {F : Nat → Prop} {w w' : World} {B : Nat} (h : Turn F w w') (hB : B ≤ w.heap.size) (hF : ∀ k, F k → B ≤ k) : Below B w w' :=
  ⟨h.os, h.tape, h.output, h.size, fun k hk => h.block k (by omega) (fun hf => by have := hF k hf; omega)⟩
theorem Turn.trans {F : Nat → Prop} {a b c : World} (h : Turn F a b) (k : Turn F b c) : Turn F a c :=
  ⟨k.os.trans h.os, k.tape.trans h.tape, k.output.trans h.output, Nat.le_trans h.size k.size, fun i hi hf => (k.block i (Nat.lt_of_lt_of_le hi h.size) hf).trans (h.block i hi hf)⟩
theorem Turn.mono {F G : Nat → Prop} {w w' : World} (h : Turn F w w') (hg : ∀ k, k < w.heap.size → F k → G k) : Turn G w w' :=
  ⟨h.os, h.tape, h.output, h.size, fun k hk hn => h.block k hk (fun hf => hn (hg k hk hf))⟩
theorem Turn.setCell {F : Nat → Prop} {a w : World} (h : Turn F a w) {p : Addr} (hp : F p.block ∨ a.heap.size ≤ p.block) (u : Value) : Turn F a (w.setCell p u) :=
  ⟨h.os, h.tape, h.output, by simpa [World.setCell] using h.size, fun k hk hn => by
    rw [Below.heap_setCell _ _ _ _ (fun e => by subst e; rcases hp with hp | hp; exact hn hp; omega)]; exact h.block k hk hn⟩
theorem Turn.drew {F : Nat → Prop} {a w : World} (h : Turn F a w) : Turn F a w.drew := ⟨h.os, h.tape, h.output, h.size, h.block⟩
theorem Turn.alloc {F : Nat → Prop} {a w : World} (h : Turn F a w) (o : Obj) : Turn F a (w.alloc o) :=
  ⟨h.os, h.tape, h.output, by have := h.size; simp; omega, fun k hk hn => by rw [Below.heap_alloc _ _ _ (Nat.lt_of_lt_of_le hk h.size)]; exact h.block k hk hn⟩
theorem Turn.grown {F : Nat → Prop} {a w w' : World} {row : Option Nat} (h : Turn F a w) (hg : w.grownBy w' row) (hr : ∀ k, row = some k → F k ∨ a.heap.size ≤ k) : Turn F a w' :=
  ⟨hg.os.trans h.os, hg.tape.trans h.tape, hg.output.trans h.output, Nat.le_trans h.size hg.size, fun k hk hn => by
    rw [hg.block k (Nat.lt_of_lt_of_le hk h.size) (fun e => by rcases hr k e.symm with hf | hf; exact hn hf; omega)]; exact h.block k hk hn⟩

theorem owns_keep {w w' : World} {base sz n : Nat} {e : TypeId} {v : Value} {xs : List Value} (h : w.ownsRow base e sz v n xs) (hk : ∀ k, v.ownBlock = some k → w'.heap[k]? = w.heap[k]?) : w'.ownsRow base e sz v n xs := by
  refine ⟨h.1, ?_⟩
  rcases h.2 with hn | ⟨g, cap, cur, rfl, hb, hg, rest⟩
  · exact .inl hn
  · exact .inr ⟨g, cap, cur, rfl, hb, by rw [hk g rfl]; exact hg, rest⟩
theorem owns_below {w w' : World} {base sz n : Nat} {e : TypeId} {v : Value} {xs : List Value} (h : w.ownsRow base e sz v n xs) (hb : Below w.heap.size w w') : w'.ownsRow base e sz v n xs :=
  owns_keep h (fun k hk => hb.block k (h.lt k hk).2)
theorem owns_base {w : World} {base base' sz n : Nat} {e : TypeId} {v : Value} {xs : List Value} (h : w.ownsRow base e sz v n xs) (hb : ∀ k, v.ownBlock = some k → base' ≤ k) : w.ownsRow base' e sz v n xs := by
  refine ⟨h.1, ?_⟩
  rcases h.2 with hn | ⟨g, cap, cur, rfl, _, hg, rest⟩
  · exact .inl hn
  · exact .inr ⟨g, cap, cur, rfl, hb g rfl, hg, rest⟩

/-- Behind an append: in the old row, or in a new one. -/
def Fresh (w : World) (v v' : Value) : Prop := v'.ownBlock = v.ownBlock ∨ ∃ k, v'.ownBlock = some k ∧ w.heap.size ≤ k

section
variable {P : Program} (w : World)
theorem run_append_tell (base : Nat) (t ty e : TypeId) (i : TypeInfo) (z : Value) (size bytes : Nat) (ht : P.underlying t = some (.slice e)) (hi : P.info? e = some i) (hz : i.zero = some z)
    (hsize : i.size = size) (hby : i.bytes = bytes) (hzs : z.cells.size = size) (hsz : 0 < size)
    (v : Value) (n : Nat) (xs : List Value) (hown : w.ownsRow base e size v n xs)
    (a : Addr) (m c : Nat) (news : List Value) (hl : news.length = m * size) (hnews : ∀ j u, news[j]? = some u → w.cell? (a.add j) = some u) (h1 : ∀ u ∈ news, u.oneCell' = true)
    (h63 : n + m ≤ maxLen) (hbytes : (n + m) * bytes ≤ 140737488355328) (hbase : base ≤ w.heap.size) :
    ∃ v' w', (Builtin.append_ #[t, t] ty #[v, .slice (some a) m c]).run P w = .ok v' w' ∧ w'.ownsRow base e size v' (n + m) (xs ++ news) ∧ w.grownBy w' v.ownBlock ∧ Fresh w v v' := by
  obtain ⟨v', w', hr, h2, h3, _⟩ := run_append_own (P := P) w base t ty e i z size bytes ht hi hz hsize hby hzs hsz v n xs hown a m c news hl hnews h1 h63 hbytes hbase
  refine ⟨v', w', hr, h2, h3, ?_⟩
  have far : ∀ v2 w2, (Builtin.append_ #[t, t] ty #[v, .slice (some a) m c]).run P w = .ok v2 w2 → w2.ownsRow w.heap.size e size v2 (n + m) (xs ++ news) → (v.ownBlock = none ∨ ∃ k, v2.ownBlock = some k) → Fresh w v v' := by
    intro v2 w2 hr2 k2 hv
    have he := hr.symm.trans hr2
    have e1 : v' = v2 := by injection he
    subst e1
    cases hb : v'.ownBlock with
    | none =>
      rcases hv with hv | ⟨k, hk⟩
      · exact .inl (by rw [hv, hb])
      · rw [hb] at hk; cases hk
    | some k => exact .inr ⟨k, hb, (k2.lt k hb).1⟩
  rcases hown.2 with ⟨rfl, rfl⟩ | ⟨g, cap, cur, rfl, hbg, hg, hnc, hcm, hcs, htake⟩
  · have hx : xs = [] := List.eq_nil_of_length_eq_zero (by simpa using hown.1)
    subst hx
    obtain ⟨v2, w2, hr2, k2, _, _⟩ := run_append_own (P := P) w w.heap.size t ty e i z size bytes ht hi hz hsize hby hzs hsz (.slice none 0 0) 0 [] (World.ownsRow_nil w _ e size) a m c news hl hnews h1 h63 hbytes (Nat.le_refl _)
    exact far v2 w2 hr2 k2 (.inl rfl)
  · by_cases hroom : n + m ≤ cap
    · subst hsize
      have hfit : n * i.size + news.length ≤ cur.size := by rw [hl, hcs, ← Nat.add_mul]; exact Nat.mul_le_mul_right _ hroom
      have hr2 := run_append_room (P := P) w t ty e i ht hi g n cap cur hg a m c news hl hnews h1 hroom hfit
      have he := hr.symm.trans hr2
      have e1 : v' = .slice (some ⟨g, 0, none⟩) (n + m) cap := by injection he
      subst e1
      exact .inl rfl
    · obtain ⟨v2, w2, hr2, k2, _⟩ := run_append_arg_grows (P := P) w t ty e i z size bytes ht hi hz hsize hby hzs hsz ⟨g, 0, none⟩ n cap xs hown.1 (hown.cells (g := g) rfl) a m c news hl hnews (by omega) h63 hbytes
      refine far v2 w2 hr2 k2 (.inr ?_)
      rcases k2.2 with ⟨rfl, hz0⟩ | ⟨g2, c2, cur2, rfl, _⟩
      · omega
      · exact ⟨g2, rfl⟩

theorem wpList_append_tell {ops : Array Oper} {rest : List Oper} {o : Oper} {a : Act} {Q : Exit → Act → World → Prop} (hgd : o.guard = none) (s x : Operand) (t : TypeId)
    (ho : o.op = .call { callee := .builtin .append, args := #[s, x], argTypes := #[t, t] })
    (base : Nat) (e : TypeId) (i : TypeInfo) (z : Value) (size bytes : Nat) (ht : P.underlying t = some (.slice e)) (hi : P.info? e = some i) (hz : i.zero = some z)
    (hsize : i.size = size) (hby : i.bytes = bytes) (hzs : z.cells.size = size) (hsz : 0 < size)
    (v : Value) (n : Nat) (xs : List Value) (hs : a.eval s = v) (hown : w.ownsRow base e size v n xs)
    (ad : Addr) (m c : Nat) (news : List Value) (hx : a.eval x = .slice (some ad) m c) (hl : news.length = m * size) (hnews : ∀ j u, news[j]? = some u → w.cell? (ad.add j) = some u) (h1 : ∀ u ∈ news, u.oneCell' = true)
    (h63 : n + m ≤ maxLen) (hbytes : (n + m) * bytes ≤ 140737488355328) (hbase : base ≤ w.heap.size)
    (h : ∀ v' w', w'.ownsRow base e size v' (n + m) (xs ++ news) → w.grownBy w' v.ownBlock → Fresh w v v' → wpList P ops Q rest (a.put o.dst v') w') : wpList P ops Q (o :: rest) a w := by
  obtain ⟨v', w', hr, h2, h3, h4⟩ := run_append_tell (P := P) w base t o.type e i z size bytes ht hi hz hsize hby hzs hsz v n xs hown ad m c news hl hnews h1 h63 hbytes hbase
  refine wpList_plain hgd fun K hK => ?_
  unfold Oper.wp execOp
  simp only [ho, resolve, invoke, builtin, Sem.run_bind, Sem.run_pure, Result.andThen_ok, List.map_toArray, List.map_cons, List.map_nil, hs, hx, hr]
  exact hK _ _ (h v' w' h2 h3 h4)
end

theorem heap_alloc_at {w : World} {b : Nat} (h : w.heap.size = b) (o : Obj) : (w.alloc o).heap[b]? = some o := by subst h; exact heap_alloc_new w o
theorem heap_setCell_at {w : World} {g o : Nat} {cur : Array Value} {t : TypeId} {fr : Nat × Nat} (h : w.heap[g]? = some (.cells cur t fr)) (u : Value) : (w.setCell ⟨g, o, none⟩ u).heap[g]? = some (.cells (cur.setIfInBounds o u) t fr) := by
  simp [World.setCell, Array.getElem?_modify, h]


def iRow (f : Nat → Int) (n : Nat) : Array Value := ((List.range n).map fun i => Value.int .i64 (f i)).toArray
theorem iRow_at (f : Nat → Int) (n i : Nat) (h : i < n) : (iRow f n)[i]? = some (.int .i64 (f i)) := by simp [iRow, h]
theorem iRow_size (f : Nat → Int) (n : Nat) : (iRow f n).size = n := by simp [iRow]
theorem iRow_set (f : Nat → Int) (n j : Nat) (x : Int) : (iRow f n).setIfInBounds j (.int .i64 x) = iRow (fun i => if i = j then x else f i) n := by
  apply Array.ext_getElem?
  intro i
  rw [Array.getElem?_setIfInBounds]
  by_cases hi : i < n
  · rw [iRow_at _ n i hi, iRow_at _ n i hi]
    by_cases hij : j = i
    · subst hij
      simp [iRow_size, hi]
    · have : ¬ i = j := fun e => hij e.symm
      simp [hij, this]
  · have h1 : (iRow f n)[i]? = none := Array.getElem?_eq_none (by rw [iRow_size]; omega)
    have h2 : (iRow (fun i => if i = j then x else f i) n)[i]? = none := Array.getElem?_eq_none (by rw [iRow_size]; omega)
    rw [h2]
    by_cases hij : j = i
    · subst hij
      simp [iRow_size, hi]
    · simp [hij, h1]
theorem iRow_new (n : Nat) : madeCells #[.int .i64 0] n = iRow (fun _ => 0) n := by
  rw [← Array.toList_inj, toList_madeCells_one]
  rw [iRow, List.toList_toArray]
  show List.replicate n (Value.int .i64 0) = (List.range n).map fun _ => Value.int .i64 0
  rw [List.map_const', List.length_range]


theorem info3 : (Try.prog.info? 3).map (fun i => (i.zero, i.size, i.bytes)) = some (some (.int .i64 0), 1, 8) := by kernel_rfl
abbrev ptr (g : Nat) : Value := .pointer (some ⟨g, 0, none⟩)
abbrev ifc (g : Nat) : Value := .iface 66 (ptr g)

/-- A row of numbers, as a list. -/
def rowI (f : Nat → Nat) (m : Nat) : List Value := (List.range m).map fun i => Value.int .i64 (f i : Nat)
theorem rowI_len (f : Nat → Nat) (m : Nat) : (rowI f m).length = m := by simp [rowI]
theorem rowI_at (f : Nat → Nat) {m i : Nat} (h : i < m) : (rowI f m)[i]? = some (.int .i64 (f i : Nat)) := by simp [rowI, h]
theorem rowI_ext {f : Nat → Nat} {m : Nat} {l : List Value} (hl : l.length = m) (h : ∀ i, i < m → l[i]? = some (.int .i64 (f i : Nat))) : l = rowI f m := by
  apply List.ext_getElem?
  intro i
  rcases Nat.lt_or_ge i m with q | q
  · rw [h i q, rowI_at f q]
  · rw [List.getElem?_eq_none (by omega), List.getElem?_eq_none (by rw [rowI_len]; exact q)]
theorem rowI_set (f : Nat → Nat) (m i x : Nat) : (rowI f m).set i (.int .i64 (x : Nat)) = rowI (fun k => if k = i then x else f k) m := by
  refine rowI_ext (by simp [rowI_len]) (fun k hk => ?_)
  by_cases e : k = i
  · subst e; simp [rowI_len, hk]
  · rw [List.getElem?_set_ne (fun q => e q.symm), rowI_at f hk]; simp [e]
theorem rowI_push (f : Nat → Nat) (m x : Nat) : rowI f m ++ [.int .i64 (x : Nat)] = rowI (up1 f m x) (m + 1) := by
  refine rowI_ext (by simp [rowI_len]) (fun k hk => ?_)
  by_cases e : k = m
  · subst e; simp [rowI_len, up1]
  · rw [List.getElem?_append_left (by rw [rowI_len]; omega), rowI_at f (by omega)]; simp [up1, e]
theorem rowI_take (f : Nat → Nat) (m : Nat) : (rowI f (m + 1)).take m = rowI f m := by
  refine rowI_ext (by simp [rowI_len]) (fun k hk => ?_)
  rw [List.getElem?_take_of_lt hk, rowI_at f (by omega)]

abbrev nI (P : Nat → Nat) : Nat → Int := fun i => (P i : Nat)

/-- A heap of n ids at block g; its keys at kb, its places at pb; its row of m ids is v. -/
structure HM (w : World) (g kb pb n : Nat) (v : Value) (m : Nat) (f : Nat → Nat) (K : Nat → Int) (P : Nat → Nat) : Prop where
  blk : w.heap[g]? = some (.cells #[v, .slice (some ⟨kb, 0, none⟩) n n, .slice (some ⟨pb, 0, none⟩) n n] 63)
  keys : w.heap[kb]? = some (.cells (iRow K n) 3)
  plc : w.heap[pb]? = some (.cells (iRow (nI P) n) 3)
  own : w.ownsRow 0 3 1 v m (rowI f m)
  gk : g ≠ kb
  gp : g ≠ pb
  kp : kb ≠ pb
  vg : v.ownBlock ≠ some g
  vk : v.ownBlock ≠ some kb
  vp : v.ownBlock ≠ some pb
  hn : n ≤ 65536
  hm : m ≤ n

/-- A heap's own blocks. -/
def Foot (g kb pb : Nat) (v : Value) (k : Nat) : Prop := k = g ∨ k = kb ∨ k = pb ∨ v.ownBlock = some k

section
variable {w w' : World} {g kb pb n m : Nat} {v : Value} {f P : Nat → Nat} {K : Nat → Int}
theorem HM.c0 (h : HM w g kb pb n v m f K P) : w.cell? ⟨g, 0, none⟩ = some v := by rw [cell_of_row w g 0 _ _ _ h.blk]; rfl
theorem HM.c1 (h : HM w g kb pb n v m f K P) : w.cell? ⟨g, 1, none⟩ = some (.slice (some ⟨kb, 0, none⟩) n n) := by rw [cell_of_row w g 1 _ _ _ h.blk]; rfl
theorem HM.c2 (h : HM w g kb pb n v m f K P) : w.cell? ⟨g, 2, none⟩ = some (.slice (some ⟨pb, 0, none⟩) n n) := by rw [cell_of_row w g 2 _ _ _ h.blk]; rfl
theorem HM.ck (h : HM w g kb pb n v m f K P) (i : Nat) (hi : i < n) : w.cell? ⟨kb, i, none⟩ = some (.int .i64 (K i)) := by rw [cell_of_row w kb i _ _ _ h.keys]; exact iRow_at K n i hi
theorem HM.cp (h : HM w g kb pb n v m f K P) (i : Nat) (hi : i < n) : w.cell? ⟨pb, i, none⟩ = some (.int .i64 (P i : Nat)) := by rw [cell_of_row w pb i _ _ _ h.plc]; exact iRow_at (nI P) n i hi
theorem HM.fg (h : HM w g kb pb n v m f K P) (i : Nat) : w.frozen? ⟨g, i, none⟩ = false := by simp [World.frozen?, h.blk]
theorem HM.fk (h : HM w g kb pb n v m f K P) (i : Nat) : w.frozen? ⟨kb, i, none⟩ = false := by simp [World.frozen?, h.keys]
theorem HM.fp (h : HM w g kb pb n v m f K P) (i : Nat) : w.frozen? ⟨pb, i, none⟩ = false := by simp [World.frozen?, h.plc]
theorem HM.form (h : HM w g kb pb n v m f K P) (h0 : 0 < m) : ∃ ib cap, v = .slice (some ⟨ib, 0, none⟩) m cap ∧ m ≤ cap ∧ cap ≤ maxLen ∧ (∀ i, i < m → w.cell? ⟨ib, i, none⟩ = some (.int .i64 (f i : Nat))) ∧ ∀ i, w.frozen? ⟨ib, i, none⟩ = false := by
  have ho := h.own
  rcases ho.2 with ⟨rfl, q⟩ | ⟨ib, cap, cur, rfl, hb, hg, hnc, hcm, hcs, htake⟩
  · omega
  · exact ⟨ib, cap, rfl, hnc, hcm, fun i hi => by rw [ho.cellAt i (by omega), rowI_at f hi], fun i => ho.frozenAt i⟩
theorem HM.form0 (h : HM w g kb pb n v m f K P) : ∃ ao cap, v = .slice ao m cap ∧ m ≤ cap ∧ cap ≤ maxLen := by
  rcases h.own.2 with ⟨rfl, q⟩ | ⟨ib, cap, cur, rfl, hb, hg, hnc, hcm, hcs, htake⟩
  · exact ⟨none, 0, by rw [q], by omega, by unfold maxLen; omega⟩
  · exact ⟨_, cap, rfl, hnc, hcm⟩
theorem HM.lt (h : HM w g kb pb n v m f K P) (k : Nat) (hk : Foot g kb pb v k) : k < w.heap.size := by
  rcases hk with rfl | rfl | rfl | hk
  · exact block_lt h.blk
  · exact block_lt h.keys
  · exact block_lt h.plc
  · exact (h.own.lt k hk).2
theorem HM.keep (h : HM w g kb pb n v m f K P) (hk : ∀ k, Foot g kb pb v k → w'.heap[k]? = w.heap[k]?) : HM w' g kb pb n v m f K P :=
  ⟨by rw [hk g (.inl rfl)]; exact h.blk, by rw [hk kb (.inr (.inl rfl))]; exact h.keys, by rw [hk pb (.inr (.inr (.inl rfl)))]; exact h.plc, owns_keep h.own (fun k hk' => hk k (.inr (.inr (.inr hk')))), h.gk, h.gp, h.kp, h.vg, h.vk, h.vp, h.hn, h.hm⟩
theorem HM.below (h : HM w g kb pb n v m f K P) (hb : Below w.heap.size w w') : HM w' g kb pb n v m f K P := h.keep (fun k hk => hb.block k (h.lt k hk))
theorem HM.turn (h : HM w g kb pb n v m f K P) {F : Nat → Prop} (ht : Turn F w w') (hF : ∀ k, Foot g kb pb v k → ¬ F k) : HM w' g kb pb n v m f K P := h.keep (fun k hk => ht.block k (h.lt k hk) (hF k hk))
theorem HM.setK (h : HM w g kb pb n v m f K P) (j : Nat) (x : Int) : HM (w.setCell ⟨kb, j, none⟩ (.int .i64 x)) g kb pb n v m f (fun i => if i = j then x else K i) P :=
  ⟨by rw [Below.heap_setCell _ _ _ _ h.gk]; exact h.blk, by rw [heap_setCell_at (o := j) h.keys, iRow_set], by rw [Below.heap_setCell _ _ _ _ (fun e => h.kp e.symm)]; exact h.plc, owns_keep h.own (fun k hk => Below.heap_setCell _ _ _ _ (fun e => h.vk (by rw [hk, e]))), h.gk, h.gp, h.kp, h.vg, h.vk, h.vp, h.hn, h.hm⟩
theorem HM.setP (h : HM w g kb pb n v m f K P) (j x : Nat) : HM (w.setCell ⟨pb, j, none⟩ (.int .i64 (x : Nat))) g kb pb n v m f K (fun i => if i = j then x else P i) :=
  ⟨by rw [Below.heap_setCell _ _ _ _ h.gp]; exact h.blk, by rw [Below.heap_setCell _ _ _ _ h.kp]; exact h.keys, by
    rw [heap_setCell_at (o := j) h.plc, iRow_set]
    have e : (fun i => if i = j then ((x : Nat) : Int) else nI P i) = nI (fun i => if i = j then x else P i) := by
      funext i; by_cases q : i = j <;> simp [q, nI]
    rw [e], owns_keep h.own (fun k hk => Below.heap_setCell _ _ _ _ (fun e => h.vp (by rw [hk, e]))), h.gk, h.gp, h.kp, h.vg, h.vk, h.vp, h.hn, h.hm⟩
theorem HM.setI {ib cap : Nat} (h : HM w g kb pb n (.slice (some ⟨ib, 0, none⟩) m cap) m f K P) (j x : Nat) : HM (w.setCell ⟨ib, j, none⟩ (.int .i64 (x : Nat))) g kb pb n (.slice (some ⟨ib, 0, none⟩) m cap) m (fun i => if i = j then x else f i) K P :=
  ⟨by rw [Below.heap_setCell _ _ _ _ (fun e => h.vg (by rw [e]; rfl))]; exact h.blk, by rw [Below.heap_setCell _ _ _ _ (fun e => h.vk (by rw [e]; rfl))]; exact h.keys, by rw [Below.heap_setCell _ _ _ _ (fun e => h.vp (by rw [e]; rfl))]; exact h.plc, by
    rw [← rowI_set]; exact (h.own.stored j _).1, h.gk, h.gp, h.kp, h.vg, h.vk, h.vp, h.hn, h.hm⟩
theorem HM.drew (h : HM w g kb pb n v m f K P) : HM w.drew g kb pb n v m f K P := h.keep (fun _ _ => rfl)
theorem HM.congr {f' P' : Nat → Nat} {K' : Nat → Int} (h : HM w g kb pb n v m f K P) (h1 : ∀ i, i < m → f' i = f i) (h2 : ∀ i, i < n → K' i = K i) (h3 : ∀ i, i < n → P' i = P i) : HM w g kb pb n v m f' K' P' := by
  have e1 : rowI f' m = rowI f m := rowI_ext (rowI_len _ _) (fun i hi => by rw [rowI_at f' hi, h1 i hi])
  have e2 : ∀ {a b : Nat → Int}, (∀ i, i < n → a i = b i) → iRow a n = iRow b n := fun {a b} q => by
    unfold iRow
    congr 1
    exact List.map_congr_left (fun i hi => by rw [q i (List.mem_range.1 hi)])
  refine ⟨h.blk, ?_, ?_, ?_, h.gk, h.gp, h.kp, h.vg, h.vk, h.vp, h.hn, h.hm⟩
  · rw [e2 h2]; exact h.keys
  · rw [e2 (fun i hi => show ((P' i : Nat) : Int) = (P i : Nat) by rw [h3 i hi])]; exact h.plc
  · rw [e1]; exact h.own
end
end Go.Proofs.Ytlpbjafdmhcmgaa
