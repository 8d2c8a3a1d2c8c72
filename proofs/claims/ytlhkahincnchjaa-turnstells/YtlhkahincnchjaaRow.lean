/- Turns on the way, with what its members want beside it; an append of members. -/
import Derived.Test.YtlhkahincnchjaaOps
import Derived.Test.YtlhkahincnchjaaDel
namespace Go.Proofs.Ytlhkahincnchjaa
open Go.RowKit
open M
set_option linter.unusedVariables false
set_option linter.unusedSimpArgs false

theorem owns_foot {w W : World} {F : Nat → Prop} {p : Addr} {u : Value} {k : Nat} (h : Grow F w W k) : Grow F w (W.setCell p u) k := by
  rcases h with h | h
  · exact .inl h
  · exact .inr ⟨h.1, by simpa [World.setCell] using h.2⟩

/-- Turns in W, as a call that began in w left it. -/
structure SV (e tt : TypeId) (F : Nat → Prop) (w W : World) (t : Nat) (x : Tn) (v : Value) : Prop where
  tm : TM e tt W t x v
  ft : ∀ k, Foot t v k → Grow F w W k
  tu : Turn F w W
  own : F t
  lt : t < w.heap.size
section
variable {e tt : TypeId} {F : Nat → Prop} {w W W' : World} {t : Nat} {x : Tn} {v : Value}
theorem SV.setK (h : SV e tt F w W t x v) (k : Nat) : SV e tt F w (W.setCell ⟨t, 2, none⟩ (.int .i64 k)) t { x with k := k } v :=
  ⟨h.tm.setK k, fun j hj => owns_foot (h.ft j hj), h.tu.setCell (p := ⟨t, 2, none⟩) (.inl h.own) _, h.own, h.lt⟩
theorem SV.setC {g cap : Nat} (h : SV e tt F w W t x (.slice (some ⟨g, 0, none⟩) x.n cap)) {k : Nat} (hk : k < x.n) (c : Int) : SV e tt F w (W.setCell ⟨g, k * 3 + 2, none⟩ (.int .i64 c)) t { x with C := upd x.C k c } (.slice (some ⟨g, 0, none⟩) x.n cap) :=
  ⟨h.tm.setC hk c, fun j hj => owns_foot (h.ft j hj), h.tu.setCell (p := ⟨g, k * 3 + 2, none⟩) (by
    rcases h.ft g (.inr rfl) with q | q
    · exact .inl q
    · exact .inr q.1) _, h.own, h.lt⟩
theorem SV.below (h : SV e tt F w W t x v) (hb : Below W.heap.size W W') : SV e tt F w W' t x v := by
  have hs := hb.size
  refine ⟨h.tm.below hb, fun k hk => ?_, h.tu.trans (Turn.of_below hb), h.own, h.lt⟩
  rcases h.ft k hk with q | q
  · exact .inl q
  · exact .inr ⟨q.1, by omega⟩
theorem SV.st (h : SV e tt F w W t x v) : St e tt F w W t x := ⟨⟨v, h.tm, h.ft⟩, h.tu⟩
theorem SV.start (h : MO e tt w F t x) : ∃ v, SV e tt F w w t x v := by
  obtain ⟨v, h1, h2⟩ := h
  exact ⟨v, h1, fun k hk => .inl (h2 k hk), Turn.refl _ _, h2 t (.inl rfl), block_lt h1.blk⟩
end

/-- And what each wants, in a row of the call's own. -/
structure SC (F : Nat → Prop) (w W : World) (t g cap : Nat) (x : Tn) (cb : Nat) (cs : Nat → Int) : Prop where
  sv : SV 64 62 F w W t x (.slice (some ⟨g, 0, none⟩) x.n cap)
  cr : W.heap[cb]? = some (.cells (iRow cs x.n) 3)
  ct : cb ≠ t
  cg : cb ≠ g
section
variable {F : Nat → Prop} {w W W' : World} {t g cap cb : Nat} {x : Tn} {cs : Nat → Int}
theorem SC.setK (h : SC F w W t g cap x cb cs) (k : Nat) : SC F w (W.setCell ⟨t, 2, none⟩ (.int .i64 k)) t g cap { x with k := k } cb cs :=
  ⟨h.sv.setK k, by rw [Below.heap_setCell _ _ _ _ h.ct]; exact h.cr, h.ct, h.cg⟩
theorem SC.setC (h : SC F w W t g cap x cb cs) {k : Nat} (hk : k < x.n) (c : Int) : SC F w (W.setCell ⟨g, k * 3 + 2, none⟩ (.int .i64 c)) t g cap { x with C := upd x.C k c } cb cs :=
  ⟨h.sv.setC hk c, by rw [Below.heap_setCell _ _ _ _ h.cg]; exact h.cr, h.ct, h.cg⟩
theorem SC.below (h : SC F w W t g cap x cb cs) (hb : Below W.heap.size W W') : SC F w W' t g cap x cb cs :=
  ⟨h.sv.below hb, by rw [hb.block cb (block_lt h.cr)]; exact h.cr, h.ct, h.cg⟩
theorem SC.drewN (h : SC F w W t g cap x cb cs) (n : Nat) : SC F w (W.drewN n) t g cap x cb cs := h.below (below_drewN (Below.refl _ _) n)
/-- What is read of it. -/
structure SR (W : World) (t g cap : Nat) (x : Tn) (cb : Nat) (cs : Nat → Int) : Prop where
  a0 : W.cell? ⟨t, 0, none⟩ = some (.int .i64 x.q)
  a1 : W.cell? ⟨t, 1, none⟩ = some (.slice (some ⟨g, 0, none⟩) x.n cap)
  a2 : W.cell? ⟨t, 2, none⟩ = some (.int .i64 x.k)
  af : ∀ i, W.frozen? ⟨t, i, none⟩ = false
  tl : t < W.heap.size
  gl : g < W.heap.size
  gt : g ≠ t
  cl : cb < W.heap.size
  cap1 : x.n ≤ cap
  cap2 : cap ≤ maxLen
  mb : ∀ j, j < x.n → W.cell? ⟨g, j * 3, none⟩ = some (.int .i64 (x.I j)) ∧ W.cell? ⟨g, j * 3 + 1, none⟩ = some (.int .i64 (x.W j)) ∧ W.cell? ⟨g, j * 3 + 2, none⟩ = some (.int .i64 (x.C j))
  gf : ∀ i, W.frozen? ⟨g, i, none⟩ = false
  co : ∀ j, j < x.n → W.cell? ⟨cb, j, none⟩ = some (.int .i64 (cs j))
theorem SC.read (h : SC F w W t g cap x cb cs) : SR W t g cap x cb cs := by
  have h1 := h.sv.tm
  have hg := (h1.row.lt g rfl).2
  obtain ⟨ao, c, e, e1, e2, e3⟩ := h1.form
  cases e
  refine ⟨h1.c0, h1.c1, h1.c2, h1.fr, block_lt h1.blk, hg, fun q => h1.tv (by rw [q]; rfl), block_lt h.cr, e1, e2, fun j hj => ?_, fun i => ?_, fun j hj => ?_⟩
  · obtain ⟨g', q, _, _, a, b, c, _⟩ := e3 j hj
    cases q
    exact ⟨a, b, c⟩
  · rcases h1.row.2 with ⟨q, _⟩ | ⟨g', c, cur, q, hb, hg, _⟩
    · cases q
    · cases q; simp [World.frozen?, hg]
  · rw [cell_of_row W cb j _ _ _ h.cr]; exact iRow_at cs x.n j hj
end

/-- Members read, wherever they lie. -/
def MbO (w : World) (ax : Option Addr) (n : Nat) (I W C : Nat → Int) : Prop := ∀ j, j < n → ∃ b o, ax = some ⟨b, o, none⟩ ∧ b < w.heap.size ∧ w.cell? ⟨b, o + j * 3, none⟩ = some (.int .i64 (I j)) ∧ w.cell? ⟨b, o + j * 3 + 1, none⟩ = some (.int .i64 (W j)) ∧ w.cell? ⟨b, o + j * 3 + 2, none⟩ = some (.int .i64 (C j))
theorem MbO.below {w w' : World} {ao : Option Addr} {n : Nat} {I W C : Nat → Int} (h : MbO w ao n I W C) (hb : Below w.heap.size w w') : MbO w' ao n I W C := fun j hj => by
  obtain ⟨g, o, e, hg, c0, c1, c2⟩ := h j hj
  exact ⟨g, o, e, Nat.lt_of_lt_of_le hg hb.size, by rw [hb.cell (p := ⟨g, _, none⟩) hg]; exact c0, by rw [hb.cell (p := ⟨g, _, none⟩) hg]; exact c1, by rw [hb.cell (p := ⟨g, _, none⟩) hg]; exact c2⟩
theorem Mbs.mbo {w : World} {ao : Option Addr} {n : Nat} {I W C : Nat → Int} (h : Mbs w ao n I W C) : MbO w ao n I W C := fun j hj => by
  obtain ⟨g, e, hg, c0, c1, c2⟩ := h j hj
  exact ⟨g, 0, e, hg, by rw [Nat.zero_add]; exact c0, by rw [Nat.zero_add]; exact c1, by rw [Nat.zero_add]; exact c2⟩
def cat (f : Nat → Int) (n : Nat) (g : Nat → Int) : Nat → Int := fun j => if j < n then f j else g (j - n)
theorem mrow_cat (n m : Nat) (I W C I2 W2 C2 : Nat → Int) : mrow n I W C ++ mrow m I2 W2 C2 = mrow (n + m) (cat I n I2) (cat W n W2) (cat C n C2) := by
  refine mrow_ext (by rw [List.length_append, mrow_len, mrow_len]; omega) (fun j hj => ?_)
  unfold cat
  by_cases e : j < n
  · simp only [e, if_true]
    obtain ⟨a, b, c⟩ := mrow_at n I W C j e
    exact ⟨by rw [List.getElem?_append_left (by rw [mrow_len]; omega)]; exact a, by rw [List.getElem?_append_left (by rw [mrow_len]; omega)]; exact b, by rw [List.getElem?_append_left (by rw [mrow_len]; omega)]; exact c⟩
  · simp only [e, if_false]
    obtain ⟨a, b, c⟩ := mrow_at m I2 W2 C2 (j - n) (by omega)
    exact ⟨by rw [List.getElem?_append_right (by rw [mrow_len]; omega), mrow_len, show j * 3 - n * 3 = (j - n) * 3 by omega]; exact a, by rw [List.getElem?_append_right (by rw [mrow_len]; omega), mrow_len, show j * 3 + 1 - n * 3 = (j - n) * 3 + 1 by omega]; exact b, by rw [List.getElem?_append_right (by rw [mrow_len]; omega), mrow_len, show j * 3 + 2 - n * 3 = (j - n) * 3 + 2 by omega]; exact c⟩

/-- An append of members: what can be read, laid behind a row of one's own. -/
theorem wpList_mcat {ops : Array Oper} {rest : List Oper} {o : Oper} {a : Act} {w : World} {Q : Exit → Act → World → Prop} (sl el : TypeId) (hul : Try.prog.underlying sl = some (.slice el)) (hinfo : (Try.prog.info? el).map (fun i => (i.zero, i.size, i.bytes)) = some (some (.agg #[.int .i64 0, .int .i64 0, .int .i64 0]), 3, 24)) (hgd : o.guard = none) (s x : Operand)
    (ho : o.op = .call { callee := .builtin .append, args := #[s, x], argTypes := #[sl, sl] })
    {base m kx : Nat} {v : Value} {I W C I2 W2 C2 : Nat → Int} (hown : w.ownsRow base el 3 v m (mrow m I W C)) {ax : Option Addr} {cx : Nat} (hr : MbO w ax kx I2 W2 C2) (hn : ax = none → kx = 0 ∧ cx = 0) (hl : m + kx ≤ 1000000) (hs1 : a.eval s = v) (hx : a.eval x = .slice ax kx cx) (hbase : base ≤ w.heap.size)
    (k : ∀ ao' cap' m' w', Hid (m' = m + kx ∧ w'.ownsRow base el 3 (.slice ao' m' cap') m' (mrow m' (cat I m I2) (cat W m W2) (cat C m C2)) ∧ w.grownBy w' v.ownBlock ∧ Fresh w v (.slice ao' m' cap')) → wpList Try.prog ops Q rest (a.put o.dst (.slice ao' m' cap')) w') : wpList Try.prog ops Q (o :: rest) a w := by
  obtain ⟨i0, hi, hz0, hz1, hz2⟩ := info_parts hinfo
  obtain ⟨ao, cap, rfl⟩ := own_slice hown
  have hmc : m ≤ cap := by
    rcases hown.2 with ⟨e, q⟩ | ⟨g, cc, cur, e, _, _, h1, _⟩
    · cases e; exact Nat.le_refl _
    · cases e; exact h1
  cases ax with
  | none =>
    obtain ⟨h1, h2⟩ := hn rfl
    subst h1 h2
    have hr := run_append_none2 (P := Try.prog) w sl o.type el i0 hul hi ao m cap hmc
    refine wpList_plain hgd fun K0 hK => ?_
    unfold Oper.wp execOp
    simp only [ho, resolve, invoke, builtin, Sem.run_bind, Sem.run_pure, Result.andThen_ok, List.map_toArray, List.map_cons, List.map_nil, hs1, hx, hr]
    refine hK _ _ (k ao cap m w ⟨rfl, ?_, ⟨rfl, rfl, rfl, Nat.le_refl _, fun _ _ _ => rfl⟩, .inl rfl⟩)
    rw [mrow_congr (I' := I) (W' := W) (C' := C) (fun j hj => by unfold cat; rw [if_pos hj]) (fun j hj => by unfold cat; rw [if_pos hj]) (fun j hj => by unfold cat; rw [if_pos hj])]
    exact hown
  | some p =>
    refine wpList_append_tell _ hgd s x sl ho base el i0 _ 3 24 hul hi hz0 hz1 hz2 rfl (by decide) _ m (mrow m I W C) hs1 hown p kx cx (mrow kx I2 W2 C2) hx (mrow_len ..) (fun j u hj => ?_) (mrow_one _ _ _ _) (by unfold maxLen; omega) (by omega) hbase ?_
    · have hj2 : j < kx * 3 := by
        rcases Nat.lt_or_ge j (kx * 3) with q | q
        · exact q
        · rw [List.getElem?_eq_none (by rw [mrow_len]; exact q)] at hj; cases hj
      obtain ⟨q, r, hq, hr3, rfl⟩ := mrow_cut hj2
      obtain ⟨b', o', e, _, c0, c1, c2⟩ := hr q hq
      cases e
      obtain ⟨e0, e1, e2⟩ := mrow_at kx I2 W2 C2 q hq
      rw [Addr.add_lit]
      match r, hr3 with
      | 0, _ => rw [Nat.add_zero] at hj ⊢; rw [e0] at hj; cases hj; exact c0
      | 1, _ => rw [e1] at hj; cases hj; rw [← Nat.add_assoc]; exact c1
      | 2, _ => rw [e2] at hj; cases hj; rw [← Nat.add_assoc]; exact c2
    · intro v' w' h1 h2 h3
      rw [mrow_cat] at h1
      obtain ⟨ao', cap', rfl⟩ := own_slice h1
      exact k ao' cap' _ w' ⟨rfl, h1, h2, h3⟩
/-- One member, in a new block. -/
theorem mbo_one {W : World} {n : Nat} (e : TypeId) (h : W.heap.size = n) (i wt c : Int) : MbO (W.alloc (.cells #[.int .i64 i, .int .i64 wt, .int .i64 c] e)) (some ⟨n, 0, none⟩) 1 (fun _ => i) (fun _ => wt) (fun _ => c) := fun j hj => by
  have hb := heap_alloc_at h (.cells #[.int .i64 i, .int .i64 wt, .int .i64 c] e)
  have : j = 0 := by omega
  subst this
  exact ⟨n, 0, rfl, block_lt hb, by rw [cell_of_row _ n _ _ _ _ hb]; rfl, by rw [cell_of_row _ n _ _ _ _ hb]; rfl, by rw [cell_of_row _ n _ _ _ _ hb]; rfl⟩
end Go.Proofs.Ytlhkahincnchjaa
