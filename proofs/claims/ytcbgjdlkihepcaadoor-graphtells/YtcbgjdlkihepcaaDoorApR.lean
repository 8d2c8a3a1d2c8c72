/- append of a whole row onto a new, empty one: a copy. -/
import Derived.Test.YtcbgjdlkihepcaaDoorSho
namespace Go.Proofs.YtcbgjdlkihepcaaDoor
open Go.RowKit
open M
set_option linter.unusedVariables false
set_option linter.unusedSimpArgs false

theorem run_append_nil2 {P : Program} (w : World) (t ty e : TypeId) (i : TypeInfo) (ht : P.underlying t = some (.slice e)) (hi : P.info? e = some i) (a : Addr) :
    (Builtin.append_ #[t, t] ty #[.slice (some a) 0 0, .slice none 0 0]).run P w = .ok (.slice (some a) 0 0) w := by
  simp [Builtin.append_, run_underlying ht, sizeOf, typeInfo, hi, Builtin.lenOf, Builtin.firstCells, loadCells, loadCellsFrom, storeCells]

theorem one_int (xs : List Nat) : ∀ u ∈ xs.map (fun x => Value.int .i64 (x : Nat)), u.oneCell' = true := by
  intro u hu
  obtain ⟨x, _, rfl⟩ := List.mem_map.1 hu
  rfl

/-- 'append([]int{}, x...)', x a row of the call's own, behind '[]int{}' (the block W.heap.size, of no cells). -/
theorem wpList_copy {W : World} {ops : Array Oper} {rest : List Oper} {o : Oper} {a : Act} {Q : Exit → Act → World → Prop} (hgd : o.guard = none) (s x : Operand)
    (ho : o.op = .call { callee := .builtin .append, args := #[s, x], argTypes := #[39, 39] })
    (u : Value) (L : List Nat) (b : Nat) (hu : OwnI W b u L) (hl : L.length ≤ 1000000) (hs : a.eval s = .slice (some ⟨W.heap.size, 0, none⟩) 0 0) (hx : a.eval x = u)
    (h : ∀ v' w', OwnI w' W.heap.size v' L → Below W.heap.size W w' → wpList Tryd.prog ops Q rest (a.put o.dst v') w') : wpList Tryd.prog ops Q (o :: rest) a (W.alloc (.cells #[] 3)) := by
  obtain ⟨i0, hi, hz0, hz1, hz2⟩ := info_parts info3
  have hb : Below W.heap.size W (W.alloc (.cells #[] 3)) := (Below.refl _ _).alloc (Nat.le_refl _) _
  have hown0 : (W.alloc (.cells #[] 3)).ownsRow W.heap.size 3 1 (.slice (some ⟨W.heap.size, 0, none⟩) 0 0) 0 [] := World.ownsRow_made W #[] 0 (Nat.le_refl _) (by simp [maxLen]) (by simp)
  have hu' := owns_below hu hb
  rcases hu.2 with ⟨rfl, hz⟩ | ⟨r, cap, cur, rfl, hbr, hgr, hnc, hcm, hcs, htk⟩
  · have hL : L = [] := List.eq_nil_of_length_eq_zero hz
    subst hL
    have hr := run_append_nil2 (P := Tryd.prog) (W.alloc (.cells #[] 3)) 39 o.type 3 i0 Tryd.underlying39 hi ⟨W.heap.size, 0, none⟩
    refine wpList_plain hgd fun K hK => ?_
    unfold Oper.wp execOp
    simp only [ho, resolve, invoke, builtin, Sem.run_bind, Sem.run_pure, Result.andThen_ok, List.map_toArray, List.map_cons, List.map_nil, hs, hx, hr]
    exact hK _ _ (h _ _ hown0 hb)
  · refine wpList_append_tell _ hgd s x 39 ho W.heap.size 3 i0 _ 1 8 Tryd.underlying39 hi hz0 hz1 hz2 rfl (by decide) _ 0 [] hs hown0 ⟨r, 0, none⟩ L.length cap (L.map fun x => Value.int .i64 (x : Nat)) hx (by simp) (hu'.cells (g := r) rfl) (one_int L) (by unfold maxLen; omega) (by omega) (by simp) ?_
    intro v' w' h1 h2 h3
    refine h v' w' ?_ (hb.grown h2 (by simp) (fun k hk => by simp [Value.ownBlock] at hk; omega))
    simpa using h1

/-- A graph below S, and what is the call's own. -/
structure Q1 (B S : Nat) (w0 W : World) (g eb n : Nat) (v : Value) (es : List E) : Prop where
  bel : Below B w0 W
  gm : GM W g eb n v es
  gB : ∀ k, Foot g eb v k → B ≤ k ∧ k < S
  tab : Tab W
  pos : 0 < B
  bs : B ≤ S
  le : S ≤ W.heap.size
def RowsAt (W : World) (l : List (Nat × Value × List Nat)) : Prop := ∀ t ∈ l, OwnI W t.1 t.2.1 t.2.2
def QR (B S : Nat) (w0 W : World) (g eb n : Nat) (v : Value) (es : List E) (l : List (Nat × Value × List Nat)) : Prop := Q1 B S w0 W g eb n v es ∧ RowsAt W l
section
variable {B S : Nat} {w0 W w' : World} {g eb n : Nat} {v : Value} {es : List E} {l : List (Nat × Value × List Nat)}
theorem QR.step (h : QR B S w0 W g eb n v es l) (hb : Below W.heap.size W w') : QR B S w0 w' g eb n v es l := by
  obtain ⟨h, hr⟩ := h
  refine ⟨⟨h.bel.trans (hb.mono (Nat.le_trans h.bs h.le)), h.gm.below hb, h.gB, tab_below h.tab (Nat.lt_of_lt_of_le h.pos (Nat.le_trans h.bs h.le)) hb, h.pos, h.bs, Nat.le_trans h.le hb.size⟩, fun t ht => owns_below (hr t ht) hb⟩
theorem QR.cons (h : QR B S w0 W g eb n v es l) {b : Nat} {u : Value} {L : List Nat} (hu : OwnI W b u L) : QR B S w0 W g eb n v es ((b, u, L) :: l) :=
  ⟨h.1, fun t ht => by rcases List.mem_cons.1 ht with rfl | ht; exact hu; exact h.2 t ht⟩
theorem QR.out (h : QR B S w0 W g eb n v es l) (hle : es.length ≤ 1000000) (a : Int) (L : List Nat) (hL : outs es a = L) :
    Calls Tryd.prog 20 #[ptr g, .int .i64 a] W fun e w' => ∃ u, e = .returned u ∧ Hid (QR B S w0 w' g eb n v es ((W.heap.size, u, L) :: l)) := by
  refine (out_any h.1.gm a hle).mono ?_
  rintro e w' ⟨u, rfl, ho, hb⟩
  exact ⟨u, rfl, (h.step hb).cons (by rw [← hL]; exact ho)⟩
theorem QR.ins (h : QR B S w0 W g eb n v es l) (hle : es.length ≤ 1000000) (a : Int) (L : List Nat) (hL : ins es a = L) :
    Calls Tryd.prog 22 #[ptr g, .int .i64 a] W fun e w' => ∃ u, e = .returned u ∧ Hid (QR B S w0 w' g eb n v es ((W.heap.size, u, L) :: l)) := by
  refine (in_any h.1.gm a hle).mono ?_
  rintro e w' ⟨u, rfl, ho, hb⟩
  exact ⟨u, rfl, (h.step hb).cons (by rw [← hL]; exact ho)⟩
theorem QR.reach (h : QR B S w0 W g eb n v es l) (a : Int) (L : List Nat) (hL : reachL n es a = L) :
    Calls Tryd.prog 24 #[ptr g, .int .i64 a] W fun e w' => ∃ u, e = .returned u ∧ Hid (QR B S w0 w' g eb n v es ((W.heap.size, u, L) :: l)) := by
  refine (reach_any h.1.gm h.1.tab (Nat.lt_of_lt_of_le h.1.pos (Nat.le_trans h.1.bs h.1.le)) a).mono ?_
  rintro e w' ⟨u, rfl, ho, hb⟩
  exact ⟨u, rfl, (h.step hb).cons (by rw [← hL]; exact ho)⟩
theorem QR.eqs (h : QR B S w0 W g eb n v es l) {va vb : Value} {b1 b2 : Nat} {xs : List Nat} (ha : OwnI W b1 va xs) (hb : OwnI W b2 vb xs) (hl : xs.length ≤ 1000000) :
    Calls Tryd.prog 19 #[va, vb] W fun e w' => e = .returned (.bool true) ∧ Hid (QR B S w0 w' g eb n v es l) := by
  refine (ints_any (own_iat ha) (own_iat hb) hl).mono ?_
  rintro e w' ⟨rfl, hb⟩
  exact ⟨by simp, h.step hb⟩
end
theorem shown_q {W w : World} (hT : Tab W) (h0 : 0 < W.heap.size) (hb : Below W.heap.size W w) :
    Calls Tryd.prog 10 #[] w fun e w' => e = .returned (.bool true) ∧ Hid (Below W.heap.size W w') := by
  refine (shown_any w (tab_below hT h0 hb) (Nat.lt_of_lt_of_le h0 hb.size)).mono ?_
  rintro e w' ⟨rfl, h⟩
  exact ⟨rfl, hb.trans (h.mono hb.size)⟩
theorem made_q {W w : World} (hT : Tab W) (h0 : 0 < W.heap.size) (hb : Below W.heap.size W w) (n : Int) (ls : List (Int × Int)) (la : Option Addr) (lc : Nat) (hl : LIn W la ls) (hm : ls.length ≤ maxLen) (m N : Nat) (fs : List E) (hN : sz n = N) (hmm : ls.length = m) (hf : foldE N (ls.take 200) [] = fs) :
    Calls Tryd.prog 28 #[.int .i64 n, .slice la m lc] w fun e w' => ∃ g eb v, e = .returned (ptr g) ∧ Hid (QR W.heap.size w'.heap.size W w' g eb N v fs []) := by
  subst hN hmm hf
  refine (made_any n ls la lc w (hl.below hb (Nat.le_refl _)) hm).mono ?_
  rintro e w' ⟨rfl, hg, h⟩
  have h1 := hb.trans (h.out.mono hb.size)
  obtain ⟨v, hv1, hv2⟩ := hg.out.ex
  refine ⟨_, _, v, rfl, ⟨h1, hv1, fun k hk => ⟨?_, hv1.lt k hk⟩, tab_below hT h0 h1, h0, h1.size, Nat.le_refl _⟩, fun t ht => by simp at ht⟩
  have := hb.size
  rcases hk with rfl | rfl | hk
  · omega
  · omega
  · have := hv2 k hk; omega
end Go.Proofs.YtcbgjdlkihepcaaDoor
