/- Timers, and a row of one's own that grows by what is told. -/
import Derived.Test.YtlpbjafdmhcmgaaOvr
namespace Go.Proofs.Ytlpbjafdmhcmgaa
open Go.RowKit
open M
set_option linter.unusedVariables false
set_option linter.unusedSimpArgs false

/-- A row of ids that can be read: nil, or a block. -/
def RdR (w : World) (a : Option Addr) (L : List Nat) (cap : Nat) : Prop := (L = [] ∧ a = none ∧ cap = 0) ∨ ∃ b, a = some ⟨b, 0, none⟩ ∧ b < w.heap.size ∧ ∀ i (h : i < L.length), w.cell? ⟨b, i, none⟩ = some (.int .i64 (L[i] : Nat))
theorem RdR.below {w W : World} {a : Option Addr} {L : List Nat} {cap : Nat} (h : RdR w a L cap) (hb : Below w.heap.size w W) : RdR W a L cap := by
  rcases h with h | ⟨b, h1, h2, h3⟩
  · exact .inl h
  · exact .inr ⟨b, h1, Nat.lt_of_lt_of_le h2 hb.size, fun i hi => by rw [hb.cell (p := ⟨b, _, none⟩) h2]; exact h3 i hi⟩
theorem RdR.rd {w : World} {a : Option Addr} {L : List Nat} {cap : Nat} (h : RdR w a L cap) : Rd w a (L.map fun (x : Nat) => (x : Int)) := by
  intro i hi
  have hi2 : i < L.length := by simpa using hi
  rcases h with ⟨rfl, _⟩ | ⟨b, h1, h2, h3⟩
  · simp at hi2
  · exact ⟨b, h1, h2, by rw [h3 i hi2]; simp⟩

/-- Timers, and a row of one's own, apart from each other. -/
def PT (B : Nat) (w0 w : World) (hs : List Hp) (ao : Option Addr) (cap : Nat) (L : List Nat) : Prop := ∃ F, MF F B w0 w hs [] ∧ w.ownsRow B 3 1 (.slice ao L.length cap) L.length (rowL L) ∧ ∀ k, (Value.slice ao L.length cap).ownBlock = some k → ∀ i, ¬ F i k
section
variable {B : Nat} {w0 w w' : World} {hs : List Hp} {ao : Option Addr} {cap : Nat} {L : List Nat}
theorem PT.mx (h : PT B w0 w hs ao cap L) : MX B w0 w hs [] := by obtain ⟨F, h, _⟩ := h; exact ⟨F, h⟩
theorem PT.form (h : PT B w0 w hs ao cap L) : L.length ≤ cap ∧ cap ≤ maxLen := by
  obtain ⟨F, _, h, _⟩ := h
  rcases h.2 with ⟨e, q⟩ | ⟨g, c, cur, e, _, _, h1, h2, _⟩
  · obtain ⟨rfl, _, rfl⟩ : ao = none ∧ L.length = 0 ∧ cap = 0 := by simpa using e
    unfold maxLen; omega
  · cases e; exact ⟨h1, h2⟩
theorem PT.below (h : PT B w0 w hs ao cap L) (hb : Below w.heap.size w w') : PT B w0 w' hs ao cap L := by
  obtain ⟨F, h1, h2, h3⟩ := h
  have hs1 := hb.size
  exact ⟨F, ⟨h1.bel.trans (hb.mono (Nat.le_trans h1.le h1.bel.size)), h1.le, fun i x hx => (h1.ho i x hx).below hb, fun i k hk => ⟨(h1.bnd i k hk).1, Nat.lt_of_lt_of_le (h1.bnd i k hk).2 hs1⟩, h1.dis, fun p hp => by simp at hp⟩, owns_below h2 hb, h3⟩
theorem PT.rd (h : PT B w0 w hs ao cap L) : RdR w ao L cap := by
  obtain ⟨F, _, h, _⟩ := h
  rcases h.2 with ⟨e, q⟩ | ⟨g, c, cur, e, _, hg, h1, h2, h3, h4⟩
  · obtain ⟨rfl, _, rfl⟩ : ao = none ∧ L.length = 0 ∧ cap = 0 := by simpa using e
    exact .inl ⟨List.eq_nil_of_length_eq_zero q, rfl, rfl⟩
  · cases e
    refine .inr ⟨g, rfl, block_lt hg, fun i hi => ?_⟩
    rw [cell_of_row w g i _ _ _ hg, ← Array.getElem?_toList, ← rowL_at L hi, ← h4, List.getElem?_take_of_lt (by omega)]
theorem pt_new {R : List (Nat × Obj)} (h : MX B w0 w hs R) : PT B w0 (w.alloc (.cells #[] 3)) hs (some ⟨w.heap.size, 0, none⟩) 0 [] := by
  have hz := h.size
  obtain ⟨F, h⟩ := h.drop (R' := []) (fun p hp => by simp at hp)
  have hb : Below w.heap.size w (w.alloc (.cells #[] 3)) := (Below.refl _ _).alloc (Nat.le_refl _) _
  have hs1 := hb.size
  refine ⟨F, ⟨h.bel.trans (hb.mono hz), h.le, fun i x hx => (h.ho i x hx).below hb, fun i k hk => ⟨(h.bnd i k hk).1, Nat.lt_of_lt_of_le (h.bnd i k hk).2 hs1⟩, h.dis, fun p hp => by simp at hp⟩, owns_base (World.ownsRow_made w #[] 0 (Nat.le_refl _) (by simp [maxLen]) (by simp)) (fun k hk => by simp [Value.ownBlock] at hk; omega), fun k hk i hf => ?_⟩
  have := (h.bnd i k hf).2
  simp [Value.ownBlock] at hk
  omega
theorem PT.due (h : PT B w0 w hs ao cap L) (i : Nat) {t g n : Nat} {S : Nat → Option Int} (hi : hs[i]? = some (t, g, n, S)) (now : Int) : Calls Try.prog 16 #[ptr t, .int .i64 now] w fun e w' => ∃ a M c, e = .returned (.slice a M.length c) ∧ Due n S now M ∧ Hid (PT B w0 w' (hs.set i (t, g, n, dueS S now)) ao cap L ∧ RdR w' a M c) := by
  obtain ⟨F, h, h2, h3⟩ := h
  refine (due_any (h.ho i _ hi) now).mono ?_
  rintro e w' ⟨v, M, rfl, hd, G, g1, g2, g3, g4, g5⟩
  have own' : w'.ownsRow B 3 1 (.slice ao L.length cap) L.length (rowL L) := owns_keep h2 (fun k hk => g3.block k (h2.lt k hk).2 (h3 k hk i))
  have hmf : MF (fun j => if j = i then G else F j) B w0 w' (hs.set i (t, g, n, dueS S now)) [] := by
    have hlt : i < hs.length := by
      rcases Nat.lt_or_ge i hs.length with q | q
      · exact q
      · rw [List.getElem?_eq_none q] at hi; cases hi
    have hz := Nat.le_trans h.le h.bel.size
    have hs1 := g3.size
    refine ⟨h.bel.trans (g3.below hz (fun k hk => (h.bnd i k hk).1)), h.le, fun j x hx => ?_, fun j k hk => ?_, fun j l k hne hj hl => ?_, fun p hp => by simp at hp⟩
    · by_cases e : j = i
      · subst e
        rw [List.getElem?_set_self hlt] at hx
        cases hx
        simp only [if_true]
        exact g1
      · rw [List.getElem?_set_ne (fun q => e q.symm)] at hx
        simp only [e, if_false]
        exact (h.ho j x hx).turn g3 (fun k hk => h.dis j i k e hk)
    · by_cases e : j = i
      · subst e
        simp only [if_true] at hk
        obtain ⟨z, hk⟩ := g2 k hk
        rcases hk with q | q
        · have := h.bnd j k q; omega
        · omega
      · simp only [e, if_false] at hk
        have := h.bnd j k hk; omega
    · by_cases e : j = i
      · subst e
        have e2 : ¬ l = j := fun q => hne q.symm
        simp only [if_true] at hj
        simp only [e2, if_false] at hl
        have := h.bnd l k hl
        rcases (g2 k hj).2 with q | q
        · exact h.dis j l k hne q hl
        · omega
      · simp only [e, if_false] at hj
        by_cases e2 : l = i
        · subst e2
          simp only [if_true] at hl
          have := h.bnd j k hj
          rcases (g2 k hl).2 with q | q
          · exact h.dis j l k hne hj q
          · omega
        · simp only [e2, if_false] at hl
          exact h.dis j l k hne hj hl
  have apart : ∀ k, (Value.slice ao L.length cap).ownBlock = some k → ∀ j, ¬ (if j = i then G else F j) k := fun k hk j hf => by
    by_cases e : j = i
    · subst e
      simp only [if_true] at hf
      rcases (g2 k hf).2 with q | q
      · exact h3 k hk j q
      · have := (h2.lt k hk).2; omega
    · simp only [e, if_false] at hf
      exact h3 k hk j hf
  rcases g4.2 with ⟨rfl, hz⟩ | ⟨b, c, cur, rfl, hb, hg, hnc, hcm, hcs, htake⟩
  · have hL : M = [] := List.eq_nil_of_length_eq_zero hz
    subst hL
    exact ⟨none, [], 0, rfl, hd, ⟨_, hmf, own', apart⟩, .inl ⟨rfl, rfl, rfl⟩⟩
  · refine ⟨some ⟨b, 0, none⟩, M, c, rfl, hd, ⟨_, hmf, own', apart⟩, .inr ⟨b, rfl, block_lt hg, fun j hj => ?_⟩⟩
    rw [cell_of_row w' b j _ _ _ hg, ← Array.getElem?_toList, ← rowL_at M hj, ← htake, List.getElem?_take_of_lt (by omega)]

theorem run_append_none2 {P : Program} (w : World) (t ty e : TypeId) (i : TypeInfo) (ht : P.underlying t = some (.slice e)) (hi : P.info? e = some i) (base : Option Addr) (n c : Nat) (hle : n ≤ c) :
    (Builtin.append_ #[t, t] ty #[.slice base n c, .slice none 0 0]).run P w = .ok (.slice base n c) w := by
  cases base <;> simp [Builtin.append_, run_underlying ht, sizeOf, typeInfo, hi, Builtin.lenOf, Builtin.firstCells, loadCells, loadCellsFrom, storeCells, hle]

/-- What is told, laid behind the row of one's own. -/
theorem wpList_addrow {ops : Array Oper} {rest : List Oper} {o : Oper} {a : Act} {Q : Exit → Act → World → Prop} (hgd : o.guard = none) (s x : Operand)
    (ho : o.op = .call { callee := .builtin .append, args := #[s, x], argTypes := #[35, 35] })
    (h : PT B w0 w hs ao cap L) {ax : Option Addr} {M : List Nat} {cx : Nat} (hr : RdR w ax M cx) (hl : L.length + M.length ≤ 1000000) (hs1 : a.eval s = .slice ao L.length cap) (hx : a.eval x = .slice ax M.length cx)
    (K : ∀ ao' cap' w', PT B w0 w' hs ao' cap' (L ++ M) → wpList Try.prog ops Q rest (a.put o.dst (.slice ao' (L ++ M).length cap')) w') : wpList Try.prog ops Q (o :: rest) a w := by
  obtain ⟨i0, hi, hz0, hz1, hz2⟩ := info_parts info3
  have hf := h.form
  have h' := h
  obtain ⟨F, h1, h2, h3⟩ := h
  have hz := Nat.le_trans h1.le h1.bel.size
  rcases hr with ⟨rfl, rfl, rfl⟩ | ⟨b, rfl, hb, hc⟩
  · have hr := run_append_none2 (P := Try.prog) w 35 o.type 3 i0 Try.underlying35 hi ao L.length cap hf.1
    refine wpList_plain hgd fun K0 hK => ?_
    unfold Oper.wp execOp
    simp only [List.length_nil] at hx
    simp only [ho, resolve, invoke, builtin, Sem.run_bind, Sem.run_pure, Result.andThen_ok, List.map_toArray, List.map_cons, List.map_nil, hs1, hx, hr]
    have := K ao cap w (by rw [List.append_nil]; exact h')
    rw [List.append_nil] at this
    exact hK _ _ this
  · refine wpList_append_tell _ hgd s x 35 ho B 3 i0 _ 1 8 Try.underlying35 hi hz0 hz1 hz2 rfl (by decide) _ L.length (rowL L) hs1 h2 ⟨b, 0, none⟩ M.length cx (rowL M) hx (by rw [rowL_len]; omega) (fun j u hj => ?_) (fun u hu => ?_) (by unfold maxLen; omega) (by omega) hz ?_
    · have hj2 : j < M.length := by
        rcases Nat.lt_or_ge j M.length with q | q
        · exact q
        · rw [List.getElem?_eq_none (by rw [rowL_len]; exact q)] at hj; cases hj
      rw [rowL_at M hj2] at hj
      cases hj
      have := hc j hj2
      rw [Addr.add_lit]
      simpa using this
    · unfold rowL at hu
      obtain ⟨y, _, rfl⟩ := List.mem_map.1 hu
      rfl
    · intro v' w' ho' hg fr
      have e : L.length + M.length = (L ++ M).length := by simp
      have e2 : rowL L ++ rowL M = rowL (L ++ M) := by simp [rowL]
      rw [e, e2] at ho'
      have hs2 := hg.size
      have turn : Turn (fun k => (Value.slice ao L.length cap).ownBlock = some k) w w' := ⟨hg.os, hg.tape, hg.output, hg.size, fun k hk hn => hg.block k hk (fun e => hn e.symm)⟩
      obtain ⟨ao', cap', rfl⟩ : ∃ ao' cap', v' = .slice ao' (L ++ M).length cap' := by
        rcases ho'.2 with ⟨rfl, q⟩ | ⟨g, c, cur, rfl, _⟩
        · exact ⟨none, 0, by rw [q]⟩
        · exact ⟨_, c, rfl⟩
      refine K ao' cap' w' ⟨F, ⟨h1.bel.trans (turn.below hz (fun k hk => (h2.lt k hk).1)), h1.le, fun i x hx => (h1.ho i x hx).turn turn (fun k hk e => h3 k e i hk), fun i k hk => ⟨(h1.bnd i k hk).1, by have := (h1.bnd i k hk).2; omega⟩, h1.dis, fun p hp => by simp at hp⟩, ho', fun k hk i hf => ?_⟩
      rcases fr with q | ⟨k', q1, q2⟩
      · rw [q] at hk; exact h3 k hk i hf
      · rw [q1] at hk
        cases hk
        have := (h1.bnd i _ hf).2
        omega
end
end Go.Proofs.Ytlpbjafdmhcmgaa
