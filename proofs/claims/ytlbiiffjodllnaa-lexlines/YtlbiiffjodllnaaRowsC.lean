/- Appends of bytes from whatever source; onto a literal's bytes. A comment laid into a text. -/
import Derived.Test.YtlbiiffjodllnaaRowsB
import Derived.Laws.AppendOwnNone
import Derived.ArgAppend
namespace Go.Proofs.Ytlbiiffjodllnaa
open Go.RowKit
open M

theorem below_app2 {W w w' : World} {B : Nat} {vo : Value} {e : TypeId} {size n : Nat} {xs : List Value} (hb : Below B W w) (hB : B ≤ W.heap.size) (hown : w.ownsRow B e size vo n xs) (hg : w.grownBy w' vo.ownBlock) : Below B W w' :=
  hb.grown hg (Nat.le_trans hB hb.size) (fun k hk => (hown.lt k hk).1)

theorem bytes_news {w : World} {b o : Nat} {src : List UInt8} (h : Bytes w (some ⟨b, o, none⟩) src) : ∀ j u, (bcells src)[j]? = some u → w.cell? ((⟨b, o, none⟩ : Addr).add j) = some u := by
  intro j u hu
  have hj : j < src.length := by have := (List.getElem?_eq_some_iff.1 hu).1; simpa [bcells] using this
  obtain ⟨b', o', ha, hc⟩ := h j hj
  cases ha
  rw [Addr.add_lit, hc]
  simp only [bcells, List.getElem?_map, List.getElem?_eq_getElem hj, Option.map_some] at hu
  exact hu

/-- Bytes appended to bytes that the call owns, from whatever slice. -/
theorem wpList_append_src (w : World) {ops : Array Oper} {rest : List Oper} {o : Oper} {a : Act} {Q : Exit → Act → World → Prop} (hgd : o.guard = none) (s x : Operand)
    (ho : o.op = .call { callee := .builtin .append, args := #[s, x], argTypes := #[22, 22] })
    (base : Nat) (v : Value) (os : List UInt8) (hs : a.eval s = v) (hown : OwnB w base v os) (ao : Option Addr) (m c : Nat) (src : List UInt8) (hx : a.eval x = .slice ao m c) (hm : m = src.length) (hb : Bytes w ao src) (hnone : ao = none → c = 0)
    (h63 : os.length + src.length ≤ 1000000) (hbase : base ≤ w.heap.size)
    (h : ∀ v' w', OwnB w' base v' (os ++ src) → w.grownBy w' v.ownBlock → wpList Try.prog ops Q rest (a.put o.dst v') w') : wpList Try.prog ops Q (o :: rest) a w := by
  obtain ⟨i0, hi, hz0, hz1, hz2⟩ := info_parts Try.info5b
  subst hm
  cases ao with
  | none =>
    have hc := hnone rfl
    subst hc
    have hsrc : src = [] := by
      cases src with
      | nil => rfl
      | cons c r => obtain ⟨_, _, h, _⟩ := hb 0 (by simp); cases h
    subst hsrc
    exact wpList_append_own_none hgd s x 22 ho base 5 i0 1 Try.underlying22 hi v os.length (bcells os) hs hown hx (h v w (by simpa using hown) (World.grownBy.refl _ _))
  | some ad =>
    by_cases h0 : src = []
    · subst h0
      refine wpList_append_own w hgd s x 22 ho base 5 i0 _ 1 1 Try.underlying22 hi hz0 hz1 hz2 rfl (by decide) v os.length (bcells os) hs hown ad 0 c [] hx rfl (fun j u hu => by simp at hu) (fun u hu => by simp at hu) (by unfold maxLen; omega) (by omega) hbase fun v' w' h2 h3 _ => h v' w' (by simpa using h2) h3
    · obtain ⟨b, of, ha, _⟩ := hb 0 (by have := List.length_pos_iff.2 h0; omega)
      cases ha
      refine wpList_append_own w hgd s x 22 ho base 5 i0 _ 1 1 Try.underlying22 hi hz0 hz1 hz2 rfl (by decide) v os.length (bcells os) hs hown ⟨b, of, none⟩ src.length c (bcells src) hx (by simp [bcells]) (bytes_news hb) (bcells_one _) (by unfold maxLen; omega) (by omega) hbase fun v' w' h2 h3 _ => h v' w' (ownB_app h2) h3

/-- Bytes that the call owns, or a literal's one byte. -/
def SaidIs (w : World) (base : Nat) (v : Value) (os : List UInt8) : Prop :=
  OwnB w base v os ∨ ∃ g c, v = .slice (some ⟨g, 0, none⟩) 1 1 ∧ os = [c] ∧ base ≤ g ∧ w.cell? ⟨g, 0, none⟩ = some (.int .u8 ((c.toNat : Nat) : Int))

theorem SaidIs.bytes {w : World} {base : Nat} {v : Value} {os : List UInt8} (h : SaidIs w base v os) (h0 : 0 < os.length) : ∃ b cap, v = .slice (some ⟨b, 0, none⟩) os.length cap ∧ Bytes w (some ⟨b, 0, none⟩) os := by
  rcases h with h | ⟨g, c, rfl, rfl, _, hc⟩
  · obtain ⟨g, cap, rfl, _, _⟩ := h.form h0
    refine ⟨g, cap, rfl, fun i hi => ⟨g, 0, rfl, ?_⟩⟩
    rw [Nat.zero_add, h.cellAt i (by omega)]
    simp [bcells, hi]
  · refine ⟨g, 1, rfl, fun i hi => ⟨g, 0, rfl, ?_⟩⟩
    have : i = 0 := by simpa using hi
    subst this
    exact hc
theorem SaidIs.later {w w' : World} {base : Nat} {v : Value} {os : List UInt8} (h : SaidIs w base v os) (hb : Below w.heap.size w w') : SaidIs w' base v os := by
  rcases h with h | ⟨g, c, rfl, rfl, hg, hc⟩
  · exact .inl (ownsRow_later h hb)
  · exact .inr ⟨g, c, rfl, rfl, hg, by rw [hb.cell (p := ⟨g, 0, none⟩) (World.block_lt_of_cell? w _ hc)]; exact hc⟩
theorem ownB_low {w : World} {base base' : Nat} {v : Value} {os : List UInt8} (h : OwnB w base v os) (hb : base' ≤ base) : OwnB w base' v os := by
  refine ⟨h.1, ?_⟩
  rcases h.2 with h2 | ⟨g, cap, cur, hv, hg, r⟩
  · exact .inl h2
  · exact .inr ⟨g, cap, cur, hv, Nat.le_trans hb hg, r⟩

/-- One byte more. -/
theorem wpList_append_said (w : World) {ops : Array Oper} {rest : List Oper} {o : Oper} {a : Act} {Q : Exit → Act → World → Prop} (hgd : o.guard = none) (s x : Operand)
    (ho : o.op = .call { callee := .builtin .append, args := #[s, x], argTypes := #[22, 22] })
    (base : Nat) (v : Value) (os : List UInt8) (hs : a.eval s = v) (hown : SaidIs w base v os) (c : UInt8) (hbase : base ≤ w.heap.size)
    (hx : a.eval x = .slice (some ⟨w.heap.size, 0, none⟩) 1 1) (h63 : os.length ≤ 1000000)
    (h : ∀ v' w', SaidIs w' base v' (os ++ [c]) → Below base w w' → wpList Try.prog ops Q rest (a.put o.dst v') w') : wpList Try.prog ops Q (o :: rest) a (w.alloc (.cells #[.int .u8 ((c.toNat : Nat) : Int)] 5)) := by
  obtain ⟨i0, hi, hz0, hz1, hz2⟩ := info_parts Try.info5b
  have hnews : ∀ j u, (bcells [c])[j]? = some u → (w.alloc (.cells #[.int .u8 ((c.toNat : Nat) : Int)] 5)).cell? ((⟨w.heap.size, 0, none⟩ : Addr).add j) = some u := World.news_of_block (heap_alloc_new w _)
  rcases hown with hown | ⟨g, c', rfl, rfl, hg, hc⟩
  · exact wpList_append_own _ hgd s x 22 ho base 5 i0 _ 1 1 Try.underlying22 hi hz0 hz1 hz2 rfl (by decide) v os.length (bcells os) hs (hown.alloc _) ⟨w.heap.size, 0, none⟩ 1 1 (bcells [c]) hx rfl hnews (bcells_one _) (by unfold maxLen; omega) (by omega) (by simp; omega) fun v' w' h2 h3 _ => h v' w' (.inl (ownB_app h2)) (((Below.refl base w).alloc hbase _).grown h3 (by simp; omega) (fun k hk => (hown.lt k hk).1))
  · refine wpList_append_grows _ hgd s x 22 ho 5 i0 _ 1 1 Try.underlying22 hi hz0 hz1 hz2 rfl (by decide) (some ⟨g, 0, none⟩) 1 1 (bcells [c']) hs (fun e => by cases e) rfl (fun b hb j u hu => ?_) ⟨w.heap.size, 0, none⟩ 1 1 (bcells [c]) hx rfl hnews (bcells_one _) (by omega) (by unfold maxLen; omega) (by omega) fun v' w' h2 h3 => h v' w' (.inl ?_) (((Below.refl base w).alloc hbase _).grown h3 (by simp; omega) (fun k hk => by cases hk))
    · cases hb
      have hj : j = 0 := by have := (List.getElem?_eq_some_iff.1 hu).1; simpa [bcells] using this
      subst hj
      have hu' : Value.int .u8 ((c'.toNat : Nat) : Int) = u := by simpa [bcells] using hu
      subst hu'
      rw [Addr.add_lit, Nat.add_zero, ((Below.refl w.heap.size w).alloc (Nat.le_refl _) _).cell (p := ⟨g, 0, none⟩) (World.block_lt_of_cell? w _ hc)]
      exact hc
    · have := ownB_app (a := [c']) (b := [c]) h2
      exact ownB_low this (by simp; omega)

/-! ### A comment laid in at a line's end -/
/-- The text so far: the comment is still to come; or it stands ahead of a line's end; or all is through. -/
def Ins (bs said : List UInt8) (T i l : Nat) (out : List UInt8) : Prop :=
  (i ≤ bs.length ∧ l = lines (bs.take i) ∧ l ≤ T ∧ out = bs.take i) ∨
  (i ≤ bs.length ∧ l = lines (bs.take i) ∧ T < l ∧ ∃ pre r, bs.take i = pre ++ 10 :: r ∧ out = pre ++ said ++ 10 :: r) ∨
  (i = bs.length + 1 ∧ l = lines bs + 1 ∧ ∃ pre post, bs = pre ++ post ∧ out = pre ++ said ++ post ∧ ∀ c r, post = c :: r → c = 10)

theorem lines_snoc (bs : List UInt8) (c : UInt8) : lines (bs ++ [c]) = lines bs + if c = 10 then 1 else 0 := by
  unfold lines
  by_cases h : c = 10 <;> simp [h]
section
variable {bs said out : List UInt8} {T i l : Nat}
theorem ins_plain (h : Ins bs said T i l out) (hi : i < bs.length) (hc : bs[i] ≠ 10) : Ins bs said T (i + 1) l (out ++ [bs[i]]) := by
  have hl : lines (bs.take (i + 1)) = lines (bs.take i) := by rw [take_snoc hi, lines_snoc, if_neg hc]; rfl
  rcases h with ⟨_, h2, h3, h4⟩ | ⟨_, h2, h3, pre, r, h4, h5⟩ | ⟨h1, _⟩
  · exact .inl ⟨hi, by rw [hl]; exact h2, h3, by rw [take_snoc hi, h4]⟩
  · exact .inr (.inl ⟨hi, by rw [hl]; exact h2, h3, pre, r ++ [bs[i]], by rw [take_snoc hi, h4]; simp, by rw [h5]; simp⟩)
  · omega
theorem ins_nl_at (h : Ins bs said T i l out) (hi : i < bs.length) (hc : bs[i] = 10) (hl : l = T) : Ins bs said T (i + 1) (l + 1) (out ++ said ++ [bs[i]]) := by
  have hL : lines (bs.take (i + 1)) = lines (bs.take i) + 1 := by rw [take_snoc hi, lines_snoc, if_pos hc]
  rcases h with ⟨_, h2, h3, h4⟩ | ⟨_, h2, h3, pre, r, h4, h5⟩ | ⟨h1, _⟩
  · exact .inr (.inl ⟨hi, by rw [hL]; omega, by omega, bs.take i, [], by rw [take_snoc hi, hc], by rw [h4, hc]⟩)
  · omega
  · omega
theorem ins_nl_other (h : Ins bs said T i l out) (hi : i < bs.length) (hc : bs[i] = 10) (hl : l ≠ T) : Ins bs said T (i + 1) (l + 1) (out ++ [bs[i]]) := by
  have hL : lines (bs.take (i + 1)) = lines (bs.take i) + 1 := by rw [take_snoc hi, lines_snoc, if_pos hc]
  rcases h with ⟨_, h2, h3, h4⟩ | ⟨_, h2, h3, pre, r, h4, h5⟩ | ⟨h1, _⟩
  · exact .inl ⟨hi, by rw [hL]; omega, by omega, by rw [take_snoc hi, h4]⟩
  · exact .inr (.inl ⟨hi, by rw [hL]; omega, by omega, pre, r ++ [bs[i]], by rw [take_snoc hi, h4]; simp, by rw [h5]; simp⟩)
  · omega
theorem ins_end_at (h : Ins bs said T i l out) (hi : i = bs.length) (hl : l = T) : Ins bs said T (i + 1) (l + 1) (out ++ said) := by
  subst hi
  rcases h with ⟨_, h2, h3, h4⟩ | ⟨_, h2, h3, pre, r, h4, h5⟩ | ⟨h1, _⟩
  · rw [List.take_length] at h2 h4
    exact .inr (.inr ⟨rfl, by omega, bs, [], by simp, by rw [h4]; simp, fun c r e => by cases e⟩)
  · omega
  · omega
theorem ins_end_other (h : Ins bs said T i l out) (hi : i = bs.length) (hl : l ≠ T) (hT : T ≤ lines bs) : Ins bs said T (i + 1) (l + 1) out := by
  subst hi
  rcases h with ⟨_, h2, h3, h4⟩ | ⟨_, h2, h3, pre, r, h4, h5⟩ | ⟨h1, _⟩
  · rw [List.take_length] at h2; omega
  · rw [List.take_length] at h2 h4
    exact .inr (.inr ⟨rfl, by omega, pre, 10 :: r, h4, h5, fun c r e => by cases e; rfl⟩)
  · omega
theorem ins_start : Ins bs said T 0 0 [] := .inl ⟨Nat.zero_le _, rfl, Nat.zero_le _, rfl⟩
theorem ins_len (h : Ins bs said T i l out) : out.length ≤ bs.length + said.length ∧ l ≤ bs.length + 1 ∧ i ≤ bs.length + 1 := by
  have hc : lines bs ≤ bs.length := List.count_le_length
  rcases h with ⟨h1, h2, h3, h4⟩ | ⟨h1, h2, h3, pre, r, h4, h5⟩ | ⟨h1, h2, pre, post, h4, h5, _⟩
  · have : lines (bs.take i) ≤ (bs.take i).length := List.count_le_length
    rw [h4]; simp at this ⊢; omega
  · have : lines (bs.take i) ≤ (bs.take i).length := List.count_le_length
    have e := congrArg List.length h4
    rw [h5]; simp at this e ⊢; omega
  · have e := congrArg List.length h4
    rw [h5]; simp at e ⊢; omega
theorem ins_lex {cs : List UInt8} (h : Ins bs (35 :: cs) T (bs.length + 1) l out) (hcs : ∀ c ∈ cs, cls c ≠ 5) (hlen : bs.length + cs.length ≤ 10000) (hok : (lexF bs).2.2 = 0) : lexF out = lexF bs := by
  rcases h with ⟨h1, _⟩ | ⟨h1, _⟩ | ⟨_, _, pre, post, h4, h5, h6⟩
  · omega
  · omega
  · have e := congrArg List.length h4
    rw [h5, h4]
    rw [h4] at hok
    refine lex_comment pre post cs hcs (fun c r hp => by rw [h6 c r hp]; decide) ?_ hok
    simp at e ⊢; omega
end
end Go.Proofs.Ytlbiiffjodllnaa
