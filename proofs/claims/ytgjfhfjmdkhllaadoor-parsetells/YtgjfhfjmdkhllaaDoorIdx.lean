/- What isEnd of package parse, and slices.IndexFunc with it, answer: where the first End stands. -/
import Derived.Test.YtgjfhfjmdkhllaaDoorLexC
import Derived.Test.YtgjfhfjmdkhllaaDoorParM
namespace Go.Proofs.YtgjfhfjmdkhllaaDoor
open Go.RowKit
open M
set_option linter.unusedVariables false

/-- Tokens in memory: three cells each. -/
def TAt (w : World) (b o : Nat) (ts : List Tok) : Prop :=
  ∀ i (h : i < ts.length), w.cell? ⟨b, o + i * 3, none⟩ = some (.int .i64 ts[i].kind) ∧ w.cell? ⟨b, o + i * 3 + 1, none⟩ = some (.string ⟨ts[i].text.toArray⟩) ∧ w.cell? ⟨b, o + i * 3 + 2, none⟩ = some (.int .i64 ts[i].line)

theorem TAt.below {w w' : World} {b o : Nat} {ts : List Tok} (h : TAt w b o ts) {B : Nat} (hb : Below B w w') (hB : b < B) : TAt w' b o ts := by
  intro i hi
  obtain ⟨h0, h1, h2⟩ := h i hi
  exact ⟨by rw [hb.cell (p := ⟨b, o + i * 3, none⟩) hB]; exact h0, by rw [hb.cell (p := ⟨b, o + i * 3 + 1, none⟩) hB]; exact h1, by rw [hb.cell (p := ⟨b, o + i * 3 + 2, none⟩) hB]; exact h2⟩
theorem TAt.lt {w : World} {b o : Nat} {ts : List Tok} (h : TAt w b o ts) (h0 : 0 < ts.length) : b < w.heap.size := World.block_lt_of_cell? w _ (h 0 h0).1
theorem TAt.drop {w : World} {b o : Nat} {ts : List Tok} (h : TAt w b o ts) (k : Nat) : TAt w b (o + k * 3) (ts.drop k) := by
  intro i hi
  have hk : k + i < ts.length := by simp at hi; omega
  have := h (k + i) hk
  simp only [List.getElem_drop]
  rw [show o + k * 3 + i * 3 = o + (k + i) * 3 by omega]
  exact this
theorem TAt.take {w : World} {b o : Nat} {ts : List Tok} (h : TAt w b o ts) (k : Nat) : TAt w b o (ts.take k) := by
  intro i hi
  have hk : i < ts.length := by simp at hi; omega
  simp only [List.getElem_take]
  exact h i hk

set_option maxRecDepth 1000000 in
set_option maxHeartbeats 1000000 in
theorem isEnd_any (k l : Int) (s : ByteArray) (w : World) :
    Calls Tryd.prog 29 #[.agg #[.int .i64 k, .string s, .int .i64 l]] w fun e w' => e = .returned (.bool (k == 3)) ∧ Below w.heap.size w w' := by
  go_enter Tryd.func29, Tryd.ntmps29
  go_wp2
  go_ret
  exact ⟨rfl, (Below.refl _ _).alloc (Nat.le_refl _) _⟩

theorem endAt_lt {ts : List Tok} (h : ∃ t ∈ ts, t.kind = 3) : endAt ts < ts.length := by
  obtain ⟨t, ht, hk⟩ := h
  exact List.findIdx_lt_length_of_exists ⟨t, ht, by simp [hk]⟩
theorem endAt_kind {ts : List Tok} (h : endAt ts < ts.length) : ts[endAt ts].kind = 3 := by
  have := List.findIdx_getElem (xs := ts) (p := fun t : Tok => t.kind == 3) (w := h)
  exact beq_iff_eq.1 this
theorem endAt_not {ts : List Tok} {k : Nat} (h : k < endAt ts) (hk : k < ts.length) : ts[k].kind ≠ 3 := by
  have := List.not_of_lt_findIdx (xs := ts) (p := fun t : Tok => t.kind == 3) (i := k) h
  simpa using this
theorem endAt_is {ts : List Tok} {k : Nat} (hk : k < ts.length) (h3 : ts[k].kind = 3) (hb : ∀ j (h : j < k), ts[j].kind ≠ 3) : endAt ts = k := by
  unfold endAt
  rw [List.findIdx_eq hk]
  exact ⟨by simp [h3], fun j hj => by simpa using hb j hj⟩

set_option maxRecDepth 1000000 in
set_option maxHeartbeats 2000000 in
theorem indexFunc_any (b o cap : Nat) (ts : List Tok) (w : World) (hcap : ts.length ≤ cap) (hn : ts.length ≤ 1000000) (ht : TAt w b o ts) (hE : ∃ t ∈ ts, t.kind = 3) :
    Calls Tryd.prog 28 #[.slice (some ⟨b, o, none⟩) ts.length cap, .func (Fn.func 29) #[] #[]] w fun e w' => e = .returned (.int .i64 (endAt ts)) ∧ Below w.heap.size w w' := by
  have hlt := endAt_lt hE
  have h0 : 0 < ts.length := by omega
  have hb := ht.lt h0
  clear hE
  go_enter Tryd.func28, Tryd.ntmps28
  go_wp2
  go_loopw [8] (fun i wr => ∃ k : Nat, i = .int .i64 k ∧ k ≤ endAt ts ∧ Below w.heap.size w wr) (fun i _ => ts.length - (intOf i).toNat)
  case atStart => exact ⟨0, rfl, by omega, Below.refl _ _⟩
  case round =>
    obtain ⟨k, rfl, hk, hbw⟩ := hrel
    have hkl : k < ts.length := by omega
    obtain ⟨c0, c1, c2⟩ := (ht.below hbw hb) k hkl
    have hsz := hbw.size
    have kE := isEnd_any (ts[k].kind) (ts[k].line) ⟨ts[k].text.toArray⟩ wr
    by_cases h3 : k = endAt ts
    · have e3 : ts[k].kind = 3 := by
        subst h3
        exact endAt_kind hlt
      have e3' : (((ts[k].kind : Nat) : Int) == 3) = true := by rw [e3]; rfl
      rw [e3'] at kE
      generalize ((ts[k].kind : Nat) : Int) = kd at *
      have H3 : Hid (k = endAt ts) := h3
      clear e3 e3' h3
      go_wp2_with (go_at_call 29; refine kE.mono ?_; rintro e w2 ⟨rfl, hb2⟩)
      go_ret
      exact ⟨ret_int (by have := H3.out; omega), hbw.trans (hb2.mono hsz)⟩
    · have e3 : ts[k].kind ≠ 3 := by
        exact endAt_not (by omega) hkl
      have e3' : (((ts[k].kind : Nat) : Int) == 3) = false := beq_eq_false_iff_ne.2 (by omega)
      rw [e3'] at kE
      generalize ((ts[k].kind : Nat) : Int) = kd at *
      clear e3 e3'
      go_wp2_with (go_at_call 29; refine kE.mono ?_; rintro e w2 ⟨rfl, hb2⟩)
      go_roundw
      case rel => exact ⟨k + 1, by go_num, by omega, hbw.trans (hb2.mono hsz)⟩
      case measure => simp [intOf]; omega

end Go.Proofs.YtgjfhfjmdkhllaaDoor
