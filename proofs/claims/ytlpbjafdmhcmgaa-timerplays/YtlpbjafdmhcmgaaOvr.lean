/- A row that was handed back and may be written over; a step that came in. -/
import Derived.Test.YtlpbjafdmhcmgaaRow
namespace Go.Proofs.Ytlpbjafdmhcmgaa
open Go.RowKit
open M
set_option linter.unusedVariables false
set_option linter.unusedSimpArgs false

theorem StepsIn.get {w : World} {a : Option Addr} {l : List (Int × Int × Int)} (h : StepsIn w a l) {i : Nat} (hi : i < l.length) : ∃ x y z b o, a = some ⟨b, o, none⟩ ∧ ∀ W, Below w.heap.size w W → W.cell? ⟨b, o + i * 3, none⟩ = some (.int .i64 x) ∧ W.cell? ⟨b, o + i * 3 + 1, none⟩ = some (.int .i64 y) ∧ W.cell? ⟨b, o + i * 3 + 2, none⟩ = some (.int .i64 z) := by
  obtain ⟨b, o, h1, h2, h3, h4, h5⟩ := h i hi
  exact ⟨_, _, _, b, o, h1, fun W hb => ⟨by rw [hb.cell (p := ⟨b, _, none⟩) h2]; exact h3, by rw [hb.cell (p := ⟨b, _, none⟩) h2]; exact h4, by rw [hb.cell (p := ⟨b, _, none⟩) h2]; exact h5⟩⟩
theorem kindsT (k : Int) : k = 1 ∨ k = 2 ∨ k = 3 ∨ k = 4 ∨ ((k == 1) = false ∧ (k == 2) = false ∧ (k == 3) = false ∧ (k == 4) = false) := by
  simp only [beq_eq_false_iff_ne]
  omega

/-- Blocks of other types than that of a row of numbers. -/
def Oth (R : List (Nat × Obj)) : Prop := ∀ q ∈ R, ∃ c t, q.2 = .cells c t ∧ t ≠ 3
/-- The row a of m numbers, beside timers and the blocks R: whatever it holds. -/
def PX (B : Nat) (w0 w : World) (hs : List Hp) (a : Option Addr) (m : Nat) (R : List (Nat × Obj)) : Prop := Oth R ∧ ((m = 0 ∧ MX B w0 w hs R) ∨ ∃ b cur, a = some ⟨b, 0, none⟩ ∧ m ≤ cur.size ∧ MX B w0 w hs ((b, .cells cur 3) :: R))
section
variable {B : Nat} {w0 w w' : World} {hs : List Hp} {a : Option Addr} {m : Nat} {R R' : List (Nat × Obj)}
theorem PX.mx (h : PX B w0 w hs a m R) : MX B w0 w hs R := by
  rcases h.2 with ⟨_, h⟩ | ⟨b, cur, _, _, h⟩
  · exact h
  · exact h.drop (fun p hp => List.mem_cons_of_mem _ hp)
theorem px_of {L : List Nat} {cap : Nat} (ho : Oth R) (hr : RowAt a L cap R') (h : MX B w0 w hs (R' ++ R)) : PX B w0 w hs a L.length R := by
  refine ⟨ho, ?_⟩
  rcases hr with ⟨rfl, _, _, rfl⟩ | ⟨b, cur, rfl, rfl, _, _, hz, _⟩
  · exact .inl ⟨rfl, h⟩
  · exact .inr ⟨b, cur, rfl, hz, h⟩
theorem PX.below (h : PX B w0 w hs a m R) (hb : Below w.heap.size w w') : PX B w0 w' hs a m R := by
  refine ⟨h.1, ?_⟩
  rcases h.2 with ⟨h1, h2⟩ | ⟨b, cur, h1, h2, h3⟩
  · exact .inl ⟨h1, h2.below hb⟩
  · exact .inr ⟨b, cur, h1, h2, h3.below hb⟩
theorem PX.put (h : PX B w0 w hs a m R) {i : Nat} (hi : i < m) : ∃ b v, a = some ⟨b, 0, none⟩ ∧ w.cell? ⟨b, i, none⟩ = some v ∧ w.frozen? ⟨b, i, none⟩ = false ∧ ∀ u, PX B w0 (w.setCell ⟨b, i, none⟩ u) hs a m R := by
  rcases h.2 with ⟨rfl, _⟩ | ⟨b, cur, rfl, hz, hm⟩
  · omega
  · have hr := hm.row (List.mem_cons_self ..)
    refine ⟨b, cur[i], rfl, by rw [cell_of_row w b i _ _ _ hr]; exact Array.getElem?_eq_getElem (by omega), by simp [World.frozen?, hr], fun u => ⟨h.1, .inr ⟨b, cur.setIfInBounds i u, rfl, by simpa using hz, ?_⟩⟩⟩
    have := hm.set (List.mem_cons_self ..) i u
    simp only [List.map_cons, if_true] at this
    have e : (R.map fun p => if p.1 = b then (b, Obj.cells (cur.setIfInBounds i u) 3) else p) = R := by
      conv => rhs; rw [← List.map_id R]
      refine List.map_congr_left (fun q hq => ?_)
      have hne : ¬ q.1 = b := fun e => by
        have h1 := hm.row (r := q.1) (o := q.2) (List.mem_cons_of_mem _ hq)
        obtain ⟨c, t, h2, h3⟩ := h.1 q hq
        rw [e, hr, h2] at h1
        cases h1
        exact h3 rfl
      rw [if_neg hne]
      rfl
    rw [e] at this
    exact this
theorem len_cnt (p : Nat → Bool) : ∀ (n : Nat) (L : List Nat), L.Nodup → (∀ x, x ∈ L ↔ x < n ∧ p x = true) → L.length = cnt p n
  | 0, L, _, h => by
    have : L = [] := List.eq_nil_iff_forall_not_mem.2 (fun x hx => by have := ((h x).1 hx).1; omega)
    subst this
    rfl
  | n + 1, L, hn, h => by
    unfold cnt
    cases hp : p n with
    | false =>
      have := len_cnt p n L hn (fun x => (h x).trans ⟨fun q => ⟨by
        rcases Nat.lt_or_ge x n with r | r
        · exact r
        · have : x = n := by omega
          subst this; rw [hp] at q; exact absurd q.2 (by simp), q.2⟩, fun q => ⟨by omega, q.2⟩⟩)
      simp [this]
    | true =>
      have hin : n ∈ L := (h n).2 ⟨by omega, hp⟩
      have := len_cnt p n (L.erase n) (hn.erase n) (fun x => by
        rw [hn.mem_erase_iff, h x]
        constructor
        · rintro ⟨h1, h2, h3⟩; exact ⟨by omega, h3⟩
        · rintro ⟨h1, h2⟩; exact ⟨by omega, by omega, h2⟩)
      have h2 := List.length_pos_of_mem hin
      rw [List.length_erase_of_mem hin] at this
      simp
      omega
theorem cnt_add {a b c : Nat → Bool} {n : Nat} (h : ∀ x, x < n → (c x = true ∧ a x = true ∧ b x = false) ∨ (c x = true ∧ a x = false ∧ b x = true) ∨ (c x = false ∧ a x = false ∧ b x = false)) : cnt a n + cnt b n = cnt c n := by
  induction n with
  | zero => rfl
  | succ n ih =>
    unfold cnt
    have := ih (fun x hx => h x (by omega))
    rcases h n (by omega) with ⟨h1, h2, h3⟩ | ⟨h1, h2, h3⟩ | ⟨h1, h2, h3⟩ <;> simp [h1, h2, h3] <;> omega
/-- As many are due as then are there no more. -/
theorem Due.len {n : Nat} {S : Nat → Option Int} {now : Int} {L : List Nat} (h : Due n S now L) : L.length + cntS n (dueS S now) = cntS n S := by
  have hnd : L.Nodup := h.ord.imp (fun q e => by subst e; exact lt_irr q)
  rw [len_cnt (fun x => (S x).isSome && !(dueS S now x).isSome) n L hnd (fun x => (h.mem x).trans ⟨fun ⟨hx, y, h1, h2⟩ => ⟨hx, by rw [dueS_none.2 (.inr ⟨y, h1, h2⟩), h1]; rfl⟩, fun ⟨hx, h1⟩ => ⟨hx, by
    cases hs : S x with
    | none => simp [hs] at h1
    | some y =>
      refine ⟨y, rfl, ?_⟩
      rcases (by omega : y ≤ now ∨ now < y) with q | q
      · exact q
      · rw [dueS_some.2 ⟨hs, q⟩] at h1; simp at h1⟩⟩)]
  refine cnt_add (fun x hx => ?_)
  cases hs : S x with
  | none => rw [dueS_none.2 (.inl hs)]; simp
  | some y =>
    cases hd : dueS S now x with
    | none => simp
    | some u => simp
theorem Due.len_le {n : Nat} {S : Nat → Option Int} {now : Int} {L : List Nat} (h : Due n S now L) : L.length ≤ n := by
  have h1 := h.len
  have h2 := cntS_le n S
  omega
/-- Due of the second timer, beside a row that stays. -/
theorem PX.due1 {t0 g0 t1 g1 n : Nat} {S0 S : Nat → Option Int} (h : PX B w0 w [(t0, g0, n, S0), (t1, g1, n, S)] a m R) {L : List Int} (hr : Rd w a L) (hm : L.length = m) (now : Int) : Calls Try.prog 16 #[ptr t1, .int .i64 now] w fun e w' => ∃ ay L2 cy, e = .returned (.slice ay L2.length cy) ∧ Due n S now L2 ∧ PX B w0 w' [(t0, g0, n, S0), (t1, g1, n, dueS S now)] a m R ∧ Rd w' a L ∧ Rd w' ay (L2.map fun (x : Nat) => (x : Int)) := by
  rcases h.2 with ⟨h1, h2⟩ | ⟨b, cur, h1, h2, h3⟩
  · refine (h2.due 1 rfl now).mono ?_
    rintro e w' ⟨ay, L2, cy, R', rfl, hd, hr2, hm2⟩
    have hL : L = [] := List.eq_nil_of_length_eq_zero (by omega)
    subst hL
    exact ⟨ay, L2, cy, rfl, hd, ⟨h.1, .inl ⟨h1, hm2.out.drop (fun p hp => List.mem_append_right _ hp)⟩⟩, fun i hi => by simp at hi, rd_row hm2.out hr2⟩
  · refine (h3.due 1 rfl now).mono ?_
    rintro e w' ⟨ay, L2, cy, R', rfl, hd, hr2, hm2⟩
    have hx := hm2.out.drop (R' := (b, .cells cur 3) :: R) (fun p hp => List.mem_append_right _ hp)
    refine ⟨ay, L2, cy, rfl, hd, ⟨h.1, .inr ⟨b, cur, h1, h2, hx⟩⟩, fun i hi => ?_, rd_row hm2.out hr2⟩
    obtain ⟨b', e1, e2, e3⟩ := hr i hi
    rw [h1] at e1
    cases e1
    have r1 := h3.row (List.mem_cons_self ..)
    have r2 := hx.row (List.mem_cons_self ..)
    refine ⟨b, h1, block_lt r2, ?_⟩
    rw [cell_of_row w b i _ _ _ r1] at e3
    rw [cell_of_row w' b i _ _ _ r2]
    exact e3
end
end Go.Proofs.Ytlpbjafdmhcmgaa
