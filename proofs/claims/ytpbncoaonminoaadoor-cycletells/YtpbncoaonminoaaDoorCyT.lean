/- What the path is: mathematics. -/
import Derived.Test.YtpbncoaonminoaaDoorCyS
namespace Go.Proofs.YtpbncoaonminoaaDoor
open Go.RowKit
open M
set_option linter.unusedVariables false
set_option linter.unusedSimpArgs false

/-- A path from a to b, each task nearer to b by one. -/
structure PS (es : List E) (n a b : Nat) (L : List Nat) : Prop where
  ne : 0 < L.length
  first : L[0]? = some a
  dst : ∀ i, i < L.length → ∃ u, L[i]? = some u ∧ u < n ∧ Dst es b u (L.length - 1 - i)
  edge : ∀ i u v, L[i]? = some u → L[i + 1]? = some v → (u, v) ∈ es
theorem ps_gp {es : List E} {n b : Nat} (hg : ∀ e ∈ es, e.1 < n ∧ e.2 < n) : ∀ d x, x < n → Dst es b x d → PS es n x b (gp es n b d x) ∧ (gp es n b d x).length = d + 1
  | 0, x, hx, h => ⟨⟨by simp [gp], rfl, fun i hi => by
      have : i = 0 := by simpa [gp] using hi
      subst this
      exact ⟨x, rfl, hx, h⟩, fun i u v h1 h2 => by simp [gp] at h2⟩, rfl⟩
  | d + 1, x, hx, h => by
    obtain ⟨l1, y, l2, o1, o2, o3, o4, o5⟩ := gp_step (n := n) hg h
    obtain ⟨ih, il⟩ := ps_gp hg d y (hg _ o4).2 o3
    rw [o5]
    refine ⟨⟨by simp, rfl, fun i hi => ?_, fun i u v h1 h2 => ?_⟩, by simp [il]⟩
    · cases i with
      | zero => exact ⟨x, rfl, hx, by simp [il]; exact h⟩
      | succ i =>
        obtain ⟨u, q1, q2, q3⟩ := ih.dst i (by simpa using hi)
        refine ⟨u, by simpa using q1, q2, ?_⟩
        have : (x :: gp es n b d y).length - 1 - (i + 1) = (gp es n b d y).length - 1 - i := by simp; omega
        rw [this]; exact q3
    · cases i with
      | zero =>
        have e1 : x = u := by simpa using h1
        have e2 : (gp es n b d y)[0]? = some v := by simpa using h2
        rw [ih.first] at e2
        have e3 : y = v := by simpa using e2
        subst e1 e3
        exact o4
      | succ i => exact ih.edge i u v (by simpa using h1) (by simpa using h2)
/-- The answer of Path: none, or a path. -/
theorem path_cases {es : List E} {n : Nat} (hg : ∀ e ∈ es, e.1 < n ∧ e.2 < n) (a b : Int) : (pathG es n a b = [] ∧ reachB n es a b = false) ∨ (reachB n es a b = true ∧ ∃ x y : Nat, a = x ∧ b = y ∧ x < n ∧ y < n ∧ PS es n x y (pathG es n a b)) := by
  unfold pathG reachB
  cases ho : (offB n a || offB n b) with
  | true =>
    left
    refine ⟨rfl, ?_⟩
    have : [a, b].any (offB n) = true := by simpa using ho
    rw [this]
    rfl
  | false =>
    have h1 : [a, b].any (offB n) = false := by simpa using ho
    rw [h1]
    simp [offB] at ho
    obtain ⟨x, rfl⟩ : ∃ x : Nat, a = x := ⟨a.toNat, by omega⟩
    obtain ⟨y, rfl⟩ : ∃ y : Nat, b = y := ⟨b.toNat, by omega⟩
    have hx : x < n := by omega
    have hy : y < n := by omega
    simp only [Int.toNat_natCast, Bool.not_false, Bool.true_and, if_neg Bool.false_ne_true]
    by_cases hr : Rch es x y
    · right
      obtain ⟨d, hd⟩ := rch_dst hr
      refine ⟨(rB_iff _ _ _).2 hr, x, y, rfl, rfl, hx, hy, ?_⟩
      rw [pathN_some hg hx hd]
      exact (ps_gp hg d x hx hd).1
    · left
      refine ⟨pathN_none hg hx hr, ?_⟩
      cases q : rB es x y with
      | false => rfl
      | true => exact absurd ((rB_iff _ _ _).1 q) hr
section
variable {es : List E} {n a b : Nat} {L : List Nat}
theorem PS.at (h : PS es n a b L) {i : Nat} (hi : i < L.length) : L[i] < n ∧ Dst es b L[i] (L.length - 1 - i) := by
  obtain ⟨u, q1, q2, q3⟩ := h.dst i hi
  rw [List.getElem?_eq_getElem hi] at q1
  have : L[i] = u := Option.some.inj q1
  rw [this]
  exact ⟨q2, q3⟩
theorem PS.edges (h : PS es n a b L) {i : Nat} (hi : i + 1 < L.length) : (L[i], L[i + 1]) ∈ es :=
  h.edge i _ _ (List.getElem?_eq_getElem _) (List.getElem?_eq_getElem hi)
theorem PS.inj (h : PS es n a b L) {i k : Nat} (hi : i < L.length) (hk : k < i) : L[k] ≠ L[i] := by
  intro e
  have h1 := (h.at (i := k) (by omega)).2
  have h2 := (h.at hi).2
  rw [e] at h1
  have := h1.uniq h2
  omega
theorem PS.short (h : PS es n a b L) {i k : Nat} (hk : k < L.length) (hik : i + 2 ≤ k) : (L[i], L[k]) ∉ es := by
  intro he
  have h1 := (h.at (i := i) (by omega)).2
  have h2 := (h.at hk).2
  have := Dst.edge_le he h2 h1
  omega
theorem PS.len (hg : ∀ e ∈ es, e.1 < n ∧ e.2 < n) (h : PS es n a b L) : L.length ≤ n := by
  have h0 := h.ne
  obtain ⟨h1, h2⟩ := h.at (i := 0) h0
  have := h2.lt hg h1
  omega
theorem PS.head (h : PS es n a b L) : L[0]'h.ne = a := by
  have := h.first
  rw [List.getElem?_eq_getElem h.ne] at this
  exact Option.some.inj this
theorem PS.last (h : PS es n a b L) (hi : L.length - 1 < L.length) : L[L.length - 1] = b := by
  have := (h.at hi).2
  rw [show L.length - 1 - (L.length - 1) = 0 by omega] at this
  exact this.zero_eq
theorem PS.one (h : PS es n a a L) : L.length = 1 := by
  have h0 := h.ne
  have h1 := (h.at h0).2
  rw [h.head] at h1
  have := h1.uniq Dst.zero
  omega
end
/-- A row, cell by cell. -/
def RAt (W : World) (ao : Option Addr) (L : List Nat) : Prop := ∀ i (h : i < L.length), ∃ r, ao = some ⟨r, 0, none⟩ ∧ r < W.heap.size ∧ W.cell? ⟨r, i, none⟩ = some (.int .i64 (L[i] : Nat))
theorem RX.at {B : Nat} {w0 w : World} {g eb n : Nat} {es : List E} {X : List (Value × List Nat)} (h : RX B w0 w g eb n es X) {ao : Option Addr} {m cap : Nat} {L : List Nat} (hu : (Value.slice ao m cap, L) ∈ X) : RAt w ao L := (own_at (h.row hu)).2
theorem hasB_in {n : Nat} {es : List E} (x y : Nat) (hx : x < n) (hy : y < n) : hasB n es x y = decide ((x, y) ∈ es) := by
  unfold hasB
  have : [(x : Int), (y : Int)].any (offB n) = false := by simp [offB]; omega
  rw [this]
  simp

theorem shown_q {W w : World} (hT : Tab W) (h0 : 0 < W.heap.size) (hb : Below W.heap.size W w) :
    Calls Tryd.prog 9 #[] w fun e w' => e = .returned (.bool true) ∧ Hid (Below W.heap.size W w') := by
  refine (shown_any w (tab_below hT h0 hb) (Nat.lt_of_lt_of_le h0 hb.size)).mono ?_
  rintro e w' ⟨rfl, h⟩
  exact ⟨rfl, hb.trans (h.mono hb.size)⟩
theorem made_q {W w : World} (hT : Tab W) (h0 : 0 < W.heap.size) (hb : Below W.heap.size W w) (n : Int) (ls : List (Int × Int)) (la : Option Addr) (lc : Nat) (hl : LIn W la ls) (hm : ls.length ≤ maxLen) (m N : Nat) (fs : List E) (hN : sz30 n = N) (hmm : ls.length = m) (hf : foldE N (ls.take 100) [] = fs) :
    Calls Tryd.prog 10 #[.int .i64 n, .slice la m lc] w fun e w' => ∃ g eb, e = .returned (ptr g) ∧ Hid (RX W.heap.size W w' g eb N fs []) := by
  refine (made_rx n ls la lc w (tab_below hT h0 hb) (Nat.lt_of_lt_of_le h0 hb.size) (hl.below hb (Nat.le_refl _)) hm m N fs hmm hN hf).mono ?_
  rintro e w' ⟨g, eb, rfl, s⟩
  obtain ⟨v, h⟩ := s.out
  have hs := hb.size
  exact ⟨g, eb, rfl, v, hb.trans (h.bel.mono hs), h.gm, fun k hk => Nat.le_trans hs (h.gB k hk), h.tab, h0, Nat.le_trans hs h.le, fun p hp => by simp at hp⟩
theorem fold_len (N : Nat) (ls : List (Int × Int)) : (foldE N (ls.take 100) []).length ≤ 100 := foldE_len N ls 100
theorem RX.drewN {B : Nat} {w0 w : World} {g eb n : Nat} {es : List E} {X : List (Value × List Nat)} (h : RX B w0 w g eb n es X) (j : Nat) : RX B w0 (w.drewN j) g eb n es X := h.step (below_drewN (Below.refl _ _) j)
theorem RAt.drewN {W : World} {ao : Option Addr} {L : List Nat} (h : RAt W ao L) (j : Nat) : RAt (W.drewN j) ao L := h
end Go.Proofs.YtpbncoaonminoaaDoor
