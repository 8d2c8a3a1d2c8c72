/- A graph and the document's own side by side; the document's own Reaches. -/
import Derived.Test.YtipkgoghodkbfaaDoorRefR
namespace Go.Proofs.YtipkgoghodkbfaaDoor
open Go.RowKit
open M
set_option linter.unusedVariables false
set_option linter.unusedSimpArgs false

def anyI (l : List Nat) (b : Int) : Bool := l.any fun x => decide ((x : Int) = b)
theorem anyI_take (l : List Nat) (b : Int) (k : Nat) (h : k < l.length) : anyI (l.take (k + 1)) b = (anyI (l.take k) b || decide ((l[k] : Int) = b)) := by
  unfold anyI
  rw [List.take_succ_eq_append_getElem h, List.any_append]
  simp
theorem anyI_at (l : List Nat) (b : Int) (k : Nat) (h : k < l.length) (e : (l[k] : Int) = b) : anyI l b = true := by
  unfold anyI
  rw [List.any_eq_true]
  exact ⟨l[k], List.getElem_mem h, by simp [e]⟩

set_option maxRecDepth 1000000 in
set_option maxHeartbeats 4000000 in
theorem rreaches_any {w : World} {r n : Nat} {v : Value} {es : List E} (h : RM w r n v es) (hn : n ≤ 64) (a b : Int) (hg : ∀ e ∈ es, e.1 < n ∧ e.2 < n) (hle : es.length ≤ 1000000) :
    Calls Tryd.prog 35 #[ptr r, .int .i64 a, .int .i64 b] w fun e w' => e = .returned (.bool (anyI (reachL n es a) b)) ∧ Below w.heap.size w w' := by
  obtain ⟨L, hL⟩ : ∃ L, reachL n es a = L := ⟨_, rfl⟩
  have hl64 : L.length ≤ 64 := by
    rw [← hL]
    unfold reachL
    split
    · simp
    · exact rise_len _
  obtain ⟨m, hm⟩ : ∃ m, L.length = m := ⟨_, rfl⟩
  have kr : Calls Tryd.prog 40 #[ptr r, .int .i64 a] w fun e w' => ∃ ao cap, e = .returned (.slice ao m cap) ∧ Hid (IAt w' (.slice ao m cap) L) ∧ Hid (Below w.heap.size w w') := by
    refine (rreach_any h hn a hg hle).mono ?_
    rintro e w' ⟨u, rfl, ho, hb⟩
    rw [hL] at ho
    obtain ⟨ao, cap, he, hc⟩ := own_iat ho
    subst hm
    exact ⟨ao, cap, by rw [he], ⟨ao, cap, rfl, hc⟩, hb⟩
  rw [hL]
  obtain ⟨R, hR⟩ : ∃ R, anyI L b = R := ⟨_, rfl⟩
  have HR := hide_it hR
  have HM := hide_it hm
  rw [hR]
  rw [hm] at hl64
  clear h hg hL hR hm
  go_enter Tryd.func35, Tryd.ntmps35
  go_wp2_with (go_at_call 40; refine kr.mono ?_; rintro e w1 ⟨ao, cap, rfl, hI, hB⟩)
  go_loop [8] (fun i => ∃ k : Nat, k ≤ m ∧ i = .int .i64 k ∧ Hid (anyI (L.take k) b = false)) (fun i => m - (intOf i).toNat)
  case atStart => exact ⟨0, Nat.zero_le _, rfl, by simp [Hid, anyI]⟩
  case round =>
    obtain ⟨k, hk, rfl, HK⟩ := hrel
    by_cases hlt : k < m
    · have hlx : k < L.length := by rw [HM.out]; exact hlt
      obtain ⟨ao', cap', e1, hc⟩ := hI.out
      obtain ⟨rb, e2, hrb, c1⟩ := hc k hlx
      have e3 : ao = some ⟨rb, 0, none⟩ := by injection e1 with e1; rw [e1, e2]
      subst e3
      have HT := hide_it (anyI_take L b k hlx)
      have HA := hide_it (anyI_at L b k hlx)
      generalize L[k] = y at *
      clear e1 e2 hc
      by_cases hy : (y : Int) = b
      · have hA := hide_it (HA.out hy)
        subst hy
        clear HT HA
        go_wp2
        go_ret
        exact ⟨ret_bool (by rw [← HR.out, hA.out]), hB.out⟩
      · have hy2 : ((y : Int) == b) = false := by simpa using hy
        have HT2 : Hid (anyI (L.take (k + 1)) b = false) := by unfold Hid; rw [HT.out, HK.out]; simp [hy]
        clear HT HA
        go_wp2
        go_round
        case rel => exact ⟨k + 1, by omega, by go_num, HT2⟩
        case measure => simp [intOf]; omega
    · have e := HK.out
      rw [List.take_of_length_le (by rw [HM.out]; omega), HR.out] at e
      subst e
      go_wp2
      go_ret
      exact ⟨rfl, hB.out⟩

theorem anyI_reach {n : Nat} {es : List E} (hn : n ≤ 64) (hg : ∀ e ∈ es, e.1 < n ∧ e.2 < n) (a b : Int) (hb : offB n b = false) : anyI (reachL n es a) b = reachB n es a b := by
  have hb2 : 0 ≤ b ∧ b < n := by simp [offB] at hb; omega
  obtain ⟨y, rfl⟩ : ∃ y : Nat, b = y := ⟨b.toNat, by omega⟩
  rw [Bool.eq_iff_iff, reachB_iff]
  unfold anyI
  rw [List.any_eq_true]
  cases ho : offB n a with
  | true =>
    unfold reachL
    rw [if_pos ho]
    simp
  | false =>
    have hr : 0 ≤ a ∧ a < n := by simp [offB] at ho; omega
    obtain ⟨x, rfl⟩ : ∃ x : Nat, a = x := ⟨a.toNat, by omega⟩
    unfold reachL
    rw [if_neg (by rw [ho]; exact Bool.false_ne_true)]
    simp only [Int.toNat_natCast, decide_eq_true_eq]
    constructor
    · rintro ⟨z, hz, e⟩
      have : z = y := by omega
      subst this
      rw [rise_mem _ _ (rset_lt _ _), rset_bit _ _ _ (by omega), rB_iff] at hz
      exact ⟨trivial, hb, hz⟩
    · rintro ⟨_, _, hr⟩
      refine ⟨y, ?_, rfl⟩
      rw [rise_mem _ _ (rset_lt _ _), rset_bit _ _ _ (by omega), rB_iff]
      exact hr

structure T2 (B : Nat) (w0 w : World) (g eb n : Nat) (v : Value) (es : List E) (r : Nat) (v2 : Value) (fs : List E) : Prop where
  bel : Below B w0 w
  gm : GM w g eb n v es
  rm : RM w r n v2 fs
  gB1 : ∀ k, Foot g eb v k → B ≤ k
  gB2 : ∀ k, RFoot r v2 k → B ≤ k
  dis : ∀ k, Foot g eb v k → ¬ RFoot r v2 k
  tab : Tab w
  pos : 0 < B
  le : B ≤ w.heap.size
def TX (B : Nat) (w0 w : World) (g eb n : Nat) (es : List E) (r : Nat) (fs : List E) : Prop := ∃ v v2, T2 B w0 w g eb n v es r v2 fs
section
variable {B : Nat} {w0 w w' : World} {g eb n : Nat} {es : List E} {r : Nat} {fs : List E}
theorem TX.step (h : TX B w0 w g eb n es r fs) (hb : Below w.heap.size w w') : TX B w0 w' g eb n es r fs := by
  obtain ⟨v, v2, h⟩ := h
  exact ⟨v, v2, h.bel.trans (hb.mono h.le), h.gm.below hb, h.rm.below hb, h.gB1, h.gB2, h.dis, tab_below h.tab (Nat.lt_of_lt_of_le h.pos h.le) hb, h.pos, Nat.le_trans h.le hb.size⟩
theorem TX.bel (h : TX B w0 w g eb n es r fs) : Below B w0 w := by
  obtain ⟨v, v2, h⟩ := h
  exact h.bel
theorem TX.gadd (h : TX B w0 w g eb n es r fs) (hle : es.length ≤ 1000000) (a b : Int) (R : Bool) (er : Int) (es' : List E) (hR : newB n es a b = R) (he : errN n a b = er) (hf : addE n es a b = es') :
    Calls Tryd.prog 11 #[ptr g, .int .i64 a, .int .i64 b] w fun e w' => e = .returned (.tuple #[.bool R, .int .i64 er]) ∧ Hid (TX B w0 w' g eb n es' r fs ∧ Below B w w') := by
  obtain ⟨v, v2, h⟩ := h
  subst hR he hf
  refine (add_any h.gm a b hle).mono ?_
  rintro e w' ⟨rfl, v', h1, h2, h3⟩
  have hb := h2.below h.le h.gB1
  refine ⟨rfl, ⟨v', v2, h.bel.trans hb, h1, h.rm.turn h2 (fun k hk hf => h.dis k hf hk), ?_, h.gB2, ?_, ?_, h.pos, Nat.le_trans h.le hb.size⟩, hb⟩
  · rintro k (rfl | rfl | hk)
    · exact h.gB1 _ (.inl rfl)
    · exact h.gB1 _ (.inr (.inl rfl))
    · rcases h3 with q | ⟨j, q1, q2⟩
      · exact h.gB1 k (.inr (.inr (by rw [← q]; exact hk)))
      · rw [q1] at hk; cases hk; have := h.le; omega
  · rintro k (rfl | rfl | hk) hF
    · exact h.dis _ (.inl rfl) hF
    · exact h.dis _ (.inr (.inl rfl)) hF
    · rcases h3 with q | ⟨j, q1, q2⟩
      · exact h.dis k (.inr (.inr (by rw [← q]; exact hk))) hF
      · rw [q1] at hk; cases hk; have := h.rm.lt _ hF; omega
  · intro j hj
    rw [hb.cell (p := ⟨0, j, none⟩) h.pos]; exact h.tab j hj
theorem TX.radd (h : TX B w0 w g eb n es r fs) (hle : fs.length ≤ 1000000) (a b : Int) (R : Bool) (er : Int) (fs' : List E) (hR : newB n fs a b = R) (he : errN n a b = er) (hf : addE n fs a b = fs') :
    Calls Tryd.prog 12 #[ptr r, .int .i64 a, .int .i64 b] w fun e w' => e = .returned (.tuple #[.bool R, .int .i64 er]) ∧ Hid (TX B w0 w' g eb n es r fs' ∧ Below B w w') := by
  obtain ⟨v, v2, h⟩ := h
  subst hR he hf
  refine (radd_any h.rm h.gm.hn a b hle).mono ?_
  rintro e w' ⟨rfl, v', h1, h2, h3⟩
  have hb := h2.below h.le (fun k hk => h.gB2 k (.inl hk))
  refine ⟨rfl, ⟨v, v', h.bel.trans hb, h.gm.turn h2 (fun k hk hf => h.dis k hk (.inl hf)), h1, h.gB1, ?_, ?_, ?_, h.pos, Nat.le_trans h.le hb.size⟩, hb⟩
  · rintro k (rfl | hk)
    · exact h.gB2 _ (.inl rfl)
    · rcases h3 with q | ⟨j, q1, q2⟩
      · exact h.gB2 k (.inr (by rw [← q]; exact hk))
      · rw [q1] at hk; cases hk; have := h.le; omega
  · rintro k hF (rfl | hk)
    · exact h.dis _ hF (.inl rfl)
    · rcases h3 with q | ⟨j, q1, q2⟩
      · exact h.dis k hF (.inr (by rw [← q]; exact hk))
      · rw [q1] at hk; cases hk; have := h.gm.lt _ hF; omega
  · intro j hj
    rw [hb.cell (p := ⟨0, j, none⟩) h.pos]; exact h.tab j hj
theorem TX.rl (h : TX B w0 w g eb n es r fs) : ∃ ao cap, w.cell? ⟨r, 1, none⟩ = some (.slice ao fs.length cap) := by
  obtain ⟨v, v2, h⟩ := h
  obtain ⟨ao, cap, rfl, _⟩ := h.rm.eat
  exact ⟨ao, cap, h.rm.c1⟩
theorem TX.rn (h : TX B w0 w g eb n es r fs) : w.cell? ⟨r, 0, none⟩ = some (.int .i64 n) := by
  obtain ⟨v, v2, h⟩ := h
  exact h.rm.c0
theorem TX.num (h : TX B w0 w g eb n es r fs) : Calls Tryd.prog 32 #[ptr g] w fun e w' => e = .returned (.int .i64 n) ∧ w' = w := by
  obtain ⟨v, v2, h⟩ := h
  exact n_any g eb n w h.gm.hn h.gm.c1
theorem TX.rhas (h : TX B w0 w g eb n es r fs) (hle : fs.length ≤ 1000000) (a b : Int) (R : Bool) (hR : hasR fs a b = R) : Calls Tryd.prog 25 #[ptr r, .int .i64 a, .int .i64 b] w fun e w' => e = .returned (.bool R) ∧ w' = w := by
  obtain ⟨v, v2, h⟩ := h
  subst hR
  exact rhas_any h.rm a b hle
theorem TX.row1 (h : TX B w0 w g eb n es r fs) {f : Nat} {args : Array Value} {L : List Nat} (hc : Calls Tryd.prog f args w fun e w' => ∃ u, e = .returned u ∧ OwnI w' w.heap.size u L ∧ Below w.heap.size w w') :
    Calls Tryd.prog f args w fun e w' => ∃ u, e = .returned u ∧ Hid (TX B w0 w' g eb n es r fs ∧ IAt w' u L) := by
  refine hc.mono ?_
  rintro e w' ⟨u, rfl, ho, hb⟩
  exact ⟨u, rfl, h.step hb, own_iat ho⟩
theorem TX.row2 (h : TX B w0 w g eb n es r fs) {x : Value} {L1 : List Nat} (hx : IAt w x L1) {f : Nat} {args : Array Value} {L : List Nat} (hc : Calls Tryd.prog f args w fun e w' => ∃ u, e = .returned u ∧ OwnI w' w.heap.size u L ∧ Below w.heap.size w w') :
    Calls Tryd.prog f args w fun e w' => ∃ u, e = .returned u ∧ Hid (TX B w0 w' g eb n es r fs ∧ IAt w' x L1 ∧ IAt w' u L) := by
  refine hc.mono ?_
  rintro e w' ⟨u, rfl, ho, hb⟩
  exact ⟨u, rfl, h.step hb, hx.below hb, own_iat ho⟩
theorem TX.eqs (h : TX B w0 w g eb n es r fs) {x y : Value} {L : List Nat} (hx : IAt w x L) (hy : IAt w y L) (hl : L.length ≤ 1000000) : Calls Tryd.prog 19 #[x, y] w fun e w' => e = .returned (.bool true) ∧ Hid (TX B w0 w' g eb n es r fs) := by
  refine (ints_any hx hy hl).mono ?_
  rintro e w' ⟨rfl, hb⟩
  exact ⟨by simp, h.step hb⟩
theorem TX.reaches (h : TX B w0 w g eb n es r fs) (a b : Int) (R : Bool) (hR : reachB n es a b = R) : Calls Tryd.prog 20 #[ptr g, .int .i64 a, .int .i64 b] w fun e w' => e = .returned (.bool R) ∧ Hid (TX B w0 w' g eb n es r fs) := by
  have h' := h
  obtain ⟨v, v2, h⟩ := h
  refine (reaches_any h.gm h.tab (Nat.lt_of_lt_of_le h.pos h.le) a b).mono ?_
  rintro e w' ⟨rfl, hb⟩
  exact ⟨by rw [hR], h'.step hb⟩
theorem TX.rreaches (h : TX B w0 w g eb n es r es) (hle : es.length ≤ 1000000) (a b : Int) (hb : offB n b = false) (R : Bool) (hR : reachB n es a b = R) : Calls Tryd.prog 35 #[ptr r, .int .i64 a, .int .i64 b] w fun e w' => e = .returned (.bool R) ∧ Hid (TX B w0 w' g eb n es r es) := by
  have h' := h
  obtain ⟨v, v2, h⟩ := h
  refine (rreaches_any h.rm h.gm.hn a b h.gm.good hle).mono ?_
  rintro e w' ⟨rfl, hb'⟩
  exact ⟨by rw [anyI_reach h.gm.hn h.gm.good a b hb, hR], h'.step hb'⟩
end
end Go.Proofs.YtipkgoghodkbfaaDoor
