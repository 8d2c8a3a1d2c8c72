/- Two graphs side by side. -/
import Derived.Test.YtcbgjdlkihepcaaDoorOnw
namespace Go.Proofs.YtcbgjdlkihepcaaDoor
open Go.RowKit
open M
set_option linter.unusedVariables false
set_option linter.unusedSimpArgs false

structure G2 (B : Nat) (w0 w : World) (g eb n : Nat) (v : Value) (es : List E) (g2 eb2 n2 : Nat) (v2 : Value) (fs : List E) : Prop where
  bel : Below B w0 w
  gm1 : GM w g eb n v es
  gm2 : GM w g2 eb2 n2 v2 fs
  gB1 : ∀ k, Foot g eb v k → B ≤ k
  gB2 : ∀ k, Foot g2 eb2 v2 k → B ≤ k
  dis : ∀ k, Foot g eb v k → ¬ Foot g2 eb2 v2 k
  tab : Tab w
  pos : 0 < B
  le : B ≤ w.heap.size
def GX (B : Nat) (w0 w : World) (g eb n : Nat) (es : List E) (g2 eb2 n2 : Nat) (fs : List E) : Prop := ∃ v v2, G2 B w0 w g eb n v es g2 eb2 n2 v2 fs
section
variable {B : Nat} {w0 w w' : World} {g eb n : Nat} {v : Value} {es : List E} {g2 eb2 n2 : Nat} {v2 : Value} {fs : List E}
theorem GX.swap (h : GX B w0 w g eb n es g2 eb2 n2 fs) : GX B w0 w g2 eb2 n2 fs g eb n es := by
  obtain ⟨v, v2, h⟩ := h
  exact ⟨v2, v, h.bel, h.gm2, h.gm1, h.gB2, h.gB1, fun k h2 h1 => h.dis k h1 h2, h.tab, h.pos, h.le⟩
theorem GX.step (h : GX B w0 w g eb n es g2 eb2 n2 fs) (hb : Below w.heap.size w w') : GX B w0 w' g eb n es g2 eb2 n2 fs := by
  obtain ⟨v, v2, h⟩ := h
  exact ⟨v, v2, h.bel.trans (hb.mono h.le), h.gm1.below hb, h.gm2.below hb, h.gB1, h.gB2, h.dis, tab_below h.tab (Nat.lt_of_lt_of_le h.pos h.le) hb, h.pos, Nat.le_trans h.le hb.size⟩
theorem GX.bel (h : GX B w0 w g eb n es g2 eb2 n2 fs) : Below B w0 w := by
  obtain ⟨v, v2, h⟩ := h
  exact h.bel
theorem GX.le (h : GX B w0 w g eb n es g2 eb2 n2 fs) : B ≤ w.heap.size := by
  obtain ⟨v, v2, h⟩ := h
  exact h.le
theorem GX.pos (h : GX B w0 w g eb n es g2 eb2 n2 fs) : 0 < B := by
  obtain ⟨v, v2, h⟩ := h
  exact h.pos
theorem GX.tab (h : GX B w0 w g eb n es g2 eb2 n2 fs) : Tab w := by
  obtain ⟨v, v2, h⟩ := h
  exact h.tab
theorem GX.add (h : GX B w0 w g eb n es g2 eb2 n2 fs) (hle : es.length ≤ 1000000) (a b : Int) (R : Bool) (er : Int) (es' : List E) (hR : newB n es a b = R) (he : errN n a b = er) (hf : addE n es a b = es') :
    Calls Tryd.prog 13 #[ptr g, .int .i64 a, .int .i64 b] w fun e w' => e = .returned (.tuple #[.bool R, .int .i64 er]) ∧ Hid (GX B w0 w' g eb n es' g2 eb2 n2 fs) := by
  obtain ⟨v, v2, h⟩ := h
  subst hR he hf
  refine (add_any h.gm1 a b hle).mono ?_
  rintro e w' ⟨rfl, v', h1, h2, h3⟩
  have hb := h2.below h.le h.gB1
  refine ⟨rfl, v', v2, h.bel.trans hb, h1, h.gm2.turn h2 (fun k hk hf => h.dis k hf hk), ?_, h.gB2, ?_, ?_, h.pos, Nat.le_trans h.le hb.size⟩
  · rintro k (rfl | rfl | hk)
    · exact h.gB1 _ (.inl rfl)
    · exact h.gB1 _ (.inr (.inl rfl))
    · rcases h3 with q | ⟨j, q1, q2⟩
      · exact h.gB1 k (.inr (.inr (by rw [← q]; exact hk)))
      · rw [q1] at hk; cases hk; have := h.le; omega
  · rintro k (rfl | rfl | hk) hF
    · exact h.dis _ (.inl rfl) hF
    · exact h.dis _ (.inr (.inl rfl)) hF
    · rcases h3 with q | ⟨j, q1, q2⟩
      · exact h.dis k (.inr (.inr (by rw [← q]; exact hk))) hF
      · rw [q1] at hk; cases hk; have := h.gm2.lt _ hF; omega
  · intro j hj
    rw [hb.cell (p := ⟨0, j, none⟩) h.pos]; exact h.tab j hj
theorem GX.reaches (h : GX B w0 w g eb n es g2 eb2 n2 fs) (a b : Int) (R : Bool) (hR : reachB n es a b = R) :
    Calls Tryd.prog 26 #[ptr g, .int .i64 a, .int .i64 b] w fun e w' => e = .returned (.bool R) ∧ Hid (GX B w0 w' g eb n es g2 eb2 n2 fs) := by
  have hp := Nat.lt_of_lt_of_le h.pos h.le
  have ht := h.tab
  have h' := h
  obtain ⟨v, v2, h⟩ := h
  refine (reaches_any h.gm1 ht hp a b).mono ?_
  rintro e w' ⟨rfl, hb⟩
  exact ⟨by rw [hR], h'.step hb⟩
theorem GX.len (h : GX B w0 w g eb n es g2 eb2 n2 fs) : Calls Tryd.prog 15 #[ptr g] w fun e w' => e = .returned (.int .i64 es.length) ∧ w' = w := by
  obtain ⟨v, v2, h⟩ := h
  exact len_any h.gm1
theorem GX.reach (h : GX B w0 w g eb n es g2 eb2 n2 fs) (a : Int) (L : List Nat) (q : Nat) (hL : reachL n es a = L) (hq : L.length = q) :
    Calls Tryd.prog 24 #[ptr g, .int .i64 a] w fun e w' => ∃ ao cap, e = .returned (.slice ao q cap) ∧ Hid (GX B w0 w' g eb n es g2 eb2 n2 fs) := by
  have hp := Nat.lt_of_lt_of_le h.pos h.le
  have ht := h.tab
  have h' := h
  obtain ⟨v, v2, h⟩ := h
  refine (reach_any h.gm1 ht hp a).mono ?_
  rintro e w' ⟨u, rfl, ho, hb⟩
  rw [hL] at ho
  obtain ⟨ao, cap, he, hc⟩ := own_iat ho
  subst hq
  exact ⟨ao, cap, by rw [he], h'.step hb⟩
end
end Go.Proofs.YtcbgjdlkihepcaaDoor
