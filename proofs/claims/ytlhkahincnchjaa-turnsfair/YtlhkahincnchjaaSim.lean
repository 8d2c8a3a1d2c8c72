/- TurnsIdle's walk. -/
import Derived.Test.YtlhkahincnchjaaIvl
import Derived.Test.YtlhkahincnchjaaWei
namespace Go.Proofs.Ytlhkahincnchjaa
open Go.RowKit
open M
set_option linter.unusedVariables false
set_option linter.unusedSimpArgs false

/-- y is x, and behind its members one more, that wants nothing and has nothing. -/
structure Sim (N : Nat) (x y : Tn) : Prop where
  xn : x.n = N
  yn : y.n = N + 1
  q : y.q = x.q
  k : y.k = x.k
  kN : x.k < N
  I : ∀ j, j < N → y.I j = x.I j
  W : ∀ j, j < N → y.W j = x.W j
  C : ∀ j, j < N → y.C j = x.C j
  last : y.C N = 0
theorem sim_stop {N : Nat} {x y : Tn} {cs ds : Nat → Int} (h : Sim N x y) (hc : ∀ j, j < N → ds j = cs j) : Stop cs x ↔ Stop ds y := by
  unfold Stop
  rw [h.k, hc _ h.kN, h.C _ h.kN]
theorem sim_nxt {N : Nat} {x y : Tn} {cs ds : Nat → Int} (h : Sim N x y) (hc : ∀ j, j < N → ds j = cs j) (h0 : ds N = 0) (hs : ¬ Stop cs x) : ∃ z, M.Way ds y z ∧ Sim N (nxt cs x) z := by
  have hs2 : ¬ Stop ds y := fun q => hs ((sim_stop h hc).2 q)
  have hN : 0 < N := by have := h.kN; omega
  have w1 := (Way.refl ds y).step hs2
  have ek : (x.k + 1) % x.n = if x.k + 1 = N then 0 else x.k + 1 := by rw [h.xn]; exact mod_succ h.kN
  have ek2 : (y.k + 1) % y.n = x.k + 1 := by rw [h.k, h.yn]; exact Nat.mod_eq_of_lt (by have := h.kN; omega)
  -- what stands behind the asking
  have hG : ∀ j, j < N → (if ds y.k = 0 then upd y.C y.k 0 else y.C) j = (if cs x.k = 0 then upd x.C x.k 0 else x.C) j := fun j hj => by
    rw [h.k, hc _ h.kN]
    by_cases c : cs x.k = 0
    · rw [if_pos c, if_pos c]
      by_cases e : j = x.k
      · rw [e, upd_same, upd_same]
      · rw [upd_other _ _ e, upd_other _ _ e]; exact h.C j hj
    · rw [if_neg c, if_neg c]; exact h.C j hj
  have hGN : (if ds y.k = 0 then upd y.C y.k 0 else y.C) N = 0 := by
    have hne : N ≠ y.k := by rw [h.k]; have := h.kN; omega
    by_cases c : ds y.k = 0
    · rw [if_pos c, upd_other _ _ hne]; exact h.last
    · rw [if_neg c]; exact h.last
  by_cases hl : x.k + 1 = N
  · -- the last one's turn, which wants nothing; then the first one's
    rw [if_pos hl] at ek
    have hy1 : (nxt ds y).k = N := by show (y.k + 1) % y.n = N; rw [ek2, hl]
    have hC1 : (nxt ds y).C = (if ds y.k = 0 then upd y.C y.k 0 else y.C) := by
      unfold nxt
      simp only [ek2, hl]
      rw [if_pos h0]
    have hs3 : ¬ Stop ds (nxt ds y) := fun q => by have := q.1; rw [hy1] at this; exact this h0
    have w2 := w1.step hs3
    have ek3 : ((nxt ds y).k + 1) % (nxt ds y).n = 0 := by rw [hy1]; show (N + 1) % y.n = 0; rw [h.yn, Nat.mod_self]
    have hyq : (nxt ds y).q = x.q := h.q
    have hy0 : (nxt ds y).W 0 = x.W 0 := h.W 0 hN
    have hC2 : (nxt ds (nxt ds y)).C = if ds 0 = 0 then upd (nxt ds y).C N 0 else upd (upd (nxt ds y).C N 0) 0 ((upd (nxt ds y).C N 0) 0 + x.q * x.W 0) := by
      have : (nxt ds (nxt ds y)).C = if ds (((nxt ds y).k + 1) % (nxt ds y).n) = 0 then (if ds (nxt ds y).k = 0 then upd (nxt ds y).C (nxt ds y).k 0 else (nxt ds y).C) else upd (if ds (nxt ds y).k = 0 then upd (nxt ds y).C (nxt ds y).k 0 else (nxt ds y).C) (((nxt ds y).k + 1) % (nxt ds y).n) ((if ds (nxt ds y).k = 0 then upd (nxt ds y).C (nxt ds y).k 0 else (nxt ds y).C) (((nxt ds y).k + 1) % (nxt ds y).n) + (nxt ds y).q * (nxt ds y).W (((nxt ds y).k + 1) % (nxt ds y).n)) := rfl
      rw [this, ek3, hy1, if_pos h0, hyq, hy0]
    have hxC : (nxt cs x).C = if cs 0 = 0 then (if cs x.k = 0 then upd x.C x.k 0 else x.C) else upd (if cs x.k = 0 then upd x.C x.k 0 else x.C) 0 ((if cs x.k = 0 then upd x.C x.k 0 else x.C) 0 + x.q * x.W 0) := by
      unfold nxt
      simp only [ek]
    have hUN : ∀ j, j < N → upd (nxt ds y).C N 0 j = (if cs x.k = 0 then upd x.C x.k 0 else x.C) j := fun j hj => by
      rw [upd_other _ _ (by omega), hC1]; exact hG j hj
    refine ⟨_, w2, h.xn, h.yn, h.q, ?_, by show (x.k + 1) % x.n < N; rw [ek]; exact hN, h.I, h.W, fun j hj => ?_, ?_⟩
    · show ((nxt ds y).k + 1) % (nxt ds y).n = (x.k + 1) % x.n
      rw [ek3, ek]
    · rw [hC2, hxC, hc 0 hN]
      by_cases c : cs 0 = 0
      · rw [if_pos c, if_pos c]; exact hUN j hj
      · rw [if_neg c, if_neg c, hUN 0 hN]
        by_cases e : j = 0
        · rw [e, upd_same, upd_same]
        · rw [upd_other _ _ e, upd_other _ _ e]; exact hUN j hj
    · rw [hC2]
      by_cases c : ds 0 = 0
      · rw [if_pos c, upd_same]
      · rw [if_neg c, upd_other _ _ (by omega), upd_same]
  · rw [if_neg hl] at ek
    have hk1 : x.k + 1 < N := by have := h.kN; omega
    have hyC : (nxt ds y).C = if ds (x.k + 1) = 0 then (if ds y.k = 0 then upd y.C y.k 0 else y.C) else upd (if ds y.k = 0 then upd y.C y.k 0 else y.C) (x.k + 1) ((if ds y.k = 0 then upd y.C y.k 0 else y.C) (x.k + 1) + y.q * y.W (x.k + 1)) := by
      unfold nxt
      simp only [ek2]
    have hxC : (nxt cs x).C = if cs (x.k + 1) = 0 then (if cs x.k = 0 then upd x.C x.k 0 else x.C) else upd (if cs x.k = 0 then upd x.C x.k 0 else x.C) (x.k + 1) ((if cs x.k = 0 then upd x.C x.k 0 else x.C) (x.k + 1) + x.q * x.W (x.k + 1)) := by
      unfold nxt
      simp only [ek]
    refine ⟨_, w1, h.xn, h.yn, h.q, ?_, by show (x.k + 1) % x.n < N; rw [ek]; exact hk1, h.I, h.W, fun j hj => ?_, ?_⟩
    · show (y.k + 1) % y.n = (x.k + 1) % x.n
      rw [ek2, ek]
    · rw [hyC, hxC, hc _ hk1, h.q, h.W _ hk1]
      by_cases c : cs (x.k + 1) = 0
      · rw [if_pos c, if_pos c]; exact hG j hj
      · rw [if_neg c, if_neg c, hG _ hk1]
        by_cases e : j = x.k + 1
        · rw [e, upd_same, upd_same]
        · rw [upd_other _ _ e, upd_other _ _ e]; exact hG j hj
    · rw [hyC]
      by_cases c : ds (x.k + 1) = 0
      · rw [if_pos c]; exact hGN
      · rw [if_neg c, upd_other _ _ (by omega)]; exact hGN
theorem sim_way {N : Nat} {cs ds : Nat → Int} (hc : ∀ j, j < N → ds j = cs j) (h0 : ds N = 0) : ∀ (m : Nat) {x y : Tn}, Sim N x y → (∀ j, j < m → ¬ Stop cs (go cs j x)) → ∃ z, M.Way ds y z ∧ Sim N (go cs m x) z
  | 0, x, y, h, _ => ⟨y, Way.refl _ _, h⟩
  | m + 1, x, y, h, hm => by
    obtain ⟨z, z1, z2⟩ := sim_way hc h0 m h (fun j hj => hm j (by omega))
    obtain ⟨u, u1, u2⟩ := sim_nxt z2 hc h0 (hm m (by omega))
    exact ⟨u, z1.trans u1, u2⟩
theorem sim_take {N : Nat} {x y x' y' : Tn} {l : List Wn} {i j : Int} {a b : Bool} (h : Sim N x y) (hp : ∀ j, j < N → costs l x j ≠ 0) (h0 : costs l y N = 0) (hx : TakeP l x x' i a) (hy : TakeP l y y' j b) : i = j ∧ a = true ∧ b = true ∧ Sim N x' y' := by
  have hN : 0 < N := by have := h.kN; omega
  have hc : ∀ j, j < N → costs l y j = costs l x j := fun j hj => by unfold costs; rw [h.I j hj]
  rcases hx with ⟨e, _⟩ | ⟨_, ⟨z, ⟨m, rfl, hm⟩, zs, rfl⟩, rfl, rfl⟩
  · exact absurd (e 0 (by rw [h.xn]; exact hN)) (hp 0 hN)
  · obtain ⟨u, u1, u2⟩ := sim_way hc h0 m h hm
    have us : Stop (costs l y) u := (sim_stop u2 hc).1 zs
    have t0 : TakeP l y (pay (costs l y) u) ((pay (costs l y) u).I (pay (costs l y) u).k) true := .inr ⟨⟨0, by rw [h.yn]; omega, by rw [hc 0 hN]; exact hp 0 hN⟩, ⟨u, u1, us, rfl⟩, rfl, rfl⟩
    obtain ⟨e1, e2, e3⟩ := hy.uniq t0
    subst e1 e2 e3
    have hk := u2.kN
    refine ⟨?_, rfl, rfl, ⟨u2.xn, u2.yn, u2.q, u2.k, u2.kN, u2.I, u2.W, fun q hq => ?_, ?_⟩⟩
    · show (go (costs l x) m x).I (go (costs l x) m x).k = u.I u.k
      rw [u2.k, u2.I _ hk]
    · show upd u.C u.k (u.C u.k - costs l y u.k) q = upd (go (costs l x) m x).C (go (costs l x) m x).k _ q
      rw [u2.k, hc _ hk, u2.C _ hk]
      by_cases e : q = (go (costs l x) m x).k
      · rw [e, upd_same, upd_same]
      · rw [upd_other _ _ e, upd_other _ _ e]; exact u2.C q hq
    · show upd u.C u.k _ N = 0
      rw [upd_other _ _ (by rw [u2.k]; omega)]; exact u2.last
end Go.Proofs.Ytlhkahincnchjaa
