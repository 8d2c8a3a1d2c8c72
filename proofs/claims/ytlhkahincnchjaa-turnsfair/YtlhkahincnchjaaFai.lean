/- Fairness: what each got, against each other. -/
import Derived.Test.YtlhkahincnchjaaAcc
import Derived.Test.YtlhkahincnchjaaJoi
namespace Go.Proofs.Ytlhkahincnchjaa
open Go.RowKit
open M
set_option linter.unusedVariables false
set_option linter.unusedSimpArgs false

/-- So many Takes; what each got; the greatest cost yet. -/
structure Fr (Q : Int) (N : Nat) (wf : Nat → Int) (mo : Int) (i : Nat) (x : Tn) (S : Nat → Int) : Prop where
  iv : Inv (max mo 1) x
  q : x.q = Q
  n : x.n = N
  I : ∀ j, j < N → x.I j = j
  W : ∀ j, j < N → x.W j = wf j
  acc : ∃ b, Acc S b x
  sb : ∀ j, 0 ≤ S j ∧ S j ≤ 1024 * i
  mb : 0 ≤ mo ∧ mo ≤ 1024
theorem fr_start {Q : Int} {N : Nat} {wf : Nat → Int} {x : Tn} (h : Jn Q N wf x) (hQ : 1 ≤ Q ∧ Q ≤ 1048576) (hw : ∀ j, j < N → 1 ≤ wf j ∧ wf j ≤ 100) (hN : N ≤ 10) : Fr Q N wf 0 0 x (fun _ => 0) := by
  have g := jn_gd h hQ hw (M := 1) (by omega) (by omega)
  refine ⟨g.iv, h.q, h.n, h.I, h.W, ⟨0, Int.le_refl _, fun j hj => ?_⟩, fun j => by simp, by omega⟩
  have l0 : lap x.k j = 0 := by unfold lap; rw [h.k0, if_neg (by omega)]
  rw [l0, h.C j (by rw [← h.n]; exact hj)]
  simp
theorem fr_gd {Q mo : Int} {N i : Nat} {wf : Nat → Int} {x : Tn} {S : Nat → Int} (h : Fr Q N wf mo i x S) (hN : N ≤ 10) : Gd (max mo 1) 10 x := ⟨h.iv, by rw [h.n]; exact hN, fun j hj => by rw [h.I j (by rw [← h.n]; exact hj)]; unfold i64B; have := h.n; omega⟩
theorem inv_more {M M' : Int} {x : Tn} (h : Inv M x) (hM : M ≤ M') : Inv M' x := ⟨h.q1, h.q2, h.w, h.c0, fun j hj hne => by have := h.cM j hj hne; omega, fun hk => by have := h.ck hk; omega, h.kn, h.k0⟩
theorem fr_take {Q mo mo' : Int} {N i : Nat} {wf : Nat → Int} {x y : Tn} {S : Nat → Int} {f : Nat → Int} {id : Int} {ok : Bool} (h : Fr Q N wf mo i x S) (hN : 0 < N) (hf : ∀ j, j < N → 1 ≤ f j ∧ f j ≤ 1024 ∧ f j ≤ mo') (hm : mo ≤ mo') (hm2 : mo' ≤ 1024) (ht : TakeP (wrow N f) x y id ok) :
    ∃ r, r < N ∧ id = (r : Int) ∧ ok = true ∧ Fr Q N wf mo' (i + 1) y (upd S r (S r + f r)) := by
  have hn := h.n
  have hf2 : ∀ j, j < N → 1 ≤ f j ∧ f j ≤ 1048576 := fun j hj => by have := hf j hj; omega
  have hcs : ∀ j, j < N → costs (wrow N f) x j = f j := fun j hj => costs_wrow hf2 (h.I j hj) hj
  have iv0 := inv_more h.iv (show max mo 1 ≤ max mo' 1 by omega)
  have hiv := inv_takeP iv0 (by omega) (fun j hj => by rw [hcs j (by omega)]; have := hf j (by omega); omega) ht
  have s := ht.same
  rcases ht with ⟨h0, _⟩ | ⟨_, hr, rfl, rfl⟩
  · have := h0 0 (by omega)
    rw [hcs 0 hN] at this
    have := hf 0 hN
    omega
  · have hk := h.iv.kn (by omega)
    obtain ⟨b, hb⟩ := h.acc
    obtain ⟨b', hb'⟩ := acc_take hb hk (fun j hj => by rw [hcs j (by omega)]; have := hf j (by omega); omega) hr
    have hyk : y.k < N := by have := hiv.kn (by rw [s.n]; omega); rw [s.n, hn] at this; exact this
    rw [hcs _ hyk] at hb'
    refine ⟨y.k, hyk, by rw [s.I]; exact h.I _ hyk, rfl, ⟨hiv, by rw [s.q]; exact h.q, by rw [s.n]; exact hn, by rw [s.I]; exact h.I, by rw [s.W]; exact h.W, ⟨b', hb'⟩, fun j => ?_, by have := h.mb; omega⟩⟩
    have hs := h.sb j
    have hfk := hf _ hyk
    unfold upd
    by_cases e : j = y.k
    · subst e
      simp only [if_true]
      push_cast
      omega
    · simp only [e, if_false]
      push_cast
      omega
theorem fr_fair {Q mo : Int} {N i : Nat} {wf : Nat → Int} {x : Tn} {S : Nat → Int} (h : Fr Q N wf mo i x S) (hw : ∀ j, j < N → 1 ≤ wf j ∧ wf j ≤ 100) {a b : Nat} (ha : a < N) (hb : b < N) : S a * wf b - S b * wf a ≤ (2 * Q + mo) * wf a * wf b := by
  obtain ⟨b0, _, hacc⟩ := h.acc
  have hn := h.n
  have ea := hacc a (by omega)
  have eb := hacc b (by omega)
  have ca := h.iv.c0 a (by omega)
  have cb := h.iv.lt (show b < x.n by omega)
  have hwa := hw a ha
  have hwb := hw b hb
  have hmb := h.mb
  rw [h.q, h.W a ha] at ea
  rw [h.q, h.W b hb] at eb cb
  generalize x.C a = Ca at *
  generalize x.C b = Cb at *
  generalize wf a = wa at *
  generalize wf b = wb at *
  have la := lap_01 x.k a
  have lb := lap_01 x.k b
  generalize lap x.k a = da at *
  generalize lap x.k b = db at *
  have eSa : S a = (b0 + da) * (Q * wa) - Ca := by omega
  have eSb : S b = (b0 + db) * (Q * wb) - Cb := by omega
  rw [eSa, eSb]
  obtain ⟨R, hR⟩ : ∃ R, Q * wa * wb = R := ⟨_, rfl⟩
  have hR2 : Q * wb * wa = R := by rw [← hR, Int.mul_assoc, Int.mul_assoc, Int.mul_comm wb wa]
  have e1 : ((b0 + da) * (Q * wa) - Ca) * wb = (b0 * R + da * R) - Ca * wb := by
    rw [Int.sub_mul, Int.mul_assoc, hR, Int.add_mul]
  have e2 : ((b0 + db) * (Q * wb) - Cb) * wa = (b0 * R + db * R) - Cb * wa := by
    rw [Int.sub_mul, Int.mul_assoc, hR2, Int.add_mul]
  have e3 : (2 * Q + mo) * wa * wb = 2 * R + mo * (wa * wb) := by
    rw [Int.add_mul, Int.add_mul, Int.mul_assoc 2 Q wa, Int.mul_assoc 2 (Q * wa) wb, hR, Int.mul_assoc mo wa wb]
  rw [e1, e2, e3]
  have hq1 : 1 ≤ Q := by have := h.iv.q1; rw [h.q] at this; exact this
  have hR0 : 0 ≤ R := by rw [← hR]; exact Int.mul_nonneg (Int.mul_nonneg (by omega) (by omega)) (by omega)
  have p1 : 0 ≤ Ca * wb := Int.mul_nonneg ca (by omega)
  have p2 : Cb * wa ≤ (mo + Q * wb) * wa := Int.mul_le_mul_of_nonneg_right (by omega) (by omega)
  rw [Int.add_mul, hR2] at p2
  have p3 : wa ≤ wa * wb := by
    have := Int.mul_le_mul_of_nonneg_left hwb.1 (show 0 ≤ wa by omega)
    omega
  have p4 : mo * wa ≤ mo * (wa * wb) := Int.mul_le_mul_of_nonneg_left p3 hmb.1
  have p5 : da * R ≤ R ∧ 0 ≤ da * R := by
    rcases la with q | q
    · rw [q, Int.zero_mul]; omega
    · rw [q, Int.one_mul]; omega
  have p6 : 0 ≤ db * R := by
    rcases lb with q | q
    · rw [q, Int.zero_mul]; omega
    · rw [q, Int.one_mul]; exact hR0
  omega
end Go.Proofs.Ytlhkahincnchjaa
