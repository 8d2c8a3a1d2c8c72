/- GraphApart's mathematics: edges among the lower half, and the same ones so much higher. -/
import Derived.Test.YtcbgjdlkihepcaaDoorTwo
namespace Go.Proofs.YtcbgjdlkihepcaaDoor
open Go.RowKit
open M
set_option linter.unusedVariables false
set_option linter.unusedSimpArgs false

theorem i64_and16 (n : Int) : bits .and .i64 n 65535 = n % 65536 := by
  have h : (BitVec.ofInt 64 65535).toNat = 2 ^ 16 - 1 := by decide
  have key : (BitVec.ofInt 64 n &&& BitVec.ofInt 64 65535).toNat = (n % ((2 ^ 64 : Nat) : Int)).toNat % 2 ^ 16 := by
    rw [BitVec.toNat_and, BitVec.toNat_ofInt, h, Nat.and_two_pow_sub_one_eq_mod]
  show IntKind.i64.wrap ((BitVec.ofInt 64 n &&& BitVec.ofInt 64 65535).toNat : Nat) = n % 65536
  rw [key, IntKind.wrap_i64]
  omega
theorem and16 (n : Int) : ∃ u : Nat, bits .and .i64 n 65535 = u ∧ u < 65536 := ⟨(n % 65536).toNat, by rw [i64_and16]; omega, by omega⟩

def sh (low : Nat) (es : List E) : List E := es.map fun e => (low + e.1, low + e.2)
theorem sh_mem (low : Nat) (es : List E) (a b : Nat) : (low + a, low + b) ∈ sh low es ↔ (a, b) ∈ es := by
  unfold sh
  rw [List.mem_map]
  constructor
  · rintro ⟨⟨x, y⟩, h, e⟩
    simp only [Prod.mk.injEq] at e
    have e1 : x = a := by omega
    have e2 : y = b := by omega
    subst e1 e2
    exact h
  · intro h
    exact ⟨(a, b), h, rfl⟩
theorem sh_ge (low : Nat) (es : List E) (x y : Nat) (h : (x, y) ∈ sh low es) : low ≤ x ∧ low ≤ y := by
  unfold sh at h
  obtain ⟨⟨a, b⟩, _, e⟩ := List.mem_map.1 h
  simp only [Prod.mk.injEq] at e
  omega
theorem in_two (n x y : Nat) (hx : x < n) (hy : y < n) : (!([(x : Int), (y : Int)].any (offB n))) = true := by simp [offB]; omega
theorem add_low (n low : Nat) (es : List E) (x y : Nat) (hx : x < low) (hy : y < low) (hl : low + low ≤ n) :
    addE n es x y = (if (x, y) ∈ es then es else es ++ [(x, y)]) ∧ addE n (sh low es) ((low : Int) + x) ((low : Int) + y) = sh low (addE n es x y) := by
  have e1 : addE n es x y = (if (x, y) ∈ es then es else es ++ [(x, y)]) := by
    unfold addE
    rw [if_pos (in_two n x y (by omega) (by omega))]
    simp
  refine ⟨e1, ?_⟩
  rw [e1]
  have c1 : ((low : Int) + x) = ((low + x : Nat) : Int) := by omega
  have c2 : ((low : Int) + y) = ((low + y : Nat) : Int) := by omega
  rw [c1, c2]
  unfold addE
  rw [if_pos (in_two n (low + x) (low + y) (by omega) (by omega))]
  simp only [Int.toNat_natCast, sh_mem]
  split
  · rfl
  · simp [sh]
theorem add_lt {low : Nat} {es : List E} (h : ∀ e ∈ es, e.1 < low ∧ e.2 < low) {x y : Nat} (hx : x < low) (hy : y < low) : ∀ e ∈ (if (x, y) ∈ es then es else es ++ [(x, y)]), e.1 < low ∧ e.2 < low := by
  intro e he
  split at he
  · exact h e he
  · rcases List.mem_append.1 he with q | q
    · exact h e q
    · simp at q; subst q; exact ⟨hx, hy⟩
theorem rch_sh {low : Nat} {es : List E} {a b : Nat} : Rch (sh low es) (low + a) (low + b) ↔ Rch es a b := by
  constructor
  · intro h
    have : ∃ c, low + b = low + c ∧ Rch es a c := by
      refine h.closed (fun x => ∃ c, x = low + c ∧ Rch es a c) ⟨a, rfl, Rch.refl _ _⟩ ?_
      rintro x y ⟨c, rfl, hc⟩ he
      have := (sh_ge low es _ _ he).2
      obtain ⟨d, rfl⟩ : ∃ d, y = low + d := ⟨y - low, by omega⟩
      exact ⟨d, rfl, hc.tail ((sh_mem low es c d).1 he)⟩
    obtain ⟨c, e, hc⟩ := this
    have : c = b := by omega
    subst this
    exact hc
  · intro h
    exact h.closed (fun x => Rch (sh low es) (low + a) (low + x)) (Rch.refl _ _) (fun x y hx he => hx.tail ((sh_mem low es x y).2 he))
theorem rch_stuck {es : List E} {a b : Nat} (h : ∀ y, (a, y) ∉ es) (hr : Rch es a b) : b = a := by
  refine hr.closed (fun x => x = a) rfl ?_
  rintro x y rfl he
  exact absurd he (h y)
section
variable {n low : Nat} {es : List E} {a b : Nat}
theorem apart_eq (hl : low + low ≤ n) (ha : a < low) (hb : b < low) : reachB n (sh low es) ((low : Int) + a) ((low : Int) + b) = reachB n es a b := by
  rw [Bool.eq_iff_iff, reachB_iff, reachB_iff]
  have c1 : ((low : Int) + a) = ((low + a : Nat) : Int) := by omega
  have c2 : ((low : Int) + b) = ((low + b : Nat) : Int) := by omega
  rw [c1, c2]
  simp only [Int.toNat_natCast, rch_sh]
  have o1 : offB n ((low + a : Nat) : Int) = false := by simp [offB]; omega
  have o2 : offB n ((low + b : Nat) : Int) = false := by simp [offB]; omega
  have o3 : offB n (a : Int) = false := by simp [offB]; omega
  have o4 : offB n (b : Int) = false := by simp [offB]; omega
  rw [o1, o2, o3, o4]
theorem bool_not {b : Bool} (h : b = true → False) : b = false := by cases b with | false => rfl | true => exact (h rfl).elim
theorem apart_1 (he : ∀ e ∈ es, e.1 < low ∧ e.2 < low) (ha : a < low) : reachB n es a ((low : Int) + b) = false := by
  refine bool_not fun h => ?_
  obtain ⟨_, _, hr⟩ := (reachB_iff _ _ _ _).1 h
  have c2 : ((low : Int) + b) = ((low + b : Nat) : Int) := by omega
  rw [c2] at hr
  simp only [Int.toNat_natCast] at hr
  have := hr.closed (fun x => x < low) ha (fun x y _ h => (he _ h).2)
  omega
theorem apart_2 (he : ∀ e ∈ es, e.1 < low ∧ e.2 < low) (hb : b < low) : reachB n es ((low : Int) + a) b = false := by
  refine bool_not fun h => ?_
  obtain ⟨_, _, hr⟩ := (reachB_iff _ _ _ _).1 h
  have c2 : ((low : Int) + a) = ((low + a : Nat) : Int) := by omega
  rw [c2] at hr
  simp only [Int.toNat_natCast] at hr
  have := rch_stuck (fun y hy => by have := (he _ hy).1; simp only at this; omega) hr
  omega
theorem apart_3 (ha : a < low) : reachB n (sh low es) a ((low : Int) + b) = false := by
  refine bool_not fun h => ?_
  obtain ⟨_, _, hr⟩ := (reachB_iff _ _ _ _).1 h
  have c2 : ((low : Int) + b) = ((low + b : Nat) : Int) := by omega
  rw [c2] at hr
  simp only [Int.toNat_natCast] at hr
  have := rch_stuck (fun y hy => by have := (sh_ge low es _ _ hy).1; omega) hr
  omega
theorem apart_4 (he : ∀ e ∈ es, e.1 < low ∧ e.2 < low) (ha : a < low) (hl : low + low ≤ n) (hn : n ≤ 64) : reachL n es ((low : Int) + a) = [low + a] := by
  have c2 : ((low : Int) + a) = ((low + a : Nat) : Int) := by omega
  unfold reachL
  rw [c2, if_neg (by simp [offB]; omega)]
  simp only [Int.toNat_natCast]
  have hb : ∀ i, i < 64 → (rset es (low + a)).testBit i = decide (i = low + a) := by
    intro i hi
    rw [rset_bit _ _ _ hi, Bool.eq_iff_iff, rB_iff, decide_eq_true_eq]
    constructor
    · intro hr; exact rch_stuck (fun y hy => by have := (he _ hy).1; simp only at this; omega) hr
    · rintro rfl; exact Rch.refl _ _
  have hbig : ∀ i, 64 ≤ i → (rset es (low + a)).testBit i = false := fun i hi => bool_not fun h => by have := bit_lt (rset_lt _ _) h; omega
  have := rise_step (rset es (low + a)) (low + a) (by omega) (by rw [hb _ (by omega)]; simp) (fun i hi => by rw [hb _ (by omega)]; simp; omega) 0 (fun i => by
    rw [Nat.zero_testBit]
    by_cases h : i < 64
    · rw [hb i h]; by_cases e : i = low + a <;> simp [e]
    · rw [hbig i (by omega)]; rfl)
  rw [this, rise_zero]
end
end Go.Proofs.YtcbgjdlkihepcaaDoor
