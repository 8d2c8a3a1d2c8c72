/- The one in the middle of three. -/
import Derived.Test.YtebielckdloncaaSrt
import Derived.Sort.WalkA
import Derived.Sort.WalkB2
import Derived.Sort.WalkB12
import Derived.Sort.Lot0
import Derived.Deep.LoopGhost
namespace Go.Proofs.Ytebielckdloncaa
open Go.Shelf Go.RowKit Go.Lib Go.Sort
set_option linter.unusedVariables false
set_option linter.unusedSimpArgs false
section
variable {α : Type} [Inhabited α] {enc : α → Value} {cf : α → α → Int} {C : Value} {w0 W : World} {blk off cap : Nat} {dk d0 : Array α}
/-- A row and a counter beside it. -/
def Cn (enc : α → Value) (w0 : World) (blk off : Nat) (dk : Array α) (c : Nat) (W : World) : Prop :=
  SW enc w0 blk off dk W ∧ (∃ s : Int, W.cell? ⟨c, 0, none⟩ = some (.int .i64 s)) ∧ W.frozen? ⟨c, 0, none⟩ = false ∧ w0.heap.size ≤ c ∧ c < W.heap.size
theorem Cn.grown {c : Nat} (h : Cn enc w0 blk off dk c W) (n : Nat) (os : Array Obj) : Cn enc w0 blk off dk c (grow (W.drewN n) os) := by
  obtain ⟨h1, ⟨s, h2⟩, h3, h4, h5⟩ := h
  exact ⟨h1.grown n os, ⟨s, by rw [cell?_grow _ _ _ (by exact h5)]; exact h2⟩, by rw [frozen?_grow _ _ _ (by exact h5)]; exact h3, h4, by rw [size_grow]; exact Nat.lt_of_lt_of_le h5 (Nat.le_add_right _ _)⟩
theorem Cn.bump {c : Nat} (h : Cn enc w0 blk off dk c W) (t : Int) : Cn enc w0 blk off dk c (W.setCell ⟨c, 0, none⟩ (.int .i64 t)) := by
  obtain ⟨h1, ⟨s, h2⟩, h3, h4, h5⟩ := h
  exact ⟨h1.setCell_new c 0 _ h4, ⟨t, World.cell?_setCell_same' _ _ _ (by rw [h2]; rfl)⟩, by rw [World.frozen?_setCell]; exact h3, h4, by simpa using h5⟩
theorem ret_two {a b c d : Int} (h : a = c) (h' : b = d) : Ending.returned (.tuple #[.int .i64 a, .int .i64 b]) = .returned (.tuple #[.int .i64 c, .int .i64 d]) := by rw [h, h']
set_option maxHeartbeats 8000000 in
set_option maxRecDepth 1000000 in
theorem order2_any (hC : CmpM C enc cf blk off d0.size w0) (R : Row1 enc w0 blk off d0) (a b c : Nat) (d : Array α) (w : World) (hs : d0.size = d.size) (S : Cn enc w0 blk off d c w) (ha : a < d.size) (hb : b < d.size) (hsz : d.size < 50) :
    Calls Try.prog 42 #[.slice (some ⟨blk, off, none⟩) d.size cap, .int .i64 a, .int .i64 b, .pointer (some ⟨c, 0, none⟩), .func (.func 21) #[C] #[]] w fun e w' => ∃ x y : Nat, e = .returned (.tuple #[.int .i64 x, .int .i64 y]) ∧ Hid ((x = a ∧ y = b) ∨ (x = b ∧ y = a)) ∧ Hid (Cn enc w0 blk off d c w') := by
  have mx := mixedT
  have HC : Aside (CmpM C enc cf blk off d0.size w0) := hC
  have S0 : Aside (SW enc w0 blk off d w) := S.1
  have SC : Aside (Cn enc w0 blk off d c w) := S
  have hcl0 := R.hO.cells
  simp only [Value.cells] at hcl0
  have hst := R.hO.store Try.prog
  clear S hC
  cases hlv : (ltOf cf) d[b]! d[a]! with
  | true =>
    go_enter Try.func42, Try.ntmps42
    go_wp2_with fail
    obtain ⟨iN1, hiN1⟩ : ∃ q, q = b := ⟨_, rfl⟩
    have ei1 : ((b : Int)).toNat = iN1 := by omega
    have pi1 : (0 : Int) ≤ (b : Int) := by omega
    have bi1 : (b : Int) < (d.size : Int) := by omega
    have ri1 : IntKind.i64.wrap ((b : Int)) = (b : Int) := by rw [IntKind.wrap_i64]; omega
    obtain ⟨jN1, hjN1⟩ : ∃ q, q = a := ⟨_, rfl⟩
    have ej1 : ((a : Int)).toNat = jN1 := by omega
    have pj1 : (0 : Int) ≤ (a : Int) := by omega
    have bj1 : (a : Int) < (d.size : Int) := by omega
    have rj1 : IntKind.i64.wrap ((a : Int)) = (a : Int) := by rw [IntKind.wrap_i64]; omega
    obtain ⟨x1, hx1⟩ : ∃ v9, v9 = d[b]! := ⟨_, rfl⟩
    obtain ⟨y1, hy1⟩ : ∃ v9, v9 = d[a]! := ⟨_, rfl⟩
    have la1 := S0.out.cl R (by omega) (b) (by omega)
    have lb1 := S0.out.cl R (by omega) (a) (by omega)
    rw [← hx1, ← hiN1] at la1
    rw [← hy1, ← hjN1] at lb1
    have hc1 := CmpM.at HC.out S0.out (by omega) x1 y1
    have hv1 : cf x1 y1 < 0 := by rw [hx1, hy1]; exact of_decide_eq_true hlv
    have hd1 : decide (cf x1 y1 < 0) = true := decide_eq_true hv1
    clear hx1 hy1 hiN1 hjN1
    go_wp2_with fail
    go_quiet_grown (first | (go_at_fn 21; exact hc1 _ _) | (go_at_call 21; exact hc1 _ _))
    have S4 : Aside (SW enc w0 blk off d (grow (w.drewN nq) osq)) := S0.out.grown nq osq
    clear la1 lb1 hc1 S0
    have SD : Aside (Cn enc w0 blk off d c (grow (w.drewN nq) osq)) := SC.out.grown nq osq
    clear SC
    generalize grow (w.drewN nq) osq = w4 at S4 SD ⊢
    clear nq osq
    clear ei1 ej1
    obtain ⟨s, q1⟩ := SD.out.2.1
    have q2 := SD.out.2.2.1
    go_wp2
    go_ret2
    exact ⟨b, a, rfl, Or.inr ⟨rfl, rfl⟩, SD.out.bump _⟩
  | false =>
    go_enter Try.func42, Try.ntmps42
    go_wp2_with fail
    obtain ⟨iN2, hiN2⟩ : ∃ q, q = b := ⟨_, rfl⟩
    have ei2 : ((b : Int)).toNat = iN2 := by omega
    have pi2 : (0 : Int) ≤ (b : Int) := by omega
    have bi2 : (b : Int) < (d.size : Int) := by omega
    have ri2 : IntKind.i64.wrap ((b : Int)) = (b : Int) := by rw [IntKind.wrap_i64]; omega
    obtain ⟨jN2, hjN2⟩ : ∃ q, q = a := ⟨_, rfl⟩
    have ej2 : ((a : Int)).toNat = jN2 := by omega
    have pj2 : (0 : Int) ≤ (a : Int) := by omega
    have bj2 : (a : Int) < (d.size : Int) := by omega
    have rj2 : IntKind.i64.wrap ((a : Int)) = (a : Int) := by rw [IntKind.wrap_i64]; omega
    obtain ⟨x2, hx2⟩ : ∃ v9, v9 = d[b]! := ⟨_, rfl⟩
    obtain ⟨y2, hy2⟩ : ∃ v9, v9 = d[a]! := ⟨_, rfl⟩
    have la2 := S0.out.cl R (by omega) (b) (by omega)
    have lb2 := S0.out.cl R (by omega) (a) (by omega)
    rw [← hx2, ← hiN2] at la2
    rw [← hy2, ← hjN2] at lb2
    have hc2 := CmpM.at HC.out S0.out (by omega) x2 y2
    have hv2 : ¬ cf x2 y2 < 0 := by rw [hx2, hy2]; exact of_decide_eq_false hlv
    have hd2 : decide (cf x2 y2 < 0) = false := decide_eq_false hv2
    clear hx2 hy2 hiN2 hjN2
    go_wp2_with fail
    go_quiet_grown (first | (go_at_fn 21; exact hc2 _ _) | (go_at_call 21; exact hc2 _ _))
    have S4 : Aside (SW enc w0 blk off d (grow (w.drewN nq) osq)) := S0.out.grown nq osq
    clear la2 lb2 hc2 S0
    have SD : Aside (Cn enc w0 blk off d c (grow (w.drewN nq) osq)) := SC.out.grown nq osq
    clear SC
    generalize grow (w.drewN nq) osq = w4 at S4 SD ⊢
    clear nq osq
    clear ei2 ej2
    go_wp2
    go_ret2
    exact ⟨a, b, rfl, Or.inl ⟨rfl, rfl⟩, SD.out⟩
set_option maxHeartbeats 8000000 in
set_option maxRecDepth 1000000 in
theorem median_any (hC : CmpM C enc cf blk off d0.size w0) (R : Row1 enc w0 blk off d0) (a b e c : Nat) (d : Array α) (w : World) (hs : d0.size = d.size) (S : Cn enc w0 blk off d c w) (ha : a < d.size) (hb : b < d.size) (he : e < d.size) (hsz : d.size < 50) :
    Calls Try.prog 41 #[.slice (some ⟨blk, off, none⟩) d.size cap, .int .i64 a, .int .i64 b, .int .i64 e, .pointer (some ⟨c, 0, none⟩), .func (.func 21) #[C] #[]] w fun r w' => ∃ x : Nat, r = .returned (.int .i64 x) ∧ Hid (x = a ∨ x = b ∨ x = e) ∧ Hid (Cn enc w0 blk off d c w') := by
  have k : ∀ (x y : Nat) (W : World), x < d.size → y < d.size → Cn enc w0 blk off d c W → Calls Try.prog 42 #[.slice (some ⟨blk, off, none⟩) d.size cap, .int .i64 x, .int .i64 y, .pointer (some ⟨c, 0, none⟩), .func (.func 21) #[C] #[]] W _ := fun x y W h1 h2 h3 => order2_any hC R x y c d W hs h3 h1 h2 hsz
  have k1 := k a b w ha hb S
  have K : Aside _ := k
  clear k S hC hs
  go_enter Try.func41, Try.ntmps41
  go_wp2_with (go_at_call 42; refine k1.mono ?_; rintro r w1 ⟨x1, y1, rfl, h1, s1⟩; refine Hid.out ?_)
  have l1 : x1 < d.size ∧ y1 < d.size := by rcases h1.out with ⟨rfl, rfl⟩ | ⟨rfl, rfl⟩ <;> exact ⟨by assumption, by assumption⟩
  have k2 := K.out y1 e w1 l1.2 he s1.out
  refine hide_it ?_
  go_wp2_with (go_at_call 42; refine k2.mono ?_; rintro r w2 ⟨x2, y2, rfl, h2, s2⟩; refine Hid.out ?_)
  have l2 : x2 < d.size ∧ y2 < d.size := by rcases h2.out with ⟨rfl, rfl⟩ | ⟨rfl, rfl⟩ <;> exact ⟨by first | exact l1.2 | exact he, by first | exact l1.2 | exact he⟩
  have k3 := K.out x1 x2 w2 l1.1 l2.1 s2.out
  refine hide_it ?_
  go_wp2_with (go_at_call 42; refine k3.mono ?_; rintro r w3 ⟨x3, y3, rfl, h3, s3⟩)
  go_ret
  refine ⟨y3, rfl, ?_, s3⟩
  have q1 := h1.out
  have q2 := h2.out
  have q3 := h3.out
  exact (show y3 = a ∨ y3 = b ∨ y3 = e from by omega)
end
end Go.Proofs.Ytebielckdloncaa
