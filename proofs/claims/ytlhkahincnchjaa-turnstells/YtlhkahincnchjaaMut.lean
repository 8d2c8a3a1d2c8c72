/- The document's own Take among others. -/
import Derived.Test.YtlhkahincnchjaaRfc
namespace Go.Proofs.Ytlhkahincnchjaa
open Go.RowKit
open M
set_option linter.unusedVariables false
set_option linter.unusedSimpArgs false
section
variable {B : Nat} {w0 w w' : World} {os : List Ob} {R : List (Nat × Obj)}
theorem MX.rtake (h : MX B w0 w os R) (i j : Nat) (hij : i ≠ j) {t : Nat} {x : Tn} (hi : os[i]? = some (obB t x)) {M : Int} {N : Nat} (hM : M ≤ 1048576) (hg : Gd M N x) (hN : N ≤ 1000000) {e : TypeId} {la : Option Addr} {l : List Wn} {lc : Nat} (hj : os[j]? = some (obW e (.slice la l.length lc) l)) (hm2 : l.length ≤ 1000000) :
    Calls Try.prog 19 #[ptr t, .slice la l.length lc] w fun e w' => ∃ y id ok, e = .returned (.tuple #[.int .i64 id, .bool ok]) ∧ Hid (TakeP l x y id ok ∧ MX B w0 w' (os.set i (obB t y)) R) := by
  obtain ⟨la', lc', e1, _, _, hl⟩ := h.wants j hj
  cases e1
  obtain ⟨F, h⟩ := h
  have iv : Inv 1048576 x := ⟨hg.iv.q1, hg.iv.q2, hg.iv.w, hg.iv.c0, fun j hj hne => by have := hg.iv.cM j hj hne; omega, fun hk => by have := hg.iv.ck hk; omega, hg.iv.kn, hg.iv.k0⟩
  have hw := h.ho j _ hj
  refine (rtake_any (h.ho i _ hi) iv (by have := hg.len; omega) hl (fun b o eb hf => ?_) rfl hm2).mono ?_
  · subst eb
    exact h.dis i j b hij hf (hw.2 b rfl)
  · rintro e w' s
    obtain ⟨y, id, ok, rfl, s2⟩ := s.out
    exact ⟨y, id, ok, rfl, s2.out.1, h.next (o' := obB t y) hi s2.out.2.to s2.out.2.tu⟩
end
end Go.Proofs.Ytlhkahincnchjaa
