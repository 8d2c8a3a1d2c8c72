/- The document's own turns among others. -/
import Derived.Test.YtlhkahincnchjaaRfb
namespace Go.Proofs.Ytlhkahincnchjaa
open Go.RowKit
open M
set_option linter.unusedVariables false
set_option linter.unusedSimpArgs false
section
variable {B : Nat} {w0 w w' : World} {os : List Ob} {R : List (Nat × Obj)}
theorem MX.rjoin (h : MX B w0 w os R) (i : Nat) {t : Nat} {x : Tn} (hi : os[i]? = some (obB t x)) (hn : x.n < 1000000) (id wt : Int) : Calls Try.prog 14 #[ptr t, .int .i64 id, .int .i64 wt] w fun e w' => e = .returned (.int .i64 (joinE x id wt)) ∧ Hid (MX B w0 w' (os.set i (obB t (joinX x id wt))) R) := by
  obtain ⟨F, h⟩ := h
  refine (rjoin_any (h.ho i _ hi) hn id wt).mono ?_
  rintro e w' ⟨rfl, s⟩
  exact ⟨rfl, h.next (o' := obB t (joinX x id wt)) hi s.out.to s.out.tu⟩
theorem MX.rleave (h : MX B w0 w os R) (i : Nat) {t : Nat} {x : Tn} (hi : os[i]? = some (obB t x)) (hn : x.n ≤ 1000000) (hk : 0 < x.n → x.k < x.n) (id : Int) : Calls Try.prog 16 #[ptr t, .int .i64 id] w fun e w' => e = .returned (.int .i64 (leaveE x id)) ∧ Hid (MX B w0 w' (os.set i (obB t (leaveX x id))) R) := by
  obtain ⟨F, h⟩ := h
  refine (rleave_any (h.ho i _ hi) hn hk id).mono ?_
  rintro e w' ⟨rfl, s⟩
  exact ⟨rfl, h.next (o' := obB t (leaveX x id)) hi s.out.to s.out.tu⟩
theorem MX.rfind (h : MX B w0 w os R) (i : Nat) {t : Nat} {x : Tn} (hi : os[i]? = some (obB t x)) (hn : x.n ≤ 1000000) (id : Int) : Calls Try.prog 21 #[ptr t, .int .i64 id] w fun e w' => e = .returned (.int .i64 (plc x id)) ∧ Hid (MX B w0 w' os R) := by
  have h' := h
  obtain ⟨F, h⟩ := h
  refine (rfind_any (h.ho i _ hi) hn id).mono ?_
  rintro e w' ⟨rfl, rfl⟩
  exact ⟨rfl, h'⟩
end
end Go.Proofs.Ytlhkahincnchjaa
