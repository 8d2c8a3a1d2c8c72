/- Admits, and a row of one's own that grows. -/
import Derived.Test.YtjmdalpffhfdfaaMul
namespace Go.Proofs.Ytjmdalpffhfdfaa
open Go.RowKit
open M
set_option linter.unusedVariables false
set_option linter.unusedSimpArgs false

def PT (B : Nat) (w0 w : World) (hs : List Hp) (v : Value) (L : List Int) : Prop := ∃ R, MX B w0 w hs R ∧ w.ownsRow B 3 1 v L.length (ints L) ∧ ∀ k, v.ownBlock = some k → ∃ o, (k, o) ∈ R
section
variable {B : Nat} {w0 w w' : World} {hs hs' : List Hp} {v v' : Value} {L K : List Int}
theorem PT.mx (h : PT B w0 w hs v L) : MX B w0 w hs [] := by obtain ⟨R, h, _⟩ := h; exact h.drop (fun p hp => by simp at hp)
theorem PT.below (h : PT B w0 w hs v L) (hb : Below w.heap.size w w') : PT B w0 w' hs v L := by
  obtain ⟨R, h1, h2, h3⟩ := h
  exact ⟨R, h1.below hb, owns_below h2 hb, h3⟩
theorem PT.own (h : PT B w0 w hs v L) {p : Ending → Prop} {F : Nat} {args : Array Value} (k : ∀ R, MX B w0 w hs R → Calls Try.prog F args w fun e w' => p e ∧ Hid (MX B w0 w' hs' R)) : Calls Try.prog F args w fun e w' => p e ∧ Hid (PT B w0 w' hs' v L) := by
  obtain ⟨R, h1, h2, h3⟩ := h
  refine (k R h1).mono ?_
  rintro e w' ⟨hp, s⟩
  refine ⟨hp, R, s.out, owns_keep h2 (fun j hj => ?_), h3⟩
  obtain ⟨o, ho⟩ := h3 j hj
  rw [s.out.row ho, h1.row ho]
theorem PT.rd {ao : Option Addr} {m cap : Nat} (h : PT B w0 w hs (.slice ao m cap) L) (hm : m = L.length) : Rd w ao L cap := by
  obtain ⟨R, _, h, _⟩ := h
  subst hm
  exact own_rd h
theorem PT.len {ao : Option Addr} {m cap : Nat} (h : PT B w0 w hs (.slice ao m cap) L) : m = L.length := by
  obtain ⟨R, _, h, _⟩ := h
  rcases h.2 with ⟨e, q⟩ | ⟨g, c, cur, e, _⟩
  · cases e; exact q.symm
  · cases e; rfl
theorem pt_start (h : MX B w0 w hs []) : PT B w0 w hs (.slice none 0 0) [] := ⟨[], h, World.ownsRow_nil _ _ _ _, fun k hk => by simp [Value.ownBlock] at hk⟩
theorem PT.grown (h : PT B w0 w hs v L) (ho : w'.ownsRow B 3 1 v' (L ++ K).length (ints (L ++ K))) (hg : w.grownBy w' v.ownBlock) (hf : Fresh w v v') : PT B w0 w' hs v' (L ++ K) := by
  obtain ⟨R, h1, h2, h3⟩ := h
  have ht : Turn (fun k => ∃ o, (k, o) ∈ R) w w' := (Turn.refl _ w).grown hg (fun k hk => .inl (h3 k hk))
  rcases ho.2 with ⟨e, q⟩ | ⟨g, c, cur, e, hb, hg2, rest⟩
  · subst e
    exact ⟨[], h1.turnR ht (fun p hp => by simp at hp), ho, fun k hk => by simp [Value.ownBlock] at hk⟩
  · refine ⟨[(g, .cells cur 3)], h1.turnR ht (fun p hp => ?_), ho, fun k hk => ?_⟩
    · rw [List.mem_singleton.1 hp]
      refine ⟨hg2, ?_⟩
      rcases hf with q | ⟨k, q, hk⟩
      · left
        refine h3 g ?_
        rw [← q, e]; rfl
      · right
        rw [e] at q
        simp [Value.ownBlock] at q
        subst q; exact hk
    · rw [e] at hk
      simp [Value.ownBlock] at hk
      subst hk
      exact ⟨_, List.mem_singleton.2 rfl⟩
end
end Go.Proofs.Ytjmdalpffhfdfaa
