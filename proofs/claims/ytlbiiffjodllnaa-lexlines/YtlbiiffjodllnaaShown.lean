/- What the statements' own look 'shown' answers: true. -/
import Derived.Test.YtlbiiffjodllnaaScan
namespace Go.Proofs.Ytlbiiffjodllnaa
open Go.RowKit
open M
set_option linter.unusedVariables false

theorem hide_it {p : Prop} (h : p) : Hid p := h


/-- A literal's bytes, converted: the run-time marks the place behind its row. -/
theorem conv_mark (w : World) (C : Array Value) (l c : Nat) :
    (convert 22 22 (.slice (some ⟨w.heap.size, 0, none⟩) l c)).run Try.prog (w.alloc (.cells C 5)) = .ok (.slice (some ⟨w.heap.size, 0, none⟩) l c) (w.alloc (.cells C 5 (C.size, C.size + 1))) := by
  have hsh : (w.alloc (.cells C 5)).shape? w.heap.size = some (5, C.size) := by
    have : (w.alloc (.cells C 5)).heap[w.heap.size]? = some (.cells C 5) := heap_alloc_new w _
    unfold World.shape?
    rw [this]
  have hfr : (w.alloc (.cells C 5)).freeze ⟨w.heap.size, C.size, none⟩ 1 = w.alloc (.cells C 5 (C.size, C.size + 1)) := by
    have hm : ∀ (a : Array Obj) (x : Obj) (f : Obj → Obj), (a.push x).modify a.size f = a.push (f x) := by
      intro a x f
      apply Array.ext
      · simp
      · intro i h1 h2
        simp only [Array.getElem_modify, Array.getElem_push]
        by_cases h : a.size = i
        · subst h
          simp
        · have hi : i < a.size := by simp at h1; omega
          simp [h, hi]
    unfold World.freeze
    rw [if_neg (by decide)]
    show ({ w.alloc (.cells C 5) with heap := (w.heap.push (.cells C 5)).modify w.heap.size _ } : World) = _
    rw [hm]
    rfl
  simp [convert, run_underlying Try.underlying22, run_underlying Try.underlying5, markStringish, hsh]
  exact hfr

/-- Bytes that a literal lays into a block of its own. -/
theorem bytes_new (w : World) (bs : List UInt8) (cs : Array Value) (t : TypeId) (fr : Nat × Nat) (h : cs.toList = bs.map (fun c => Value.int .u8 ((c.toNat : Nat) : Int))) :
    Bytes (w.alloc (.cells cs t fr)) (some ⟨w.heap.size, 0, none⟩) bs := by
  intro i hi
  refine ⟨_, _, rfl, ?_⟩
  have := World.news_of_block (heap_alloc_new w (.cells cs t fr)) i (.int .u8 ((bs[i].toNat : Nat) : Int)) (by rw [h]; simp [hi])
  rw [Addr.add_lit] at this
  exact this

/-- What is owned stays owned while others make memory. -/
theorem Own.later {w w' : World} {base : Nat} {v : Value} {ts : List Tok} (h : Own w base v ts) (hb : Below w.heap.size w w') : Own w' base v ts := by
  refine ⟨h.1, ?_⟩
  rcases h.2 with h2 | ⟨g, cap, cur, hv, hg, hh, r⟩
  · exact .inl h2
  · refine .inr ⟨g, cap, cur, hv, hg, ?_, r⟩
    rw [hb.block g (Array.getElem?_eq_some_iff.1 hh).1]
    exact hh

def b1 : List UInt8 := [10, 32, 116, 97, 115, 107, 32, 53, 32, 35, 32, 111, 110, 101, 10, 120]
def b2 : List UInt8 := [97, 10, 53, 120]
def t1 : List Tok := [⟨1, [116, 97, 115, 107], 2⟩, ⟨2, [53], 2⟩, ⟨3, [], 2⟩, ⟨1, [120], 3⟩, ⟨3, [], 3⟩]
theorem lex_b1 : lexF b1 = (t1, 0, 0) := by rfl
theorem lex_b2 : lexF b2 = ([], 2, 2) := by rfl

set_option maxRecDepth 1000000 in
set_option maxHeartbeats 4000000 in
theorem shown_any (w : World) : Calls Try.prog 10 #[] w fun e w' => e = .returned (.bool true) ∧ Below w.heap.size w w' := by
  have k1 : ∀ (W : World) (a : Option Addr) (cap : Nat), Bytes W a b1 → 16 ≤ cap → cap ≤ maxLen → Calls Try.prog 11 #[.slice a 16 cap] W fun e w' => ∃ v, e = .returned (.tuple #[v, .int .i64 0, .int .i64 0]) ∧ Own w' W.heap.size v t1 ∧ Below W.heap.size W w' := fun W a cap hb h1 h2 => by
    have := lex_any a cap b1 W h1 h2 hb
    rw [lex_b1] at this
    exact this
  have k2 : ∀ (W : World) (a : Option Addr) (cap : Nat), Bytes W a b2 → 4 ≤ cap → cap ≤ maxLen → Calls Try.prog 11 #[.slice a 4 cap] W fun e w' => ∃ v, e = .returned (.tuple #[v, .int .i64 2, .int .i64 2]) ∧ Own w' W.heap.size v [] ∧ Below W.heap.size W w' := fun W a cap hb h1 h2 => by
    have := lex_any a cap b2 W h1 h2 hb
    rw [lex_b2] at this
    exact this
  have hcs := conv_mark
  go_enter Try.func10, Try.ntmps10
  go_wp2_with (go_at_call 11; refine (k1 _ _ _ (bytes_new _ _ _ _ _ (by rfl)) (by omega) (by unfold maxLen; omega)).mono ?_; rintro e w1 ⟨v, rfl, ho, hb1⟩; refine Hid.out ?_)
  obtain ⟨g, cap, rfl, _, _⟩ := ho.form (by decide)
  have HO : Hid (Own w1 (w.heap.size + 1) (.slice (some ⟨g, 0, none⟩) t1.length cap) t1) := hide_it (by simpa using ho)
  have HB : Hid (Below w.heap.size w w1) := ((Below.refl _ w).alloc (Nat.le_refl _) _).trans (hb1.mono (by simp))
  clear ho hb1
  refine hide_it ?_
  go_wp2_with (go_at_call 11; refine (k2 _ _ _ (bytes_new _ _ _ _ _ (by rfl)) (by omega) (by unfold maxLen; omega)).mono ?_; rintro e w2 ⟨v2, rfl, _, hb2⟩; refine Hid.out ?_)
  have ho2 : Own w2 (w.heap.size + 1) (.slice (some ⟨g, 0, none⟩) t1.length cap) t1 := Own.later (HO.out.alloc _) hb2
  have HB2 : Hid (Below w.heap.size w w2) := HB.out.trans ((((Below.refl _ w1).alloc (Nat.le_refl _) _).trans (hb2.mono (by simp))).mono HB.out.size)
  have c0 : w2.cell? ⟨g, 0, none⟩ = some (.int .i64 1) := (Own.cellsAt ho2 0 (by decide)).1
  have c1 : w2.cell? ⟨g, 1, none⟩ = some (.string ⟨#[116, 97, 115, 107]⟩) := (Own.cellsAt ho2 0 (by decide)).2.1
  have c2 : w2.cell? ⟨g, 2, none⟩ = some (.int .i64 2) := (Own.cellsAt ho2 0 (by decide)).2.2
  have c3 : w2.cell? ⟨g, 3, none⟩ = some (.int .i64 2) := (Own.cellsAt ho2 1 (by decide)).1
  have c4 : w2.cell? ⟨g, 4, none⟩ = some (.string ⟨#[53]⟩) := (Own.cellsAt ho2 1 (by decide)).2.1
  have c6 : w2.cell? ⟨g, 6, none⟩ = some (.int .i64 3) := (Own.cellsAt ho2 2 (by decide)).1
  have c8 : w2.cell? ⟨g, 8, none⟩ = some (.int .i64 2) := (Own.cellsAt ho2 2 (by decide)).2.2
  have c10 : w2.cell? ⟨g, 10, none⟩ = some (.string ⟨#[120]⟩) := (Own.cellsAt ho2 3 (by decide)).2.1
  have c12 : w2.cell? ⟨g, 12, none⟩ = some (.int .i64 3) := (Own.cellsAt ho2 4 (by decide)).1
  have c14 : w2.cell? ⟨g, 14, none⟩ = some (.int .i64 3) := (Own.cellsAt ho2 4 (by decide)).2.2
  clear ho2 hb2 k1 k2
  refine hide_it ?_
  go_wp2
  go_ret
  exact ⟨rfl, HB2.out⟩

end Go.Proofs.Ytlbiiffjodllnaa
