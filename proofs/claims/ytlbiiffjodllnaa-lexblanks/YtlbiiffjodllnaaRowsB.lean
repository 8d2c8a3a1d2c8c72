/- Rows of bytes that the call itself makes; the comparison of tokens. -/
import Derived.Test.YtlbiiffjodllnaaShown
import Derived.Test.YtlbiiffjodllnaaMathB
import Derived.Deep.OwnRows
import Derived.BigRegion
import Derived.BigQuiet
namespace Go.Proofs.Ytlbiiffjodllnaa
open Go.RowKit
open M

theorem Try.info5b : (Try.prog.info? 5).map (fun i => (i.zero, i.size, i.bytes)) = some (some (.int .u8 0), 1, 1) := by kernel_rfl

def bcells (bs : List UInt8) : List Value := bs.map (fun c => Value.int .u8 ((c.toNat : Nat) : Int))
/-- A value owns these bytes. -/
abbrev OwnB (w : World) (base : Nat) (v : Value) (bs : List UInt8) : Prop := w.ownsRow base 5 1 v bs.length (bcells bs)

theorem bcells_len (bs : List UInt8) : (bcells bs).length = bs.length := by simp [bcells]
theorem bcells_app (a b : List UInt8) : bcells (a ++ b) = bcells a ++ bcells b := by simp [bcells]
theorem bcells_one (bs : List UInt8) : ∀ u ∈ bcells bs, u.oneCell' = true := by
  intro u hu
  obtain ⟨c, _, rfl⟩ := List.mem_map.1 hu
  rfl
theorem ownB_app {w : World} {base : Nat} {v : Value} {a b : List UInt8} (h : w.ownsRow base 5 1 v (a.length + b.length) (bcells a ++ bcells b)) : OwnB w base v (a ++ b) := by
  unfold OwnB
  rw [bcells_app, List.length_append]
  exact h
theorem ownB_new (w : World) (base : Nat) (hb : base ≤ w.heap.size) : OwnB (w.alloc (.cells #[] 5)) base (.slice (some ⟨w.heap.size, 0, none⟩) 0 0) [] :=
  World.ownsRow_lit w #[] 0 hb (Nat.zero_le _) rfl
theorem ownsRow_later {w w' : World} {base : Nat} {e : TypeId} {size : Nat} {v : Value} {n : Nat} {xs : List Value} (h : w.ownsRow base e size v n xs) (hb : Below w.heap.size w w') : w'.ownsRow base e size v n xs := by
  refine ⟨h.1, ?_⟩
  rcases h.2 with h2 | ⟨g, cap, cur, hv, hg, hh, r⟩
  · exact .inl h2
  · refine .inr ⟨g, cap, cur, hv, hg, ?_, r⟩
    rw [hb.block g (Array.getElem?_eq_some_iff.1 hh).1]
    exact hh
/-- What is owned from a base on, in a world that has not turned below a greater number. -/
theorem OwnB.bytes {w : World} {base : Nat} {v : Value} {bs : List UInt8} (h : OwnB w base v bs) : ∃ a cap, v = .slice a bs.length cap ∧ bs.length ≤ cap ∧ cap ≤ maxLen ∧ Bytes w a bs := by
  rcases h.2 with ⟨rfl, e⟩ | ⟨g, cap, cur, rfl, _, _, hnc, hcm, _⟩
  · exact ⟨none, 0, by rw [e], by omega, Nat.zero_le _, fun i hi => by omega⟩
  · refine ⟨_, cap, rfl, hnc, hcm, fun i hi => ⟨g, 0, rfl, ?_⟩⟩
    rw [Nat.zero_add, h.cellAt i (by omega)]
    simp [bcells, hi]
/-- Lex of bytes that the call owns. -/
theorem lex_own {w : World} {base : Nat} {v : Value} {bs : List UInt8} (h : OwnB w base v bs) :
    Calls Try.prog 11 #[v] w fun e w' => ∃ v', e = .returned (.tuple #[v', .int .i64 (lexF bs).2.1, .int .i64 (lexF bs).2.2]) ∧ Own w' w.heap.size v' (lexF bs).1 ∧ Below w.heap.size w w' := by
  obtain ⟨a, cap, rfl, h1, h2, h3⟩ := h.bytes
  exact lex_any a cap bs w h1 h2 h3

theorem own_slice {w : World} {base : Nat} {v : Value} {ts : List Tok} (h : Own w base v ts) : ∃ a cap, v = .slice a ts.length cap ∧ ts.length ≤ cap ∧ cap ≤ maxLen := by
  rcases h.2 with ⟨rfl, e⟩ | ⟨g, cap, cur, rfl, _, _, hnc, hcm, _⟩
  · exact ⟨none, 0, by rw [e], by omega, Nat.zero_le _⟩
  · exact ⟨_, _, rfl, hnc, hcm⟩

theorem Own.low {w : World} {base : Nat} {v : Value} {ts : List Tok} (h : Own w base v ts) : Own w 0 v ts := by
  refine ⟨h.1, ?_⟩
  rcases h.2 with h2 | ⟨g, cap, cur, hv, _, r⟩
  · exact .inl h2
  · exact .inr ⟨g, cap, cur, hv, Nat.zero_le _, r⟩

theorem min_is (n m : Nat) (ts : Array TypeId) (t : TypeId) (W : World) : (Builtin.min_ ts t #[.int .i64 (n : Int), .int .i64 (m : Int)]).run Try.prog W = .ok (.int .i64 ((min m n : Nat) : Int)) W := by
  rw [run_min_int2]
  congr 2
  split <;> omega

/-- The first bytes of bytes. -/
theorem Bytes.take {w : World} {a : Option Addr} {bs : List UInt8} (h : Bytes w a bs) (k : Nat) : Bytes w a (bs.take k) := by
  intro i hi
  have hi' : i < bs.length := by simp at hi; omega
  obtain ⟨b, o, ha, hc⟩ := h i hi'
  exact ⟨b, o, ha, by rw [hc]; simp⟩

theorem take_snoc {bs : List UInt8} {k : Nat} (h : k < bs.length) : bs.take (k + 1) = bs.take k ++ [bs[k]] := List.take_succ_eq_append_getElem h
theorem run_snoc {o bs : List UInt8} {k : Nat} (h : k < bs.length) (hr : run init o = run init (bs.take k)) : run init (o ++ [bs[k]]) = run init (bs.take (k + 1)) := by
  rw [take_snoc h, run_app, run_app, hr]
theorem lex_same {o bs : List UInt8} (h : run init o = run init bs) (h1 : o.length ≤ 65536) (h2 : bs.length ≤ 65536) : lexF o = lexF bs := by
  unfold lexF; rw [if_neg (by omega), if_neg (by omega), h]
/-- A blank behind a blank. -/
theorem run_blank {o bs : List UInt8} {k : Nat} {c : UInt8} (h : k < bs.length) (hb : cls bs[k] = 3) (hc : cls c = 3) (hr : run init o = run init (bs.take (k + 1))) : run init (o ++ [c]) = run init (bs.take (k + 1)) := by
  rw [run_app, hr, take_snoc h, run_app]
  exact blank_twice _ _ _ hb hc

theorem lex_ok {bs : List UInt8} (h : (lexF bs).2.2 = 0) : (lexF bs).2.1 = 0 := by
  unfold lexF at h ⊢
  split at h
  · simp at h
  · rename_i hn
    rw [if_neg hn]
    cases hr : run init bs with
    | error l => rw [hr] at h; simp [fin] at h
    | ok s => rfl
theorem lex_err {bs : List UInt8} (hl : bs.length ≤ 65536) (h : (lexF bs).2.2 ≠ 0) : (lexF bs).2.2 = 2 ∧ (lexF bs).1 = [] := by
  unfold lexF at h ⊢
  rw [if_neg (by omega)] at h ⊢
  cases hr : run init bs with
  | error l => exact ⟨rfl, rfl⟩
  | ok s => rw [hr] at h; exact absurd rfl h
end Go.Proofs.Ytlbiiffjodllnaa
