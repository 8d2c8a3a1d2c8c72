/- One heap beside what came in: every call of it. -/
import Derived.Test.YtlpbjafdmhcmgaaNew
namespace Go.Proofs.Ytlpbjafdmhcmgaa
open Go.RowKit
open M
set_option linter.unusedVariables false
set_option linter.unusedSimpArgs false

def pushE (n : Nat) (S : Nat → Option Int) (id : Int) : Int := if isId n id = true then (if hasB n S id = true then 8 else 0) else 1
def pushS (n : Nat) (S : Nat → Option Int) (id key : Int) : Nat → Option Int := if isId n id = true ∧ hasB n S id = false then upS S id.toNat (some key) else S
def remE (n : Nat) (S : Nat → Option Int) (id : Int) : Int := if isId n id = true then (if hasB n S id = true then 0 else 6) else 1
def remS (n : Nat) (S : Nat → Option Int) (id : Int) : Nat → Option Int := if hasB n S id = true then upS S id.toNat none else S
theorem hasB_true {n : Nat} {S : Nat → Option Int} {id : Int} (h : hasB n S id = true) : ∃ (x : Nat) (y : Int), id = x ∧ x < n ∧ S x = some y ∧ keyV n S id = y := by
  unfold hasB at h
  rw [Bool.and_eq_true] at h
  obtain ⟨h1, h2⟩ := h
  obtain ⟨x, rfl, hx⟩ := isId_true h1
  rw [Int.toNat_natCast] at h2
  obtain ⟨y, hy⟩ := Option.isSome_iff_exists.1 h2
  refine ⟨x, y, rfl, hx, hy, ?_⟩
  unfold keyV
  rw [if_pos h1, Int.toNat_natCast, hy]
  rfl
theorem keyV_none {n : Nat} {S : Nat → Option Int} {id : Int} (h : hasB n S id = false) : keyV n S id = 0 := by
  unfold keyV
  unfold hasB at h
  cases hid : isId n id with
  | false => simp
  | true => rw [hid] at h; simp at h; simp [h]
theorem hasB_id {n : Nat} {S : Nat → Option Int} {id : Int} (h : isId n id = false) : hasB n S id = false := by simp [hasB, h]

section
variable {w : World} {F : Nat → Prop} {g n : Nat} {S : Nat → Option Int}
theorem HO.stay (h : HO w F g n S) : HO w (Grow F w w) g n S ∧ Turn F w w := ⟨h.mono (fun k _ hk => .inl hk), Turn.refl _ _⟩
theorem push_any (h : HO w F g n S) (id key : Int) :
    Calls Try.prog 25 #[ptr g, .int .i64 id, .int .i64 key] w fun e w' => e = .returned (.int .i64 (pushE n S id)) ∧ HO w' (Grow F w w') g n (pushS n S id key) ∧ Turn F w w' := by
  unfold pushE pushS
  cases hid : isId n id with
  | false =>
    refine (push_bad h id key hid).mono ?_
    rintro e w' ⟨rfl, rfl⟩
    simp only [Bool.false_eq_true, if_false, false_and]
    exact ⟨trivial, h.stay⟩
  | true =>
    simp only [if_true, true_and]
    obtain ⟨x, rfl, hx⟩ := isId_true hid
    have hb : hasB n S x = (S x).isSome := by simp [hasB, hid]
    rw [hb, Int.toNat_natCast]
    cases hs : S x with
    | none =>
      refine (push_new h x key hx hs).mono ?_
      rintro e w' ⟨rfl, h1, h2⟩
      simp only [Option.isSome_none, Bool.false_eq_true, if_false, if_true]
      exact ⟨trivial, h1, h2⟩
    | some y =>
      refine (push_old h x key hx (by rw [hs]; rfl)).mono ?_
      rintro e w' ⟨rfl, rfl⟩
      simp only [Option.isSome_some, if_true, Bool.true_eq_false, if_false]
      exact ⟨trivial, h.stay⟩
theorem remove_any (h : HO w F g n S) (id : Int) :
    Calls Try.prog 24 #[ptr g, .int .i64 id] w fun e w' => e = .returned (.tuple #[.int .i64 (keyV n S id), .int .i64 (remE n S id)]) ∧ HO w' (Grow F w w') g n (remS n S id) ∧ Turn F w w' := by
  unfold remE remS
  cases hb : hasB n S id with
  | false =>
    refine (remove_bad h id (if isId n id = true then 6 else 1) (by rw [hb]; rfl) (by split <;> decide)).mono ?_
    rintro e w' ⟨rfl, rfl⟩
    rw [keyV_none hb]
    simp only [Bool.false_eq_true, if_false]
    exact ⟨trivial, h.stay⟩
  | true =>
    obtain ⟨x, y, rfl, hx, hs, hk⟩ := hasB_true hb
    rw [hk, isId_nat n x hx, Int.toNat_natCast]
    refine (remove_new h x y hx hs).mono ?_
    rintro e w' ⟨rfl, h1, h2⟩
    simp only [if_true]
    exact ⟨trivial, h1, h2⟩
end

/-- A heap among what is new from B on. -/
structure One (B : Nat) (w0 w : World) (g n : Nat) (S : Nat → Option Int) : Prop where
  bel : Below B w0 w
  ho : HO w (fun k => B ≤ k) g n S
  le : B ≤ w0.heap.size
section
variable {B : Nat} {w0 w w' : World} {g n : Nat} {S S' : Nat → Option Int}
theorem One.next (h : One B w0 w g n S) (h1 : HO w' (Grow (fun k => B ≤ k) w w') g n S') (t : Turn (fun k => B ≤ k) w w') : One B w0 w' g n S' :=
  ⟨h.bel.trans (t.below (Nat.le_trans h.le h.bel.size) (fun _ q => q)), h1.mono (fun k _ hk => by
    have := h.bel.size
    have := h.le
    rcases hk with q | q
    · exact q
    · show B ≤ k; omega), h.le⟩
theorem One.below (h : One B w0 w g n S) (hb : Below w.heap.size w w') : One B w0 w' g n S := ⟨h.bel.trans (hb.mono (Nat.le_trans h.le h.bel.size)), h.ho.below hb, h.le⟩
theorem One.congr (h : One B w0 w g n S) (hs : ∀ x, x < n → S' x = S x) : One B w0 w g n S' := ⟨h.bel, h.ho.congr hs, h.le⟩
theorem One.push (h : One B w0 w g n S) (id key : Int) : Calls Try.prog 25 #[ptr g, .int .i64 id, .int .i64 key] w fun e w' => e = .returned (.int .i64 (pushE n S id)) ∧ Hid (One B w0 w' g n (pushS n S id key)) := by
  refine (push_any h.ho id key).mono ?_
  rintro e w' ⟨rfl, h1, h2⟩
  exact ⟨rfl, h.next h1 h2⟩
theorem One.remove (h : One B w0 w g n S) (id : Int) : Calls Try.prog 24 #[ptr g, .int .i64 id] w fun e w' => e = .returned (.tuple #[.int .i64 (keyV n S id), .int .i64 (remE n S id)]) ∧ Hid (One B w0 w' g n (remS n S id)) := by
  refine (remove_any h.ho id).mono ?_
  rintro e w' ⟨rfl, h1, h2⟩
  exact ⟨rfl, h.next h1 h2⟩
theorem One.pop (h : One B w0 w g n S) {x : Nat} {y : Int} (hf : Fst n S x y) : Calls Try.prog 26 #[ptr g] w fun e w' => e = .returned (.tuple #[.int .i64 x, .int .i64 y, .bool true]) ∧ Hid (One B w0 w' g n (upS S x none)) := by
  refine (pop_some h.ho hf).mono ?_
  rintro e w' ⟨rfl, h1, h2⟩
  exact ⟨rfl, h.next h1 h2⟩
theorem One.pop0 (h : One B w0 w g n S) (hf : Emp n S) : Calls Try.prog 26 #[ptr g] w fun e w' => e = .returned (.tuple #[.int .i64 0, .int .i64 0, .bool false]) ∧ Hid (One B w0 w' g n S) := by
  refine (pop_none h.ho hf).mono ?_
  rintro e w' ⟨rfl, rfl⟩
  exact ⟨rfl, h⟩
theorem One.first (h : One B w0 w g n S) {x : Nat} {y : Int} (hf : Fst n S x y) : Calls Try.prog 27 #[ptr g] w fun e w' => e = .returned (.tuple #[.int .i64 x, .int .i64 y, .bool true]) ∧ Hid (One B w0 w' g n S) := by
  refine (first_some h.ho hf).mono ?_
  rintro e w' ⟨rfl, h1⟩
  exact ⟨rfl, h.below h1⟩
theorem One.first0 (h : One B w0 w g n S) (hf : Emp n S) : Calls Try.prog 27 #[ptr g] w fun e w' => e = .returned (.tuple #[.int .i64 0, .int .i64 0, .bool false]) ∧ Hid (One B w0 w' g n S) := by
  refine (first_none h.ho hf).mono ?_
  rintro e w' ⟨rfl, rfl⟩
  exact ⟨rfl, h⟩
theorem One.len (h : One B w0 w g n S) : Calls Try.prog 22 #[ptr g] w fun e w' => e = .returned (.int .i64 (M.cnt (fun x => (S x).isSome) n : Nat)) ∧ Hid (One B w0 w' g n S) := by
  refine (len_any h.ho).mono ?_
  rintro e w' ⟨rfl, rfl⟩
  exact ⟨rfl, h⟩
theorem One.has (h : One B w0 w g n S) (id : Int) : Calls Try.prog 34 #[ptr g, .int .i64 id] w fun e w' => e = .returned (.bool (hasB n S id)) ∧ Hid (One B w0 w' g n S) := by
  refine (has_any h.ho id).mono ?_
  rintro e w' ⟨rfl, rfl⟩
  exact ⟨rfl, h⟩
theorem One.key (h : One B w0 w g n S) (id : Int) : Calls Try.prog 28 #[ptr g, .int .i64 id] w fun e w' => e = .returned (.tuple #[.int .i64 (keyV n S id), .bool (hasB n S id)]) ∧ Hid (One B w0 w' g n S) := by
  refine (key_any h.ho id).mono ?_
  rintro e w' ⟨rfl, rfl⟩
  exact ⟨rfl, h⟩
end
theorem one_new {B : Nat} {w0 w : World} (hb : Below B w0 w) (hle : B ≤ w0.heap.size) (n : Int) : Calls Try.prog 23 #[.int .i64 n] w fun e w' => ∃ g, e = .returned (ptr g) ∧ Hid (One B w0 w' g (hsz n) (fun _ => none)) := by
  refine (new_any n w).mono ?_
  rintro e w' ⟨g, rfl, h1, h2⟩
  have hs := hb.size
  exact ⟨g, rfl, ⟨hb.trans (h2.mono (by omega)), h1.mono (fun k _ hk => by have := hk.1; show B ≤ k; omega), hle⟩⟩

/-- First, by reckoning. -/
def fstC (n : Nat) (S : Nat → Option Int) (x : Nat) (y : Int) : Bool := decide (x < n) && decide (S x = some y) && (List.range n).all fun z => match S z with
  | none => true
  | some u => decide (y < u) || (decide (y = u) && decide (x ≤ z))
theorem fst_of {n : Nat} {S : Nat → Option Int} {x : Nat} {y : Int} (h : fstC n S x y = true) : Fst n S x y := by
  unfold fstC at h
  rw [Bool.and_eq_true, Bool.and_eq_true] at h
  obtain ⟨⟨h1, h2⟩, h3⟩ := h
  refine ⟨of_decide_eq_true h1, of_decide_eq_true h2, fun z u hz hu => ?_⟩
  have := List.all_eq_true.1 h3 z (List.mem_range.2 hz)
  rw [hu] at this
  simpa using this
end Go.Proofs.Ytlpbjafdmhcmgaa
