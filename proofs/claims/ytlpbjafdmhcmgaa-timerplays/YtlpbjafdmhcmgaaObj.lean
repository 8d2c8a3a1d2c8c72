/- A heap as what it has; the calls that only ask. -/
import Derived.Test.YtlpbjafdmhcmgaaLic
namespace Go.Proofs.Ytlpbjafdmhcmgaa
open Go.RowKit
open M
set_option linter.unusedVariables false
set_option linter.unusedSimpArgs false

/-- A heap in memory has, of the ids below n, those of S, with these keys. -/
structure HX (w : World) (g kb pb n : Nat) (v : Value) (m : Nat) (f : Nat → Nat) (K : Nat → Int) (P : Nat → Nat) (S : Nat → Option Int) : Prop where
  mem : HM w g kb pb n v m f K P
  inv : Inv n m f P
  ord : Ord K f m
  has : ∀ x, x < n → In f m x → S x = some (K x)
  not : ∀ x, x < n → ¬ In f m x → S x = none
  cnt : m = cnt (fun x => (S x).isSome) n
/-- Likewise; its blocks are of F. -/
def HO (w : World) (F : Nat → Prop) (g n : Nat) (S : Nat → Option Int) : Prop := ∃ kb pb v m f K P, HX w g kb pb n v m f K P S ∧ ∀ k, Foot g kb pb v k → F k
/-- F, and what is new. -/
def Grow (F : Nat → Prop) (w w' : World) (k : Nat) : Prop := F k ∨ (w.heap.size ≤ k ∧ k < w'.heap.size)

theorem HO.turn {w w' : World} {F G : Nat → Prop} {g n : Nat} {S : Nat → Option Int} (h : HO w F g n S) (t : Turn G w w') (hd : ∀ k, F k → ¬ G k) : HO w' F g n S := by
  obtain ⟨kb, pb, v, m, f, K, P, h1, h2⟩ := h
  exact ⟨kb, pb, v, m, f, K, P, ⟨h1.mem.turn t (fun k hk => hd k (h2 k hk)), h1.inv, h1.ord, h1.has, h1.not, h1.cnt⟩, h2⟩
theorem HO.below {w w' : World} {F : Nat → Prop} {g n : Nat} {S : Nat → Option Int} (h : HO w F g n S) (hb : Below w.heap.size w w') : HO w' F g n S := by
  obtain ⟨kb, pb, v, m, f, K, P, h1, h2⟩ := h
  exact ⟨kb, pb, v, m, f, K, P, ⟨h1.mem.below hb, h1.inv, h1.ord, h1.has, h1.not, h1.cnt⟩, h2⟩
theorem HO.mono {w : World} {F G : Nat → Prop} {g n : Nat} {S : Nat → Option Int} (h : HO w F g n S) (hg : ∀ k, k < w.heap.size → F k → G k) : HO w G g n S := by
  obtain ⟨kb, pb, v, m, f, K, P, h1, h2⟩ := h
  exact ⟨kb, pb, v, m, f, K, P, h1, fun k hk => hg k (h1.mem.lt k hk) (h2 k hk)⟩
theorem HO.congr {w : World} {F : Nat → Prop} {g n : Nat} {S S' : Nat → Option Int} (h : HO w F g n S) (hs : ∀ x, x < n → S' x = S x) : HO w F g n S' := by
  obtain ⟨kb, pb, v, m, f, K, P, h1, h2⟩ := h
  exact ⟨kb, pb, v, m, f, K, P, ⟨h1.mem, h1.inv, h1.ord, fun x hx hi => (hs x hx).trans (h1.has x hx hi), fun x hx hi => (hs x hx).trans (h1.not x hx hi), h1.cnt.trans (cnt_congr (fun x hx => by rw [hs x hx]))⟩, h2⟩
theorem HO.hn {w : World} {F : Nat → Prop} {g n : Nat} {S : Nat → Option Int} (h : HO w F g n S) : n ≤ 65536 := by
  obtain ⟨kb, pb, v, m, f, K, P, h1, h2⟩ := h
  exact h1.mem.hn

def isId (n : Nat) (id : Int) : Bool := decide (0 ≤ id) && decide (id < n)
theorem isId_nat (n x : Nat) (h : x < n) : isId n x = true := by simp [isId]; omega
theorem isId_false {n : Nat} {id : Int} (h : isId n id = false) : id < 0 ∨ (n : Int) ≤ id := by simp [isId] at h; omega
theorem isId_true {n : Nat} {id : Int} (h : isId n id = true) : ∃ x : Nat, id = x ∧ x < n := by
  simp [isId] at h
  exact ⟨id.toNat, by omega, by omega⟩
def hasB (n : Nat) (S : Nat → Option Int) (id : Int) : Bool := isId n id && (S id.toNat).isSome
def keyV (n : Nat) (S : Nat → Option Int) (id : Int) : Int := if isId n id = true then (S id.toNat).getD 0 else 0

theorem HX.p {w : World} {g kb pb n m : Nat} {v : Value} {f P : Nat → Nat} {K : Nat → Int} {S : Nat → Option Int} (h : HX w g kb pb n v m f K P S) {x : Nat} (hx : x < n) : ((P x : Int) != 0) = (S x).isSome := by
  by_cases hi : In f m x
  · have := (h.inv.has hx).2 hi
    rw [h.has x hx hi]
    simp
    omega
  · have : P x = 0 := by
      rcases Nat.eq_zero_or_pos (P x) with q | q
      · exact q
      · exact absurd ((h.inv.has hx).1 (by omega)) hi
    rw [h.not x hx hi, this]
    simp

set_option maxRecDepth 1000000 in
set_option maxHeartbeats 2000000 in
theorem isid_any {w : World} {g kb pb n m : Nat} {v : Value} {f P : Nat → Nat} {K : Nat → Int} (h : HM w g kb pb n v m f K P) (id : Int) :
    Calls Try.prog 33 #[ptr g, .int .i64 id] w fun e w' => e = .returned (.bool (isId n id)) ∧ w' = w := by
  have q2 := h.c2
  have hn := h.hn
  clear h
  unfold isId
  by_cases h0 : 0 ≤ id
  · have d : decide (0 ≤ id) = true := decide_eq_true h0
    rw [d]
    go_enter Try.func33, Try.ntmps33
    go_wp2
    go_ret
    exact ⟨ret_bool (by simp), rfl⟩
  · have d : decide (0 ≤ id) = false := decide_eq_false h0
    rw [d]
    go_enter Try.func33, Try.ntmps33
    go_wp2
    go_ret
    exact ⟨ret_bool (by simp), rfl⟩

set_option maxRecDepth 1000000 in
set_option maxHeartbeats 2000000 in
theorem has_any {w : World} {F : Nat → Prop} {g n : Nat} {S : Nat → Option Int} (h : HO w F g n S) (id : Int) :
    Calls Try.prog 34 #[ptr g, .int .i64 id] w fun e w' => e = .returned (.bool (hasB n S id)) ∧ w' = w := by
  obtain ⟨kb, pb, v, m, f, K, P, h1, h2⟩ := h
  have k := isid_any h1.mem id
  unfold hasB
  cases hid : isId n id with
  | false =>
    rw [hid] at k
    clear h1 h2
    go_enter Try.func34, Try.ntmps34
    go_wp2_with (go_at_call 33; refine k.mono ?_; rintro e w' ⟨rfl, rfl⟩)
    go_ret
    exact ⟨rfl, rfl⟩
  | true =>
    rw [hid] at k
    obtain ⟨x, rfl, hx⟩ := isId_true hid
    rw [Int.toNat_natCast]
    have H := hide_it (h1.p hx)
    have q2 := h1.mem.c2
    have cp := h1.mem.cp x hx
    have hn := h1.mem.hn
    clear h1 h2 hid
    generalize P x = p at *
    generalize (S x).isSome = R at *
    go_enter Try.func34, Try.ntmps34
    go_wp2_with (go_at_call 33; refine k.mono ?_; rintro e w' ⟨rfl, rfl⟩)
    go_ret
    exact ⟨ret_bool (by rw [Bool.true_and]; first | exact H.out | (have := H.out; simpa using this)), rfl⟩

set_option maxRecDepth 1000000 in
set_option maxHeartbeats 2000000 in
theorem key_any {w : World} {F : Nat → Prop} {g n : Nat} {S : Nat → Option Int} (h : HO w F g n S) (id : Int) :
    Calls Try.prog 28 #[ptr g, .int .i64 id] w fun e w' => e = .returned (.tuple #[.int .i64 (keyV n S id), .bool (hasB n S id)]) ∧ w' = w := by
  have k := has_any h id
  obtain ⟨kb, pb, v, m, f, K, P, h1, h2⟩ := h
  cases hh : hasB n S id with
  | false =>
    rw [hh] at k
    have e : keyV n S id = 0 := by
      unfold keyV
      unfold hasB at hh
      cases hid : isId n id with
      | false => simp
      | true => rw [hid] at hh; simp at hh; simp [hh]
    rw [e]
    clear h1 h2 hh e
    go_enter Try.func28, Try.ntmps28
    go_wp2_with (go_at_call 34; refine k.mono ?_; rintro e w' ⟨rfl, rfl⟩)
    go_ret2
    exact ⟨rfl, rfl⟩
  | true =>
    rw [hh] at k
    unfold hasB at hh
    rw [Bool.and_eq_true] at hh
    obtain ⟨hid, hs⟩ := hh
    unfold keyV
    rw [if_pos hid]
    obtain ⟨x, rfl, hx⟩ := isId_true hid
    rw [Int.toNat_natCast] at hs ⊢
    have hin : In f m x := by
      by_cases q : In f m x
      · exact q
      · rw [h1.not x hx q] at hs; cases hs
    rw [h1.has x hx hin]
    have q1 := h1.mem.c1
    have ck := h1.mem.ck x hx
    have hn := h1.mem.hn
    clear h1 h2 hid hs hin
    simp only [Option.getD_some]
    generalize K x = y at *
    go_enter Try.func28, Try.ntmps28
    go_wp2_with (go_at_call 34; refine k.mono ?_; rintro e w' ⟨rfl, rfl⟩)
    go_ret2
    exact ⟨rfl, rfl⟩

set_option maxRecDepth 1000000 in
set_option maxHeartbeats 2000000 in
theorem len_any {w : World} {F : Nat → Prop} {g n : Nat} {S : Nat → Option Int} (h : HO w F g n S) :
    Calls Try.prog 22 #[ptr g] w fun e w' => e = .returned (.int .i64 (cnt (fun x => (S x).isSome) n : Nat)) ∧ w' = w := by
  obtain ⟨kb, pb, v, m, f, K, P, h1, h2⟩ := h
  have k := olen_any h1.mem
  rw [← h1.cnt]
  clear h1 h2
  go_enter Try.func22, Try.ntmps22
  go_wp2_with (go_at_call 29; refine k.mono ?_; rintro e w' ⟨rfl, rfl⟩)
  go_ret
  exact ⟨rfl, rfl⟩

/-- Nobody is there. -/
def Emp (n : Nat) (S : Nat → Option Int) : Prop := ∀ x, x < n → S x = none
/-- Who is first. -/
structure Fst (n : Nat) (S : Nat → Option Int) (x : Nat) (y : Int) : Prop where
  lt : x < n
  is : S x = some y
  le : ∀ z u, z < n → S z = some u → y < u ∨ (y = u ∧ x ≤ z)
theorem HX.first {w : World} {g kb pb n m : Nat} {v : Value} {f P : Nat → Nat} {K : Nat → Int} {S : Nat → Option Int} (h : HX w g kb pb n v m f K P S) (h0 : 0 < m) : Fst n S (f 0) (K (f 0)) := by
  have l0 := (h.inv.at1 0 h0).1
  refine ⟨l0, h.has _ l0 ⟨0, h0, rfl⟩, fun z u hz hu => ?_⟩
  have hin : In f m z := by
    by_cases q : In f m z
    · exact q
    · rw [h.not z hz q] at hu; cases hu
  rw [h.has z hz hin] at hu
  cases hu
  obtain ⟨k, hk, rfl⟩ := hin
  exact ord_first h.ord k hk
theorem Fst.uniq {n : Nat} {S : Nat → Option Int} {x x' : Nat} {y y' : Int} (h : Fst n S x y) (h' : Fst n S x' y') : x = x' ∧ y = y' := by
  have h1 := h.le x' y' h'.lt h'.is
  have h2 := h'.le x y h.lt h.is
  omega
theorem HX.emp {w : World} {g kb pb n m : Nat} {v : Value} {f P : Nat → Nat} {K : Nat → Int} {S : Nat → Option Int} (h : HX w g kb pb n v m f K P S) : m = 0 ↔ Emp n S := by
  rw [h.cnt, cnt_zero]
  constructor
  · intro q x hx; have := q x hx; simpa using this
  · intro q x hx; rw [q x hx]; rfl
theorem HO.cases {w : World} {F : Nat → Prop} {g n : Nat} {S : Nat → Option Int} (h : HO w F g n S) : Emp n S ∨ ∃ x y, Fst n S x y := by
  obtain ⟨kb, pb, v, m, f, K, P, h1, h2⟩ := h
  rcases Nat.eq_zero_or_pos m with q | q
  · exact .inl (h1.emp.1 q)
  · exact .inr ⟨_, _, h1.first q⟩

set_option maxRecDepth 1000000 in
set_option maxHeartbeats 2000000 in
theorem first_none {w : World} {F : Nat → Prop} {g n : Nat} {S : Nat → Option Int} (h : HO w F g n S) (he : Emp n S) :
    Calls Try.prog 27 #[ptr g] w fun e w' => e = .returned (.tuple #[.int .i64 0, .int .i64 0, .bool false]) ∧ w' = w := by
  have k := len_any h
  rw [cnt_zero.2 (fun x hx => by rw [he x hx]; rfl)] at k
  clear h he
  go_enter Try.func27, Try.ntmps27
  go_wp2_with (go_at_call 22; refine k.mono ?_; rintro e w' ⟨rfl, rfl⟩)
  go_ret3
  exact ⟨rfl, rfl⟩
set_option maxRecDepth 1000000 in
set_option maxHeartbeats 2000000 in
theorem first_some {w : World} {F : Nat → Prop} {g n : Nat} {S : Nat → Option Int} (h : HO w F g n S) {x : Nat} {y : Int} (hf : Fst n S x y) :
    Calls Try.prog 27 #[ptr g] w fun e w' => e = .returned (.tuple #[.int .i64 x, .int .i64 y, .bool true]) ∧ Below w.heap.size w w' := by
  have k := len_any h
  obtain ⟨kb, pb, v, m, f, K, P, h1, h2⟩ := h
  rw [← h1.cnt] at k
  have h0 : 0 < m := by
    rcases Nat.eq_zero_or_pos m with q | q
    · have := h1.emp.1 q x hf.lt; rw [hf.is] at this; cases this
    · exact q
  obtain ⟨e1, e2⟩ := (h1.first h0).uniq hf
  have hx := hf.lt
  have q0 := h1.mem.c0
  have q1 := h1.mem.c1
  obtain ⟨ib, cap, rfl, _, _, hc, _⟩ := h1.mem.form h0
  have c0 := hc 0 h0
  have ck := h1.mem.ck x hx
  rw [e1] at c0 e2
  rw [e2] at ck
  have hn := h1.mem.hn
  have hm := h1.mem.hm
  have hz : ((m : Int) == 0) = false := by rw [beq_eq_false_iff_ne]; omega
  have hz2 : ¬ m = 0 := by omega
  clear h1 h2 hf hc e1 e2
  go_enter Try.func27, Try.ntmps27
  go_wp2_with (first | (go_at_call 22; refine k.mono ?_; rintro e w' ⟨rfl, rfl⟩) | go_big_quiet (fail))
  go_ret3
  exact ⟨rfl, ⟨rfl, rfl, rfl, Nat.le_refl _, fun _ _ => rfl⟩⟩
end Go.Proofs.Ytlpbjafdmhcmgaa
