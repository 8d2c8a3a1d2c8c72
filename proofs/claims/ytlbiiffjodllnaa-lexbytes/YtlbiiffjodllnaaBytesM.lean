/- LexBytes: the bytes that are none of a text's. -/
import Derived.Test.YtlbiiffjodllnaaBytesL
namespace Go.Proofs.Ytlbiiffjodllnaa
open Go.RowKit
open M

set_option maxRecDepth 1000000 in
set_option maxHeartbeats 4000000 in
theorem bytes_o1 (c : UInt8) (w : World) (h1 : 0 ≤ (c.toNat : Int)) (h2 : (c.toNat : Int) ≤ 8) :
    Calls Try.prog 9 #[.int .u8 (c.toNat : Int)] w fun e w' => e = .returned (.bool true) ∧ Below w.heap.size w w' := by
  have hc : cls c = 0 := by unfold cls; rw [if_neg (by omega), if_neg (by omega), if_neg (by omega), if_neg (by omega), if_neg (by omega)]
  have k1 : ∀ W : World, Calls Try.prog 11 #[.slice (some ⟨W.heap.size, 0, none⟩) 1 1] (W.alloc (.cells #[.int .u8 (c.toNat : Int)] 5)) fun e w' => ∃ v, e = .returned (.tuple #[v, .int .i64 1, .int .i64 2]) ∧ Own w' (W.heap.size + 1) v [] ∧ Below W.heap.size W w' := fun W => by
    have := lex_new [c] #[.int .u8 (c.toNat : Int)] 1 W rfl (by omega) rfl
    rw [lex_one0 hc] at this
    exact this
  obtain ⟨n2, hn2⟩ : ∃ n : Nat, (lexF [97, c, 98]).2.1 = n := ⟨_, rfl⟩
  obtain ⟨t2, ht2⟩ : ∃ t : List Tok, (lexF [97, c, 98]).1 = t := ⟨_, rfl⟩
  have k2 : ∀ W : World, Calls Try.prog 11 #[.slice (some ⟨W.heap.size, 0, none⟩) 3 3] (W.alloc (.cells #[.int .u8 97, .int .u8 (c.toNat : Int), .int .u8 98] 5)) fun e w' => ∃ v, e = .returned (.tuple #[v, .int .i64 n2, .int .i64 2]) ∧ Own w' (W.heap.size + 1) v t2 ∧ Below W.heap.size W w' := fun W => by
    have := lex_new [97, c, 98] #[.int .u8 97, .int .u8 (c.toNat : Int), .int .u8 98] 3 W rfl (by omega) rfl
    rw [lex_ab0 (.inl hc), hn2, ht2] at this
    exact this
  clear hn2 ht2
  obtain ⟨n3, hn3⟩ : ∃ n : Nat, (lexF [49, c, 50]).2.1 = n := ⟨_, rfl⟩
  obtain ⟨t3, ht3⟩ : ∃ t : List Tok, (lexF [49, c, 50]).1 = t := ⟨_, rfl⟩
  have k3 : ∀ W : World, Calls Try.prog 11 #[.slice (some ⟨W.heap.size, 0, none⟩) 3 3] (W.alloc (.cells #[.int .u8 49, .int .u8 (c.toNat : Int), .int .u8 50] 5)) fun e w' => ∃ v, e = .returned (.tuple #[v, .int .i64 n3, .int .i64 2]) ∧ Own w' (W.heap.size + 1) v t3 ∧ Below W.heap.size W w' := fun W => by
    have := lex_new [49, c, 50] #[.int .u8 49, .int .u8 (c.toNat : Int), .int .u8 50] 3 W rfl (by omega) rfl
    rw [lex_12_0 (.inl hc), hn3, ht3] at this
    exact this
  clear hn3 ht3
  have e32 : ((c.toNat : Int) == 32) = false := beq_eq_false_iff_ne.2 (by omega)
  have e9 : ((c.toNat : Int) == 9) = false := beq_eq_false_iff_ne.2 (by omega)
  have e13 : ((c.toNat : Int) == 13) = false := beq_eq_false_iff_ne.2 (by omega)
  have e10 : ((c.toNat : Int) == 10) = false := beq_eq_false_iff_ne.2 (by omega)
  have e35 : ((c.toNat : Int) == 35) = false := beq_eq_false_iff_ne.2 (by omega)
  clear hc
  go_enter Try.func9, Try.ntmps9
  go_wp2_with (first | (go_at_call 10; refine (shown_any _).mono ?_; rintro e w1 ⟨rfl, hb1⟩) | (go_at_call 11; refine (k1 _).mono ?_; rintro e w2 ⟨v, rfl, ho, hb2⟩; refine Hid.out ?_))
  obtain ⟨a, cap, rfl⟩ := own_len ho
  have HB3 : Hid (Below w.heap.size w w2) := hb1.trans (hb2.mono hb1.size)
  clear ho hb1 hb2 k1
  refine hide_it ?_
  go_wp2_with (go_at_call 11; refine (k2 _).mono ?_; rintro e w4 ⟨v4, rfl, ho4, hb4⟩; refine Hid.out ?_)
  have HB4 : Hid (Below w.heap.size w w4) := HB3.out.trans (hb4.mono HB3.out.size)
  clear ho4 hb4 k2
  refine hide_it ?_
  go_wp2_with (go_at_call 11; refine (k3 _).mono ?_; rintro e w5 ⟨v5, rfl, ho5, hb5⟩; refine Hid.out ?_)
  have HB5 : Hid (Below w.heap.size w w5) := HB4.out.trans (hb5.mono HB4.out.size)
  clear ho5 hb5 k3
  refine hide_it ?_
  go_wp2
  go_ret
  exact ⟨rfl, HB5.out⟩

set_option maxRecDepth 1000000 in
set_option maxHeartbeats 4000000 in
theorem bytes_o2 (c : UInt8) (w : World) (h1 : 11 ≤ (c.toNat : Int)) (h2 : (c.toNat : Int) ≤ 12) :
    Calls Try.prog 9 #[.int .u8 (c.toNat : Int)] w fun e w' => e = .returned (.bool true) ∧ Below w.heap.size w w' := by
  have hc : cls c = 0 := by unfold cls; rw [if_neg (by omega), if_neg (by omega), if_neg (by omega), if_neg (by omega), if_neg (by omega)]
  have k1 : ∀ W : World, Calls Try.prog 11 #[.slice (some ⟨W.heap.size, 0, none⟩) 1 1] (W.alloc (.cells #[.int .u8 (c.toNat : Int)] 5)) fun e w' => ∃ v, e = .returned (.tuple #[v, .int .i64 1, .int .i64 2]) ∧ Own w' (W.heap.size + 1) v [] ∧ Below W.heap.size W w' := fun W => by
    have := lex_new [c] #[.int .u8 (c.toNat : Int)] 1 W rfl (by omega) rfl
    rw [lex_one0 hc] at this
    exact this
  obtain ⟨n2, hn2⟩ : ∃ n : Nat, (lexF [97, c, 98]).2.1 = n := ⟨_, rfl⟩
  obtain ⟨t2, ht2⟩ : ∃ t : List Tok, (lexF [97, c, 98]).1 = t := ⟨_, rfl⟩
  have k2 : ∀ W : World, Calls Try.prog 11 #[.slice (some ⟨W.heap.size, 0, none⟩) 3 3] (W.alloc (.cells #[.int .u8 97, .int .u8 (c.toNat : Int), .int .u8 98] 5)) fun e w' => ∃ v, e = .returned (.tuple #[v, .int .i64 n2, .int .i64 2]) ∧ Own w' (W.heap.size + 1) v t2 ∧ Below W.heap.size W w' := fun W => by
    have := lex_new [97, c, 98] #[.int .u8 97, .int .u8 (c.toNat : Int), .int .u8 98] 3 W rfl (by omega) rfl
    rw [lex_ab0 (.inl hc), hn2, ht2] at this
    exact this
  clear hn2 ht2
  obtain ⟨n3, hn3⟩ : ∃ n : Nat, (lexF [49, c, 50]).2.1 = n := ⟨_, rfl⟩
  obtain ⟨t3, ht3⟩ : ∃ t : List Tok, (lexF [49, c, 50]).1 = t := ⟨_, rfl⟩
  have k3 : ∀ W : World, Calls Try.prog 11 #[.slice (some ⟨W.heap.size, 0, none⟩) 3 3] (W.alloc (.cells #[.int .u8 49, .int .u8 (c.toNat : Int), .int .u8 50] 5)) fun e w' => ∃ v, e = .returned (.tuple #[v, .int .i64 n3, .int .i64 2]) ∧ Own w' (W.heap.size + 1) v t3 ∧ Below W.heap.size W w' := fun W => by
    have := lex_new [49, c, 50] #[.int .u8 49, .int .u8 (c.toNat : Int), .int .u8 50] 3 W rfl (by omega) rfl
    rw [lex_12_0 (.inl hc), hn3, ht3] at this
    exact this
  clear hn3 ht3
  have e32 : ((c.toNat : Int) == 32) = false := beq_eq_false_iff_ne.2 (by omega)
  have e9 : ((c.toNat : Int) == 9) = false := beq_eq_false_iff_ne.2 (by omega)
  have e13 : ((c.toNat : Int) == 13) = false := beq_eq_false_iff_ne.2 (by omega)
  have e10 : ((c.toNat : Int) == 10) = false := beq_eq_false_iff_ne.2 (by omega)
  have e35 : ((c.toNat : Int) == 35) = false := beq_eq_false_iff_ne.2 (by omega)
  clear hc
  go_enter Try.func9, Try.ntmps9
  go_wp2_with (first | (go_at_call 10; refine (shown_any _).mono ?_; rintro e w1 ⟨rfl, hb1⟩) | (go_at_call 11; refine (k1 _).mono ?_; rintro e w2 ⟨v, rfl, ho, hb2⟩; refine Hid.out ?_))
  obtain ⟨a, cap, rfl⟩ := own_len ho
  have HB3 : Hid (Below w.heap.size w w2) := hb1.trans (hb2.mono hb1.size)
  clear ho hb1 hb2 k1
  refine hide_it ?_
  go_wp2_with (go_at_call 11; refine (k2 _).mono ?_; rintro e w4 ⟨v4, rfl, ho4, hb4⟩; refine Hid.out ?_)
  have HB4 : Hid (Below w.heap.size w w4) := HB3.out.trans (hb4.mono HB3.out.size)
  clear ho4 hb4 k2
  refine hide_it ?_
  go_wp2_with (go_at_call 11; refine (k3 _).mono ?_; rintro e w5 ⟨v5, rfl, ho5, hb5⟩; refine Hid.out ?_)
  have HB5 : Hid (Below w.heap.size w w5) := HB4.out.trans (hb5.mono HB4.out.size)
  clear ho5 hb5 k3
  refine hide_it ?_
  go_wp2
  go_ret
  exact ⟨rfl, HB5.out⟩

set_option maxRecDepth 1000000 in
set_option maxHeartbeats 4000000 in
theorem bytes_o3 (c : UInt8) (w : World) (h1 : 14 ≤ (c.toNat : Int)) (h2 : (c.toNat : Int) ≤ 31) :
    Calls Try.prog 9 #[.int .u8 (c.toNat : Int)] w fun e w' => e = .returned (.bool true) ∧ Below w.heap.size w w' := by
  have hc : cls c = 0 := by unfold cls; rw [if_neg (by omega), if_neg (by omega), if_neg (by omega), if_neg (by omega), if_neg (by omega)]
  have k1 : ∀ W : World, Calls Try.prog 11 #[.slice (some ⟨W.heap.size, 0, none⟩) 1 1] (W.alloc (.cells #[.int .u8 (c.toNat : Int)] 5)) fun e w' => ∃ v, e = .returned (.tuple #[v, .int .i64 1, .int .i64 2]) ∧ Own w' (W.heap.size + 1) v [] ∧ Below W.heap.size W w' := fun W => by
    have := lex_new [c] #[.int .u8 (c.toNat : Int)] 1 W rfl (by omega) rfl
    rw [lex_one0 hc] at this
    exact this
  obtain ⟨n2, hn2⟩ : ∃ n : Nat, (lexF [97, c, 98]).2.1 = n := ⟨_, rfl⟩
  obtain ⟨t2, ht2⟩ : ∃ t : List Tok, (lexF [97, c, 98]).1 = t := ⟨_, rfl⟩
  have k2 : ∀ W : World, Calls Try.prog 11 #[.slice (some ⟨W.heap.size, 0, none⟩) 3 3] (W.alloc (.cells #[.int .u8 97, .int .u8 (c.toNat : Int), .int .u8 98] 5)) fun e w' => ∃ v, e = .returned (.tuple #[v, .int .i64 n2, .int .i64 2]) ∧ Own w' (W.heap.size + 1) v t2 ∧ Below W.heap.size W w' := fun W => by
    have := lex_new [97, c, 98] #[.int .u8 97, .int .u8 (c.toNat : Int), .int .u8 98] 3 W rfl (by omega) rfl
    rw [lex_ab0 (.inl hc), hn2, ht2] at this
    exact this
  clear hn2 ht2
  obtain ⟨n3, hn3⟩ : ∃ n : Nat, (lexF [49, c, 50]).2.1 = n := ⟨_, rfl⟩
  obtain ⟨t3, ht3⟩ : ∃ t : List Tok, (lexF [49, c, 50]).1 = t := ⟨_, rfl⟩
  have k3 : ∀ W : World, Calls Try.prog 11 #[.slice (some ⟨W.heap.size, 0, none⟩) 3 3] (W.alloc (.cells #[.int .u8 49, .int .u8 (c.toNat : Int), .int .u8 50] 5)) fun e w' => ∃ v, e = .returned (.tuple #[v, .int .i64 n3, .int .i64 2]) ∧ Own w' (W.heap.size + 1) v t3 ∧ Below W.heap.size W w' := fun W => by
    have := lex_new [49, c, 50] #[.int .u8 49, .int .u8 (c.toNat : Int), .int .u8 50] 3 W rfl (by omega) rfl
    rw [lex_12_0 (.inl hc), hn3, ht3] at this
    exact this
  clear hn3 ht3
  have e32 : ((c.toNat : Int) == 32) = false := beq_eq_false_iff_ne.2 (by omega)
  have e9 : ((c.toNat : Int) == 9) = false := beq_eq_false_iff_ne.2 (by omega)
  have e13 : ((c.toNat : Int) == 13) = false := beq_eq_false_iff_ne.2 (by omega)
  have e10 : ((c.toNat : Int) == 10) = false := beq_eq_false_iff_ne.2 (by omega)
  have e35 : ((c.toNat : Int) == 35) = false := beq_eq_false_iff_ne.2 (by omega)
  clear hc
  go_enter Try.func9, Try.ntmps9
  go_wp2_with (first | (go_at_call 10; refine (shown_any _).mono ?_; rintro e w1 ⟨rfl, hb1⟩) | (go_at_call 11; refine (k1 _).mono ?_; rintro e w2 ⟨v, rfl, ho, hb2⟩; refine Hid.out ?_))
  obtain ⟨a, cap, rfl⟩ := own_len ho
  have HB3 : Hid (Below w.heap.size w w2) := hb1.trans (hb2.mono hb1.size)
  clear ho hb1 hb2 k1
  refine hide_it ?_
  go_wp2_with (go_at_call 11; refine (k2 _).mono ?_; rintro e w4 ⟨v4, rfl, ho4, hb4⟩; refine Hid.out ?_)
  have HB4 : Hid (Below w.heap.size w w4) := HB3.out.trans (hb4.mono HB3.out.size)
  clear ho4 hb4 k2
  refine hide_it ?_
  go_wp2_with (go_at_call 11; refine (k3 _).mono ?_; rintro e w5 ⟨v5, rfl, ho5, hb5⟩; refine Hid.out ?_)
  have HB5 : Hid (Below w.heap.size w w5) := HB4.out.trans (hb5.mono HB4.out.size)
  clear ho5 hb5 k3
  refine hide_it ?_
  go_wp2
  go_ret
  exact ⟨rfl, HB5.out⟩

set_option maxRecDepth 1000000 in
set_option maxHeartbeats 4000000 in
theorem bytes_o4 (c : UInt8) (w : World) (h1 : 33 ≤ (c.toNat : Int)) (h2 : (c.toNat : Int) ≤ 34) :
    Calls Try.prog 9 #[.int .u8 (c.toNat : Int)] w fun e w' => e = .returned (.bool true) ∧ Below w.heap.size w w' := by
  have hc : cls c = 0 := by unfold cls; rw [if_neg (by omega), if_neg (by omega), if_neg (by omega), if_neg (by omega), if_neg (by omega)]
  have k1 : ∀ W : World, Calls Try.prog 11 #[.slice (some ⟨W.heap.size, 0, none⟩) 1 1] (W.alloc (.cells #[.int .u8 (c.toNat : Int)] 5)) fun e w' => ∃ v, e = .returned (.tuple #[v, .int .i64 1, .int .i64 2]) ∧ Own w' (W.heap.size + 1) v [] ∧ Below W.heap.size W w' := fun W => by
    have := lex_new [c] #[.int .u8 (c.toNat : Int)] 1 W rfl (by omega) rfl
    rw [lex_one0 hc] at this
    exact this
  obtain ⟨n2, hn2⟩ : ∃ n : Nat, (lexF [97, c, 98]).2.1 = n := ⟨_, rfl⟩
  obtain ⟨t2, ht2⟩ : ∃ t : List Tok, (lexF [97, c, 98]).1 = t := ⟨_, rfl⟩
  have k2 : ∀ W : World, Calls Try.prog 11 #[.slice (some ⟨W.heap.size, 0, none⟩) 3 3] (W.alloc (.cells #[.int .u8 97, .int .u8 (c.toNat : Int), .int .u8 98] 5)) fun e w' => ∃ v, e = .returned (.tuple #[v, .int .i64 n2, .int .i64 2]) ∧ Own w' (W.heap.size + 1) v t2 ∧ Below W.heap.size W w' := fun W => by
    have := lex_new [97, c, 98] #[.int .u8 97, .int .u8 (c.toNat : Int), .int .u8 98] 3 W rfl (by omega) rfl
    rw [lex_ab0 (.inl hc), hn2, ht2] at this
    exact this
  clear hn2 ht2
  obtain ⟨n3, hn3⟩ : ∃ n : Nat, (lexF [49, c, 50]).2.1 = n := ⟨_, rfl⟩
  obtain ⟨t3, ht3⟩ : ∃ t : List Tok, (lexF [49, c, 50]).1 = t := ⟨_, rfl⟩
  have k3 : ∀ W : World, Calls Try.prog 11 #[.slice (some ⟨W.heap.size, 0, none⟩) 3 3] (W.alloc (.cells #[.int .u8 49, .int .u8 (c.toNat : Int), .int .u8 50] 5)) fun e w' => ∃ v, e = .returned (.tuple #[v, .int .i64 n3, .int .i64 2]) ∧ Own w' (W.heap.size + 1) v t3 ∧ Below W.heap.size W w' := fun W => by
    have := lex_new [49, c, 50] #[.int .u8 49, .int .u8 (c.toNat : Int), .int .u8 50] 3 W rfl (by omega) rfl
    rw [lex_12_0 (.inl hc), hn3, ht3] at this
    exact this
  clear hn3 ht3
  have e32 : ((c.toNat : Int) == 32) = false := beq_eq_false_iff_ne.2 (by omega)
  have e9 : ((c.toNat : Int) == 9) = false := beq_eq_false_iff_ne.2 (by omega)
  have e13 : ((c.toNat : Int) == 13) = false := beq_eq_false_iff_ne.2 (by omega)
  have e10 : ((c.toNat : Int) == 10) = false := beq_eq_false_iff_ne.2 (by omega)
  have e35 : ((c.toNat : Int) == 35) = false := beq_eq_false_iff_ne.2 (by omega)
  clear hc
  go_enter Try.func9, Try.ntmps9
  go_wp2_with (first | (go_at_call 10; refine (shown_any _).mono ?_; rintro e w1 ⟨rfl, hb1⟩) | (go_at_call 11; refine (k1 _).mono ?_; rintro e w2 ⟨v, rfl, ho, hb2⟩; refine Hid.out ?_))
  obtain ⟨a, cap, rfl⟩ := own_len ho
  have HB3 : Hid (Below w.heap.size w w2) := hb1.trans (hb2.mono hb1.size)
  clear ho hb1 hb2 k1
  refine hide_it ?_
  go_wp2_with (go_at_call 11; refine (k2 _).mono ?_; rintro e w4 ⟨v4, rfl, ho4, hb4⟩; refine Hid.out ?_)
  have HB4 : Hid (Below w.heap.size w w4) := HB3.out.trans (hb4.mono HB3.out.size)
  clear ho4 hb4 k2
  refine hide_it ?_
  go_wp2_with (go_at_call 11; refine (k3 _).mono ?_; rintro e w5 ⟨v5, rfl, ho5, hb5⟩; refine Hid.out ?_)
  have HB5 : Hid (Below w.heap.size w w5) := HB4.out.trans (hb5.mono HB4.out.size)
  clear ho5 hb5 k3
  refine hide_it ?_
  go_wp2
  go_ret
  exact ⟨rfl, HB5.out⟩

set_option maxRecDepth 1000000 in
set_option maxHeartbeats 4000000 in
theorem bytes_o5 (c : UInt8) (w : World) (h1 : 36 ≤ (c.toNat : Int)) (h2 : (c.toNat : Int) ≤ 47) :
    Calls Try.prog 9 #[.int .u8 (c.toNat : Int)] w fun e w' => e = .returned (.bool true) ∧ Below w.heap.size w w' := by
  have hc : cls c = 0 := by unfold cls; rw [if_neg (by omega), if_neg (by omega), if_neg (by omega), if_neg (by omega), if_neg (by omega)]
  have k1 : ∀ W : World, Calls Try.prog 11 #[.slice (some ⟨W.heap.size, 0, none⟩) 1 1] (W.alloc (.cells #[.int .u8 (c.toNat : Int)] 5)) fun e w' => ∃ v, e = .returned (.tuple #[v, .int .i64 1, .int .i64 2]) ∧ Own w' (W.heap.size + 1) v [] ∧ Below W.heap.size W w' := fun W => by
    have := lex_new [c] #[.int .u8 (c.toNat : Int)] 1 W rfl (by omega) rfl
    rw [lex_one0 hc] at this
    exact this
  obtain ⟨n2, hn2⟩ : ∃ n : Nat, (lexF [97, c, 98]).2.1 = n := ⟨_, rfl⟩
  obtain ⟨t2, ht2⟩ : ∃ t : List Tok, (lexF [97, c, 98]).1 = t := ⟨_, rfl⟩
  have k2 : ∀ W : World, Calls Try.prog 11 #[.slice (some ⟨W.heap.size, 0, none⟩) 3 3] (W.alloc (.cells #[.int .u8 97, .int .u8 (c.toNat : Int), .int .u8 98] 5)) fun e w' => ∃ v, e = .returned (.tuple #[v, .int .i64 n2, .int .i64 2]) ∧ Own w' (W.heap.size + 1) v t2 ∧ Below W.heap.size W w' := fun W => by
    have := lex_new [97, c, 98] #[.int .u8 97, .int .u8 (c.toNat : Int), .int .u8 98] 3 W rfl (by omega) rfl
    rw [lex_ab0 (.inl hc), hn2, ht2] at this
    exact this
  clear hn2 ht2
  obtain ⟨n3, hn3⟩ : ∃ n : Nat, (lexF [49, c, 50]).2.1 = n := ⟨_, rfl⟩
  obtain ⟨t3, ht3⟩ : ∃ t : List Tok, (lexF [49, c, 50]).1 = t := ⟨_, rfl⟩
  have k3 : ∀ W : World, Calls Try.prog 11 #[.slice (some ⟨W.heap.size, 0, none⟩) 3 3] (W.alloc (.cells #[.int .u8 49, .int .u8 (c.toNat : Int), .int .u8 50] 5)) fun e w' => ∃ v, e = .returned (.tuple #[v, .int .i64 n3, .int .i64 2]) ∧ Own w' (W.heap.size + 1) v t3 ∧ Below W.heap.size W w' := fun W => by
    have := lex_new [49, c, 50] #[.int .u8 49, .int .u8 (c.toNat : Int), .int .u8 50] 3 W rfl (by omega) rfl
    rw [lex_12_0 (.inl hc), hn3, ht3] at this
    exact this
  clear hn3 ht3
  have e32 : ((c.toNat : Int) == 32) = false := beq_eq_false_iff_ne.2 (by omega)
  have e9 : ((c.toNat : Int) == 9) = false := beq_eq_false_iff_ne.2 (by omega)
  have e13 : ((c.toNat : Int) == 13) = false := beq_eq_false_iff_ne.2 (by omega)
  have e10 : ((c.toNat : Int) == 10) = false := beq_eq_false_iff_ne.2 (by omega)
  have e35 : ((c.toNat : Int) == 35) = false := beq_eq_false_iff_ne.2 (by omega)
  clear hc
  go_enter Try.func9, Try.ntmps9
  go_wp2_with (first | (go_at_call 10; refine (shown_any _).mono ?_; rintro e w1 ⟨rfl, hb1⟩) | (go_at_call 11; refine (k1 _).mono ?_; rintro e w2 ⟨v, rfl, ho, hb2⟩; refine Hid.out ?_))
  obtain ⟨a, cap, rfl⟩ := own_len ho
  have HB3 : Hid (Below w.heap.size w w2) := hb1.trans (hb2.mono hb1.size)
  clear ho hb1 hb2 k1
  refine hide_it ?_
  go_wp2_with (go_at_call 11; refine (k2 _).mono ?_; rintro e w4 ⟨v4, rfl, ho4, hb4⟩; refine Hid.out ?_)
  have HB4 : Hid (Below w.heap.size w w4) := HB3.out.trans (hb4.mono HB3.out.size)
  clear ho4 hb4 k2
  refine hide_it ?_
  go_wp2_with (go_at_call 11; refine (k3 _).mono ?_; rintro e w5 ⟨v5, rfl, ho5, hb5⟩; refine Hid.out ?_)
  have HB5 : Hid (Below w.heap.size w w5) := HB4.out.trans (hb5.mono HB4.out.size)
  clear ho5 hb5 k3
  refine hide_it ?_
  go_wp2
  go_ret
  exact ⟨rfl, HB5.out⟩

set_option maxRecDepth 1000000 in
set_option maxHeartbeats 4000000 in
theorem bytes_o6 (c : UInt8) (w : World) (h1 : 58 ≤ (c.toNat : Int)) (h2 : (c.toNat : Int) ≤ 64) :
    Calls Try.prog 9 #[.int .u8 (c.toNat : Int)] w fun e w' => e = .returned (.bool true) ∧ Below w.heap.size w w' := by
  have hc : cls c = 0 := by unfold cls; rw [if_neg (by omega), if_neg (by omega), if_neg (by omega), if_neg (by omega), if_neg (by omega)]
  have k1 : ∀ W : World, Calls Try.prog 11 #[.slice (some ⟨W.heap.size, 0, none⟩) 1 1] (W.alloc (.cells #[.int .u8 (c.toNat : Int)] 5)) fun e w' => ∃ v, e = .returned (.tuple #[v, .int .i64 1, .int .i64 2]) ∧ Own w' (W.heap.size + 1) v [] ∧ Below W.heap.size W w' := fun W => by
    have := lex_new [c] #[.int .u8 (c.toNat : Int)] 1 W rfl (by omega) rfl
    rw [lex_one0 hc] at this
    exact this
  obtain ⟨n2, hn2⟩ : ∃ n : Nat, (lexF [97, c, 98]).2.1 = n := ⟨_, rfl⟩
  obtain ⟨t2, ht2⟩ : ∃ t : List Tok, (lexF [97, c, 98]).1 = t := ⟨_, rfl⟩
  have k2 : ∀ W : World, Calls Try.prog 11 #[.slice (some ⟨W.heap.size, 0, none⟩) 3 3] (W.alloc (.cells #[.int .u8 97, .int .u8 (c.toNat : Int), .int .u8 98] 5)) fun e w' => ∃ v, e = .returned (.tuple #[v, .int .i64 n2, .int .i64 2]) ∧ Own w' (W.heap.size + 1) v t2 ∧ Below W.heap.size W w' := fun W => by
    have := lex_new [97, c, 98] #[.int .u8 97, .int .u8 (c.toNat : Int), .int .u8 98] 3 W rfl (by omega) rfl
    rw [lex_ab0 (.inl hc), hn2, ht2] at this
    exact this
  clear hn2 ht2
  obtain ⟨n3, hn3⟩ : ∃ n : Nat, (lexF [49, c, 50]).2.1 = n := ⟨_, rfl⟩
  obtain ⟨t3, ht3⟩ : ∃ t : List Tok, (lexF [49, c, 50]).1 = t := ⟨_, rfl⟩
  have k3 : ∀ W : World, Calls Try.prog 11 #[.slice (some ⟨W.heap.size, 0, none⟩) 3 3] (W.alloc (.cells #[.int .u8 49, .int .u8 (c.toNat : Int), .int .u8 50] 5)) fun e w' => ∃ v, e = .returned (.tuple #[v, .int .i64 n3, .int .i64 2]) ∧ Own w' (W.heap.size + 1) v t3 ∧ Below W.heap.size W w' := fun W => by
    have := lex_new [49, c, 50] #[.int .u8 49, .int .u8 (c.toNat : Int), .int .u8 50] 3 W rfl (by omega) rfl
    rw [lex_12_0 (.inl hc), hn3, ht3] at this
    exact this
  clear hn3 ht3
  have e32 : ((c.toNat : Int) == 32) = false := beq_eq_false_iff_ne.2 (by omega)
  have e9 : ((c.toNat : Int) == 9) = false := beq_eq_false_iff_ne.2 (by omega)
  have e13 : ((c.toNat : Int) == 13) = false := beq_eq_false_iff_ne.2 (by omega)
  have e10 : ((c.toNat : Int) == 10) = false := beq_eq_false_iff_ne.2 (by omega)
  have e35 : ((c.toNat : Int) == 35) = false := beq_eq_false_iff_ne.2 (by omega)
  clear hc
  go_enter Try.func9, Try.ntmps9
  go_wp2_with (first | (go_at_call 10; refine (shown_any _).mono ?_; rintro e w1 ⟨rfl, hb1⟩) | (go_at_call 11; refine (k1 _).mono ?_; rintro e w2 ⟨v, rfl, ho, hb2⟩; refine Hid.out ?_))
  obtain ⟨a, cap, rfl⟩ := own_len ho
  have HB3 : Hid (Below w.heap.size w w2) := hb1.trans (hb2.mono hb1.size)
  clear ho hb1 hb2 k1
  refine hide_it ?_
  go_wp2_with (go_at_call 11; refine (k2 _).mono ?_; rintro e w4 ⟨v4, rfl, ho4, hb4⟩; refine Hid.out ?_)
  have HB4 : Hid (Below w.heap.size w w4) := HB3.out.trans (hb4.mono HB3.out.size)
  clear ho4 hb4 k2
  refine hide_it ?_
  go_wp2_with (go_at_call 11; refine (k3 _).mono ?_; rintro e w5 ⟨v5, rfl, ho5, hb5⟩; refine Hid.out ?_)
  have HB5 : Hid (Below w.heap.size w w5) := HB4.out.trans (hb5.mono HB4.out.size)
  clear ho5 hb5 k3
  refine hide_it ?_
  go_wp2
  go_ret
  exact ⟨rfl, HB5.out⟩

set_option maxRecDepth 1000000 in
set_option maxHeartbeats 4000000 in
theorem bytes_o7 (c : UInt8) (w : World) (h1 : 91 ≤ (c.toNat : Int)) (h2 : (c.toNat : Int) ≤ 96) :
    Calls Try.prog 9 #[.int .u8 (c.toNat : Int)] w fun e w' => e = .returned (.bool true) ∧ Below w.heap.size w w' := by
  have hc : cls c = 0 := by unfold cls; rw [if_neg (by omega), if_neg (by omega), if_neg (by omega), if_neg (by omega), if_neg (by omega)]
  have k1 : ∀ W : World, Calls Try.prog 11 #[.slice (some ⟨W.heap.size, 0, none⟩) 1 1] (W.alloc (.cells #[.int .u8 (c.toNat : Int)] 5)) fun e w' => ∃ v, e = .returned (.tuple #[v, .int .i64 1, .int .i64 2]) ∧ Own w' (W.heap.size + 1) v [] ∧ Below W.heap.size W w' := fun W => by
    have := lex_new [c] #[.int .u8 (c.toNat : Int)] 1 W rfl (by omega) rfl
    rw [lex_one0 hc] at this
    exact this
  obtain ⟨n2, hn2⟩ : ∃ n : Nat, (lexF [97, c, 98]).2.1 = n := ⟨_, rfl⟩
  obtain ⟨t2, ht2⟩ : ∃ t : List Tok, (lexF [97, c, 98]).1 = t := ⟨_, rfl⟩
  have k2 : ∀ W : World, Calls Try.prog 11 #[.slice (some ⟨W.heap.size, 0, none⟩) 3 3] (W.alloc (.cells #[.int .u8 97, .int .u8 (c.toNat : Int), .int .u8 98] 5)) fun e w' => ∃ v, e = .returned (.tuple #[v, .int .i64 n2, .int .i64 2]) ∧ Own w' (W.heap.size + 1) v t2 ∧ Below W.heap.size W w' := fun W => by
    have := lex_new [97, c, 98] #[.int .u8 97, .int .u8 (c.toNat : Int), .int .u8 98] 3 W rfl (by omega) rfl
    rw [lex_ab0 (.inl hc), hn2, ht2] at this
    exact this
  clear hn2 ht2
  obtain ⟨n3, hn3⟩ : ∃ n : Nat, (lexF [49, c, 50]).2.1 = n := ⟨_, rfl⟩
  obtain ⟨t3, ht3⟩ : ∃ t : List Tok, (lexF [49, c, 50]).1 = t := ⟨_, rfl⟩
  have k3 : ∀ W : World, Calls Try.prog 11 #[.slice (some ⟨W.heap.size, 0, none⟩) 3 3] (W.alloc (.cells #[.int .u8 49, .int .u8 (c.toNat : Int), .int .u8 50] 5)) fun e w' => ∃ v, e = .returned (.tuple #[v, .int .i64 n3, .int .i64 2]) ∧ Own w' (W.heap.size + 1) v t3 ∧ Below W.heap.size W w' := fun W => by
    have := lex_new [49, c, 50] #[.int .u8 49, .int .u8 (c.toNat : Int), .int .u8 50] 3 W rfl (by omega) rfl
    rw [lex_12_0 (.inl hc), hn3, ht3] at this
    exact this
  clear hn3 ht3
  have e32 : ((c.toNat : Int) == 32) = false := beq_eq_false_iff_ne.2 (by omega)
  have e9 : ((c.toNat : Int) == 9) = false := beq_eq_false_iff_ne.2 (by omega)
  have e13 : ((c.toNat : Int) == 13) = false := beq_eq_false_iff_ne.2 (by omega)
  have e10 : ((c.toNat : Int) == 10) = false := beq_eq_false_iff_ne.2 (by omega)
  have e35 : ((c.toNat : Int) == 35) = false := beq_eq_false_iff_ne.2 (by omega)
  clear hc
  go_enter Try.func9, Try.ntmps9
  go_wp2_with (first | (go_at_call 10; refine (shown_any _).mono ?_; rintro e w1 ⟨rfl, hb1⟩) | (go_at_call 11; refine (k1 _).mono ?_; rintro e w2 ⟨v, rfl, ho, hb2⟩; refine Hid.out ?_))
  obtain ⟨a, cap, rfl⟩ := own_len ho
  have HB3 : Hid (Below w.heap.size w w2) := hb1.trans (hb2.mono hb1.size)
  clear ho hb1 hb2 k1
  refine hide_it ?_
  go_wp2_with (go_at_call 11; refine (k2 _).mono ?_; rintro e w4 ⟨v4, rfl, ho4, hb4⟩; refine Hid.out ?_)
  have HB4 : Hid (Below w.heap.size w w4) := HB3.out.trans (hb4.mono HB3.out.size)
  clear ho4 hb4 k2
  refine hide_it ?_
  go_wp2_with (go_at_call 11; refine (k3 _).mono ?_; rintro e w5 ⟨v5, rfl, ho5, hb5⟩; refine Hid.out ?_)
  have HB5 : Hid (Below w.heap.size w w5) := HB4.out.trans (hb5.mono HB4.out.size)
  clear ho5 hb5 k3
  refine hide_it ?_
  go_wp2
  go_ret
  exact ⟨rfl, HB5.out⟩

set_option maxRecDepth 1000000 in
set_option maxHeartbeats 4000000 in
theorem bytes_o8 (c : UInt8) (w : World) (h1 : 123 ≤ (c.toNat : Int)) (h2 : (c.toNat : Int) ≤ 255) :
    Calls Try.prog 9 #[.int .u8 (c.toNat : Int)] w fun e w' => e = .returned (.bool true) ∧ Below w.heap.size w w' := by
  have hc : cls c = 0 := by unfold cls; rw [if_neg (by omega), if_neg (by omega), if_neg (by omega), if_neg (by omega), if_neg (by omega)]
  have k1 : ∀ W : World, Calls Try.prog 11 #[.slice (some ⟨W.heap.size, 0, none⟩) 1 1] (W.alloc (.cells #[.int .u8 (c.toNat : Int)] 5)) fun e w' => ∃ v, e = .returned (.tuple #[v, .int .i64 1, .int .i64 2]) ∧ Own w' (W.heap.size + 1) v [] ∧ Below W.heap.size W w' := fun W => by
    have := lex_new [c] #[.int .u8 (c.toNat : Int)] 1 W rfl (by omega) rfl
    rw [lex_one0 hc] at this
    exact this
  obtain ⟨n2, hn2⟩ : ∃ n : Nat, (lexF [97, c, 98]).2.1 = n := ⟨_, rfl⟩
  obtain ⟨t2, ht2⟩ : ∃ t : List Tok, (lexF [97, c, 98]).1 = t := ⟨_, rfl⟩
  have k2 : ∀ W : World, Calls Try.prog 11 #[.slice (some ⟨W.heap.size, 0, none⟩) 3 3] (W.alloc (.cells #[.int .u8 97, .int .u8 (c.toNat : Int), .int .u8 98] 5)) fun e w' => ∃ v, e = .returned (.tuple #[v, .int .i64 n2, .int .i64 2]) ∧ Own w' (W.heap.size + 1) v t2 ∧ Below W.heap.size W w' := fun W => by
    have := lex_new [97, c, 98] #[.int .u8 97, .int .u8 (c.toNat : Int), .int .u8 98] 3 W rfl (by omega) rfl
    rw [lex_ab0 (.inl hc), hn2, ht2] at this
    exact this
  clear hn2 ht2
  obtain ⟨n3, hn3⟩ : ∃ n : Nat, (lexF [49, c, 50]).2.1 = n := ⟨_, rfl⟩
  obtain ⟨t3, ht3⟩ : ∃ t : List Tok, (lexF [49, c, 50]).1 = t := ⟨_, rfl⟩
  have k3 : ∀ W : World, Calls Try.prog 11 #[.slice (some ⟨W.heap.size, 0, none⟩) 3 3] (W.alloc (.cells #[.int .u8 49, .int .u8 (c.toNat : Int), .int .u8 50] 5)) fun e w' => ∃ v, e = .returned (.tuple #[v, .int .i64 n3, .int .i64 2]) ∧ Own w' (W.heap.size + 1) v t3 ∧ Below W.heap.size W w' := fun W => by
    have := lex_new [49, c, 50] #[.int .u8 49, .int .u8 (c.toNat : Int), .int .u8 50] 3 W rfl (by omega) rfl
    rw [lex_12_0 (.inl hc), hn3, ht3] at this
    exact this
  clear hn3 ht3
  have e32 : ((c.toNat : Int) == 32) = false := beq_eq_false_iff_ne.2 (by omega)
  have e9 : ((c.toNat : Int) == 9) = false := beq_eq_false_iff_ne.2 (by omega)
  have e13 : ((c.toNat : Int) == 13) = false := beq_eq_false_iff_ne.2 (by omega)
  have e10 : ((c.toNat : Int) == 10) = false := beq_eq_false_iff_ne.2 (by omega)
  have e35 : ((c.toNat : Int) == 35) = false := beq_eq_false_iff_ne.2 (by omega)
  have d122 : decide ((c.toNat : Int) ≤ 122) = false := decide_eq_false (by omega)
  have d90 : decide ((c.toNat : Int) ≤ 90) = false := decide_eq_false (by omega)
  have d57 : decide ((c.toNat : Int) ≤ 57) = false := decide_eq_false (by omega)
  clear hc
  go_enter Try.func9, Try.ntmps9
  go_wp2_with (first | (go_at_call 10; refine (shown_any _).mono ?_; rintro e w1 ⟨rfl, hb1⟩) | (go_at_call 11; refine (k1 _).mono ?_; rintro e w2 ⟨v, rfl, ho, hb2⟩; refine Hid.out ?_))
  obtain ⟨a, cap, rfl⟩ := own_len ho
  have HB3 : Hid (Below w.heap.size w w2) := hb1.trans (hb2.mono hb1.size)
  clear ho hb1 hb2 k1
  refine hide_it ?_
  go_wp2_with (go_at_call 11; refine (k2 _).mono ?_; rintro e w4 ⟨v4, rfl, ho4, hb4⟩; refine Hid.out ?_)
  have HB4 : Hid (Below w.heap.size w w4) := HB3.out.trans (hb4.mono HB3.out.size)
  clear ho4 hb4 k2
  refine hide_it ?_
  go_wp2_with (go_at_call 11; refine (k3 _).mono ?_; rintro e w5 ⟨v5, rfl, ho5, hb5⟩; refine Hid.out ?_)
  have HB5 : Hid (Below w.heap.size w w5) := HB4.out.trans (hb5.mono HB4.out.size)
  clear ho5 hb5 k3
  refine hide_it ?_
  go_wp2
  go_ret
  exact ⟨rfl, HB5.out⟩

theorem lexBytes_walk (c : UInt8) (w : World) : Calls Try.prog 9 #[.int .u8 (c.toNat : Int)] w fun e w' => e = .returned (.bool true) ∧ Below w.heap.size w w' := by
  have hb : c.toNat < 256 := c.toNat_lt
  have : (97 ≤ c.toNat ∧ c.toNat ≤ 122) ∨ (65 ≤ c.toNat ∧ c.toNat ≤ 90) ∨ (48 ≤ c.toNat ∧ c.toNat ≤ 57) ∨ c.toNat = 32 ∨ c.toNat = 9 ∨ c.toNat = 13 ∨ c.toNat = 35 ∨ c.toNat = 10 ∨ c.toNat ≤ 8 ∨ (11 ≤ c.toNat ∧ c.toNat ≤ 12) ∨ (14 ≤ c.toNat ∧ c.toNat ≤ 31) ∨ (33 ≤ c.toNat ∧ c.toNat ≤ 34) ∨ (36 ≤ c.toNat ∧ c.toNat ≤ 47) ∨ (58 ≤ c.toNat ∧ c.toNat ≤ 64) ∨ (91 ≤ c.toNat ∧ c.toNat ≤ 96) ∨ 123 ≤ c.toNat := by omega
  rcases this with h | h | h | h | h | h | h | h | h | h | h | h | h | h | h | h
  · exact bytes_low c w (by omega) (by omega)
  · exact bytes_up c w (by omega) (by omega)
  · exact bytes_dig c w (by omega) (by omega)
  · exact bytes_b32 c w (by omega) (by omega)
  · exact bytes_b9 c w (by omega) (by omega)
  · exact bytes_b13 c w (by omega) (by omega)
  · exact bytes_hash c w (by omega) (by omega)
  · exact bytes_nl c w (by omega) (by omega)
  · exact bytes_o1 c w (by omega) (by omega)
  · exact bytes_o2 c w (by omega) (by omega)
  · exact bytes_o3 c w (by omega) (by omega)
  · exact bytes_o4 c w (by omega) (by omega)
  · exact bytes_o5 c w (by omega) (by omega)
  · exact bytes_o6 c w (by omega) (by omega)
  · exact bytes_o7 c w (by omega) (by omega)
  · exact bytes_o8 c w (by omega) (by omega)

end Go.Proofs.Ytlbiiffjodllnaa
