/- LexBounds: bytes near the bound, all blanks or all one letter. -/
import Derived.Test.YtlbiiffjodllnaaShown
import Derived.Deep.OwnRows
import Derived.Laws.BitsLemmas
namespace Go.Proofs.Ytlbiiffjodllnaa
open Go.RowKit
open M

theorem Try.info5 : (Try.prog.info? 5).map (fun i => (i.zero, i.size, i.bytes)) = some (some (.int .u8 0), 1, 1) := by kernel_rfl

theorem i64_and16 (n : Int) : bits .and .i64 n 65535 = n % 65536 := by
  have h : (BitVec.ofInt 64 65535).toNat = 2 ^ 16 - 1 := by decide
  have key : (BitVec.ofInt 64 n &&& BitVec.ofInt 64 65535).toNat = (n % ((2 ^ 64 : Nat) : Int)).toNat % 2 ^ 16 := by
    rw [BitVec.toNat_and, BitVec.toNat_ofInt, h, Nat.and_two_pow_sub_one_eq_mod]
  show IntKind.i64.wrap ((BitVec.ofInt 64 n &&& BitVec.ofInt 64 65535).toNat : Nat) = n % 65536
  rw [key, IntKind.wrap_i64]
  omega

theorem own_len' {w : World} {base : Nat} {v : Value} {ts : List Tok} (h : Own w base v ts) : ∃ a cap, v = .slice a ts.length cap := by
  rcases h.2 with ⟨rfl, e⟩ | ⟨g, cap, cur, rfl, _⟩
  · exact ⟨none, 0, by rw [e]⟩
  · exact ⟨_, _, rfl⟩

theorem run_rep_x (n : Nat) (ts : List Tok) (l : Nat) : ∀ m cur, m = 0 ∨ m = 1 → run (.ok m cur ts l) (List.replicate n 120) = if n = 0 then .ok m cur ts l else .ok 1 (cur ++ List.replicate n 120) ts l := by
  induction n with
  | zero => intro m cur _; rfl
  | succ n ih =>
    intro m cur hm
    rw [List.replicate_succ, run_cons, step1 (by decide) (by omega), if_neg (by omega), ih 1 _ (.inr rfl)]
    by_cases h : n = 0
    · subst h; simp
    · simp [h]
theorem run_rep_b (n : Nat) : run init (List.replicate n 32) = init := by
  induction n with
  | zero => rfl
  | succ n ih => rw [List.replicate_succ, run_cons]; exact ih
theorem lex_rep_x (n : Nat) (h0 : 0 < n) (h : n ≤ 65536) : lexF (List.replicate n 120) = ([⟨1, List.replicate n 120, 1⟩, ⟨3, [], 1⟩], 0, 0) := by
  unfold lexF
  rw [if_neg (by simp; omega)]
  unfold init
  rw [run_rep_x n _ _ 0 [] (.inl rfl), if_neg (by omega)]
  simp [fin, flush, endLine, closed]
theorem lex_rep_b (n : Nat) (h : n ≤ 65536) : lexF (List.replicate n 32) = ([], 0, 0) := by
  unfold lexF
  rw [if_neg (by simp; omega), run_rep_b]
  rfl
theorem lex_much (bs : List UInt8) (h : 65536 < bs.length) : lexF bs = ([], 0, 4) := by unfold lexF; rw [if_pos h]

/-- The bytes of a row that is filled. -/
theorem bytes_row {w : World} {b n : Nat} {f : Nat → Value} (c : UInt8) (h : w.rowIs b 5 n f) (hf : ∀ j, j < n → f j = .int .u8 ((c.toNat : Nat) : Int)) : Bytes w (some ⟨b, 0, none⟩) (List.replicate n c) := by
  intro i hi
  have hi' : i < n := by simpa using hi
  refine ⟨b, 0, rfl, ?_⟩
  rw [Nat.zero_add, h.cell hi', hf i hi']
  simp

set_option maxRecDepth 1000000 in
set_option maxHeartbeats 4000000 in
theorem bounds_x (a : Int) (w : World) :
    Calls Try.prog 6 #[.int .i64 a, .bool false] w fun e w' => e = .returned (.bool true) ∧ Below w.heap.size w w' := by
  have hb0 : 0 ≤ bits .and .i64 a 65535 ∧ bits .and .i64 a 65535 ≤ 65535 := by rw [i64_and16]; omega
  obtain ⟨hA0, hA1⟩ := hb0
  obtain ⟨n, hn⟩ : ∃ n : Nat, 65533 + bits .and .i64 a 65535 % 7 = (n : Int) := ⟨(65533 + bits .and .i64 a 65535 % 7).toNat, by omega⟩
  have hn0 : 65533 ≤ n := by omega
  have hn1 : n ≤ 65539 := by omega
  have hmk := run_make_row' (P := Try.prog) 22 5 (.int .u8 0) 1 Try.underlying22 Try.info5 rfl .i64 .i64 n (by omega) (by omega)
  go_enter Try.func6, Try.ntmps6
  go_wp2_with (go_at_call 10; refine (shown_any _).mono ?_; rintro e w1 ⟨rfl, hb1⟩)
  have hrow := World.rowIs_made w1 (.int .u8 0) n 5
  have hbel := hb1.alloc hb1.size (.cells (madeCells #[.int .u8 0] n) 5)
  generalize hw2 : w1.alloc (.cells (madeCells #[.int .u8 0] n) 5) = w2 at *
  generalize hB : w1.heap.size = B at *
  have HB : Hid (w.heap.size ≤ B) := by rw [← hB]; exact hb1.size
  clear hw2 hB hb1 hmk
  go_loopw [8] (fun i wr => ∃ k : Nat, k ≤ n ∧ i = .int .i64 k ∧ wr.rowIs B 5 n (fun j => .int .u8 (if j < k then 120 else 0)) ∧ Below w.heap.size w wr) (fun i _ => n - (intOf i).toNat)
  case atStart => exact ⟨0, Nat.zero_le _, rfl, by simpa using hrow, hbel⟩
  case round =>
    obtain ⟨k, hk, rfl, hr, hbe⟩ := hrel
    by_cases hlt : k < n
    · have hc := hr.cell hlt
      have hf := hr.frozen k
      have HR : Hid ((wr.setCell ⟨B, k, none⟩ (.int .u8 120)).rowIs B 5 n (fun j => .int .u8 (if j < k + 1 then 120 else 0))) := (hr.set k (.int .u8 120)).congr (fun j hj => by
        by_cases e : j = k
        · simp [e]
        · by_cases e2 : j < k
          · simp [e, e2, show j < k + 1 by omega]
          · simp [e, e2, show ¬ j < k + 1 by omega])
      have HE : Hid (Below w.heap.size w (wr.setCell ⟨B, k, none⟩ (.int .u8 120))) := hbe.setCell HB.out _
      clear hr hbe hrow hbel
      go_wp2
      go_roundw
      case rel => exact ⟨k + 1, by omega, by go_num, HR.out, HE.out⟩
      case measure => simp [intOf]; omega
    · obtain rfl : k = n := by omega
      have hbs := bytes_row 120 hr (fun j hj => by simp [hj])
      have kx := lex_any _ k _ wr (by simp) (by unfold maxLen; omega) hbs
      rw [List.length_replicate] at kx
      by_cases hm : 65536 < k
      · rw [lex_much _ (by simpa using hm)] at kx
        have hm' : (65536 : Int) < k := by omega
        clear hr hrow hbel hbs
        go_wp2_with (go_at_call 11; refine kx.mono ?_; rintro e w4 ⟨v, rfl, ho, hb4⟩; obtain ⟨ao, co, rfl⟩ := own_len' ho)
        go_ret
        exact ⟨rfl, hbe.trans (hb4.mono hbe.size)⟩
      · rw [lex_rep_x k (by omega) (by omega)] at kx
        have hm' : ¬ ((65536 : Int) < k) := by omega
        clear hr hrow hbel hbs
        go_wp2_with (go_at_call 11; refine kx.mono ?_; rintro e w4 ⟨v, rfl, ho, hb4⟩; obtain ⟨g, co, rfl, _, _⟩ := ho.form (by simp); have c1 : w4.cell? ⟨g, 1, none⟩ = some (.string ⟨(List.replicate k 120).toArray⟩) := (Own.cellsAt ho 0 (by simp)).2.1)
        go_ret
        exact ⟨rfl, hbe.trans (hb4.mono hbe.size)⟩

set_option maxRecDepth 1000000 in
set_option maxHeartbeats 4000000 in
theorem bounds_b (a : Int) (w : World) :
    Calls Try.prog 6 #[.int .i64 a, (.bool true)] w fun e w' => e = .returned (.bool true) ∧ Below w.heap.size w w' := by
  have hb0 : 0 ≤ bits .and .i64 a 65535 ∧ bits .and .i64 a 65535 ≤ 65535 := by rw [i64_and16]; omega
  obtain ⟨hA0, hA1⟩ := hb0
  obtain ⟨n, hn⟩ : ∃ n : Nat, 65533 + bits .and .i64 a 65535 % 7 = (n : Int) := ⟨(65533 + bits .and .i64 a 65535 % 7).toNat, by omega⟩
  have hn0 : 65533 ≤ n := by omega
  have hn1 : n ≤ 65539 := by omega
  have hmk := run_make_row' (P := Try.prog) 22 5 (.int .u8 0) 1 Try.underlying22 Try.info5 rfl .i64 .i64 n (by omega) (by omega)
  go_enter Try.func6, Try.ntmps6
  go_wp2_with (go_at_call 10; refine (shown_any _).mono ?_; rintro e w1 ⟨rfl, hb1⟩)
  have hrow := World.rowIs_made w1 (.int .u8 0) n 5
  have hbel := hb1.alloc hb1.size (.cells (madeCells #[.int .u8 0] n) 5)
  generalize hw2 : w1.alloc (.cells (madeCells #[.int .u8 0] n) 5) = w2 at *
  generalize hB : w1.heap.size = B at *
  have HB : Hid (w.heap.size ≤ B) := by rw [← hB]; exact hb1.size
  clear hw2 hB hb1 hmk
  go_loopw [8] (fun i wr => ∃ k : Nat, k ≤ n ∧ i = .int .i64 k ∧ wr.rowIs B 5 n (fun j => .int .u8 (if j < k then 32 else 0)) ∧ Below w.heap.size w wr) (fun i _ => n - (intOf i).toNat)
  case atStart => exact ⟨0, Nat.zero_le _, rfl, by simpa using hrow, hbel⟩
  case round =>
    obtain ⟨k, hk, rfl, hr, hbe⟩ := hrel
    by_cases hlt : k < n
    · have hc := hr.cell hlt
      have hf := hr.frozen k
      have HR : Hid (((wr.setCell ⟨B, k, none⟩ (.int .u8 120)).setCell ⟨B, k, none⟩ (.int .u8 32)).rowIs B 5 n (fun j => .int .u8 (if j < k + 1 then 32 else 0))) := ((hr.set k (.int .u8 120)).set k (.int .u8 32)).congr (fun j hj => by
        by_cases e : j = k
        · simp [e]
        · by_cases e2 : j < k
          · simp [e, e2, show j < k + 1 by omega]
          · simp [e, e2, show ¬ j < k + 1 by omega])
      have HE : Hid (Below w.heap.size w ((wr.setCell ⟨B, k, none⟩ (.int .u8 120)).setCell ⟨B, k, none⟩ (.int .u8 32))) := (hbe.setCell HB.out _).setCell HB.out _
      clear hr hbe hrow hbel
      go_wp2
      go_roundw
      case rel => exact ⟨k + 1, by omega, by go_num, HR.out, HE.out⟩
      case measure => simp [intOf]; omega
    · obtain rfl : k = n := by omega
      have hbs := bytes_row 32 hr (fun j hj => by simp [hj])
      have kx := lex_any _ k _ wr (by simp) (by unfold maxLen; omega) hbs
      rw [List.length_replicate] at kx
      by_cases hm : 65536 < k
      · rw [lex_much _ (by simpa using hm)] at kx
        have hm' : (65536 : Int) < k := by omega
        clear hr hrow hbel hbs
        go_wp2_with (go_at_call 11; refine kx.mono ?_; rintro e w4 ⟨v, rfl, ho, hb4⟩; obtain ⟨ao, co, rfl⟩ := own_len' ho)
        go_ret
        exact ⟨rfl, hbe.trans (hb4.mono hbe.size)⟩
      · rw [lex_rep_b k (by omega)] at kx
        have hm' : ¬ ((65536 : Int) < k) := by omega
        clear hr hrow hbel hbs
        go_wp2_with (go_at_call 11; refine kx.mono ?_; rintro e w4 ⟨v, rfl, ho, hb4⟩; obtain ⟨ao, co, rfl⟩ := own_len' ho)
        go_ret
        exact ⟨rfl, hbe.trans (hb4.mono hbe.size)⟩

theorem lexBounds_walk (a : Int) (b : Bool) (w : World) (_h0 : -9223372036854775808 ≤ a) (_h1 : a ≤ 9223372036854775807) :
    Calls Try.prog 6 #[.int .i64 a, .bool b] w fun e w' => e = .returned (.bool true) ∧ Below w.heap.size w w' := by
  cases b
  · exact bounds_x a w
  · exact bounds_b a w

end Go.Proofs.Ytlbiiffjodllnaa
