/- LexBytes: what is lexed of one byte, and of a byte between two. -/
import Derived.Test.YtlbiiffjodllnaaShown
import Derived.BigRegion
import Derived.BigQuiet
namespace Go.Proofs.Ytlbiiffjodllnaa
open Go.RowKit
open M

theorem lex_one1 {c : UInt8} (h : cls c = 1) : lexF [c] = ([⟨1, [c], 1⟩, ⟨3, [], 1⟩], 0, 0) := by
  unfold lexF; rw [if_neg (by simp)]
  simp [run_cons, run_nil, init, step1 h, fin, flush, endLine, closed]
theorem lex_one2 {c : UInt8} (h : cls c = 2) : lexF [c] = ([⟨2, [c], 1⟩, ⟨3, [], 1⟩], 0, 0) := by
  unfold lexF; rw [if_neg (by simp)]
  simp [run_cons, run_nil, init, step2 h, fin, flush, endLine, closed]
theorem lex_one3 {c : UInt8} (h : cls c = 3 ∨ cls c = 4 ∨ cls c = 5) : lexF [c] = ([], 0, 0) := by
  unfold lexF; rw [if_neg (by simp)]
  rcases h with h | h | h
  · simp [run_cons, run_nil, init, step3 h, fin, flush, endLine, closed]
  · simp [run_cons, run_nil, init, step4 h, fin, flush, endLine, closed]
  · simp [run_cons, run_nil, init, step5 h, fin, flush, endLine, closed]
theorem lex_one0 {c : UInt8} (h : cls c = 0) : lexF [c] = ([], 1, 2) := by
  unfold lexF; rw [if_neg (by simp)]
  simp [run_cons, run_nil, init, step0 h, fin]

theorem step_bad (l : Nat) (c : UInt8) : M.step (.bad l) c = .bad l := rfl
theorem c97 : cls 97 = 1 := by decide
theorem c98 : cls 98 = 1 := by decide
theorem c49 : cls 49 = 2 := by decide
theorem c50 : cls 50 = 2 := by decide

/-- Between two letters. -/
theorem lex_ab1 {c : UInt8} (h : cls c = 1) : lexF [97, c, 98] = ([⟨1, [97, c, 98], 1⟩, ⟨3, [], 1⟩], 0, 0) := by
  unfold lexF; rw [if_neg (by simp)]
  simp [run_cons, run_nil, init, step1 h, step1 c97, step1 c98, fin, flush, endLine, closed]
theorem lex_ab3 {c : UInt8} (h : cls c = 3 ∨ cls c = 4 ∨ cls c = 5) : (lexF [97, c, 98]).2.2 = 0 := by
  unfold lexF; rw [if_neg (by simp)]
  rcases h with h | h | h
  · simp [run_cons, run_nil, init, step1 c97, step3 h, step1 c98, fin]
  · simp [run_cons, run_nil, init, step1 c97, step4 h, step_cm (c := 98) (by decide), fin]
  · simp [run_cons, run_nil, init, step1 c97, step5 h, step1 c98, fin]
theorem lex_ab0 {c : UInt8} (h : cls c = 0 ∨ cls c = 2) : (lexF [97, c, 98]).2.2 = 2 := by
  unfold lexF; rw [if_neg (by simp)]
  rcases h with h | h
  · simp [run_cons, run_nil, init, step1 c97, step0 h, fin, step_bad]
  · simp [run_cons, run_nil, init, step1 c97, step2 h, fin, step_bad]
/-- Between two digits. -/
theorem lex_12_2 {c : UInt8} (h : cls c = 2) : lexF [49, c, 50] = ([⟨2, [49, c, 50], 1⟩, ⟨3, [], 1⟩], 0, 0) := by
  unfold lexF; rw [if_neg (by simp)]
  simp [run_cons, run_nil, init, step2 h, step2 c49, step2 c50, fin, flush, endLine, closed]
theorem lex_12_3 {c : UInt8} (h : cls c = 3 ∨ cls c = 4 ∨ cls c = 5) : (lexF [49, c, 50]).2.2 = 0 := by
  unfold lexF; rw [if_neg (by simp)]
  rcases h with h | h | h
  · simp [run_cons, run_nil, init, step2 c49, step3 h, step2 c50, fin]
  · simp [run_cons, run_nil, init, step2 c49, step4 h, step_cm (c := 50) (by decide), fin]
  · simp [run_cons, run_nil, init, step2 c49, step5 h, step2 c50, fin]
theorem lex_12_0 {c : UInt8} (h : cls c = 0 ∨ cls c = 1) : (lexF [49, c, 50]).2.2 = 2 := by
  unfold lexF; rw [if_neg (by simp)]
  rcases h with h | h
  · simp [run_cons, run_nil, init, step2 c49, step0 h, fin, step_bad]
  · simp [run_cons, run_nil, init, step2 c49, step1 h, fin, step_bad]

/-- Lex of bytes that have just been laid into a block of their own. -/
theorem lex_new (bs : List UInt8) (cs : Array Value) (n : Nat) (w : World) (hn : bs.length = n) (hs : n ≤ 65536) (h : cs.toList = bs.map (fun c => Value.int .u8 ((c.toNat : Nat) : Int))) :
    Calls Try.prog 11 #[.slice (some ⟨w.heap.size, 0, none⟩) n n] (w.alloc (.cells cs 5)) fun e w' => ∃ v, e = .returned (.tuple #[v, .int .i64 (lexF bs).2.1, .int .i64 (lexF bs).2.2]) ∧ Own w' (w.heap.size + 1) v (lexF bs).1 ∧ Below w.heap.size w w' := by
  subst hn
  refine (lex_any (some ⟨w.heap.size, 0, none⟩) bs.length bs (w.alloc (.cells cs 5)) (Nat.le_refl _) (by unfold maxLen; omega) (bytes_new w bs cs 5 (0, 0) h)).mono ?_
  rintro e w' ⟨v, he, ho, hb⟩
  exact ⟨v, he, by simpa using ho, ((Below.refl _ w).alloc (Nat.le_refl _) _).trans (hb.mono (by simp))⟩


theorem conv_one (c : UInt8) (g : Nat) (W : World) (h : W.cell? ⟨g, 0, none⟩ = some (.int .u8 (c.toNat : Int))) : (convert 22 9 (.slice (some ⟨g, 0, none⟩) 1 1)).run Try.prog W = .ok (.string ⟨#[c]⟩) W :=
  run_convert_bytes_back (P := Try.prog) W 22 9 5 ⟨g, 0, none⟩ 1 [c] Try.underlying22 Try.underlying5 Try.underlying9 (fun j hj => by
    have : j = 0 := by simpa using hj
    subst this
    rw [Addr.add_lit]; exact h)

theorem own_len {w : World} {base : Nat} {v : Value} {ts : List Tok} (h : Own w base v ts) : ∃ a cap, v = .slice a ts.length cap := by
  rcases h.2 with ⟨rfl, e⟩ | ⟨g, cap, cur, rfl, _⟩
  · exact ⟨none, 0, by rw [e]⟩
  · exact ⟨_, _, rfl⟩



set_option maxRecDepth 1000000 in
set_option maxHeartbeats 4000000 in
theorem bytes_low (c : UInt8) (w : World) (h1 : 97 ≤ (c.toNat : Int)) (h2 : (c.toNat : Int) ≤ 122) :
    Calls Try.prog 9 #[.int .u8 (c.toNat : Int)] w fun e w' => e = .returned (.bool true) ∧ Below w.heap.size w w' := by
  have hc : cls c = 1 := by unfold cls; rw [if_pos (by omega)]
  have k1 : ∀ W : World, Calls Try.prog 11 #[.slice (some ⟨W.heap.size, 0, none⟩) 1 1] (W.alloc (.cells #[.int .u8 (c.toNat : Int)] 5)) fun e w' => ∃ v, e = .returned (.tuple #[v, .int .i64 0, .int .i64 0]) ∧ Own w' (W.heap.size + 1) v [⟨1, [c], 1⟩, ⟨3, [], 1⟩] ∧ Below W.heap.size W w' := fun W => by
    have := lex_new [c] #[.int .u8 (c.toNat : Int)] 1 W rfl (by omega) rfl
    rw [lex_one1 hc] at this
    exact this
  have k2 : ∀ W : World, Calls Try.prog 11 #[.slice (some ⟨W.heap.size, 0, none⟩) 3 3] (W.alloc (.cells #[.int .u8 97, .int .u8 (c.toNat : Int), .int .u8 98] 5)) fun e w' => ∃ v, e = .returned (.tuple #[v, .int .i64 0, .int .i64 0]) ∧ Own w' (W.heap.size + 1) v [⟨1, [97, c, 98], 1⟩, ⟨3, [], 1⟩] ∧ Below W.heap.size W w' := fun W => by
    have := lex_new [97, c, 98] #[.int .u8 97, .int .u8 (c.toNat : Int), .int .u8 98] 3 W rfl (by omega) rfl
    rw [lex_ab1 hc] at this
    exact this
  obtain ⟨n3, hn3⟩ : ∃ n : Nat, (lexF [49, c, 50]).2.1 = n := ⟨_, rfl⟩
  obtain ⟨t3, ht3⟩ : ∃ t : List Tok, (lexF [49, c, 50]).1 = t := ⟨_, rfl⟩
  have k3 : ∀ W : World, Calls Try.prog 11 #[.slice (some ⟨W.heap.size, 0, none⟩) 3 3] (W.alloc (.cells #[.int .u8 49, .int .u8 (c.toNat : Int), .int .u8 50] 5)) fun e w' => ∃ v, e = .returned (.tuple #[v, .int .i64 n3, .int .i64 2]) ∧ Own w' (W.heap.size + 1) v t3 ∧ Below W.heap.size W w' := fun W => by
    have := lex_new [49, c, 50] #[.int .u8 49, .int .u8 (c.toNat : Int), .int .u8 50] 3 W rfl (by omega) rfl
    rw [lex_12_0 (.inr hc), hn3, ht3] at this
    exact this
  clear hn3 ht3
  have e32 : ((c.toNat : Int) == 32) = false := beq_eq_false_iff_ne.2 (by omega)
  have e9 : ((c.toNat : Int) == 9) = false := beq_eq_false_iff_ne.2 (by omega)
  have e13 : ((c.toNat : Int) == 13) = false := beq_eq_false_iff_ne.2 (by omega)
  have e10 : ((c.toNat : Int) == 10) = false := beq_eq_false_iff_ne.2 (by omega)
  have e35 : ((c.toNat : Int) == 35) = false := beq_eq_false_iff_ne.2 (by omega)
  clear hc
  go_enter Try.func9, Try.ntmps9
  go_wp2_with (first | (go_at_call 10; refine (shown_any _).mono ?_; rintro e w1 ⟨rfl, hb1⟩) | (go_at_call 11; refine (k1 _).mono ?_; rintro e w2 ⟨v, rfl, ho, hb2⟩; refine Hid.out ?_))
  obtain ⟨g, cap, rfl, hg1, hg2⟩ := ho.form (by simp)
  have c0 : w2.cell? ⟨g, 0, none⟩ = some (.int .i64 1) := (Own.cellsAt ho 0 (by simp)).1
  have c1 : w2.cell? ⟨g, 1, none⟩ = some (.string ⟨#[c]⟩) := (Own.cellsAt ho 0 (by simp)).2.1
  have c3 : w2.cell? ⟨g, 3, none⟩ = some (.int .i64 3) := (Own.cellsAt ho 1 (by simp)).1
  have HB : Hid (Below w.heap.size w w2) := hb1.trans (hb2.mono hb1.size)
  clear ho hb1 hb2 k1
  refine hide_it ?_
  go_wp2_with fail
  have hcv := conv_one c
  go_region
  generalize hw3 : (w2.alloc (Obj.cells #[Value.int IntKind.u8 ↑c.toNat] 5)).drew = w3
  have HB3 : Hid (Below w.heap.size w w3) := by rw [← hw3]; exact (HB.out.alloc HB.out.size _).drew
  clear hw3 c0 c1 c3 hcv
  go_wp2_with (go_at_call 11; refine (k2 _).mono ?_; rintro e w4 ⟨v4, rfl, ho4, hb4⟩; refine Hid.out ?_)
  obtain ⟨g4, cap4, rfl, hg41, hg42⟩ := ho4.form (by simp)
  have HO4 : Hid (Own w4 _ _ _) := ho4
  have HB4 : Hid (Below w.heap.size w w4) := HB3.out.trans (hb4.mono HB3.out.size)
  clear ho4 hb4 k2
  refine hide_it ?_
  go_wp2_with (go_at_call 11; refine (k3 _).mono ?_; rintro e w5 ⟨v5, rfl, ho5, hb5⟩; refine Hid.out ?_)
  have c41 : w5.cell? ⟨g4, 1, none⟩ = some (.string ⟨#[97, c, 98]⟩) := (Own.cellsAt (HO4.out.later hb5) 0 (by simp)).2.1
  have HB5 : Hid (Below w.heap.size w w5) := HB4.out.trans (hb5.mono HB4.out.size)
  clear ho5 hb5 k3
  refine hide_it ?_
  go_wp2
  go_ret
  exact ⟨rfl, HB5.out⟩

set_option maxRecDepth 1000000 in
set_option maxHeartbeats 4000000 in
theorem bytes_up (c : UInt8) (w : World) (h1 : 65 ≤ (c.toNat : Int)) (h2 : (c.toNat : Int) ≤ 90) :
    Calls Try.prog 9 #[.int .u8 (c.toNat : Int)] w fun e w' => e = .returned (.bool true) ∧ Below w.heap.size w w' := by
  have hc : cls c = 1 := by unfold cls; rw [if_pos (by omega)]
  have k1 : ∀ W : World, Calls Try.prog 11 #[.slice (some ⟨W.heap.size, 0, none⟩) 1 1] (W.alloc (.cells #[.int .u8 (c.toNat : Int)] 5)) fun e w' => ∃ v, e = .returned (.tuple #[v, .int .i64 0, .int .i64 0]) ∧ Own w' (W.heap.size + 1) v [⟨1, [c], 1⟩, ⟨3, [], 1⟩] ∧ Below W.heap.size W w' := fun W => by
    have := lex_new [c] #[.int .u8 (c.toNat : Int)] 1 W rfl (by omega) rfl
    rw [lex_one1 hc] at this
    exact this
  have k2 : ∀ W : World, Calls Try.prog 11 #[.slice (some ⟨W.heap.size, 0, none⟩) 3 3] (W.alloc (.cells #[.int .u8 97, .int .u8 (c.toNat : Int), .int .u8 98] 5)) fun e w' => ∃ v, e = .returned (.tuple #[v, .int .i64 0, .int .i64 0]) ∧ Own w' (W.heap.size + 1) v [⟨1, [97, c, 98], 1⟩, ⟨3, [], 1⟩] ∧ Below W.heap.size W w' := fun W => by
    have := lex_new [97, c, 98] #[.int .u8 97, .int .u8 (c.toNat : Int), .int .u8 98] 3 W rfl (by omega) rfl
    rw [lex_ab1 hc] at this
    exact this
  obtain ⟨n3, hn3⟩ : ∃ n : Nat, (lexF [49, c, 50]).2.1 = n := ⟨_, rfl⟩
  obtain ⟨t3, ht3⟩ : ∃ t : List Tok, (lexF [49, c, 50]).1 = t := ⟨_, rfl⟩
  have k3 : ∀ W : World, Calls Try.prog 11 #[.slice (some ⟨W.heap.size, 0, none⟩) 3 3] (W.alloc (.cells #[.int .u8 49, .int .u8 (c.toNat : Int), .int .u8 50] 5)) fun e w' => ∃ v, e = .returned (.tuple #[v, .int .i64 n3, .int .i64 2]) ∧ Own w' (W.heap.size + 1) v t3 ∧ Below W.heap.size W w' := fun W => by
    have := lex_new [49, c, 50] #[.int .u8 49, .int .u8 (c.toNat : Int), .int .u8 50] 3 W rfl (by omega) rfl
    rw [lex_12_0 (.inr hc), hn3, ht3] at this
    exact this
  clear hn3 ht3
  have e32 : ((c.toNat : Int) == 32) = false := beq_eq_false_iff_ne.2 (by omega)
  have e9 : ((c.toNat : Int) == 9) = false := beq_eq_false_iff_ne.2 (by omega)
  have e13 : ((c.toNat : Int) == 13) = false := beq_eq_false_iff_ne.2 (by omega)
  have e10 : ((c.toNat : Int) == 10) = false := beq_eq_false_iff_ne.2 (by omega)
  have e35 : ((c.toNat : Int) == 35) = false := beq_eq_false_iff_ne.2 (by omega)
  clear hc
  go_enter Try.func9, Try.ntmps9
  go_wp2_with (first | (go_at_call 10; refine (shown_any _).mono ?_; rintro e w1 ⟨rfl, hb1⟩) | (go_at_call 11; refine (k1 _).mono ?_; rintro e w2 ⟨v, rfl, ho, hb2⟩; refine Hid.out ?_))
  obtain ⟨g, cap, rfl, hg1, hg2⟩ := ho.form (by simp)
  have c0 : w2.cell? ⟨g, 0, none⟩ = some (.int .i64 1) := (Own.cellsAt ho 0 (by simp)).1
  have c1 : w2.cell? ⟨g, 1, none⟩ = some (.string ⟨#[c]⟩) := (Own.cellsAt ho 0 (by simp)).2.1
  have c3 : w2.cell? ⟨g, 3, none⟩ = some (.int .i64 3) := (Own.cellsAt ho 1 (by simp)).1
  have HB : Hid (Below w.heap.size w w2) := hb1.trans (hb2.mono hb1.size)
  clear ho hb1 hb2 k1
  refine hide_it ?_
  go_wp2_with fail
  have hcv := conv_one c
  go_region
  generalize hw3 : (w2.alloc (Obj.cells #[Value.int IntKind.u8 ↑c.toNat] 5)).drew = w3
  have HB3 : Hid (Below w.heap.size w w3) := by rw [← hw3]; exact (HB.out.alloc HB.out.size _).drew
  clear hw3 c0 c1 c3 hcv
  go_wp2_with (go_at_call 11; refine (k2 _).mono ?_; rintro e w4 ⟨v4, rfl, ho4, hb4⟩; refine Hid.out ?_)
  obtain ⟨g4, cap4, rfl, hg41, hg42⟩ := ho4.form (by simp)
  have HO4 : Hid (Own w4 _ _ _) := ho4
  have HB4 : Hid (Below w.heap.size w w4) := HB3.out.trans (hb4.mono HB3.out.size)
  clear ho4 hb4 k2
  refine hide_it ?_
  go_wp2_with (go_at_call 11; refine (k3 _).mono ?_; rintro e w5 ⟨v5, rfl, ho5, hb5⟩; refine Hid.out ?_)
  have c41 : w5.cell? ⟨g4, 1, none⟩ = some (.string ⟨#[97, c, 98]⟩) := (Own.cellsAt (HO4.out.later hb5) 0 (by simp)).2.1
  have HB5 : Hid (Below w.heap.size w w5) := HB4.out.trans (hb5.mono HB4.out.size)
  clear ho5 hb5 k3
  refine hide_it ?_
  go_wp2
  go_ret
  exact ⟨rfl, HB5.out⟩

set_option maxRecDepth 1000000 in
set_option maxHeartbeats 4000000 in
theorem bytes_dig (c : UInt8) (w : World) (h1 : 48 ≤ (c.toNat : Int)) (h2 : (c.toNat : Int) ≤ 57) :
    Calls Try.prog 9 #[.int .u8 (c.toNat : Int)] w fun e w' => e = .returned (.bool true) ∧ Below w.heap.size w w' := by
  have hc : cls c = 2 := by unfold cls; rw [if_neg (by omega), if_pos (by omega)]
  have k1 : ∀ W : World, Calls Try.prog 11 #[.slice (some ⟨W.heap.size, 0, none⟩) 1 1] (W.alloc (.cells #[.int .u8 (c.toNat : Int)] 5)) fun e w' => ∃ v, e = .returned (.tuple #[v, .int .i64 0, .int .i64 0]) ∧ Own w' (W.heap.size + 1) v [⟨2, [c], 1⟩, ⟨3, [], 1⟩] ∧ Below W.heap.size W w' := fun W => by
    have := lex_new [c] #[.int .u8 (c.toNat : Int)] 1 W rfl (by omega) rfl
    rw [lex_one2 hc] at this
    exact this
  obtain ⟨n2, hn2⟩ : ∃ n : Nat, (lexF [97, c, 98]).2.1 = n := ⟨_, rfl⟩
  obtain ⟨t2, ht2⟩ : ∃ t : List Tok, (lexF [97, c, 98]).1 = t := ⟨_, rfl⟩
  have k2 : ∀ W : World, Calls Try.prog 11 #[.slice (some ⟨W.heap.size, 0, none⟩) 3 3] (W.alloc (.cells #[.int .u8 97, .int .u8 (c.toNat : Int), .int .u8 98] 5)) fun e w' => ∃ v, e = .returned (.tuple #[v, .int .i64 n2, .int .i64 2]) ∧ Own w' (W.heap.size + 1) v t2 ∧ Below W.heap.size W w' := fun W => by
    have := lex_new [97, c, 98] #[.int .u8 97, .int .u8 (c.toNat : Int), .int .u8 98] 3 W rfl (by omega) rfl
    rw [lex_ab0 (.inr hc), hn2, ht2] at this
    exact this
  clear hn2 ht2
  have k3 : ∀ W : World, Calls Try.prog 11 #[.slice (some ⟨W.heap.size, 0, none⟩) 3 3] (W.alloc (.cells #[.int .u8 49, .int .u8 (c.toNat : Int), .int .u8 50] 5)) fun e w' => ∃ v, e = .returned (.tuple #[v, .int .i64 0, .int .i64 0]) ∧ Own w' (W.heap.size + 1) v [⟨2, [49, c, 50], 1⟩, ⟨3, [], 1⟩] ∧ Below W.heap.size W w' := fun W => by
    have := lex_new [49, c, 50] #[.int .u8 49, .int .u8 (c.toNat : Int), .int .u8 50] 3 W rfl (by omega) rfl
    rw [lex_12_2 hc] at this
    exact this
  have e32 : ((c.toNat : Int) == 32) = false := beq_eq_false_iff_ne.2 (by omega)
  have e9 : ((c.toNat : Int) == 9) = false := beq_eq_false_iff_ne.2 (by omega)
  have e13 : ((c.toNat : Int) == 13) = false := beq_eq_false_iff_ne.2 (by omega)
  have e10 : ((c.toNat : Int) == 10) = false := beq_eq_false_iff_ne.2 (by omega)
  have e35 : ((c.toNat : Int) == 35) = false := beq_eq_false_iff_ne.2 (by omega)
  clear hc
  go_enter Try.func9, Try.ntmps9
  go_wp2_with (first | (go_at_call 10; refine (shown_any _).mono ?_; rintro e w1 ⟨rfl, hb1⟩) | (go_at_call 11; refine (k1 _).mono ?_; rintro e w2 ⟨v, rfl, ho, hb2⟩; refine Hid.out ?_))
  obtain ⟨g, cap, rfl, hg1, hg2⟩ := ho.form (by simp)
  have c0 : w2.cell? ⟨g, 0, none⟩ = some (.int .i64 2) := (Own.cellsAt ho 0 (by simp)).1
  have c1 : w2.cell? ⟨g, 1, none⟩ = some (.string ⟨#[c]⟩) := (Own.cellsAt ho 0 (by simp)).2.1
  have c3 : w2.cell? ⟨g, 3, none⟩ = some (.int .i64 3) := (Own.cellsAt ho 1 (by simp)).1
  have HB : Hid (Below w.heap.size w w2) := hb1.trans (hb2.mono hb1.size)
  clear ho hb1 hb2 k1
  refine hide_it ?_
  go_wp2_with fail
  have hcv := conv_one c
  go_region
  generalize hw3 : (w2.alloc (Obj.cells #[Value.int IntKind.u8 ↑c.toNat] 5)).drew = w3
  have HB3 : Hid (Below w.heap.size w w3) := by rw [← hw3]; exact (HB.out.alloc HB.out.size _).drew
  clear hw3 c0 c1 c3 hcv
  go_wp2_with (go_at_call 11; refine (k2 _).mono ?_; rintro e w4 ⟨v4, rfl, ho4, hb4⟩; refine Hid.out ?_)
  have HB4 : Hid (Below w.heap.size w w4) := HB3.out.trans (hb4.mono HB3.out.size)
  clear ho4 hb4 k2
  refine hide_it ?_
  go_wp2_with (go_at_call 11; refine (k3 _).mono ?_; rintro e w5 ⟨v5, rfl, ho5, hb5⟩; refine Hid.out ?_)
  obtain ⟨g5, cap5, rfl, hg51, hg52⟩ := ho5.form (by simp)
  have c51 : w5.cell? ⟨g5, 1, none⟩ = some (.string ⟨#[49, c, 50]⟩) := (Own.cellsAt ho5 0 (by simp)).2.1
  have HB5 : Hid (Below w.heap.size w w5) := HB4.out.trans (hb5.mono HB4.out.size)
  clear ho5 hb5 k3
  refine hide_it ?_
  go_wp2
  go_ret
  exact ⟨rfl, HB5.out⟩

set_option maxRecDepth 1000000 in
set_option maxHeartbeats 4000000 in
theorem bytes_b32 (c : UInt8) (w : World) (h1 : 32 ≤ (c.toNat : Int)) (h2 : (c.toNat : Int) ≤ 32) :
    Calls Try.prog 9 #[.int .u8 (c.toNat : Int)] w fun e w' => e = .returned (.bool true) ∧ Below w.heap.size w w' := by
  have hc : cls c = 3 := by unfold cls; rw [if_neg (by omega), if_neg (by omega), if_pos (by omega)]
  have k1 : ∀ W : World, Calls Try.prog 11 #[.slice (some ⟨W.heap.size, 0, none⟩) 1 1] (W.alloc (.cells #[.int .u8 (c.toNat : Int)] 5)) fun e w' => ∃ v, e = .returned (.tuple #[v, .int .i64 0, .int .i64 0]) ∧ Own w' (W.heap.size + 1) v [] ∧ Below W.heap.size W w' := fun W => by
    have := lex_new [c] #[.int .u8 (c.toNat : Int)] 1 W rfl (by omega) rfl
    rw [lex_one3 (.inl hc)] at this
    exact this
  obtain ⟨n2, hn2⟩ : ∃ n : Nat, (lexF [97, c, 98]).2.1 = n := ⟨_, rfl⟩
  obtain ⟨t2, ht2⟩ : ∃ t : List Tok, (lexF [97, c, 98]).1 = t := ⟨_, rfl⟩
  have k2 : ∀ W : World, Calls Try.prog 11 #[.slice (some ⟨W.heap.size, 0, none⟩) 3 3] (W.alloc (.cells #[.int .u8 97, .int .u8 (c.toNat : Int), .int .u8 98] 5)) fun e w' => ∃ v, e = .returned (.tuple #[v, .int .i64 n2, .int .i64 0]) ∧ Own w' (W.heap.size + 1) v t2 ∧ Below W.heap.size W w' := fun W => by
    have := lex_new [97, c, 98] #[.int .u8 97, .int .u8 (c.toNat : Int), .int .u8 98] 3 W rfl (by omega) rfl
    rw [lex_ab3 (.inl hc), hn2, ht2] at this
    exact this
  clear hn2 ht2
  obtain ⟨n3, hn3⟩ : ∃ n : Nat, (lexF [49, c, 50]).2.1 = n := ⟨_, rfl⟩
  obtain ⟨t3, ht3⟩ : ∃ t : List Tok, (lexF [49, c, 50]).1 = t := ⟨_, rfl⟩
  have k3 : ∀ W : World, Calls Try.prog 11 #[.slice (some ⟨W.heap.size, 0, none⟩) 3 3] (W.alloc (.cells #[.int .u8 49, .int .u8 (c.toNat : Int), .int .u8 50] 5)) fun e w' => ∃ v, e = .returned (.tuple #[v, .int .i64 n3, .int .i64 0]) ∧ Own w' (W.heap.size + 1) v t3 ∧ Below W.heap.size W w' := fun W => by
    have := lex_new [49, c, 50] #[.int .u8 49, .int .u8 (c.toNat : Int), .int .u8 50] 3 W rfl (by omega) rfl
    rw [lex_12_3 (.inl hc), hn3, ht3] at this
    exact this
  clear hn3 ht3
  have e32 : ((c.toNat : Int) == 32) = true := beq_iff_eq.2 (by omega)
  have e9 : ((c.toNat : Int) == 9) = false := beq_eq_false_iff_ne.2 (by omega)
  have e13 : ((c.toNat : Int) == 13) = false := beq_eq_false_iff_ne.2 (by omega)
  have e10 : ((c.toNat : Int) == 10) = false := beq_eq_false_iff_ne.2 (by omega)
  have e35 : ((c.toNat : Int) == 35) = false := beq_eq_false_iff_ne.2 (by omega)
  clear hc
  go_enter Try.func9, Try.ntmps9
  go_wp2_with (first | (go_at_call 10; refine (shown_any _).mono ?_; rintro e w1 ⟨rfl, hb1⟩) | (go_at_call 11; refine (k1 _).mono ?_; rintro e w2 ⟨v, rfl, ho, hb2⟩; refine Hid.out ?_))
  obtain ⟨a, cap, rfl⟩ := own_len ho
  have HB3 : Hid (Below w.heap.size w w2) := hb1.trans (hb2.mono hb1.size)
  clear ho hb1 hb2 k1
  refine hide_it ?_
  go_wp2_with (go_at_call 11; refine (k2 _).mono ?_; rintro e w4 ⟨v4, rfl, ho4, hb4⟩; refine Hid.out ?_)
  have HB4 : Hid (Below w.heap.size w w4) := HB3.out.trans (hb4.mono HB3.out.size)
  clear ho4 hb4 k2
  refine hide_it ?_
  go_wp2_with (go_at_call 11; refine (k3 _).mono ?_; rintro e w5 ⟨v5, rfl, ho5, hb5⟩; refine Hid.out ?_)
  have HB5 : Hid (Below w.heap.size w w5) := HB4.out.trans (hb5.mono HB4.out.size)
  clear ho5 hb5 k3
  refine hide_it ?_
  go_wp2
  go_ret
  exact ⟨rfl, HB5.out⟩

set_option maxRecDepth 1000000 in
set_option maxHeartbeats 4000000 in
theorem bytes_b9 (c : UInt8) (w : World) (h1 : 9 ≤ (c.toNat : Int)) (h2 : (c.toNat : Int) ≤ 9) :
    Calls Try.prog 9 #[.int .u8 (c.toNat : Int)] w fun e w' => e = .returned (.bool true) ∧ Below w.heap.size w w' := by
  have hc : cls c = 3 := by unfold cls; rw [if_neg (by omega), if_neg (by omega), if_pos (by omega)]
  have k1 : ∀ W : World, Calls Try.prog 11 #[.slice (some ⟨W.heap.size, 0, none⟩) 1 1] (W.alloc (.cells #[.int .u8 (c.toNat : Int)] 5)) fun e w' => ∃ v, e = .returned (.tuple #[v, .int .i64 0, .int .i64 0]) ∧ Own w' (W.heap.size + 1) v [] ∧ Below W.heap.size W w' := fun W => by
    have := lex_new [c] #[.int .u8 (c.toNat : Int)] 1 W rfl (by omega) rfl
    rw [lex_one3 (.inl hc)] at this
    exact this
  obtain ⟨n2, hn2⟩ : ∃ n : Nat, (lexF [97, c, 98]).2.1 = n := ⟨_, rfl⟩
  obtain ⟨t2, ht2⟩ : ∃ t : List Tok, (lexF [97, c, 98]).1 = t := ⟨_, rfl⟩
  have k2 : ∀ W : World, Calls Try.prog 11 #[.slice (some ⟨W.heap.size, 0, none⟩) 3 3] (W.alloc (.cells #[.int .u8 97, .int .u8 (c.toNat : Int), .int .u8 98] 5)) fun e w' => ∃ v, e = .returned (.tuple #[v, .int .i64 n2, .int .i64 0]) ∧ Own w' (W.heap.size + 1) v t2 ∧ Below W.heap.size W w' := fun W => by
    have := lex_new [97, c, 98] #[.int .u8 97, .int .u8 (c.toNat : Int), .int .u8 98] 3 W rfl (by omega) rfl
    rw [lex_ab3 (.inl hc), hn2, ht2] at this
    exact this
  clear hn2 ht2
  obtain ⟨n3, hn3⟩ : ∃ n : Nat, (lexF [49, c, 50]).2.1 = n := ⟨_, rfl⟩
  obtain ⟨t3, ht3⟩ : ∃ t : List Tok, (lexF [49, c, 50]).1 = t := ⟨_, rfl⟩
  have k3 : ∀ W : World, Calls Try.prog 11 #[.slice (some ⟨W.heap.size, 0, none⟩) 3 3] (W.alloc (.cells #[.int .u8 49, .int .u8 (c.toNat : Int), .int .u8 50] 5)) fun e w' => ∃ v, e = .returned (.tuple #[v, .int .i64 n3, .int .i64 0]) ∧ Own w' (W.heap.size + 1) v t3 ∧ Below W.heap.size W w' := fun W => by
    have := lex_new [49, c, 50] #[.int .u8 49, .int .u8 (c.toNat : Int), .int .u8 50] 3 W rfl (by omega) rfl
    rw [lex_12_3 (.inl hc), hn3, ht3] at this
    exact this
  clear hn3 ht3
  have e32 : ((c.toNat : Int) == 32) = false := beq_eq_false_iff_ne.2 (by omega)
  have e9 : ((c.toNat : Int) == 9) = true := beq_iff_eq.2 (by omega)
  have e13 : ((c.toNat : Int) == 13) = false := beq_eq_false_iff_ne.2 (by omega)
  have e10 : ((c.toNat : Int) == 10) = false := beq_eq_false_iff_ne.2 (by omega)
  have e35 : ((c.toNat : Int) == 35) = false := beq_eq_false_iff_ne.2 (by omega)
  clear hc
  go_enter Try.func9, Try.ntmps9
  go_wp2_with (first | (go_at_call 10; refine (shown_any _).mono ?_; rintro e w1 ⟨rfl, hb1⟩) | (go_at_call 11; refine (k1 _).mono ?_; rintro e w2 ⟨v, rfl, ho, hb2⟩; refine Hid.out ?_))
  obtain ⟨a, cap, rfl⟩ := own_len ho
  have HB3 : Hid (Below w.heap.size w w2) := hb1.trans (hb2.mono hb1.size)
  clear ho hb1 hb2 k1
  refine hide_it ?_
  go_wp2_with (go_at_call 11; refine (k2 _).mono ?_; rintro e w4 ⟨v4, rfl, ho4, hb4⟩; refine Hid.out ?_)
  have HB4 : Hid (Below w.heap.size w w4) := HB3.out.trans (hb4.mono HB3.out.size)
  clear ho4 hb4 k2
  refine hide_it ?_
  go_wp2_with (go_at_call 11; refine (k3 _).mono ?_; rintro e w5 ⟨v5, rfl, ho5, hb5⟩; refine Hid.out ?_)
  have HB5 : Hid (Below w.heap.size w w5) := HB4.out.trans (hb5.mono HB4.out.size)
  clear ho5 hb5 k3
  refine hide_it ?_
  go_wp2
  go_ret
  exact ⟨rfl, HB5.out⟩

set_option maxRecDepth 1000000 in
set_option maxHeartbeats 4000000 in
theorem bytes_b13 (c : UInt8) (w : World) (h1 : 13 ≤ (c.toNat : Int)) (h2 : (c.toNat : Int) ≤ 13) :
    Calls Try.prog 9 #[.int .u8 (c.toNat : Int)] w fun e w' => e = .returned (.bool true) ∧ Below w.heap.size w w' := by
  have hc : cls c = 3 := by unfold cls; rw [if_neg (by omega), if_neg (by omega), if_pos (by omega)]
  have k1 : ∀ W : World, Calls Try.prog 11 #[.slice (some ⟨W.heap.size, 0, none⟩) 1 1] (W.alloc (.cells #[.int .u8 (c.toNat : Int)] 5)) fun e w' => ∃ v, e = .returned (.tuple #[v, .int .i64 0, .int .i64 0]) ∧ Own w' (W.heap.size + 1) v [] ∧ Below W.heap.size W w' := fun W => by
    have := lex_new [c] #[.int .u8 (c.toNat : Int)] 1 W rfl (by omega) rfl
    rw [lex_one3 (.inl hc)] at this
    exact this
  obtain ⟨n2, hn2⟩ : ∃ n : Nat, (lexF [97, c, 98]).2.1 = n := ⟨_, rfl⟩
  obtain ⟨t2, ht2⟩ : ∃ t : List Tok, (lexF [97, c, 98]).1 = t := ⟨_, rfl⟩
  have k2 : ∀ W : World, Calls Try.prog 11 #[.slice (some ⟨W.heap.size, 0, none⟩) 3 3] (W.alloc (.cells #[.int .u8 97, .int .u8 (c.toNat : Int), .int .u8 98] 5)) fun e w' => ∃ v, e = .returned (.tuple #[v, .int .i64 n2, .int .i64 0]) ∧ Own w' (W.heap.size + 1) v t2 ∧ Below W.heap.size W w' := fun W => by
    have := lex_new [97, c, 98] #[.int .u8 97, .int .u8 (c.toNat : Int), .int .u8 98] 3 W rfl (by omega) rfl
    rw [lex_ab3 (.inl hc), hn2, ht2] at this
    exact this
  clear hn2 ht2
  obtain ⟨n3, hn3⟩ : ∃ n : Nat, (lexF [49, c, 50]).2.1 = n := ⟨_, rfl⟩
  obtain ⟨t3, ht3⟩ : ∃ t : List Tok, (lexF [49, c, 50]).1 = t := ⟨_, rfl⟩
  have k3 : ∀ W : World, Calls Try.prog 11 #[.slice (some ⟨W.heap.size, 0, none⟩) 3 3] (W.alloc (.cells #[.int .u8 49, .int .u8 (c.toNat : Int), .int .u8 50] 5)) fun e w' => ∃ v, e = .returned (.tuple #[v, .int .i64 n3, .int .i64 0]) ∧ Own w' (W.heap.size + 1) v t3 ∧ Below W.heap.size W w' := fun W => by
    have := lex_new [49, c, 50] #[.int .u8 49, .int .u8 (c.toNat : Int), .int .u8 50] 3 W rfl (by omega) rfl
    rw [lex_12_3 (.inl hc), hn3, ht3] at this
    exact this
  clear hn3 ht3
  have e32 : ((c.toNat : Int) == 32) = false := beq_eq_false_iff_ne.2 (by omega)
  have e9 : ((c.toNat : Int) == 9) = false := beq_eq_false_iff_ne.2 (by omega)
  have e13 : ((c.toNat : Int) == 13) = true := beq_iff_eq.2 (by omega)
  have e10 : ((c.toNat : Int) == 10) = false := beq_eq_false_iff_ne.2 (by omega)
  have e35 : ((c.toNat : Int) == 35) = false := beq_eq_false_iff_ne.2 (by omega)
  clear hc
  go_enter Try.func9, Try.ntmps9
  go_wp2_with (first | (go_at_call 10; refine (shown_any _).mono ?_; rintro e w1 ⟨rfl, hb1⟩) | (go_at_call 11; refine (k1 _).mono ?_; rintro e w2 ⟨v, rfl, ho, hb2⟩; refine Hid.out ?_))
  obtain ⟨a, cap, rfl⟩ := own_len ho
  have HB3 : Hid (Below w.heap.size w w2) := hb1.trans (hb2.mono hb1.size)
  clear ho hb1 hb2 k1
  refine hide_it ?_
  go_wp2_with (go_at_call 11; refine (k2 _).mono ?_; rintro e w4 ⟨v4, rfl, ho4, hb4⟩; refine Hid.out ?_)
  have HB4 : Hid (Below w.heap.size w w4) := HB3.out.trans (hb4.mono HB3.out.size)
  clear ho4 hb4 k2
  refine hide_it ?_
  go_wp2_with (go_at_call 11; refine (k3 _).mono ?_; rintro e w5 ⟨v5, rfl, ho5, hb5⟩; refine Hid.out ?_)
  have HB5 : Hid (Below w.heap.size w w5) := HB4.out.trans (hb5.mono HB4.out.size)
  clear ho5 hb5 k3
  refine hide_it ?_
  go_wp2
  go_ret
  exact ⟨rfl, HB5.out⟩

set_option maxRecDepth 1000000 in
set_option maxHeartbeats 4000000 in
theorem bytes_hash (c : UInt8) (w : World) (h1 : 35 ≤ (c.toNat : Int)) (h2 : (c.toNat : Int) ≤ 35) :
    Calls Try.prog 9 #[.int .u8 (c.toNat : Int)] w fun e w' => e = .returned (.bool true) ∧ Below w.heap.size w w' := by
  have hc : cls c = 4 := by unfold cls; rw [if_neg (by omega), if_neg (by omega), if_neg (by omega), if_pos (by omega)]
  have k1 : ∀ W : World, Calls Try.prog 11 #[.slice (some ⟨W.heap.size, 0, none⟩) 1 1] (W.alloc (.cells #[.int .u8 (c.toNat : Int)] 5)) fun e w' => ∃ v, e = .returned (.tuple #[v, .int .i64 0, .int .i64 0]) ∧ Own w' (W.heap.size + 1) v [] ∧ Below W.heap.size W w' := fun W => by
    have := lex_new [c] #[.int .u8 (c.toNat : Int)] 1 W rfl (by omega) rfl
    rw [lex_one3 (.inr (.inl hc))] at this
    exact this
  obtain ⟨n2, hn2⟩ : ∃ n : Nat, (lexF [97, c, 98]).2.1 = n := ⟨_, rfl⟩
  obtain ⟨t2, ht2⟩ : ∃ t : List Tok, (lexF [97, c, 98]).1 = t := ⟨_, rfl⟩
  have k2 : ∀ W : World, Calls Try.prog 11 #[.slice (some ⟨W.heap.size, 0, none⟩) 3 3] (W.alloc (.cells #[.int .u8 97, .int .u8 (c.toNat : Int), .int .u8 98] 5)) fun e w' => ∃ v, e = .returned (.tuple #[v, .int .i64 n2, .int .i64 0]) ∧ Own w' (W.heap.size + 1) v t2 ∧ Below W.heap.size W w' := fun W => by
    have := lex_new [97, c, 98] #[.int .u8 97, .int .u8 (c.toNat : Int), .int .u8 98] 3 W rfl (by omega) rfl
    rw [lex_ab3 (.inr (.inl hc)), hn2, ht2] at this
    exact this
  clear hn2 ht2
  obtain ⟨n3, hn3⟩ : ∃ n : Nat, (lexF [49, c, 50]).2.1 = n := ⟨_, rfl⟩
  obtain ⟨t3, ht3⟩ : ∃ t : List Tok, (lexF [49, c, 50]).1 = t := ⟨_, rfl⟩
  have k3 : ∀ W : World, Calls Try.prog 11 #[.slice (some ⟨W.heap.size, 0, none⟩) 3 3] (W.alloc (.cells #[.int .u8 49, .int .u8 (c.toNat : Int), .int .u8 50] 5)) fun e w' => ∃ v, e = .returned (.tuple #[v, .int .i64 n3, .int .i64 0]) ∧ Own w' (W.heap.size + 1) v t3 ∧ Below W.heap.size W w' := fun W => by
    have := lex_new [49, c, 50] #[.int .u8 49, .int .u8 (c.toNat : Int), .int .u8 50] 3 W rfl (by omega) rfl
    rw [lex_12_3 (.inr (.inl hc)), hn3, ht3] at this
    exact this
  clear hn3 ht3
  have e32 : ((c.toNat : Int) == 32) = false := beq_eq_false_iff_ne.2 (by omega)
  have e9 : ((c.toNat : Int) == 9) = false := beq_eq_false_iff_ne.2 (by omega)
  have e13 : ((c.toNat : Int) == 13) = false := beq_eq_false_iff_ne.2 (by omega)
  have e10 : ((c.toNat : Int) == 10) = false := beq_eq_false_iff_ne.2 (by omega)
  have e35 : ((c.toNat : Int) == 35) = true := beq_iff_eq.2 (by omega)
  clear hc
  go_enter Try.func9, Try.ntmps9
  go_wp2_with (first | (go_at_call 10; refine (shown_any _).mono ?_; rintro e w1 ⟨rfl, hb1⟩) | (go_at_call 11; refine (k1 _).mono ?_; rintro e w2 ⟨v, rfl, ho, hb2⟩; refine Hid.out ?_))
  obtain ⟨a, cap, rfl⟩ := own_len ho
  have HB3 : Hid (Below w.heap.size w w2) := hb1.trans (hb2.mono hb1.size)
  clear ho hb1 hb2 k1
  refine hide_it ?_
  go_wp2_with (go_at_call 11; refine (k2 _).mono ?_; rintro e w4 ⟨v4, rfl, ho4, hb4⟩; refine Hid.out ?_)
  have HB4 : Hid (Below w.heap.size w w4) := HB3.out.trans (hb4.mono HB3.out.size)
  clear ho4 hb4 k2
  refine hide_it ?_
  go_wp2_with (go_at_call 11; refine (k3 _).mono ?_; rintro e w5 ⟨v5, rfl, ho5, hb5⟩; refine Hid.out ?_)
  have HB5 : Hid (Below w.heap.size w w5) := HB4.out.trans (hb5.mono HB4.out.size)
  clear ho5 hb5 k3
  refine hide_it ?_
  go_wp2
  go_ret
  exact ⟨rfl, HB5.out⟩

set_option maxRecDepth 1000000 in
set_option maxHeartbeats 4000000 in
theorem bytes_nl (c : UInt8) (w : World) (h1 : 10 ≤ (c.toNat : Int)) (h2 : (c.toNat : Int) ≤ 10) :
    Calls Try.prog 9 #[.int .u8 (c.toNat : Int)] w fun e w' => e = .returned (.bool true) ∧ Below w.heap.size w w' := by
  have hc : cls c = 5 := by unfold cls; rw [if_neg (by omega), if_neg (by omega), if_neg (by omega), if_neg (by omega), if_pos (by omega)]
  have k1 : ∀ W : World, Calls Try.prog 11 #[.slice (some ⟨W.heap.size, 0, none⟩) 1 1] (W.alloc (.cells #[.int .u8 (c.toNat : Int)] 5)) fun e w' => ∃ v, e = .returned (.tuple #[v, .int .i64 0, .int .i64 0]) ∧ Own w' (W.heap.size + 1) v [] ∧ Below W.heap.size W w' := fun W => by
    have := lex_new [c] #[.int .u8 (c.toNat : Int)] 1 W rfl (by omega) rfl
    rw [lex_one3 (.inr (.inr hc))] at this
    exact this
  obtain ⟨n2, hn2⟩ : ∃ n : Nat, (lexF [97, c, 98]).2.1 = n := ⟨_, rfl⟩
  obtain ⟨t2, ht2⟩ : ∃ t : List Tok, (lexF [97, c, 98]).1 = t := ⟨_, rfl⟩
  have k2 : ∀ W : World, Calls Try.prog 11 #[.slice (some ⟨W.heap.size, 0, none⟩) 3 3] (W.alloc (.cells #[.int .u8 97, .int .u8 (c.toNat : Int), .int .u8 98] 5)) fun e w' => ∃ v, e = .returned (.tuple #[v, .int .i64 n2, .int .i64 0]) ∧ Own w' (W.heap.size + 1) v t2 ∧ Below W.heap.size W w' := fun W => by
    have := lex_new [97, c, 98] #[.int .u8 97, .int .u8 (c.toNat : Int), .int .u8 98] 3 W rfl (by omega) rfl
    rw [lex_ab3 (.inr (.inr hc)), hn2, ht2] at this
    exact this
  clear hn2 ht2
  obtain ⟨n3, hn3⟩ : ∃ n : Nat, (lexF [49, c, 50]).2.1 = n := ⟨_, rfl⟩
  obtain ⟨t3, ht3⟩ : ∃ t : List Tok, (lexF [49, c, 50]).1 = t := ⟨_, rfl⟩
  have k3 : ∀ W : World, Calls Try.prog 11 #[.slice (some ⟨W.heap.size, 0, none⟩) 3 3] (W.alloc (.cells #[.int .u8 49, .int .u8 (c.toNat : Int), .int .u8 50] 5)) fun e w' => ∃ v, e = .returned (.tuple #[v, .int .i64 n3, .int .i64 0]) ∧ Own w' (W.heap.size + 1) v t3 ∧ Below W.heap.size W w' := fun W => by
    have := lex_new [49, c, 50] #[.int .u8 49, .int .u8 (c.toNat : Int), .int .u8 50] 3 W rfl (by omega) rfl
    rw [lex_12_3 (.inr (.inr hc)), hn3, ht3] at this
    exact this
  clear hn3 ht3
  have e32 : ((c.toNat : Int) == 32) = false := beq_eq_false_iff_ne.2 (by omega)
  have e9 : ((c.toNat : Int) == 9) = false := beq_eq_false_iff_ne.2 (by omega)
  have e13 : ((c.toNat : Int) == 13) = false := beq_eq_false_iff_ne.2 (by omega)
  have e10 : ((c.toNat : Int) == 10) = true := beq_iff_eq.2 (by omega)
  have e35 : ((c.toNat : Int) == 35) = false := beq_eq_false_iff_ne.2 (by omega)
  clear hc
  go_enter Try.func9, Try.ntmps9
  go_wp2_with (first | (go_at_call 10; refine (shown_any _).mono ?_; rintro e w1 ⟨rfl, hb1⟩) | (go_at_call 11; refine (k1 _).mono ?_; rintro e w2 ⟨v, rfl, ho, hb2⟩; refine Hid.out ?_))
  obtain ⟨a, cap, rfl⟩ := own_len ho
  have HB3 : Hid (Below w.heap.size w w2) := hb1.trans (hb2.mono hb1.size)
  clear ho hb1 hb2 k1
  refine hide_it ?_
  go_wp2_with (go_at_call 11; refine (k2 _).mono ?_; rintro e w4 ⟨v4, rfl, ho4, hb4⟩; refine Hid.out ?_)
  have HB4 : Hid (Below w.heap.size w w4) := HB3.out.trans (hb4.mono HB3.out.size)
  clear ho4 hb4 k2
  refine hide_it ?_
  go_wp2_with (go_at_call 11; refine (k3 _).mono ?_; rintro e w5 ⟨v5, rfl, ho5, hb5⟩; refine Hid.out ?_)
  have HB5 : Hid (Below w.heap.size w w5) := HB4.out.trans (hb5.mono HB4.out.size)
  clear ho5 hb5 k3
  refine hide_it ?_
  go_wp2
  go_ret
  exact ⟨rfl, HB5.out⟩

end Go.Proofs.Ytlbiiffjodllnaa
