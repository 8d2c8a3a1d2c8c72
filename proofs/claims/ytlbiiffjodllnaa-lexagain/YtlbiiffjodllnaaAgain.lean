/- LexAgain: what tokens say is read as they are. -/
import Derived.Test.YtlbiiffjodllnaaJoined
namespace Go.Proofs.Ytlbiiffjodllnaa
open Go.RowKit
open M
set_option linter.unusedVariables false

/-- How many lines end among tokens. -/
def endsIn (ts : List Tok) : Nat := (ts.filter (fun t => t.kind == 3)).length
theorem endsIn_snoc {ts : List Tok} {k : Nat} (h : k < ts.length) : endsIn (ts.take (k + 1)) = endsIn (ts.take k) + if ts[k].kind = 3 then 1 else 0 := by
  unfold endsIn
  rw [List.take_succ_eq_append_getElem h, List.filter_append]
  by_cases e : ts[k].kind = 3 <;> simp [e]
theorem endsIn_le (ts : List Tok) (k : Nat) : endsIn (ts.take k) ≤ k := by
  unfold endsIn
  have h1 := List.length_filter_le (fun t : Tok => t.kind == 3) (ts.take k)
  have h2 := List.length_take_le k ts
  omega
theorem renum_len : ∀ (ts : List Tok) (l : Nat), (renum l ts).length = ts.length := by
  intro ts
  induction ts with
  | nil => intro l; rfl
  | cons t ts ih => intro l; simp [renum, ih]
theorem renum_at : ∀ (ts : List Tok) (l i : Nat) (h : i < ts.length), (renum l ts)[i]'(by rw [renum_len]; exact h) = ⟨ts[i].kind, ts[i].text, l + endsIn (ts.take i)⟩ := by
  intro ts
  induction ts with
  | nil => intro l i h; simp at h
  | cons t ts ih =>
    intro l i h
    cases i with
    | zero => simp [renum, endsIn]
    | succ i =>
      have h' : i < ts.length := by simpa using h
      have := ih (if t.kind = 3 then l + 1 else l) i h'
      simp only [renum, List.getElem_cons_succ, this, List.take_succ_cons]
      congr 1
      unfold endsIn
      by_cases e : t.kind = 3 <;> simp [e]; omega
theorem len_le_wt (ts : List Tok) : ts.length ≤ wt ts := by
  induction ts with
  | nil => simp
  | cons t ts ih => simp [wt]; omega

/-- A string's bytes in a row of their own. -/
theorem conv_bytes (w : World) (S : ByteArray) (J : List UInt8) (hS : S = ⟨J.toArray⟩) (hJ : J.length ≤ 9000) :
    ∃ cap w6, (convert 9 22 (.string S)).run Try.prog w = .ok (.slice (some ⟨w.heap.size, 0, none⟩) J.length cap) w6 ∧ Bytes w6 (some ⟨w.heap.size, 0, none⟩) J ∧ J.length ≤ cap ∧ cap ≤ maxLen ∧ Below w.heap.size w w6 := by
  have hsz : S.size = J.length := by rw [hS]; exact ba_size rfl
  have hr := run_bytes_of_string (P := Try.prog) w 9 22 5 S Try.underlying9 Try.underlying22 Try.underlying5
  rw [hsz] at hr
  refine ⟨_, _, hr, fun i hi => ⟨_, _, rfl, ?_⟩, grownCap_ge _ _ _ _, grownCap_le_maxLen _ _ _ _ (by unfold maxLen; omega), ((Below.refl _ w).drew).alloc (Nat.le_refl _) _⟩
  have hi' : i < S.data.size := by rw [hS]; simpa using hi
  rw [Nat.zero_add]
  have hc := World.cell?_alloc_mark w.drew (bytesRow S (grownCap w J.length 0 5)) 5 ((bytesRow S (grownCap w J.length 0 5)).size, (bytesRow S (grownCap w J.length 0 5)).size + 1) i
  have hh : w.drew.heap.size = w.heap.size := rfl
  rw [hh] at hc
  rw [hc, bytesRow_at S _ i hi']
  subst hS
  simp

set_option maxRecDepth 1000000 in
set_option maxHeartbeats 4000000 in
theorem lexAgain_walk (a0 : Option Addr) (b0 : List UInt8) (cap0 : Nat) (w : World)
    (hl0 : b0.length ≤ cap0) (hm0 : cap0 ≤ maxLen) (hb0 : Bytes w a0 b0) :
    Calls Try.prog 4 #[.slice a0 b0.length cap0] w fun e w' => e = .returned (.bool true) ∧ Below w.heap.size w w' := by
  have hmin : ∀ ts t W, (Builtin.min_ ts t #[.int .i64 (b0.length : Int), .int .i64 3000]).run Try.prog W = .ok (.int .i64 ((min 3000 b0.length : Nat) : Int)) W := min_is b0.length 3000
  obtain ⟨bs, hbs⟩ : ∃ bs, bs = b0.take 3000 := ⟨_, rfl⟩
  have hlen : bs.length = min 3000 b0.length := by rw [hbs]; simp
  have hbb : Bytes w a0 bs := by rw [hbs]; exact hb0.take 3000
  have hlc : bs.length ≤ cap0 := by omega
  have hle : bs.length ≤ 3000 := by omega
  rw [← hlen] at hmin
  have k1 : ∀ W, Below w.heap.size w W → Calls Try.prog 11 #[.slice a0 bs.length cap0] W fun e w' => ∃ v', e = .returned (.tuple #[v', .int .i64 (lexF bs).2.1, .int .i64 (lexF bs).2.2]) ∧ Own w' W.heap.size v' (lexF bs).1 ∧ Below W.heap.size W w' := fun W hW => lex_any a0 cap0 bs W hlc hm0 (hbb.below hW)
  unfold maxLen at hm0
  obtain ⟨L1, hL1⟩ : ∃ L, lexF bs = L := ⟨_, rfl⟩
  obtain ⟨ts, n1, e1⟩ := L1
  rw [hL1] at k1
  simp only at k1
  have HL1 : Hid (lexF bs = (ts, n1, e1)) := hL1
  by_cases he : e1 = 0
  · subst he
    have hn1 : n1 = 0 := by have := lex_ok (bs := bs) (by rw [hL1]); rw [hL1] at this; exact this
    subst hn1
    obtain ⟨hjl, hjx⟩ := lex_joined hL1 hle
    have hts : ts.length ≤ 9000 := by
      have h1 := len_le_wt ts
      have h2 := joined_len ts (lex_good hL1).1
      omega
    obtain ⟨S, hS⟩ : ∃ S : ByteArray, S = ⟨(joined ts).toArray⟩ := ⟨_, rfl⟩
    have k2 : ∀ (W : World) (v : Value) (base : Nat), Own W base v ts → Calls Try.prog 14 #[v] W fun e w' => e = .returned (.string S) ∧ w' = W := fun W v base ho => by rw [hS]; exact joined_any ts v base W ho hjl
    have hcb := fun W => conv_bytes W S (joined ts) hS hjl
    have k3 : ∀ (W : World) (a : Option Addr) (cap : Nat), Bytes W a (joined ts) → (joined ts).length ≤ cap → cap ≤ maxLen → Calls Try.prog 11 #[.slice a (joined ts).length cap] W fun e w' => ∃ v', e = .returned (.tuple #[v', .int .i64 0, .int .i64 0]) ∧ Own w' W.heap.size v' (renum 1 ts) ∧ Below W.heap.size W w' := fun W a cap hb h1 h2 => by
      have := lex_any a cap (joined ts) W h1 h2 hb
      rw [hjx] at this
      exact this
    generalize hJ : joined ts = J at *
    clear hlen hbs hb0 hS hjx hbb hL1 hJ
    go_enter Try.func4, Try.ntmps4
    go_wp2_with (first | (go_at_call 10; refine (shown_any _).mono ?_; rintro e w1 ⟨rfl, hb1⟩) | (go_at_call 11; refine (k1 _ hb1).mono ?_; rintro e w2 ⟨v, rfl, ho, hb2⟩; refine Hid.out ?_))
    obtain ⟨cap6, w6, hcv, hby, hc1, hc2, hb6⟩ := hcb w2
    have k2' := k2 w2 v _ ho
    have k3' := k3 w6 _ cap6 hby hc1 hc2
    have HO : Hid (Own w6 0 v ts) := Own.low (ownsRow_later ho hb6)
    have HB6 : Hid (Below w.heap.size w w6) := (hb1.trans (hb2.mono hb1.size)).trans (hb6.mono (by have := hb1.size; have := hb2.size; omega))
    obtain ⟨av, cv, rfl, hv1, hv2⟩ := own_slice ho
    unfold maxLen at hv2
    clear ho hb1 hb2 hb6 hby k1 k2 k3 hcb hmin
    refine hide_it ?_
    go_wp2_with (first | (go_at_call 14; refine k2'.mono ?_; rintro e w3 ⟨rfl, rfl⟩) | (go_at_call 11; refine k3'.mono ?_; rintro e w7 ⟨v7, rfl, ho7, hb7⟩; refine Hid.out ?_))
    have HO7 : Hid (Own w7 0 v7 (renum 1 ts)) := Own.low ho7
    have HV7 : Hid (Own w7 0 (.slice av ts.length cv) ts) := ownsRow_later HO.out hb7
    have HB7 : Hid (Below w.heap.size w w7) := HB6.out.trans (hb7.mono HB6.out.size)
    obtain ⟨a7, c7, hv7, _, hc7⟩ := own_slice ho7
    rw [renum_len] at hv7
    subst hv7
    clear ho7 hb7 k2' k3'
    refine hide_it ?_
    go_wp2
    go_loopw [10, 11] (fun lv iv wx => ∃ i l : Nat, i ≤ ts.length ∧ l ≤ i + 1 ∧ iv = .int .i64 i ∧ lv = .int .i64 l ∧ l = 1 + endsIn (ts.take i) ∧ Own wx 0 (.slice a7 ts.length c7) (renum 1 ts) ∧ Own wx 0 (.slice av ts.length cv) ts ∧ Below w.heap.size w wx) (fun _ iv _ => ts.length - (intOf iv).toNat)
    case atStart => exact ⟨0, 1, Nat.zero_le _, by omega, rfl, rfl, rfl, HO7.out, HV7.out, HB7.out⟩
    case round =>
      obtain ⟨i, l, hin, hli, rfl, rfl, hl, h7, h1, hbw⟩ := hrel
      have HLE : Hid (l = 1 + endsIn (ts.take i)) := hl
      have H7 : Hid (Own wr 0 (.slice a7 ts.length c7) (renum 1 ts)) := h7
      have H1 : Hid (Own wr 0 (.slice av ts.length cv) ts) := h1
      clear hl
      by_cases hit : i < ts.length
      · have hir : i < (renum 1 ts).length := by rw [renum_len]; exact hit
        rw [← renum_len ts 1] at h7
        obtain ⟨g7, x7, e7, _, _⟩ := h7.form (by omega)
        obtain ⟨g1, x1, e1, _, _⟩ := h1.form (by omega)
        cases e7
        cases e1
        obtain ⟨p0, p1, p2⟩ := Own.cellsAt h7 i hir
        obtain ⟨q0, q1, q2⟩ := Own.cellsAt h1 i hit
        rw [renum_at ts 1 i hit] at p0 p1 p2
        simp only at p0 p1 p2
        rw [← HLE.out] at p2
        clear h7 h1 hir
        by_cases h3 : ts[i].kind = 3
        · have d : (((ts[i].kind : Nat) : Int) == 3) = true := by rw [h3]; rfl
          have H3 : Hid (ts[i].kind = 3) := h3
          clear h3
          go_wp2_with fail
          go_region
          go_wp2
          go_roundw
          case rel => exact ⟨i + 1, l + 1, by omega, by omega, by go_num, by go_num, by rw [endsIn_snoc hit, if_pos H3.out, HLE.out]; omega, H7.out, H1.out, hbw.drew⟩
          case measure => simp [intOf]; omega
        · have d : (((ts[i].kind : Nat) : Int) == 3) = false := beq_eq_false_iff_ne.2 (by omega)
          have H3 : Hid (ts[i].kind ≠ 3) := h3
          clear h3
          go_wp2_with fail
          go_region
          go_wp2
          go_roundw
          case rel => exact ⟨i + 1, l, by omega, by omega, by go_num, rfl, by rw [endsIn_snoc hit, if_neg H3.out, HLE.out]; omega, H7.out, H1.out, hbw.drew⟩
          case measure => simp [intOf]; omega
      · go_wp2
        go_ret
        exact ⟨rfl, hbw⟩
  · obtain ⟨rfl, rfl, hn1, hn2⟩ : e1 = 2 ∧ ts = [] ∧ 1 ≤ n1 ∧ n1 ≤ bs.length + 1 := by have := lex_bad (bs := bs) (by omega) (by rw [hL1]; exact he); rw [hL1] at this; exact this
    clear hlen hbs hb0 hbb hL1
    go_enter Try.func4, Try.ntmps4
    go_wp2_with (first | (go_at_call 10; refine (shown_any _).mono ?_; rintro e w1 ⟨rfl, hb1⟩) | (go_at_call 11; refine (k1 _ hb1).mono ?_; rintro e w2 ⟨v, rfl, ho, hb2⟩; obtain ⟨av, cv, rfl, hv1, hv2⟩ := own_slice ho))
    go_ret
    exact ⟨rfl, hb1.trans (hb2.mono hb1.size)⟩

end Go.Proofs.Ytlbiiffjodllnaa
