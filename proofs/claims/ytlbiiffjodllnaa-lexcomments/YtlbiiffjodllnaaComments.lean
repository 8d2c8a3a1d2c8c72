/- LexComments: from a hash on a line says nothing. -/
import Derived.Test.YtlbiiffjodllnaaRowsC
import Derived.Laws.BitsLemmas
namespace Go.Proofs.Ytlbiiffjodllnaa
open Go.RowKit
open M
set_option linter.unusedVariables false

theorem i64_and16c (n : Int) : 0 ≤ bits .and .i64 n 65535 ∧ bits .and .i64 n 65535 ≤ 65535 := by
  have h : (BitVec.ofInt 64 65535).toNat = 2 ^ 16 - 1 := by decide
  have key : (BitVec.ofInt 64 n &&& BitVec.ofInt 64 65535).toNat = (n % ((2 ^ 64 : Nat) : Int)).toNat % 2 ^ 16 := by
    rw [BitVec.toNat_and, BitVec.toNat_ofInt, h, Nat.and_two_pow_sub_one_eq_mod]
  have e : bits .and .i64 n 65535 = n % 65536 := by
    show IntKind.i64.wrap ((BitVec.ofInt 64 n &&& BitVec.ofInt 64 65535).toNat : Nat) = n % 65536
    rw [key, IntKind.wrap_i64]
    omega
  rw [e]
  omega
theorem ne10 {c : UInt8} (h : c ≠ 10) : ((c.toNat : Nat) : Int) ≠ 10 := fun e => by
  have h' : c.toNat = 10 := by omega
  exact h (UInt8.toNat_inj.1 h')
theorem lines_le (bs : List UInt8) (k : Nat) : lines (bs.take k) ≤ k := by
  have : lines (bs.take k) ≤ (bs.take k).length := List.count_le_length
  simp at this
  omega

set_option maxRecDepth 1000000 in
set_option maxHeartbeats 4000000 in
theorem lexComments_walk (a0 : Option Addr) (b0 : List UInt8) (cap0 : Nat) (a1 : Option Addr) (b1 : List UInt8) (cap1 : Nat) (x : Int) (w : World)
    (hl0 : b0.length ≤ cap0) (hm0 : cap0 ≤ maxLen) (hb0 : Bytes w a0 b0) (hl1 : b1.length ≤ cap1) (hm1 : cap1 ≤ maxLen) (hb1' : Bytes w a1 b1) (hx0 : -9223372036854775808 ≤ x) (hx1 : x ≤ 9223372036854775807) :
    Calls Try.prog 7 #[.slice a0 b0.length cap0, .slice a1 b1.length cap1, .int .i64 x] w fun e w' => e = .returned (.bool true) ∧ Below w.heap.size w w' := by
  have hmin : ∀ ts t W, (Builtin.min_ ts t #[.int .i64 (b0.length : Int), .int .i64 1000]).run Try.prog W = .ok (.int .i64 ((min 1000 b0.length : Nat) : Int)) W := min_is b0.length 1000
  have hmin1 : ∀ ts t W, (Builtin.min_ ts t #[.int .i64 (b1.length : Int), .int .i64 100]).run Try.prog W = .ok (.int .i64 ((min 100 b1.length : Nat) : Int)) W := min_is b1.length 100
  obtain ⟨bs, hbs⟩ : ∃ bs, bs = b0.take 1000 := ⟨_, rfl⟩
  obtain ⟨ms, hms⟩ : ∃ ms, ms = b1.take 100 := ⟨_, rfl⟩
  have hlen : bs.length = min 1000 b0.length := by rw [hbs]; simp
  have hlen1 : ms.length = min 100 b1.length := by rw [hms]; simp
  have hbb : Bytes w a0 bs := by rw [hbs]; exact hb0.take 1000
  have hbm : Bytes w a1 ms := by rw [hms]; exact hb1'.take 100
  have hlc : bs.length ≤ cap0 := by omega
  have hle : bs.length ≤ 1000 := by omega
  have hlc1 : ms.length ≤ cap1 := by omega
  have hle1 : ms.length ≤ 100 := by omega
  rw [← hlen] at hmin
  rw [← hlen1] at hmin1
  have kx : ∀ W, Below w.heap.size w W → Calls Try.prog 11 #[.slice a0 bs.length cap0] W fun e w' => ∃ v', e = .returned (.tuple #[v', .int .i64 (lexF bs).2.1, .int .i64 (lexF bs).2.2]) ∧ Own w' W.heap.size v' (lexF bs).1 ∧ Below W.heap.size W w' := fun W hW => lex_any a0 cap0 bs W hlc hm0 (hbb.below hW)
  unfold maxLen at hm0 hm1
  obtain ⟨i0, hi, hz0, hz1, hz2⟩ := info_parts Try.info5b
  generalize hL : lexF bs = L at *
  obtain ⟨ts, n1, e1⟩ := L
  simp only at kx
  have HL : Hid (lexF bs = (ts, n1, e1)) := hL
  clear hL hlen hbs hb0 hlen1 hms hb1'
  by_cases he : e1 = 0
  · subst he
    have hcs := conv_mark
    obtain ⟨hA0, hA1⟩ := i64_and16c x
    go_enter Try.func7, Try.ntmps7
    go_wp2_with (first | (go_at_call 10; refine (shown_any _).mono ?_; rintro e w1 ⟨rfl, hb1⟩) | (go_at_call 11; refine (kx _ hb1).mono ?_; rintro e w2 ⟨v, rfl, ho, hb2⟩))
    have hW2 : Below w.heap.size w w2 := hb1.trans (hb2.mono hb1.size)
    have hsz := hW2.size
    have HBB : Hid (Bytes w2 a0 bs) := hbb.below hW2
    have HBM : Hid (Bytes w2 a1 ms) := hbm.below hW2
    have HO : Hid (Own w2 w1.heap.size v ts) := ho
    have HW : Hid (Below w.heap.size w w2) := hW2
    have hS0 : SaidIs (w2.alloc (.cells #[.int .u8 35] 5 (1, 2))) w2.heap.size (.slice (some ⟨w2.heap.size, 0, none⟩) 1 1) [35] := .inr ⟨_, 35, rfl, rfl, Nat.le_refl _, by have := World.news_of_block (heap_alloc_new w2 (.cells #[.int .u8 35] 5 (1, 2))) 0 _ rfl; rw [Addr.add_lit] at this; exact this⟩
    have hB0 : Below w2.heap.size w2 (w2.alloc (.cells #[.int .u8 35] 5 (1, 2))) := (Below.refl _ _).alloc (Nat.le_refl _) _
    clear hbb hbm ho hb1 hb2 kx hW2 hmin hmin1 hcs
    go_loopw [11, 12] (fun vs iv wr => ∃ (k : Nat) (cs : List UInt8), k ≤ ms.length ∧ iv = .int .i64 k ∧ SaidIs wr w2.heap.size vs (35 :: cs) ∧ cs.length ≤ k ∧ (∀ c ∈ cs, cls c ≠ 5) ∧ Below w2.heap.size w2 wr) (fun _ iv _ => ms.length - (intOf iv).toNat)
    case atStart => exact ⟨0, [], Nat.zero_le _, rfl, hS0, Nat.zero_le _, fun c hc => by simp at hc, hB0⟩
    case round =>
      obtain ⟨k, cs, hk, rfl, hsaid, hcl, hno, hbel⟩ := hrel
      clear hS0 hB0
      have HS : Hid (SaidIs wr w2.heap.size _ (35 :: cs)) := hsaid
      have HN : Hid (∀ c ∈ cs, cls c ≠ 5) := hno
      have HE : Hid (Below w2.heap.size w2 wr) := hbel
      have hsr := hbel.size
      clear hsaid hno hbel
      by_cases hlt : k < ms.length
      · obtain ⟨b, of, rfl, hcw⟩ := HBM.out k hlt
        have hblt := World.block_lt_of_cell? w2 _ hcw
        have hc : wr.cell? ⟨b, of + k, none⟩ = some (.int .u8 ((ms[k].toNat : Nat) : Int)) := (HE.out.cell (p := ⟨b, of + k, none⟩) hblt).trans hcw
        clear hcw
        by_cases hten : ms[k] = 10
        · have d : (((ms[k].toNat : Nat) : Int) != 10) = false := by rw [hten]; rfl
          clear hten
          go_wp2
          go_roundw
          case rel => exact ⟨k + 1, cs, by omega, by go_num, HS.out, by omega, HN.out, HE.out⟩
          case measure => simp [intOf]; omega
        · have d : (((ms[k].toNat : Nat) : Int) != 10) = true := bne_iff_ne.2 (ne10 hten)
          have H10 : Hid (ms[k] ≠ 10) := hten
          clear hten
          go_wp2_with (at_builtin; refine wpList_append_said _ rfl (.tmp 56) (.tmp 61) rfl w2.heap.size _ (35 :: cs) rfl HS.out ms[k] (by omega) rfl (by simp; omega) ?_; intro v3 w3 hs3 hb3)
          go_roundw
          case rel => exact ⟨k + 1, cs ++ [ms[k]], by omega, by go_num, hs3, by simp; omega, fun c hc => by rcases List.mem_append.1 hc with h | h; exact HN.out c h; rw [List.mem_singleton.1 h]; exact fun e => H10.out ((cls10 _).1 e), HE.out.trans hb3⟩
          case measure => simp [intOf]; omega
      · obtain rfl : k = ms.length := by omega
        obtain ⟨w5, rfl⟩ : ∃ W : World, W = wr := ⟨_, rfl⟩
        obtain ⟨sb, scap, rfl, hsb'⟩ := HS.out.bytes (by simp)
        have hsb : Hid (Bytes w5 (some ⟨sb, 0, none⟩) (35 :: cs)) := hsb'
        clear hsb' HS
        go_wp2
        go_loop [13, 14] (fun lv iv => ∃ k l : Nat, k ≤ bs.length ∧ l ≤ k ∧ iv = .int .i64 k ∧ lv = .int .i64 ((l : Int) + 1) ∧ l = lines (bs.take k)) (fun _ iv => bs.length - (intOf iv).toNat)
        case atStart => exact ⟨0, 0, Nat.zero_le _, Nat.le_refl _, rfl, rfl, rfl⟩
        case round =>
          obtain ⟨k, l, hk, hlk, rfl, rfl, hlines⟩ := hrel
          have HLI : Hid (l = lines (bs.take k)) := hlines
          clear hlines
          by_cases hlt : k < bs.length
          · obtain ⟨b, of, rfl, hcw⟩ := HBB.out k hlt
            have hc : w5.cell? ⟨b, of + k, none⟩ = some (.int .u8 ((bs[k].toNat : Nat) : Int)) := (HE.out.cell (p := ⟨b, of + k, none⟩) (World.block_lt_of_cell? w2 _ hcw)).trans hcw
            have HT : Hid (lines (bs.take (k + 1)) = lines (bs.take k) + if bs[k] = 10 then 1 else 0) := by rw [take_snoc hlt, lines_snoc]; exact hide_it rfl
            clear hcw
            by_cases hten : bs[k] = 10
            · have d : (((bs[k].toNat : Nat) : Int) == 10) = true := by rw [hten]; rfl
              have H10 : Hid (bs[k] = 10) := hten
              clear hten
              go_wp2
              go_round
              case rel => exact ⟨k + 1, l + 1, by omega, by omega, by go_num, by go_num, by rw [HT.out, if_pos H10.out, ← HLI.out]⟩
              case measure => simp [intOf]; omega
            · have d : (((bs[k].toNat : Nat) : Int) == 10) = false := beq_eq_false_iff_ne.2 (ne10 hten)
              have H10 : Hid (bs[k] ≠ 10) := hten
              clear hten
              go_wp2
              go_round
              case rel => exact ⟨k + 1, l, by omega, by omega, by go_num, rfl, by rw [HT.out, if_neg H10.out, ← HLI.out]; rfl⟩
              case measure => simp [intOf]; omega
          · obtain rfl : k = bs.length := by omega
            have HLL : Hid (l = lines bs) := by have := HLI.out; rw [List.take_length] at this; exact this
            clear HLI
            obtain ⟨T, hT⟩ : ∃ T : Nat, bits .and .i64 x 65535 % ((l : Int) + 1) = (T : Int) := ⟨(bits .and .i64 x 65535 % ((l : Int) + 1)).toNat, by have := Int.emod_nonneg (bits .and .i64 x 65535) (b := (l : Int) + 1) (by omega); omega⟩
            have hTl : T ≤ l := by have := Int.emod_lt_of_pos (bits .and .i64 x 65535) (b := (l : Int) + 1) (by omega); omega
            have h5 := HE.out.size
            go_wp2
            go_loopw [15, 16, 17] (fun lv vo iv wr => ∃ (i q : Nat) (out : List UInt8), iv = .int .i64 i ∧ lv = .int .i64 q ∧ OwnB wr w5.heap.size vo out ∧ Ins bs (35 :: cs) T i q out ∧ Below w5.heap.size w5 wr) (fun _ _ iv _ => bs.length + 1 - (intOf iv).toNat)
            case atStart => exact ⟨0, 0, [], rfl, rfl, ownB_new w5 _ (Nat.le_refl _), ins_start, (Below.refl _ _).alloc (Nat.le_refl _) _⟩
            case round =>
              obtain ⟨i, q, out, rfl, rfl, hown, hins, hbel⟩ := hrel
              obtain ⟨hol, hq, hil⟩ := ins_len hins
              simp only [List.length_cons] at hol
              have HI : Hid (Ins bs (35 :: cs) T i q out) := hins
              have HOB : Hid (OwnB wr w5.heap.size _ out) := hown
              have HE3 : Hid (Below w5.heap.size w5 wr) := hbel
              have hsr3 := hbel.size
              clear hins hown hbel
              by_cases hle' : i ≤ bs.length
              · by_cases hlt : i < bs.length
                · obtain ⟨b, of, rfl, hcw⟩ := HBB.out i hlt
                  have hblt := World.block_lt_of_cell? w2 _ hcw
                  have HC5 : Hid (w5.cell? ⟨b, of + i, none⟩ = some (.int .u8 ((bs[i].toNat : Nat) : Int))) := (HE.out.cell (p := ⟨b, of + i, none⟩) hblt).trans hcw
                  have hb5 := World.block_lt_of_cell? w5 _ HC5.out
                  have hc : wr.cell? ⟨b, of + i, none⟩ = some (.int .u8 ((bs[i].toNat : Nat) : Int)) := (HE3.out.cell (p := ⟨b, of + i, none⟩) hb5).trans HC5.out
                  have dne : ((i : Int) == (bs.length : Int)) = false := beq_eq_false_iff_ne.2 (by omega)
                  clear hcw
                  by_cases hten : bs[i] = 10
                  · have d : (((bs[i].toNat : Nat) : Int) == 10) = true := by rw [hten]; rfl
                    have H10 : Hid (bs[i] = 10) := hten
                    clear hten
                    by_cases hat : q = T
                    · have dat : ((q : Int) == (T : Int)) = true := beq_iff_eq.2 (by omega)
                      go_wp2_with (first | (at_builtin; refine wpList_append_src _ rfl (.tmp 104) (.tmp 105) rfl w5.heap.size _ out rfl HOB.out _ _ _ (35 :: cs) rfl (by simp) (hsb.out.below HE3.out) (fun e => by cases e) (by simp; omega) (by omega) ?_; intro v3 w3 hown3 hgrow3; have hbel3 : Below w5.heap.size w5 w3 := below_app2 HE3.out (Nat.le_refl _) HOB.out hgrow3; have hs3 := hbel3.size; have hc3 : w3.cell? ⟨b, of + i, none⟩ = some (.int .u8 ((bs[i].toNat : Nat) : Int)) := (hbel3.cell (p := ⟨b, of + i, none⟩) hb5).trans HC5.out) | (at_builtin; refine wpList_append_own _ rfl (.tmp 114) (.tmp 119) 22 rfl w5.heap.size 5 i0 _ 1 1 Try.underlying22 hi hz0 hz1 hz2 rfl (by decide) _ (out ++ (35 :: cs)).length (bcells (out ++ (35 :: cs))) rfl (hown3.alloc _) ⟨w3.heap.size, 0, none⟩ 1 1 (bcells [bs[i]]) rfl rfl (World.news_of_block (heap_alloc_new w3 _)) (bcells_one _) (by unfold maxLen; simp; omega) (by simp; omega) (by simp; omega) ?_; intro v4 w4 hown4 hgrow4 hjunk; clear hjunk; have hbel4 : Below w5.heap.size w5 w4 := (hbel3.alloc hs3 _).grown hgrow4 (by simp; omega) (fun q hq => (hown3.lt q hq).1)))
                      go_roundw
                      case rel => exact ⟨i + 1, q + 1, _, by go_num, by go_num, ownB_app hown4, ins_nl_at HI.out hlt H10.out hat, hbel4⟩
                      case measure => simp [intOf]; omega
                    · have dat : ((q : Int) == (T : Int)) = false := beq_eq_false_iff_ne.2 (by omega)
                      go_wp2_with (at_builtin; refine wpList_append_own _ rfl (.tmp 114) (.tmp 119) 22 rfl w5.heap.size 5 i0 _ 1 1 Try.underlying22 hi hz0 hz1 hz2 rfl (by decide) _ out.length (bcells out) rfl (HOB.out.alloc _) ⟨wr.heap.size, 0, none⟩ 1 1 (bcells [bs[i]]) rfl rfl (World.news_of_block (heap_alloc_new wr _)) (bcells_one _) (by unfold maxLen; omega) (by omega) (by simp; omega) ?_; intro v4 w4 hown4 hgrow4 hjunk; clear hjunk; have hbel4 : Below w5.heap.size w5 w4 := (HE3.out.alloc hsr3 _).grown hgrow4 (by simp; omega) (fun q hq => (HOB.out.lt q hq).1))
                      go_roundw
                      case rel => exact ⟨i + 1, q + 1, _, by go_num, by go_num, ownB_app hown4, ins_nl_other HI.out hlt H10.out hat, hbel4⟩
                      case measure => simp [intOf]; omega
                  · have d : (((bs[i].toNat : Nat) : Int) == 10) = false := beq_eq_false_iff_ne.2 (ne10 hten)
                    have H10 : Hid (bs[i] ≠ 10) := hten
                    clear hten
                    go_wp2_with (at_builtin; refine wpList_append_own _ rfl (.tmp 114) (.tmp 119) 22 rfl w5.heap.size 5 i0 _ 1 1 Try.underlying22 hi hz0 hz1 hz2 rfl (by decide) _ out.length (bcells out) rfl (HOB.out.alloc _) ⟨wr.heap.size, 0, none⟩ 1 1 (bcells [bs[i]]) rfl rfl (World.news_of_block (heap_alloc_new wr _)) (bcells_one _) (by unfold maxLen; omega) (by omega) (by simp; omega) ?_; intro v4 w4 hown4 hgrow4 hjunk; clear hjunk; have hbel4 : Below w5.heap.size w5 w4 := (HE3.out.alloc hsr3 _).grown hgrow4 (by simp; omega) (fun q hq => (HOB.out.lt q hq).1))
                    go_roundw
                    case rel => exact ⟨i + 1, q, _, by go_num, rfl, ownB_app hown4, ins_plain HI.out hlt H10.out, hbel4⟩
                    case measure => simp [intOf]; omega
                · have hib : i = bs.length := by omega
                  have dne : ((i : Int) == (bs.length : Int)) = true := beq_iff_eq.2 (by omega)
                  have HIB : Hid (i = bs.length) := hib
                  clear hib
                  by_cases hat : q = T
                  · have dat : ((q : Int) == (T : Int)) = true := beq_iff_eq.2 (by omega)
                    go_wp2_with (at_builtin; refine wpList_append_src _ rfl (.tmp 104) (.tmp 105) rfl w5.heap.size _ out rfl HOB.out _ _ _ (35 :: cs) rfl (by simp) (hsb.out.below HE3.out) (fun e => by cases e) (by simp; omega) (by omega) ?_; intro v3 w3 hown3 hgrow3; have hbel3 : Below w5.heap.size w5 w3 := below_app2 HE3.out (Nat.le_refl _) HOB.out hgrow3; have hs3 := hbel3.size)
                    go_roundw
                    case rel => exact ⟨i + 1, q + 1, _, by go_num, by go_num, hown3, ins_end_at HI.out HIB.out hat, hbel3⟩
                    case measure => simp [intOf]; omega
                  · have dat : ((q : Int) == (T : Int)) = false := beq_eq_false_iff_ne.2 (by omega)
                    go_wp2
                    go_roundw
                    case rel => exact ⟨i + 1, q + 1, _, by go_num, by go_num, HOB.out, ins_end_other HI.out HIB.out hat (by rw [← HLL.out]; exact hTl), HE3.out⟩
                    case measure => simp [intOf]; omega
              · obtain rfl : i = bs.length + 1 := by omega
                have kl := lex_own HOB.out
                have HTT : lexF out = (ts, n1, 0) := by
                  rw [← HL.out]
                  exact ins_lex HI.out HN.out (by omega) (by rw [HL.out])
                rw [HTT] at kl
                have kl' : Calls Try.prog 11 #[_] wr fun e w' => ∃ v', e = .returned (.tuple #[v', .int .i64 n1, .int .i64 0]) ∧ Own w' wr.heap.size v' ts ∧ Below wr.heap.size wr w' := kl
                clear HTT kl
                obtain ⟨av, cv, rfl, hv1, hv2⟩ := own_slice HO.out
                unfold maxLen at hv2
                go_wp2_with (go_at_call 11; refine kl'.mono ?_; rintro e w4 ⟨v4, rfl, ho4, hb4⟩; obtain ⟨a4, c4, rfl, hv3, hv4⟩ := own_slice ho4)
                have HO4 : Hid (Own w4 0 (.slice a4 ts.length c4) ts) := Own.low ho4
                have HV : Hid (Own w4 0 (.slice av ts.length cv) ts) := Own.low (ownsRow_later (ownsRow_later (ownsRow_later HO.out HE.out) HE3.out) hb4)
                have HW4 : Hid (Below w.heap.size w w4) := HW.out.trans ((HE.out.mono hsz).trans ((HE3.out.mono (by omega)).trans (hb4.mono (by omega))))
                clear ho4 hb4 kl'
                unfold maxLen at hv4
                go_loopw [22] (fun iv wx => ∃ i : Nat, i ≤ ts.length ∧ iv = .int .i64 i ∧ Own wx 0 (.slice a4 ts.length c4) ts ∧ Own wx 0 (.slice av ts.length cv) ts ∧ Below w.heap.size w wx) (fun iv _ => ts.length - (intOf iv).toNat)
                case atStart => exact ⟨0, Nat.zero_le _, rfl, HO4.out, HV.out, HW4.out⟩
                case round =>
                  obtain ⟨i, hin, rfl, h4, h1, hbw⟩ := hrel
                  by_cases hit : i < ts.length
                  · obtain ⟨g4, x4, e4, _, _⟩ := h4.form (by omega)
                    obtain ⟨g1, x1, e1, _, _⟩ := h1.form (by omega)
                    cases e4
                    cases e1
                    obtain ⟨p0, p1, p2⟩ := Own.cellsAt h4 i hit
                    obtain ⟨q0, q1, q2⟩ := Own.cellsAt h1 i hit
                    have H4 : Hid (Own wr 0 (.slice (some ⟨g4, 0, none⟩) ts.length c4) ts) := h4
                    have H1 : Hid (Own wr 0 (.slice (some ⟨g1, 0, none⟩) ts.length cv) ts) := h1
                    clear h4 h1
                    go_wp2_with fail
                    go_region
                    go_wp2
                    go_roundw
                    case rel => exact ⟨i + 1, by omega, by go_num, H4.out, H1.out, hbw.drew⟩
                    case measure => simp [intOf]; omega
                  · go_wp2
                    go_ret
                    exact ⟨rfl, hbw⟩
  · have hne : ((e1 : Int) != 0) = true := bne_iff_ne.2 (by omega)
    go_enter Try.func7, Try.ntmps7
    go_wp2_with (first | (go_at_call 10; refine (shown_any _).mono ?_; rintro e w1 ⟨rfl, hb1⟩) | (go_at_call 11; refine (kx _ hb1).mono ?_; rintro e w2 ⟨v, rfl, ho, hb2⟩))
    go_ret
    exact ⟨rfl, hb1.trans (hb2.mono hb1.size)⟩

end Go.Proofs.Ytlbiiffjodllnaa
