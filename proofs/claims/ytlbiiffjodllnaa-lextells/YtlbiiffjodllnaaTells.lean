/- LexTells: bytes are the tokens that the document says; what was handed in stays, and may be written over. -/
import Derived.Test.YtlbiiffjodllnaaRefC
import Derived.Test.YtlbiiffjodllnaaRowsC
import Derived.Laws.BytesArg
namespace Go.Proofs.Ytlbiiffjodllnaa
open Go.RowKit
open M
set_option linter.unusedVariables false

/-- Bytes as a string. -/
theorem conv_str {w : World} {a : Option Addr} {bs : List UInt8} (h : Bytes w a bs) (cap : Nat) : (convert 22 9 (.slice a bs.length cap)).run Try.prog w = .ok (.string ⟨bs.toArray⟩) w := by
  cases a with
  | none =>
    have hb : bs = [] := by
      cases bs with
      | nil => rfl
      | cons c r => obtain ⟨_, _, h, _⟩ := h 0 (by simp); cases h
    subst hb
    rw [run_convert_bytes_string w 22 9 5 none _ _ Try.underlying22 Try.underlying5 Try.underlying9]
    simp [Conv.bytesToString]
    rfl
  | some x =>
    refine run_convert_bytes_back (P := Try.prog) w 22 9 5 x cap bs Try.underlying22 Try.underlying5 Try.underlying9 (fun j hj => ?_)
    obtain ⟨b, o, ha, hc⟩ := h j hj
    cases ha
    rw [Addr.add_lit]
    exact hc

set_option maxRecDepth 1000000 in
set_option maxHeartbeats 4000000 in
theorem lexTells_walk (a0 : Option Addr) (b0 : List UInt8) (cap0 : Nat) (w : World)
    (hl0 : b0.length ≤ cap0) (hm0 : cap0 ≤ maxLen) (hb0 : Bytes w a0 b0) (hn0 : a0 = none → cap0 = 0) :
    Calls Try.prog 3 #[.slice a0 b0.length cap0] w fun e w' => e = .returned (.bool true) ∧ Below w.heap.size w w' := by
  have hmin : ∀ ts t W, (Builtin.min_ ts t #[.int .i64 (b0.length : Int), .int .i64 3000]).run Try.prog W = .ok (.int .i64 ((min 3000 b0.length : Nat) : Int)) W := min_is b0.length 3000
  obtain ⟨bs, hbs⟩ : ∃ bs, bs = b0.take 3000 := ⟨_, rfl⟩
  have hlen : bs.length = min 3000 b0.length := by rw [hbs]; simp
  have hbb : Bytes w a0 bs := by rw [hbs]; exact hb0.take 3000
  have hlc : bs.length ≤ cap0 := by omega
  have hle : bs.length ≤ 3000 := by omega
  rw [← hlen] at hmin
  have HBB : Hid (Bytes w a0 bs) := hbb
  have HN0 : Hid (a0 = none → cap0 = 0) := hn0
  unfold maxLen at hm0
  obtain ⟨L1, hL1⟩ : ∃ L, lexF bs = L := ⟨_, rfl⟩
  obtain ⟨ts, n1, e1⟩ := L1
  have hFN : fin (run init bs) = (ts, n1, e1) := by rw [← hL1]; unfold lexF; rw [if_neg (by omega)]
  have HL1 : Hid (lexF bs = (ts, n1, e1)) := hL1
  obtain ⟨S, hS⟩ : ∃ S : ByteArray, S = ⟨bs.toArray⟩ := ⟨_, rfl⟩
  have hSl : S.data.toList = bs := by rw [hS]
  have kr : ∀ W, Calls Try.prog 12 #[.string S] W fun e w' => ∃ v, e = .returned (.tuple #[v, .int .i64 n1, .int .i64 e1]) ∧ OwnR w' W.heap.size v ts ∧ Below W.heap.size W w' := fun W => by
    have := refLex_any S bs hSl hle W
    rw [hFN] at this
    exact this
  have HSS : Hid (S = ⟨bs.toArray⟩) := hS
  clear hlen hbs hb0 hbb hn0 hL1 hFN hS hSl
  go_enter Try.func3, Try.ntmps3
  go_wp2_with (go_at_call 10; refine (shown_any _).mono ?_; rintro e w1 ⟨rfl, hb1⟩; refine Hid.out ?_)
  have HB1 : Hid (Below w.heap.size w w1) := hb1
  have hs1 := hb1.size
  have HBS1 : Hid (Bytes (w1.alloc (.cells #[] 5)) a0 bs) := HBB.out.below (hb1.alloc hs1 _)
  have HNW : Hid (OwnB (w1.alloc (.cells #[] 5)) w1.heap.size (.slice (some ⟨w1.heap.size, 0, none⟩) 0 0) []) := ownB_new w1 _ (Nat.le_refl _)
  have HBN : Hid (Below w1.heap.size w1 (w1.alloc (.cells #[] 5))) := (Below.refl _ _).alloc (Nat.le_refl _) _
  clear hb1
  refine hide_it ?_
  go_wp2_with (at_builtin; refine wpList_append_src _ rfl (.tmp 13) (.tmp 18) rfl w1.heap.size _ [] rfl HNW.out _ _ _ bs rfl rfl HBS1.out HN0.out (by first | omega | (simp; omega)) (by first | omega | simp) ?_; intro v2 w2 hown2 hgrow2; refine Hid.out ?_)
  simp only [List.nil_append] at hown2
  have hbel2 : Below w1.heap.size w1 w2 := below_app2 HBN.out (Nat.le_refl _) HNW.out hgrow2
  have hs2 := hbel2.size
  obtain ⟨av, cv, rfl, hv1, hv2, hby⟩ := hown2.bytes
  have hcv : (convert 22 9 (.slice av bs.length cv)).run Try.prog w2 = .ok (.string S) w2 := by rw [HSS.out]; exact conv_str hby cv
  have kx := lex_own hown2
  rw [HL1.out] at kx
  have kx' : Calls Try.prog 11 #[.slice av bs.length cv] w2 fun e w' => ∃ v', e = .returned (.tuple #[v', .int .i64 n1, .int .i64 e1]) ∧ Own w' w2.heap.size v' ts ∧ Below w2.heap.size w2 w' := kx
  have HOB : Hid (OwnB w2 w1.heap.size (.slice av bs.length cv) bs) := hown2
  have HBY : Hid (Bytes w2 av bs) := hby
  have HB2 : Hid (Below w.heap.size w w2) := HB1.out.trans (hbel2.mono hs1)
  clear hown2 hgrow2 hbel2 hby kx HNW HBN HBS1 hmin
  refine hide_it ?_
  go_wp2_with (go_at_call 11; refine kx'.mono ?_; rintro e w3 ⟨v3, rfl, ho3, hb3⟩; refine Hid.out ?_)
  have hcv3 : (convert 22 9 (.slice av bs.length cv)).run Try.prog w3 = .ok (.string S) w3 := by rw [HSS.out]; exact conv_str (HBY.out.below hb3) cv
  have HO3 : Hid (Own w3 w2.heap.size v3 ts) := ho3
  have HOB3 : Hid (OwnB w3 w1.heap.size (.slice av bs.length cv) bs) := ownsRow_later HOB.out hb3
  have HB3 : Hid (Below w.heap.size w w3) := HB2.out.trans (hb3.mono HB2.out.size)
  have HGL : Hid (∀ k, (Value.slice av bs.length cv).ownBlock = some k → k < w2.heap.size) := fun k hk => (HOB.out.lt k hk).2
  obtain ⟨a3, c3, rfl, h31, h32⟩ := own_slice ho3
  unfold maxLen at h32 hv2
  clear ho3 hb3 kx' hcv
  refine hide_it ?_
  go_wp2
  go_loopw [8] (fun iv wx => ∃ (i : Nat) (xs : List Value), i ≤ bs.length ∧ iv = .int .i64 i ∧ wx.ownsRow w1.heap.size 5 1 (.slice av bs.length cv) bs.length xs ∧ Own wx w2.heap.size (.slice a3 ts.length c3) ts ∧ Below w.heap.size w wx) (fun iv _ => bs.length - (intOf iv).toNat)
  case atStart => exact ⟨0, _, Nat.zero_le _, rfl, HOB3.out, HO3.out, HB3.out⟩
  case round =>
    obtain ⟨i, xs, hin, rfl, hx, ht, hbw⟩ := hrel
    by_cases hit : i < bs.length
    · obtain ⟨g, x, ex, hg1, hg2⟩ := hx.form (by omega)
      cases ex
      have hxl : i < xs.length := by have := hx.1; omega
      have hc : wr.cell? ⟨g, i, none⟩ = some xs[i] := by rw [hx.cellAt i (by omega), List.getElem?_eq_getElem hxl]
      have hf := hx.frozenAt i
      obtain ⟨s1, s2⟩ := hx.stored i (.int .u8 63)
      have hgl := HGL.out g rfl
      have HS1 : Hid ((wr.setCell ⟨g, i, none⟩ (.int .u8 63)).ownsRow w1.heap.size 5 1 (.slice (some ⟨g, 0, none⟩) bs.length cv) bs.length (xs.set i (.int .u8 63))) := s1
      have HT1 : Hid (Own (wr.setCell ⟨g, i, none⟩ (.int .u8 63)) w2.heap.size (.slice a3 ts.length c3) ts) := ht.kept s2 (by
        cases hob : (Value.slice a3 ts.length c3).ownBlock with
        | none => exact .inl rfl
        | some q => right; intro e; cases e; have := (ht.lt g hob).1; omega)
      have HW1 : Hid (Below w.heap.size w (wr.setCell ⟨g, i, none⟩ (.int .u8 63))) := hbw.setCell (by show w.heap.size ≤ g; omega) _
      generalize xs[i] = old at hc
      clear s1 s2 hx ht hbw
      go_wp2
      go_roundw
      case rel => exact ⟨i + 1, _, by omega, by go_num, HS1.out, HT1.out, HW1.out⟩
      case measure => simp [intOf]; omega
    · have HT : Hid (Own wr 0 (.slice a3 ts.length c3) ts) := Own.low ht
      have HW : Hid (Below w.heap.size w wr) := hbw
      have hsr := hbw.size
      clear hx ht hbw
      go_wp2_with (first | (go_at_call 12; refine (kr _).mono ?_; rintro e w5 ⟨v5, rfl, ho5, hb5⟩; have ks := same_any ts _ _ w5 (ownsRow_later HT.out hb5) (ho5.low (Nat.zero_le _))) | (go_at_call 13; refine ks.mono ?_; rintro e w6 ⟨rfl, hb6⟩))
      go_ret
      exact ⟨rfl, HW.out.trans ((hb5.mono hsr).trans (hb6.mono (by have := hb5.size; omega)))⟩

end Go.Proofs.Ytlbiiffjodllnaa
